/- Plain mathematics of giving a block back: only its two neighbours can be joined with it. No program, no conditions. -/
import Derived.Test.YtkejbggffbkdaaaFits3
namespace Go.Proofs.Ytkejbggffbkdaaa
namespace Bks

theorem norm_join2 (A B : List Bl) {y b : Bl} (h1 : y.u = false) (h2 : b.u = false) : norm (A ++ y :: b :: B) = norm (A ++ ⟨y.s, y.z + b.z, false⟩ :: B) := by
  unfold norm
  rw [List.foldl_append, List.foldl_append, List.foldl_cons, List.foldl_cons, List.foldl_cons, join_assoc _ h1 h2, h1]

/-- what lies before the given block: a free block that is joined, or nothing that is -/
def Lft (A A1 : List Bl) (x xf : Bl) : Prop := (A1 = A ∧ lastFree false A = false ∧ xf = x) ∨ (A = A1 ++ [xf] ∧ xf.u = false)
def Rgt (B B1 : List Bl) (x xl : Bl) : Prop := (B1 = B ∧ chain (x.s + x.z) true B ∧ xl = x) ∨ (B = xl :: B1 ∧ xl.u = false)

theorem give_mid {A A1 B B1 : List Bl} {x xf xl : Bl} (hc : chain 0 false (A ++ x :: B)) (hl : Lft A A1 x xf) (hr : Rgt B B1 x xl) :
    norm (A ++ freed x :: B) = A1 ++ ⟨xf.s, xl.s + xl.z - xf.s, false⟩ :: B1 := by
  rw [chain_append] at hc
  simp only [chain] at hc
  obtain ⟨c1, c2, c3, c4, c5⟩ := hc
  have left : ∀ C, norm (A ++ freed x :: C) = norm (A1 ++ ⟨xf.s, x.s + x.z - xf.s, false⟩ :: C) ∧ chain 0 false A1 ∧ lastFree false A1 = false ∧ xf.s = 0 + total A1 ∧ 1 ≤ x.s + x.z - xf.s := by
    intro C
    rcases hl with ⟨rfl, e1, rfl⟩ | ⟨rfl, e1⟩
    · refine ⟨?_, c1, e1, c2, by omega⟩
      rw [show xf.s + xf.z - xf.s = xf.z by omega]
      rfl
    · rw [chain_append] at c1
      simp only [chain] at c1
      obtain ⟨d1, d2, d3, d4, _⟩ := c1
      rw [total_append] at c2
      simp only [total] at c2
      refine ⟨?_, d1, ?_, d2, by omega⟩
      · rw [List.append_assoc, List.singleton_append, norm_join2 A1 C e1 (show (freed x).u = false from rfl)]
        rw [show x.s + x.z - xf.s = xf.z + (freed x).z by show _ = xf.z + x.z; omega]
      · rcases d4 with d4 | d4
        · rw [e1] at d4
          cases d4
        · exact d4
  obtain ⟨_, l2, l3, l4, l5⟩ := left []
  rw [(left B).1]
  rcases hr with ⟨rfl, e1, rfl⟩ | ⟨rfl, e1⟩
  · apply norm_valid (a := 0)
    rw [chain_append]
    refine ⟨l2, l4, l5, .inr l3, ?_⟩
    show chain (0 + total A1 + (xl.s + xl.z - xf.s)) true B1
    rw [show 0 + total A1 + (xl.s + xl.z - xf.s) = xl.s + xl.z by omega]
    exact e1
  · simp only [chain] at c5
    obtain ⟨d1, d2, d3, d4⟩ := c5
    rw [norm_join2 A1 B1 rfl e1]
    rw [show (⟨xf.s, x.s + x.z - xf.s, false⟩ : Bl).z + xl.z = xl.s + xl.z - xf.s by show x.s + x.z - xf.s + xl.z = _; omega]
    apply norm_valid (a := 0)
    rw [chain_append]
    refine ⟨l2, l4, by show 1 ≤ xl.s + xl.z - xf.s; omega, .inr l3, ?_⟩
    show chain (0 + total A1 + (xl.s + xl.z - xf.s)) true B1
    rw [show 0 + total A1 + (xl.s + xl.z - xf.s) = 0 + total A + x.z + xl.z by omega]
    rw [e1] at d4
    exact d4

/-- GiveBlock, said by the first and the last block that are joined -/
theorem give_split {xs : List Bl} {t : Int} {k f l : Nat} {x xf xl : Bl} (hv : validB xs t = true) (hx : xs[k]? = some x) (hu : x.u = true) (hxf : xs[f]? = some xf) (hxl : xs[l]? = some xl)
    (hf : (f = k ∧ (k = 0 ∨ ∃ y, xs[k - 1]? = some y ∧ y.u = true)) ∨ (f + 1 = k ∧ xf.u = false)) (hl : (l = k ∧ ∀ y, xs[k + 1]? = some y → y.u = true) ∨ (l = k + 1 ∧ xl.u = false)) :
    giveB xs k = xs.take f ++ [⟨xf.s, xl.s + xl.z - xf.s, false⟩] ++ xs.drop (l + 1) := by
  rw [giveB_norm hx hu, set_split hx]
  have hs := split_at hx
  have hc := ((valid_chain xs t).1 hv).1
  rw [hs] at hc
  have hk : k < xs.length := (List.getElem?_eq_some_iff.1 hx).1
  rw [List.append_assoc, List.singleton_append]
  refine give_mid hc ?_ ?_
  · rcases hf with ⟨rfl, h0⟩ | ⟨h0, hu0⟩
    · refine .inl ⟨rfl, ?_, Option.some.inj (hxf.symm.trans hx)⟩
      rcases h0 with rfl | ⟨y, hy, huy⟩
      · rfl
      · rcases Nat.eq_zero_or_pos f with rfl | hp
        · rfl
        · obtain ⟨m, rfl⟩ : ∃ m, f = m + 1 := ⟨f - 1, by omega⟩
          simp at hy
          rw [List.take_add_one, hy, lastFree_append]
          simp [lastFree, huy]
    · subst h0
      refine .inr ⟨?_, hu0⟩
      rw [List.take_add_one, hxf]
      rfl
  · rcases hl with ⟨rfl, h0⟩ | ⟨rfl, hu0⟩
    · refine .inl ⟨rfl, ?_, Option.some.inj (hxl.symm.trans hx)⟩
      rw [chain_append] at hc
      simp only [chain] at hc
      obtain ⟨c1, c2, c3, c4, c5⟩ := hc
      rw [show x.s + x.z = 0 + total (xs.take l) + x.z by omega]
      cases hd : xs.drop (l + 1) with
      | nil => trivial
      | cons y ys =>
        rw [hd] at c5
        simp only [chain] at c5 ⊢
        refine ⟨c5.1, c5.2.1, .inl (h0 y ?_), c5.2.2.2⟩
        have : (xs.drop (l + 1))[0]? = some y := by rw [hd]; rfl
        rw [List.getElem?_drop] at this
        simpa using this
    · refine .inr ⟨?_, hu0⟩
      obtain ⟨h1, h2⟩ := List.getElem?_eq_some_iff.1 hxl
      rw [List.drop_eq_getElem_cons h1, h2]
end Bks
end Go.Proofs.Ytkejbggffbkdaaa
