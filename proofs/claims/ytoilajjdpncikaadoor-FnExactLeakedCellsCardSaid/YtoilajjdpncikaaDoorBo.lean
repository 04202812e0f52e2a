/- What the helpers of the exact laws return at slices of bools: toBoolS, eqBoolS, markBoolS, heldBoolS; how a slice of bools that came in lies in memory. No conditions. -/
import Derived.Test.YtoilajjdpncikaaDoorGb
import Derived.Test.YtoilajjdpncikaaDoorPost
namespace Go.Proofs.YtoilajjdpncikaaDoor
open Go.ChangeShapes Go.WideShapes Go.ChangeAt Go.RowKit Go.Deep

theorem set_takeO {xs : List Bool} {n k : Nat} {y : Bool} (hl : xs.length = n) (hk : k < n) (hy : xs[k]? = some y) : (xs.take k ++ List.replicate (n - k) false).set k y = xs.take (k + 1) ++ List.replicate (n - (k + 1)) false := by
  have h1 : (xs.take k).length = k := by rw [List.length_take]; omega
  rw [List.set_append_right _ _ (by omega), h1, Nat.sub_self, show n - k = (n - (k + 1)) + 1 by omega, List.replicate_succ, List.set_cons_zero, List.take_add_one, hy]
  simp

theorem sep_swapO {v0 v1 : Value} (h : v0.ownBlock = none ∨ v0.ownBlock ≠ v1.ownBlock) : v1.ownBlock = none ∨ v1.ownBlock ≠ v0.ownBlock := by
  rcases h with h | h
  · cases e : v1.ownBlock with
    | none => exact .inl rfl
    | some k => right; rw [h]; simp
  · exact .inr fun e => h e.symm

/-- the marks that are laid into a slice of bools -/
def marksO (k : Int) (n : Nat) : List Bool := (List.range n).map fun i => ((k + (i : Nat)) % 3 == 0)
theorem marksO_len (k : Int) (n : Nat) : (marksO k n).length = n := by simp [marksO]
theorem marksO_at (k : Int) {n i : Nat} (h : i < n) : (marksO k n)[i]? = some ((k + i) % 3 == 0) := by
  simp [marksO, h]
theorem set_marksO (k : Int) (xs : List Bool) {i : Nat} (h : i < xs.length) : (marksO k i ++ xs.drop i).set i ((k + i) % 3 == 0) = marksO k (i + 1) ++ xs.drop (i + 1) := by
  rw [List.set_append_right _ _ (by rw [marksO_len]; omega), marksO_len, Nat.sub_self]
  rw [List.drop_eq_getElem_cons h, List.set_cons_zero]
  simp [marksO, List.range_succ]

section
variable {H : Type} {enc : TypeId × Value → H} {P : Program} {W W' : World}
/-- a slice of bools that came in -/
theorem open_bools {t e : TypeId} {r : Reach} {b0 : Nat} {v : Value} {d : DataW H} {ps : List MemPlace} (ht : P.underlying t = some (.slice e)) (he : P.underlying e = some .bool) (ce : P.cellsOf e = 1)
    (hval : Value.okWide P W r b0 t v) (h : DataW.Trod enc P W 0 (fun _ => true) true t v d ps) (hlt : ∀ x ∈ ps, x.block < W.heap.size) :
    ∃ (A : Option Addr) (n c : Nat) (xs : List Bool), v = .slice A n c ∧ n ≤ c ∧ n ≤ 9223372036854775807 ∧ OS W W.heap.size A n xs := by
  obtain ⟨A, n, c, rfl⟩ := okWide_slice ht hval
  obtain ⟨fuel, hf⟩ := h
  rcases open_slice ht hf with ⟨h0, _⟩ | ⟨a, len, cap, m, n', D, Pl, hcs, hb, hl, hm, hmm, hx, hi⟩
  · simp [Value.cells] at h0
    obtain ⟨rfl, rfl, rfl⟩ := h0
    exact ⟨none, 0, 0, [], rfl, by omega, by omega, OS.none_ _ _ _⟩
  · simp [Value.cells] at hcs
    obtain ⟨rfl, rfl, rfl⟩ := hcs
    simp only [if_true] at hmm
    subst hmm
    have each : ∀ i, i < n → ∃ x : Bool, W.cell? (a.add i) = some (.bool x) := by
      intro i hin
      obtain ⟨cs', h1, h2⟩ := hi i (by omega)
      rw [ce] at h1
      obtain ⟨_, hlen, hcell⟩ := World.cells?_some h1
      obtain ⟨u, e2, _⟩ := DataW.trod_bool he h2
      match cs', hlen with
      | [v0], _ =>
        simp at e2
        subst e2
        have q0 := hcell 0 (by omega)
        rw [add_add] at q0
        exact ⟨u, by simpa using q0⟩
    obtain ⟨F, hF⟩ := choose_lt each
    refine ⟨some a, n, _, (List.range n).map F, rfl, hl, by unfold maxLen at hm; omega, by simp, ?_⟩
    intro hn
    have h0 := hF 0 hn
    simp [Addr.add] at h0
    have ha := addr_of_cell h0
    have hblt : a.block < W.heap.size := by
      apply hlt (.cell a.block a.off)
      have hps := congrArg Prod.snd hx
      simp only [] at hps
      rw [hps, ce]
      apply List.mem_append_left
      rw [ha]
      simp [MemPlace.row]
      omega
    refine ⟨a.block, a.off, by rw [← ha], hblt, fun k x hx => ?_⟩
    rcases Nat.lt_or_ge k n with hk | hk
    · simp only [List.getElem?_map] at hx
      rw [List.getElem?_range hk] at hx
      simp at hx
      subst hx
      have q := hF k hk
      rw [ha, add_none] at q
      exact q
    · rw [List.getElem?_eq_none (by simpa using hk)] at hx
      cases hx
end
end Go.Proofs.YtoilajjdpncikaaDoor
