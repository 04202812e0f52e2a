/- A heap of a call's own: what it is when a root, a number, a reference or a whole cell is written, or a cell is put behind the last one. No conditions. -/
import Derived.Test.YtakdjiojahlnmaaGb
namespace Go.Proofs.Ytakdjiojahlnmaa
open Go.RowKit

theorem Sep.get {l : List Value} (h : Sep l) {i j : Nat} {a b : Value} (hi : l[i]? = some a) (hj : l[j]? = some b) (hne : i < j) : a.ownBlock = none ∨ a.ownBlock ≠ b.ownBlock := by
  obtain ⟨h1, e1⟩ := List.getElem?_eq_some_iff.1 hi
  obtain ⟨h2, e2⟩ := List.getElem?_eq_some_iff.1 hj
  have := List.pairwise_iff_getElem.1 h i j h1 h2 hne
  rw [e1, e2] at this
  exact this
theorem sep_back {a b : Value} (h : a.ownBlock = none ∨ a.ownBlock ≠ b.ownBlock) : b.ownBlock = none ∨ b.ownBlock ≠ a.ownBlock := by
  rcases h with e | e
  · cases e' : b.ownBlock with
    | none => exact .inl rfl
    | some k => right; rw [e]; simp
  · exact .inr fun e' => e e'.symm
/-- the blocks of the slices of references are neither the cells' nor the roots' -/
theorem OwnHx.apart_cells {w : World} {base : Nat} {vc vr : Value} {rvs : List Value} {h : Hp} (S : OwnHx w base vc vr rvs h) : ∀ v ∈ vr :: rvs, v.ownBlock = none ∨ v.ownBlock ≠ vc.ownBlock := fun v hv => by
  have := S.sep
  unfold Sep at this
  rw [List.pairwise_cons] at this
  exact sep_back (this.1 v hv)
theorem OwnHx.apart_roots {w : World} {base : Nat} {vc vr : Value} {rvs : List Value} {h : Hp} (S : OwnHx w base vc vr rvs h) : ∀ v ∈ vc :: rvs, v.ownBlock = none ∨ v.ownBlock ≠ vr.ownBlock := fun v hv => by
  have := S.sep
  unfold Sep at this
  rw [List.pairwise_cons, List.pairwise_cons] at this
  rcases List.mem_cons.1 hv with rfl | hv
  · exact this.1 vr (by simp)
  · exact sep_back (this.2.1 v hv)
theorem put_any (w : World) (g i : Nat) (u : Value) : w.grownBy (w.setCell ⟨g, i, none⟩ u) (some g) := ⟨rfl, rfl, rfl, by simp [World.setCell], fun j _ hne => Below.heap_setCell w _ u j (by rintro rfl; exact hne rfl)⟩

/-- a root is written -/
theorem OwnHx.root {w : World} {base g c i : Nat} {vc : Value} {rvs : List Value} {h : Hp} (S : OwnHx w base vc (.slice (some ⟨g, 0, none⟩) h.rt.length c) rvs h) (x : Int) :
    OwnHx (w.setCell ⟨g, i, none⟩ (.int .i64 x)) base vc (.slice (some ⟨g, 0, none⟩) h.rt.length c) rvs ⟨h.cs, h.rt.set i x⟩ := by
  have ap : ∀ v ∈ vc :: rvs, v.ownBlock = none ∨ v.ownBlock ≠ some g := S.apart_roots
  refine ⟨S.len, World.ownsRow.kept S.row (put_any w g i _) (ap vc (by simp)), fun k cl v hc hv => (S.refs k cl v hc hv).far (put_any w g i _) (ap v (by simp [List.mem_of_getElem? hv])), ?_, S.sep⟩
  exact S.roots.put' rfl x
/-- the number of a cell is written -/
theorem OwnHx.data {w : World} {base g c k : Nat} {vr : Value} {rvs : List Value} {h : Hp} {cl : Cl} (S : OwnHx w base (.slice (some ⟨g, 0, none⟩) h.cs.length c) vr rvs h) (hc : h.cs[k]? = some cl) (x : Int) :
    OwnHx (w.setCell ⟨g, k * 3 + 1, none⟩ (.int .i64 x)) base (.slice (some ⟨g, 0, none⟩) h.cs.length c) vr rvs ⟨h.cs.set k ⟨cl.u, x, cl.r⟩, h.rt⟩ := by
  have ap : ∀ v ∈ vr :: rvs, v.ownBlock = none ∨ v.ownBlock ≠ some g := S.apart_cells
  refine ⟨by simp [S.len], ?_, fun j c' v hc' hv => ?_, S.roots.far (put_any w g _ _) (ap vr (by simp)), S.sep⟩
  · have := (World.ownsRow.stored S.row (k * 3 + 1) (.int .i64 x)).1
    rw [flatC_set_d _ _ _ _ _ S.len hc] at this
    simpa using this
  · rw [List.getElem?_set] at hc'
    have hmem := List.mem_of_getElem? hv
    by_cases hj : k = j
    · subst hj
      rw [if_pos rfl, if_pos (List.getElem?_eq_some_iff.1 hc).1] at hc'
      injection hc' with hc'
      subst hc'
      exact (S.refs k cl v hc hv).far (put_any w g _ _) (ap v (by simp [hmem]))
    · rw [if_neg hj] at hc'
      exact (S.refs j c' v hc' hv).far (put_any w g _ _) (ap v (by simp [hmem]))
/-- a reference of a cell is written -/
theorem OwnHx.ref1 {w : World} {base g c k i : Nat} {vc vr : Value} {rvs : List Value} {h : Hp} {cl : Cl} (S : OwnHx w base vc vr rvs h) (hc : h.cs[k]? = some cl) (hv : rvs[k]? = some (.slice (some ⟨g, 0, none⟩) cl.r.length c)) (x : Int) :
    OwnHx (w.setCell ⟨g, i, none⟩ (.int .i64 x)) base vc vr rvs ⟨h.cs.set k ⟨cl.u, cl.d, cl.r.set i x⟩, h.rt⟩ := by
  have hgt : ∀ (j : Nat) (v : Value), j ≠ k → rvs[j]? = some v → v.ownBlock = none ∨ v.ownBlock ≠ some g := fun j v hj hvj => by
    have hs := S.sep
    unfold Sep at hs
    rw [List.pairwise_cons, List.pairwise_cons] at hs
    rcases Nat.lt_or_ge j k with h1 | h1
    · exact Sep.get hs.2.2 hvj hv h1
    · exact sep_back (Sep.get hs.2.2 hv hvj (by omega))
  have hmem := List.mem_of_getElem? hv
  have hvc : vc.ownBlock = none ∨ vc.ownBlock ≠ some g := sep_back (S.apart_cells (.slice (some ⟨g, 0, none⟩) cl.r.length c) (List.mem_cons_of_mem _ hmem))
  have hvr : vr.ownBlock = none ∨ vr.ownBlock ≠ some g := sep_back (S.apart_roots (.slice (some ⟨g, 0, none⟩) cl.r.length c) (List.mem_cons_of_mem _ hmem))
  refine ⟨by simp [S.len], ?_, fun j c' v hc' hvj => ?_, S.roots.far (put_any w g _ _) hvr, S.sep⟩
  · have := World.ownsRow.kept S.row (put_any w g i (.int .i64 x)) hvc
    rw [List.length_set, flatC_refs _ _ _ _ _ hc]
    exact this
  · rw [List.getElem?_set] at hc'
    by_cases hj : k = j
    · subst hj
      rw [if_pos rfl, if_pos (List.getElem?_eq_some_iff.1 hc).1] at hc'
      injection hc' with hc'
      subst hc'
      rw [hv] at hvj
      injection hvj with hvj
      subst hvj
      exact (S.refs k cl _ hc hv).put' rfl x
    · rw [if_neg hj] at hc'
      exact (S.refs j c' v hc' hvj).far (put_any w g _ _) (hgt j v (by omega) hvj)
/-- a whole cell is written, with references of the call's own -/
theorem OwnHx.cell {w : World} {base g c k : Nat} {vr rv : Value} {rvs : List Value} {h : Hp} {cl old : Cl} (S : OwnHx w base (.slice (some ⟨g, 0, none⟩) h.cs.length c) vr rvs h) (hc : h.cs[k]? = some old) (o : OwnI w base rv cl.r) (hap : ∀ v ∈ (Value.slice (some ⟨g, 0, none⟩) h.cs.length c) :: vr :: rvs, rv.ownBlock = none ∨ rv.ownBlock ≠ v.ownBlock) :
    OwnHx (((w.setCell ⟨g, k * 3, none⟩ (.bool cl.u)).setCell ⟨g, k * 3 + 1, none⟩ (.int .i64 cl.d)).setCell ⟨g, k * 3 + 2, none⟩ rv) base (.slice (some ⟨g, 0, none⟩) h.cs.length c) vr (rvs.set k rv) ⟨h.cs.set k cl, h.rt⟩ := by
  have hk := (List.getElem?_eq_some_iff.1 hc).1
  have ap : ∀ v ∈ vr :: rvs, v.ownBlock = none ∨ v.ownBlock ≠ some g := S.apart_cells
  have hrg : rv.ownBlock = none ∨ rv.ownBlock ≠ some g := hap (.slice (some ⟨g, 0, none⟩) h.cs.length c) (by simp)
  have far3 : ∀ {v : Value} {xs : List Int}, OwnI w base v xs → (v.ownBlock = none ∨ v.ownBlock ≠ some g) → OwnI (((w.setCell ⟨g, k * 3, none⟩ (.bool cl.u)).setCell ⟨g, k * 3 + 1, none⟩ (.int .i64 cl.d)).setCell ⟨g, k * 3 + 2, none⟩ rv) base v xs := fun ho hn => ((ho.far (put_any _ g _ _) hn).far (put_any _ g _ _) hn).far (put_any _ g _ _) hn
  refine ⟨by simp [S.len], ?_, fun j c' v hc' hvj => ?_, far3 S.roots (ap vr (by simp)), ?_⟩
  · have q := (((World.ownsRow.stored S.row (k * 3) (.bool cl.u)).1.stored (k * 3 + 1) (.int .i64 cl.d)).1.stored (k * 3 + 2) rv).1
    rw [flatC_set_u _ _ _ _ _ S.len hc] at q
    have hc1 : (h.cs.set k ⟨cl.u, old.d, old.r⟩)[k]? = some ⟨cl.u, old.d, old.r⟩ := by simp [hk]
    rw [flatC_set_d _ _ _ _ _ (by simp [S.len]) hc1] at q
    have hc2 : ((h.cs.set k ⟨cl.u, old.d, old.r⟩).set k ⟨cl.u, cl.d, old.r⟩)[k]? = some ⟨cl.u, cl.d, old.r⟩ := by simp [hk]
    rw [flatC_set_r _ _ _ _ _ cl.r (by simp [S.len]) hc2] at q
    simpa using q
  · rw [List.getElem?_set] at hc' hvj
    by_cases hj : k = j
    · subst hj
      rw [if_pos rfl, if_pos hk] at hc'
      rw [if_pos rfl, if_pos (by rw [S.len]; exact hk)] at hvj
      injection hc' with hc'
      injection hvj with hvj
      subst hc' hvj
      exact far3 o hrg
    · rw [if_neg hj] at hc' hvj
      exact far3 (S.refs j c' v hc' hvj) (ap v (by simp [List.mem_of_getElem? hvj]))
  · have hs := S.sep
    unfold Sep at hs ⊢
    rw [List.pairwise_cons, List.pairwise_cons] at hs ⊢
    refine ⟨fun v hv => ?_, fun v hv => ?_, ?_⟩
    · rcases List.mem_cons.1 hv with rfl | hv
      · exact hs.1 v (by simp)
      · rcases List.mem_or_eq_of_mem_set hv with hv | rfl
        · exact hs.1 v (by simp [hv])
        · exact sep_back (hap _ (by simp))
    · rcases List.mem_or_eq_of_mem_set hv with hv | rfl
      · exact hs.2.1 v hv
      · exact sep_back (hap _ (by simp))
    · rw [List.pairwise_iff_getElem]
      intro i j hi hj hij
      rw [List.length_set] at hi hj
      have hp := List.pairwise_iff_getElem.1 hs.2.2 i j hi hj hij
      rw [List.getElem_set, List.getElem_set]
      by_cases e1 : k = i
      · rw [if_pos e1, if_neg (by omega)]
        exact hap _ (by simp)
      · rw [if_neg e1]
        by_cases e2 : k = j
        · rw [if_pos e2]
          exact sep_back (hap _ (by simp))
        · rw [if_neg e2]
          exact hp
end Go.Proofs.Ytakdjiojahlnmaa
