/- What the claim DEStepSweep stands on, part 2 of 4: texts of one seat put together, with what the claim needs of them. No conditions. -/
import Derived.Test.YthmddmddcdofaaaDoorShHa
namespace Go.Proofs.YthmddmddcdofaaaDoor
open Go.RowKit
set_option maxRecDepth 100000
namespace Hps
end Hps
theorem flatC_get {cs : List Cl} {vs : List Value} (hl : vs.length = cs.length) {j : Nat} {u : Value} (h : (flatC cs vs)[j]? = some u) : ∃ k c v, j / 3 = k ∧ cs[k]? = some c ∧ vs[k]? = some v ∧ ((j = k * 3 ∧ u = .bool c.u) ∨ (j = k * 3 + 1 ∧ u = .int .i64 c.d) ∨ (j = k * 3 + 2 ∧ u = v)) := by
  have hj := (List.getElem?_eq_some_iff.1 h).1
  rw [flatC_length _ _ hl] at hj
  have hk : j / 3 < cs.length := by omega
  have hc := List.getElem?_eq_getElem hk
  have hv := List.getElem?_eq_getElem (show j / 3 < vs.length by omega)
  obtain ⟨f1, f2, f3⟩ := flatC_at _ _ _ _ _ hc hv
  refine ⟨j / 3, _, _, rfl, hc, hv, ?_⟩
  rcases (show j = j / 3 * 3 ∨ j = j / 3 * 3 + 1 ∨ j = j / 3 * 3 + 2 by omega) with e | e | e
  · rw [← e, h] at f1
    exact .inl ⟨e, Option.some.inj f1⟩
  · rw [← e, h] at f2
    exact .inr (.inl ⟨e, Option.some.inj f2⟩)
  · rw [← e, h] at f3
    exact .inr (.inr ⟨e, Option.some.inj f3⟩)
/-- what the slices of the references are, where cells are read -/
def RefsAt (w : World) (B : Nat) (cs : List Cl) (rvs : List Value) : Prop := rvs.length = cs.length ∧ ∀ (k : Nat) (c : Cl) (v : Value), cs[k]? = some c → rvs[k]? = some v → ∃ A' m cc, v = .slice A' m cc ∧ m ≤ cc ∧ IS w B A' m c.r
theorem RefsAt.below {w w' : World} {B : Nat} {cs : List Cl} {rvs : List Value} (h : RefsAt w B cs rvs) (hb : Below B w w') : RefsAt w' B cs rvs :=
  ⟨h.1, fun k c v hc hv => by
    obtain ⟨A', m, cc, e, hm, hi⟩ := h.2 k c v hc hv
    exact ⟨A', m, cc, e, hm, hi.below hb⟩⟩
theorem RefsAt.one {w : World} {B : Nat} {cs : List Cl} {rvs : List Value} (h : RefsAt w B cs rvs) : ∀ u ∈ flatC cs rvs, u.oneCell' = true := fun u hu => by
  obtain ⟨j, hj⟩ := List.mem_iff_getElem?.1 hu
  obtain ⟨k, c, v, _, hc, hv, hx⟩ := flatC_get h.1 hj
  rcases hx with ⟨_, rfl⟩ | ⟨_, rfl⟩ | ⟨_, rfl⟩
  · rfl
  · rfl
  · obtain ⟨A', m, cc, rfl, _⟩ := h.2 k c u hc hv
    rfl
theorem CS.refs {w : World} {B n : Nat} {A : Option Addr} {cs : List Cl} (h : CS w B A n cs) : ∃ rvs, RefsAt w B cs rvs ∧ (0 < n → ∃ g o, A = some ⟨g, o, none⟩ ∧ g < B ∧ ∀ (j : Nat) (u : Value), (flatC cs rvs)[j]? = some u → w.cell? ⟨g, o + j, none⟩ = some u) := by
  rcases Nat.eq_zero_or_pos n with h0 | h0
  · have : cs = [] := List.eq_nil_of_length_eq_zero (h.1.trans h0)
    subst this
    exact ⟨[], ⟨rfl, fun k c v hc => by simp at hc⟩, fun hh => by omega⟩
  · obtain ⟨g, o, rfl, hgB, hc⟩ := h.2 h0
    have hl : ((List.range n).map fun k => (w.cell? ⟨g, o + k * 3 + 2, none⟩).getD undef).length = cs.length := by simp [h.1]
    have hrv : ∀ (k : Nat) (c : Cl) (v : Value), cs[k]? = some c → ((List.range n).map fun k => (w.cell? ⟨g, o + k * 3 + 2, none⟩).getD undef)[k]? = some v → w.cell? ⟨g, o + k * 3 + 2, none⟩ = some v ∧ ∃ A' m cc, v = .slice A' m cc ∧ m ≤ cc ∧ IS w B A' m c.r := fun k c v h1 h2 => by
      have hk : k < n := by have := (List.getElem?_eq_some_iff.1 h1).1; have := h.1; omega
      rw [List.getElem?_map, List.getElem?_range hk] at h2
      obtain ⟨_, _, A', m, cc, c3, hm, hi⟩ := hc k c h1
      rw [Option.map_some, c3] at h2
      have h2 := Option.some.inj h2
      exact ⟨by rw [c3, ← h2]; rfl, A', m, cc, by rw [← h2]; rfl, hm, hi⟩
    refine ⟨_, ⟨hl, fun k c v h1 h2 => (hrv k c v h1 h2).2⟩, fun _ => ⟨g, o, rfl, hgB, fun j u hj => ?_⟩⟩
    obtain ⟨k, c, v, _, h1, h2, hx⟩ := flatC_get hl hj
    rcases hx with ⟨rfl, rfl⟩ | ⟨rfl, rfl⟩ | ⟨rfl, rfl⟩
    · exact (hc k c h1).1
    · rw [← Nat.add_assoc]
      exact (hc k c h1).2.1
    · rw [← Nat.add_assoc]
      exact (hrv k c u h1 h2).1
theorem run_appendCs (w : World) (base : Nat) (v : Value) (n : Nat) (vs : List Value) (hown : w.ownsRow base 40 3 v n vs) (A : Option Addr) (m c : Nat) (ys : List Value) (hl : ys.length = m * 3)
    (hA : 0 < m → ∃ ad, A = some ad ∧ ∀ j u, ys[j]? = some u → w.cell? (ad.add j) = some u) (h1 : ∀ u ∈ ys, u.oneCell' = true) (hn : n + m ≤ 1099511627776) (hbase : base ≤ w.heap.size) (ty : TypeId) :
    ∃ v' w', (Builtin.append_ #[23, 23] ty #[v, .slice A m c]).run Tryd.prog w = .ok v' w' ∧ w'.ownsRow base 40 3 v' (n + m) (vs ++ ys) ∧ w.grownBy w' v.ownBlock ∧ (v'.ownBlock = v.ownBlock ∨ v'.ownBlock = some w.heap.size) := by
  obtain ⟨i0, hi0, hz0, hz1, hz2⟩ := info_parts info_cell
  rcases A with _ | ad
  · have h0 : m = 0 := by
      rcases Nat.eq_zero_or_pos m with h0 | h0
      · exact h0
      · obtain ⟨ad, e, _⟩ := hA h0
        cases e
    subst h0
    have : ys = [] := List.eq_nil_of_length_eq_zero (by omega)
    subst this
    refine ⟨v, w, ?_, by simpa using hown, World.grownBy.refl _ _, .inl rfl⟩
    rcases hown.2 with ⟨rfl, _⟩ | ⟨g, cap, cur, rfl, _, _, hnc, _⟩
    · simp [Builtin.append_, run_underlying Tryd.underlying23, sizeOf, typeInfo, hi0, Builtin.lenOf, Builtin.firstCells]
    · simp [Builtin.append_, run_underlying Tryd.underlying23, sizeOf, typeInfo, hi0, Builtin.lenOf, Builtin.firstCells, hnc, storeCells]
  · have hcells : ∀ j u, ys[j]? = some u → w.cell? (ad.add j) = some u := fun j u hj => by
      have hp : 0 < m := by have := (List.getElem?_eq_some_iff.1 hj).1; omega
      obtain ⟨ad', e, hc⟩ := hA hp
      have e := Option.some.inj e
      rw [e]
      exact hc j u hj
    obtain ⟨v', w', hrun, h2, h3, _, h5⟩ := run_append_own_at (P := Tryd.prog) w base 23 ty 40 i0 _ 3 40 Tryd.underlying23 hi0 hz0 hz1 hz2 rfl (by omega) v n vs hown ad m c ys
      (by omega) hcells h1 (by unfold maxLen; omega) (by omega) hbase
    exact ⟨v', w', hrun, h2, h3, h5⟩
/-- all cells of a slice are appended onto the call's own row -/
theorem app_stepCs {w : World} {o : Oper} {a : Act} {K : Act → World → Prop} {Q : Exit → Act → World → Prop} (_hgd : o.guard = none) (s x : Operand)
    (ho : o.op = .call { callee := .builtin .append, args := #[s, x], argTypes := #[23, 23] })
    (base : Nat) (v : Value) (n : Nat) (vs : List Value) (hs : a.eval s = v) (hown : w.ownsRow base 40 3 v n vs) (A : Option Addr) (m c : Nat) (ys : List Value) (hx : a.eval x = .slice A m c) (hl : ys.length = m * 3)
    (hA : 0 < m → ∃ ad, A = some ad ∧ ∀ j u, ys[j]? = some u → w.cell? (ad.add j) = some u) (h1 : ∀ u ∈ ys, u.oneCell' = true) (hn : n + m ≤ 1099511627776) (hbase : base ≤ w.heap.size)
    (h : ∀ v' w', w'.ownsRow base 40 3 v' (n + m) (vs ++ ys) → w.grownBy w' v.ownBlock → (v'.ownBlock = v.ownBlock ∨ v'.ownBlock = some w.heap.size) → K (a.put o.dst v') w') : Oper.wp Tryd.prog o a w K Q := by
  obtain ⟨v', w', hrun, h2, h3, h4⟩ := run_appendCs w base v n vs hown A m c ys hl hA h1 hn hbase o.type
  unfold Oper.wp execOp
  simp only [ho, resolve, invoke, builtin, Sem.run_bind, Sem.run_pure, Result.andThen_ok, List.map_toArray, List.map_cons, List.map_nil, hs, hx, hrun]
  exact h v' w' h2 h3 h4
/-- an object of another type is not the row's -/
theorem row_type {w : World} {base s n g : Nat} {e t : TypeId} {v : Value} {xs : List Value} {cs : Array Value} (h : w.ownsRow base e s v n xs) (hr : Rw w g t cs) (hne : t ≠ e) : some g ≠ v.ownBlock := fun hg => by
  rcases h.2 with ⟨rfl, _⟩ | ⟨g', cap, cur, rfl, _, hh, _⟩
  · cases hg
  · have : g = g' := Option.some.inj hg
    subst this
    have hr' : w.heap[g]? = some (.cells cs t (0, 0)) := hr
    rw [hr'] at hh
    injection hh with hh
    injection hh with h1 h2
    exact hne h2
end Go.Proofs.YthmddmddcdofaaaDoor

namespace Go.Proofs.YthmddmddcdofaaaDoor
open Go.RowKit
theorem Sep.get {l : List Value} (h : Sep l) {i j : Nat} {a b : Value} (hi : l[i]? = some a) (hj : l[j]? = some b) (hne : i < j) : a.ownBlock = none ∨ a.ownBlock ≠ b.ownBlock := by
  obtain ⟨h1, e1⟩ := List.getElem?_eq_some_iff.1 hi
  obtain ⟨h2, e2⟩ := List.getElem?_eq_some_iff.1 hj
  have := List.pairwise_iff_getElem.1 h i j h1 h2 hne
  rw [e1, e2] at this
  exact this
theorem sep_back {a b : Value} (h : a.ownBlock = none ∨ a.ownBlock ≠ b.ownBlock) : b.ownBlock = none ∨ b.ownBlock ≠ a.ownBlock := by
  rcases h with e | e
  · cases e' : b.ownBlock with
    | none => exact .inl rfl
    | some k => right; rw [e]; simp
  · exact .inr fun e' => e e'.symm
/-- the blocks of the slices of references are neither the cells' nor the roots' -/
theorem OwnHx.apart_cells {w : World} {base : Nat} {vc vr : Value} {rvs : List Value} {h : Hp} (S : OwnHx w base vc vr rvs h) : ∀ v ∈ vr :: rvs, v.ownBlock = none ∨ v.ownBlock ≠ vc.ownBlock := fun v hv => by
  have := S.sep
  unfold Sep at this
  rw [List.pairwise_cons] at this
  exact sep_back (this.1 v hv)
theorem OwnHx.apart_roots {w : World} {base : Nat} {vc vr : Value} {rvs : List Value} {h : Hp} (S : OwnHx w base vc vr rvs h) : ∀ v ∈ vc :: rvs, v.ownBlock = none ∨ v.ownBlock ≠ vr.ownBlock := fun v hv => by
  have := S.sep
  unfold Sep at this
  rw [List.pairwise_cons, List.pairwise_cons] at this
  rcases List.mem_cons.1 hv with rfl | hv
  · exact this.1 vr (by simp)
  · exact sep_back (this.2.1 v hv)
theorem put_any (w : World) (g i : Nat) (u : Value) : w.grownBy (w.setCell ⟨g, i, none⟩ u) (some g) := ⟨rfl, rfl, rfl, by simp [World.setCell], fun j _ hne => Below.heap_setCell w _ u j (by rintro rfl; exact hne rfl)⟩
/-- a root is written -/
theorem OwnHx.root {w : World} {base g c i : Nat} {vc : Value} {rvs : List Value} {h : Hp} (S : OwnHx w base vc (.slice (some ⟨g, 0, none⟩) h.rt.length c) rvs h) (x : Int) :
    OwnHx (w.setCell ⟨g, i, none⟩ (.int .i64 x)) base vc (.slice (some ⟨g, 0, none⟩) h.rt.length c) rvs ⟨h.cs, h.rt.set i x⟩ := by
  have ap : ∀ v ∈ vc :: rvs, v.ownBlock = none ∨ v.ownBlock ≠ some g := S.apart_roots
  refine ⟨S.len, World.ownsRow.kept S.row (put_any w g i _) (ap vc (by simp)), fun k cl v hc hv => (S.refs k cl v hc hv).far (put_any w g i _) (ap v (by simp [List.mem_of_getElem? hv])), ?_, S.sep⟩
  exact S.roots.put' rfl x
/-- the number of a cell is written -/
theorem OwnHx.data {w : World} {base g c k : Nat} {vr : Value} {rvs : List Value} {h : Hp} {cl : Cl} (S : OwnHx w base (.slice (some ⟨g, 0, none⟩) h.cs.length c) vr rvs h) (hc : h.cs[k]? = some cl) (x : Int) :
    OwnHx (w.setCell ⟨g, k * 3 + 1, none⟩ (.int .i64 x)) base (.slice (some ⟨g, 0, none⟩) h.cs.length c) vr rvs ⟨h.cs.set k ⟨cl.u, x, cl.r⟩, h.rt⟩ := by
  have ap : ∀ v ∈ vr :: rvs, v.ownBlock = none ∨ v.ownBlock ≠ some g := S.apart_cells
  refine ⟨by simp [S.len], ?_, fun j c' v hc' hv => ?_, S.roots.far (put_any w g _ _) (ap vr (by simp)), S.sep⟩
  · have := (World.ownsRow.stored S.row (k * 3 + 1) (.int .i64 x)).1
    rw [flatC_set_d _ _ _ _ _ S.len hc] at this
    simpa using this
  · rw [List.getElem?_set] at hc'
    have hmem := List.mem_of_getElem? hv
    by_cases hj : k = j
    · subst hj
      rw [if_pos rfl, if_pos (List.getElem?_eq_some_iff.1 hc).1] at hc'
      injection hc' with hc'
      subst hc'
      exact (S.refs k cl v hc hv).far (put_any w g _ _) (ap v (by simp [hmem]))
    · rw [if_neg hj] at hc'
      exact (S.refs j c' v hc' hv).far (put_any w g _ _) (ap v (by simp [hmem]))
/-- a reference of a cell is written -/
theorem OwnHx.ref1 {w : World} {base g c k i : Nat} {vc vr : Value} {rvs : List Value} {h : Hp} {cl : Cl} (S : OwnHx w base vc vr rvs h) (hc : h.cs[k]? = some cl) (hv : rvs[k]? = some (.slice (some ⟨g, 0, none⟩) cl.r.length c)) (x : Int) :
    OwnHx (w.setCell ⟨g, i, none⟩ (.int .i64 x)) base vc vr rvs ⟨h.cs.set k ⟨cl.u, cl.d, cl.r.set i x⟩, h.rt⟩ := by
  have hgt : ∀ (j : Nat) (v : Value), j ≠ k → rvs[j]? = some v → v.ownBlock = none ∨ v.ownBlock ≠ some g := fun j v hj hvj => by
    have hs := S.sep
    unfold Sep at hs
    rw [List.pairwise_cons, List.pairwise_cons] at hs
    rcases Nat.lt_or_ge j k with h1 | h1
    · exact Sep.get hs.2.2 hvj hv h1
    · exact sep_back (Sep.get hs.2.2 hv hvj (by omega))
  have hmem := List.mem_of_getElem? hv
  have hvc : vc.ownBlock = none ∨ vc.ownBlock ≠ some g := sep_back (S.apart_cells (.slice (some ⟨g, 0, none⟩) cl.r.length c) (List.mem_cons_of_mem _ hmem))
  have hvr : vr.ownBlock = none ∨ vr.ownBlock ≠ some g := sep_back (S.apart_roots (.slice (some ⟨g, 0, none⟩) cl.r.length c) (List.mem_cons_of_mem _ hmem))
  refine ⟨by simp [S.len], ?_, fun j c' v hc' hvj => ?_, S.roots.far (put_any w g _ _) hvr, S.sep⟩
  · have := World.ownsRow.kept S.row (put_any w g i (.int .i64 x)) hvc
    rw [List.length_set, flatC_refs _ _ _ _ _ hc]
    exact this
  · rw [List.getElem?_set] at hc'
    by_cases hj : k = j
    · subst hj
      rw [if_pos rfl, if_pos (List.getElem?_eq_some_iff.1 hc).1] at hc'
      injection hc' with hc'
      subst hc'
      rw [hv] at hvj
      injection hvj with hvj
      subst hvj
      exact (S.refs k cl _ hc hv).put' rfl x
    · rw [if_neg hj] at hc'
      exact (S.refs j c' v hc' hvj).far (put_any w g _ _) (hgt j v (by omega) hvj)
/-- a whole cell is written, with references of the call's own -/
theorem OwnHx.cell {w : World} {base g c k : Nat} {vr rv : Value} {rvs : List Value} {h : Hp} {cl old : Cl} (S : OwnHx w base (.slice (some ⟨g, 0, none⟩) h.cs.length c) vr rvs h) (hc : h.cs[k]? = some old) (o : OwnI w base rv cl.r) (hap : ∀ v ∈ (Value.slice (some ⟨g, 0, none⟩) h.cs.length c) :: vr :: rvs, rv.ownBlock = none ∨ rv.ownBlock ≠ v.ownBlock) :
    OwnHx (((w.setCell ⟨g, k * 3, none⟩ (.bool cl.u)).setCell ⟨g, k * 3 + 1, none⟩ (.int .i64 cl.d)).setCell ⟨g, k * 3 + 2, none⟩ rv) base (.slice (some ⟨g, 0, none⟩) h.cs.length c) vr (rvs.set k rv) ⟨h.cs.set k cl, h.rt⟩ := by
  have hk := (List.getElem?_eq_some_iff.1 hc).1
  have ap : ∀ v ∈ vr :: rvs, v.ownBlock = none ∨ v.ownBlock ≠ some g := S.apart_cells
  have hrg : rv.ownBlock = none ∨ rv.ownBlock ≠ some g := hap (.slice (some ⟨g, 0, none⟩) h.cs.length c) (by simp)
  have far3 : ∀ {v : Value} {xs : List Int}, OwnI w base v xs → (v.ownBlock = none ∨ v.ownBlock ≠ some g) → OwnI (((w.setCell ⟨g, k * 3, none⟩ (.bool cl.u)).setCell ⟨g, k * 3 + 1, none⟩ (.int .i64 cl.d)).setCell ⟨g, k * 3 + 2, none⟩ rv) base v xs := fun ho hn => ((ho.far (put_any _ g _ _) hn).far (put_any _ g _ _) hn).far (put_any _ g _ _) hn
  refine ⟨by simp [S.len], ?_, fun j c' v hc' hvj => ?_, far3 S.roots (ap vr (by simp)), ?_⟩
  · have q := (((World.ownsRow.stored S.row (k * 3) (.bool cl.u)).1.stored (k * 3 + 1) (.int .i64 cl.d)).1.stored (k * 3 + 2) rv).1
    rw [flatC_set_u _ _ _ _ _ S.len hc] at q
    have hc1 : (h.cs.set k ⟨cl.u, old.d, old.r⟩)[k]? = some ⟨cl.u, old.d, old.r⟩ := by simp [hk]
    rw [flatC_set_d _ _ _ _ _ (by simp [S.len]) hc1] at q
    have hc2 : ((h.cs.set k ⟨cl.u, old.d, old.r⟩).set k ⟨cl.u, cl.d, old.r⟩)[k]? = some ⟨cl.u, cl.d, old.r⟩ := by simp [hk]
    rw [flatC_set_r _ _ _ _ _ cl.r (by simp [S.len]) hc2] at q
    simpa using q
  · rw [List.getElem?_set] at hc' hvj
    by_cases hj : k = j
    · subst hj
      rw [if_pos rfl, if_pos hk] at hc'
      rw [if_pos rfl, if_pos (by rw [S.len]; exact hk)] at hvj
      injection hc' with hc'
      injection hvj with hvj
      subst hc' hvj
      exact far3 o hrg
    · rw [if_neg hj] at hc' hvj
      exact far3 (S.refs j c' v hc' hvj) (ap v (by simp [List.mem_of_getElem? hvj]))
  · have hs := S.sep
    unfold Sep at hs ⊢
    rw [List.pairwise_cons, List.pairwise_cons] at hs ⊢
    refine ⟨fun v hv => ?_, fun v hv => ?_, ?_⟩
    · rcases List.mem_cons.1 hv with rfl | hv
      · exact hs.1 v (by simp)
      · rcases List.mem_or_eq_of_mem_set hv with hv | rfl
        · exact hs.1 v (by simp [hv])
        · exact sep_back (hap _ (by simp))
    · rcases List.mem_or_eq_of_mem_set hv with hv | rfl
      · exact hs.2.1 v hv
      · exact sep_back (hap _ (by simp))
    · rw [List.pairwise_iff_getElem]
      intro i j hi hj hij
      rw [List.length_set] at hi hj
      have hp := List.pairwise_iff_getElem.1 hs.2.2 i j hi hj hij
      rw [List.getElem_set, List.getElem_set]
      by_cases e1 : k = i
      · rw [if_pos e1, if_neg (by omega)]
        exact hap _ (by simp)
      · rw [if_neg e1]
        by_cases e2 : k = j
        · rw [if_pos e2]
          exact sep_back (hap _ (by simp))
        · rw [if_neg e2]
          exact hp
end Go.Proofs.YthmddmddcdofaaaDoor

namespace Go.Proofs.YthmddmddcdofaaaDoor
open Go.RowKit
set_option maxRecDepth 100000
set_option maxHeartbeats 1000000 in
theorem l8Place_any (A R : Option Addr) (n c m d : Nat) (h : Hp) (i p : Int) (w : World) (hs : HS w w.heap.size A n R m h) (_hn : n ≤ 1099511627776) (ho : Hps.okRef h.cs i = true) :
    Calls Tryd.prog 128 #[heapV A n c R m d, .int .i64 i, .int .i64 p] w fun e w' => e = .returned (.bool (Hps.placeH h.cs i p)) ∧ Below w.heap.size w w' := by
  have hlc := hs.cells.1
  have bb : Below w.heap.size w (w.alloc (.cells #[.slice A n c, .slice R m d] 26)) := (Below.refl _ _).alloc (Nat.le_refl _) _
  by_cases h0 : 0 ≤ i
  · obtain ⟨y, rfl, hy, _⟩ := Hps.okRef_nat ho h0
    obtain ⟨g, o, cl, A', m', cc, rfl, hg, hcl, d1, d2, d3, hmc, hi⟩ := (hs.cells.below bb).at_ (k := y) (by omega)
    have hyn : (y : Int) < n := by omega
    have HP := Lib.hid (show Hps.placeH h.cs (y : Int) p = decide (p < (m' : Int)) by
      simp [Hps.placeH, hcl, hi.1])
    clear ho hcl hy d1 d2 hi
    go_enter Tryd.func128, Tryd.ntmps128
    go_wp2_with fail
    go_ret
    exact ⟨by rw [HP.out]; rfl, bb⟩
  · have HP := Lib.hid (show Hps.placeH h.cs i p = false by rw [Hps.placeH, decide_eq_false h0]; rfl)
    have h0' : decide ((0 : Int) ≤ i) = false := decide_eq_false h0
    go_enter Tryd.func128, Tryd.ntmps128
    go_wp2_with fail
    go_ret
    exact ⟨by rw [HP.out]; rfl, bb⟩
namespace Hps
theorem canH_no {h : Hp} {o : Cm} (e : validH h = false ∨ okCm o = false) : canH h o = false := by
  unfold canH
  rcases e with e | e <;> simp [e]
theorem canH_get {h : Hp} {o : Cm} (h1 : validH h = true) (h2 : okCm o = true) (e : o.op = 2) : canH h o = placeH h.cs (rootAt h o.b) o.c := by
  simp [canH, h1, h2, e]
theorem canH_set {h : Hp} {o : Cm} (h1 : validH h = true) (h2 : okCm o = true) (e : o.op = 3) : canH h o = placeH h.cs (rootAt h o.a) o.c := by
  simp [canH, h1, h2, e]
theorem canH_data {h : Hp} {o : Cm} (h1 : validH h = true) (h2 : okCm o = true) (e : o.op = 6) : canH h o = decide (0 ≤ rootAt h o.a) := by
  simp [canH, h1, h2, e]
theorem canH_else {h : Hp} {o : Cm} (h1 : validH h = true) (h2 : okCm o = true) (e2 : ¬ o.op = 2) (e3 : ¬ o.op = 3) (e6 : ¬ o.op = 6) : canH h o = true := by
  simp [canH, h1, h2, e2, e3, e6]
theorem rootAt_nat {h : Hp} {k : Nat} {x : Int} (hx : h.rt[k]? = some x) : rootAt h (k : Int) = x := by simp [rootAt, hx]
end Hps
set_option maxHeartbeats 2000000 in
theorem mCommandPossible_any (A R : Option Addr) (n c m d : Nat) (h : Hp) (o : Cm) (w : World) (hs : HS w w.heap.size A n R m h) (hn : n ≤ 1099511627776) (hm : m ≤ 1099511627776) :
    Calls Tryd.prog 87 #[heapV A n c R m d, cmV o] w fun e w' => e = .returned (.bool (Hps.canH h o)) ∧ Below w.heap.size w w' := by
  have b2 : Below w.heap.size w ((w.alloc (.cells #[.slice A n c, .slice R m d] 26)).alloc (.cells #[.int .i64 o.op, .int .i64 o.a, .int .i64 o.b, .int .i64 o.c] 49)) := ((Below.refl w.heap.size w).alloc (Nat.le_refl _) _).alloc (by simp) _
  have s2 := hs.up b2
  have q1 := (Rw.new w 26 #[.slice A n c, .slice R m d]).alloc (.cells #[.int .i64 o.op, .int .i64 o.a, .int .i64 o.b, .int .i64 o.c] 49)
  have q2 := Rw.new (w.alloc (.cells #[.slice A n c, .slice R m d] 26)) 49 #[.int .i64 o.op, .int .i64 o.a, .int .i64 o.b, .int .i64 o.c]
  rw [World.size_alloc] at q2
  go_enter Tryd.func87, Tryd.ntmps87
  go_wp2_with fail
  refine (mHeapValid_any _ _ _ _ _ _ h _ s2 hn hm).mono ?_
  cases hv : Hps.validH h
  · have R0 := Lib.hid (Hps.canH_no (o := o) (.inl hv))
    rintro e w1 ⟨rfl, b1⟩
    have bb := b2.trans (b1.mono b2.size)
    go_wp2_with fail
    go_ret
    exact ⟨by rw [R0.out]; rfl, bb⟩
  rintro e w1 ⟨rfl, b1⟩
  replace q1 := q1.keep b1 q1.lt
  replace q2 := q2.keep b1 q2.lt
  replace b2 := b2.trans (b1.mono b2.size)
  replace s2 := hs.up b2
  have z0 : w1.cell? ⟨w.heap.size + 1, 0, none⟩ = some (.int .i64 o.op) := q2.cell 0
  have z1 : w1.cell? ⟨w.heap.size + 1, 1, none⟩ = some (.int .i64 o.a) := q2.cell 1
  have z2 : w1.cell? ⟨w.heap.size + 1, 2, none⟩ = some (.int .i64 o.b) := q2.cell 2
  have z3 : w1.cell? ⟨w.heap.size + 1, 3, none⟩ = some (.int .i64 o.c) := q2.cell 3
  clear b1
  go_wp2_with fail
  refine (mCommandValid_any o _).mono ?_
  cases ho : Hps.okCm o
  · have R0 := Lib.hid (Hps.canH_no (h := h) (.inr ho))
    rintro e w3 ⟨rfl, b1⟩
    have bb := b2.trans (b1.mono b2.size)
    go_wp2_with fail
    go_ret
    exact ⟨by rw [R0.out]; rfl, bb⟩
  rintro e w3 ⟨rfl, b1⟩
  replace q1 := q1.keep b1 q1.lt
  replace q2 := q2.keep b1 q2.lt
  replace b2 := b2.trans (b1.mono b2.size)
  replace s2 := hs.up b2
  have x0 : w3.cell? ⟨w.heap.size, 0, none⟩ = some (.slice A n c) := q1.cell 0
  have x1 : w3.cell? ⟨w.heap.size, 1, none⟩ = some (.slice R m d) := q1.cell 1
  have y0 : w3.cell? ⟨w.heap.size + 1, 0, none⟩ = some (.int .i64 o.op) := q2.cell 0
  have y1 : w3.cell? ⟨w.heap.size + 1, 1, none⟩ = some (.int .i64 o.a) := q2.cell 1
  have y2 : w3.cell? ⟨w.heap.size + 1, 2, none⟩ = some (.int .i64 o.b) := q2.cell 2
  have y3 : w3.cell? ⟨w.heap.size + 1, 3, none⟩ = some (.int .i64 o.c) := q2.cell 3
  have hr4 := (Hps.valid_iff.1 hv).2.2.1
  have hm4 : m = 4 := by rw [← hs.roots.1]; exact hr4
  clear b1 q1 q2 hr4 z0 z1 z2 z3
  by_cases e2 : o.op = 2
  · have R0 := Lib.hid (Hps.canH_get hv ho e2)
    obtain ⟨_, ⟨hb1, hb2⟩, _⟩ := (Hps.okCm_get (.inl e2)).1 ho
    obtain ⟨b, hbn⟩ := Int.eq_ofNat_of_zero_le hb1
    obtain ⟨g, og, x, e1, hg, hx, d1⟩ := s2.roots.at_ (k := b) (by omega)
    have HRt := Lib.hid (Hps.rootAt_nat hx)
    have ok := Hps.valid_root hv hx
    have hb4 : (b : Int) < m := by omega
    subst e1
    have BB := Lib.hid b2
    rw [e2] at y0
    rw [hbn] at y2
    clear hx e2 hb1 hb2 ho hv hm4 b2 y1
    go_wp2_with fail
    go_still_tail 9, (by kernel_rfl)
    change wpList _ _ _ _ _ w3.drew
    have b4 := BB.out.drew
    have s4 := hs.up b4
    generalize w3.drew = w4 at b4 s4
    go_wp2_with fail
    refine (l8Place_any _ _ _ _ _ _ h _ _ _ s4 hn ok).mono ?_
    rintro e w5 ⟨rfl, b5⟩
    have b6 := b4.trans (b5.mono b4.size)
    go_wp2_with fail
    go_ret
    exact ⟨by rw [R0.out, hbn, HRt.out]; rfl, b6⟩
  by_cases e3 : o.op = 3
  · have R0 := Lib.hid (Hps.canH_set hv ho e3)
    obtain ⟨hb1, hb2⟩ := Hps.okCm_a ho
    obtain ⟨b, hbn⟩ := Int.eq_ofNat_of_zero_le hb1
    obtain ⟨g, og, x, e1, hg, hx, d1⟩ := s2.roots.at_ (k := b) (by omega)
    have HRt := Lib.hid (Hps.rootAt_nat hx)
    have ok := Hps.valid_root hv hx
    have hb4 : (b : Int) < m := by omega
    subst e1
    have BB := Lib.hid b2
    rw [e3] at y0
    rw [hbn] at y1
    clear hx e2 e3 hb1 hb2 ho hv hm4 b2 y2
    go_wp2_with fail
    go_still_tail 9, (by kernel_rfl)
    change wpList _ _ _ _ _ w3.drew
    have b4 := BB.out.drew
    have s4 := hs.up b4
    generalize w3.drew = w4 at b4 s4
    go_wp2_with fail
    refine (l8Place_any _ _ _ _ _ _ h _ _ _ s4 hn ok).mono ?_
    rintro e w5 ⟨rfl, b5⟩
    have b6 := b4.trans (b5.mono b4.size)
    go_wp2_with fail
    go_ret
    exact ⟨by rw [R0.out, hbn, HRt.out]; rfl, b6⟩
  by_cases e6 : o.op = 6
  · have R0 := Lib.hid (Hps.canH_data hv ho e6)
    obtain ⟨hb1, hb2⟩ := Hps.okCm_a ho
    obtain ⟨b, hbn⟩ := Int.eq_ofNat_of_zero_le hb1
    obtain ⟨g, og, x, e1, hg, hx, d1⟩ := s2.roots.at_ (k := b) (by omega)
    have HRt := Lib.hid (Hps.rootAt_nat hx)
    have hb4 : (b : Int) < m := by omega
    subst e1
    rw [e6] at y0
    rw [hbn] at y1
    clear hx e2 e3 e6 hb1 hb2 ho hv hm4 y2 y3
    go_wp2_with fail
    go_ret
    exact ⟨by rw [R0.out, hbn, HRt.out]; rfl, b2⟩
  have R0 := Lib.hid (Hps.canH_else hv ho e2 e3 e6)
  clear ho hv hm4 y1 y2 y3 x0 x1
  go_wp2_with fail
  go_ret
  exact ⟨by rw [R0.out]; rfl, b2⟩
end Go.Proofs.YthmddmddcdofaaaDoor

namespace Go.Proofs.YthmddmddcdofaaaDoor
open Go.RowKit
theorem wpList_appendC {w : World} {ops : Array Oper} {rest : List Oper} {o : Oper} {a : Act} {Q : Exit → Act → World → Prop} (hgd : o.guard = none) (s x : Operand)
    (ho : o.op = .call { callee := .builtin .append, args := #[s, x], argTypes := #[23, 23] })
    (base : Nat) (v : Value) (n : Nat) (vs : List Value) (hs : a.eval s = v) (hown : w.ownsRow base 40 3 v n vs) (gs : Nat) (u : Bool) (d : Int) (A8 : Option Addr) (m8 c8 : Nat) (hx : a.eval x = .slice (some ⟨gs, 0, none⟩) 1 1)
    (hr : Rw w gs 40 #[.bool u, .int .i64 d, .slice A8 m8 c8]) (hn : n + 1 ≤ 1099511627776) (hbase : base ≤ w.heap.size)
    (h : ∀ v' w' A9 c9, v' = .slice A9 (n + 1) c9 → w'.ownsRow base 40 3 v' (n + 1) (vs ++ [.bool u, .int .i64 d, .slice A8 m8 c8]) → w.grownBy w' v.ownBlock → (v'.ownBlock = v.ownBlock ∨ v'.ownBlock = some w.heap.size) → wpList Tryd.prog ops Q rest (a.put o.dst v') w') : wpList Tryd.prog ops Q (o :: rest) a w :=
  wpList_plain hgd fun _ hK => app_stepC hgd s x ho base v n vs hs hown gs u d A8 m8 c8 hx hr hn hbase fun v' w' A9 c9 e1 e2 e3 e4 => hK _ _ (h v' w' A9 c9 e1 e2 e3 e4)
theorem OwnI.cell_at {w : World} {base g c n j : Nat} {xs : List Int} (h : OwnI w base (.slice (some ⟨g, 0, none⟩) n c) xs) (hj : j < n) : ∃ x : Int, xs[j]? = some x ∧ w.cell? ⟨g, j, none⟩ = some (.int .i64 x) := by
  obtain ⟨g', o', x, e, _, hx, hc⟩ := h.reads.at_ hj
  injection e with e
  injection e with e1 e2
  subst e1 e2
  rw [Nat.zero_add] at hc
  exact ⟨x, hx, hc⟩
/-- a cell of a heap of the call's own, in memory -/
theorem OwnHx.cell_at {w : World} {base n c k : Nat} {A : Option Addr} {vr : Value} {rvs : List Value} {h : Hp} {cl : Cl} (S : OwnHx w base (.slice A n c) vr rvs h) (hc : h.cs[k]? = some cl) :
    ∃ (g : Nat) (v : Value), A = some ⟨g, 0, none⟩ ∧ base ≤ g ∧ g < w.heap.size ∧ rvs[k]? = some v ∧ OwnI w base v cl.r ∧ w.cell? ⟨g, k * 3, none⟩ = some (.bool cl.u) ∧ w.cell? ⟨g, k * 3 + 1, none⟩ = some (.int .i64 cl.d) ∧ w.cell? ⟨g, k * 3 + 2, none⟩ = some v ∧ ∀ i, w.frozen? ⟨g, i, none⟩ = false := by
  have hk : k < h.cs.length := (List.getElem?_eq_some_iff.1 hc).1
  obtain ⟨v, hv, hi⟩ := S.ref hc
  obtain ⟨f1, f2, f3⟩ := flatC_at _ _ _ _ _ hc hv
  obtain ⟨A', c', R', d', e1, _, _, _, fA, _⟩ := S.form
  injection e1 with e1 e2 e3
  subst e1 e2 e3
  obtain ⟨g, rfl, h1, h2⟩ := fA (by omega)
  exact ⟨g, v, rfl, h1, h2, hv, hi, (World.ownsRow.cellAt S.row _ (by omega)).trans f1, (World.ownsRow.cellAt S.row _ (by omega)).trans f2, (World.ownsRow.cellAt S.row _ (by omega)).trans f3, fun i => World.ownsRow.frozenAt S.row i⟩
/-- a cell is put behind the last one -/
theorem OwnHx.snoc {w w1 : World} {base : Nat} {vc vr v9 v8 : Value} {rvs : List Value} {h : Hp} {cl : Cl} (S : OwnHx w base vc vr rvs h) (hG : w.grownBy w1 vc.ownBlock)
    (o9 : w1.ownsRow base 40 3 v9 (h.cs.length + 1) (flatC h.cs rvs ++ [.bool cl.u, .int .i64 cl.d, v8])) (q : v9.ownBlock = vc.ownBlock ∨ v9.ownBlock = some w.heap.size)
    (o8 : OwnI w base v8 cl.r) (hap : ∀ v ∈ vc :: vr :: rvs, v8.ownBlock = none ∨ v8.ownBlock ≠ v.ownBlock) : OwnHx w1 base v9 vr (rvs ++ [v8]) ⟨h.cs ++ [cl], h.rt⟩ := by
  have hsp := S.sep
  unfold Sep at hsp
  simp only [List.pairwise_cons, List.mem_cons] at hsp
  obtain ⟨sp1, sp2, sp3⟩ := hsp
  have h8lt : ∀ kk, v8.ownBlock = some kk → kk < w.heap.size := fun kk hk => (World.ownsRow.lt o8 kk hk).2
  have hvr : ∀ kk, vr.ownBlock = some kk → kk < w.heap.size := fun kk hk => (S.blocks (by simp) hk).2
  have hrv : ∀ v ∈ rvs, ∀ kk, v.ownBlock = some kk → kk < w.heap.size := fun v hv kk hk => (S.blocks (by simp [hv]) hk).2
  have h9old : ∀ v : Value, (vc.ownBlock = none ∨ vc.ownBlock ≠ v.ownBlock) → (∀ kk, v.ownBlock = some kk → kk < w.heap.size) → v9.ownBlock = none ∨ v9.ownBlock ≠ v.ownBlock := fun v hv hlt' => by
    rcases q with e | e
    · rw [e]; exact hv
    · right
      rw [e]
      intro e'
      have := hlt' _ e'.symm
      omega
  refine ⟨by simp [S.len], ?_, ?_, S.roots.far hG (sep_back (sp1 vr (.inl rfl))), ?_⟩
  · have e : flatC (h.cs ++ [cl]) (rvs ++ [v8]) = flatC h.cs rvs ++ [.bool cl.u, .int .i64 cl.d, v8] := by
      rw [flatC_append _ _ _ _ S.len]
      simp [flatC]
    rw [e, List.length_append, List.length_singleton]
    exact o9
  · intro j c' v hc' hv
    simp only at hc'
    rcases Nat.lt_or_ge j h.cs.length with hj | hj
    · rw [List.getElem?_append_left hj] at hc'
      rw [List.getElem?_append_left (by rw [S.len]; exact hj)] at hv
      exact (S.refs j c' v hc' hv).far hG (sep_back (sp1 v (.inr (List.mem_of_getElem? hv))))
    · rw [List.getElem?_append_right hj] at hc'
      rw [List.getElem?_append_right (by rw [S.len]; exact hj), S.len] at hv
      have hjk : j - h.cs.length = 0 := by
        rcases Nat.eq_zero_or_pos (j - h.cs.length) with e | e
        · exact e
        · rw [List.getElem?_eq_none (by simp; omega)] at hv; cases hv
      rw [hjk] at hc' hv
      simp at hc' hv
      subst hc' hv
      exact o8.far hG (hap vc (by simp))
  · unfold Sep
    simp only [List.pairwise_cons, List.mem_cons, List.mem_append, List.pairwise_append, List.not_mem_nil, or_false]
    refine ⟨fun v hv => ?_, fun v hv => ?_, sp3, ⟨by simp, List.Pairwise.nil⟩, fun a ha v hv => ?_⟩
    · rcases hv with rfl | hv | rfl
      · exact h9old v (sp1 v (.inl rfl)) hvr
      · exact h9old v (sp1 v (.inr hv)) (hrv v hv)
      · exact h9old v (sep_back (hap vc (by simp))) h8lt
    · rcases hv with hv | rfl
      · exact sp2 v hv
      · exact sep_back (hap vr (by simp))
    · subst hv
      exact sep_back (hap a (by simp [ha]))
/-- the copy in the box b, and the boxes of the arguments and of the result -/
structure DoSt (w wr : World) (b : Nat) (hb cb rb : Array Value) (vc vr : Value) (rvs : List Value) (h : Hp) : Prop where
  own : OwnHx wr (w.heap.size + 3) vc vr rvs h
  apart : Apart (some b) (vc :: vr :: rvs)
  box : Rw wr b 26 #[vc, vr]
  arg : Rw wr w.heap.size 26 hb
  cmd : Rw wr (w.heap.size + 1) 49 cb
  res : Rw wr (w.heap.size + 2) 26 rb
  bel : Below w.heap.size w wr
  lo : w.heap.size + 3 ≤ b
section
variable {w wr w1 : World} {b g c d i k : Nat} {hb cb rb : Array Value} {vc vr : Value} {rvs : List Value} {h : Hp} {cl : Cl}
theorem DoSt.drew (S : DoSt w wr b hb cb rb vc vr rvs h) : DoSt w wr.drew b hb cb rb vc vr rvs h := by
  have hw : Below wr.heap.size wr wr.drew := (Below.refl _ _).drew
  exact ⟨S.own.below hw (Nat.le_refl _), S.apart, S.box.keep hw S.box.lt, S.arg.keep hw S.arg.lt, S.cmd.keep hw S.cmd.lt, S.res.keep hw S.res.lt, S.bel.drew, S.lo⟩
theorem DoSt.up (S : DoSt w wr b hb cb rb vc vr rvs h) (hw : Below wr.heap.size wr w1) : DoSt w w1 b hb cb rb vc vr rvs h :=
  ⟨S.own.below hw (Nat.le_refl _), S.apart, S.box.keep hw S.box.lt, S.arg.keep hw S.arg.lt, S.cmd.keep hw S.cmd.lt, S.res.keep hw S.res.lt, S.bel.trans (hw.mono S.bel.size), S.lo⟩
/-- into a block of the copy's own something is written -/
theorem DoSt.into (S : DoSt w wr b hb cb rb vc vr rvs h) {v : Value} (hv : v ∈ vc :: vr :: rvs) (hg : v.ownBlock = some g) {rvs' : List Value} {h' : Hp} (u : Value)
    (ho : OwnHx (wr.setCell ⟨g, i, none⟩ u) (w.heap.size + 3) vc vr rvs' h') (ha : ∀ v ∈ rvs', v.ownBlock = none ∨ v.ownBlock ≠ some b) : DoSt w (wr.setCell ⟨g, i, none⟩ u) b hb cb rb vc vr rvs' h' := by
  have h1 := S.own.blocks hv hg
  have h2 : b ≠ g := by
    rcases S.apart v hv with e | e
    · rw [hg] at e; cases e
    · intro e'; rw [hg] at e; exact e (by rw [e'])
  refine ⟨ho, ?_, S.box.other h2 u, S.arg.other (by omega) u, S.cmd.other (by omega) u, S.res.other (by omega) u, S.bel.setCell (p := ⟨g, i, none⟩) (by show w.heap.size ≤ g; omega) u, S.lo⟩
  intro x hx
  simp only [List.mem_cons] at hx
  rcases hx with rfl | rfl | hx
  · exact S.apart x (by simp)
  · exact S.apart x (by simp)
  · exact ha x hx
theorem DoSt.root {m : Nat} (S : DoSt w wr b hb cb rb vc (.slice (some ⟨g, 0, none⟩) m d) rvs h) (hm : h.rt.length = m) (x : Int) : DoSt w (wr.setCell ⟨g, i, none⟩ (.int .i64 x)) b hb cb rb vc (.slice (some ⟨g, 0, none⟩) m d) rvs ⟨h.cs, h.rt.set i x⟩ := by
  subst hm
  exact S.into (v := .slice (some ⟨g, 0, none⟩) h.rt.length d) (by simp) rfl _ (S.own.root x) fun v hv => S.apart v (by simp [hv])
theorem DoSt.data {n : Nat} (S : DoSt w wr b hb cb rb (.slice (some ⟨g, 0, none⟩) n d) vr rvs h) (hn : h.cs.length = n) (hc : h.cs[k]? = some cl) (x : Int) : DoSt w (wr.setCell ⟨g, k * 3 + 1, none⟩ (.int .i64 x)) b hb cb rb (.slice (some ⟨g, 0, none⟩) n d) vr rvs ⟨h.cs.set k ⟨cl.u, x, cl.r⟩, h.rt⟩ := by
  subst hn
  exact S.into (v := .slice (some ⟨g, 0, none⟩) h.cs.length d) (by simp) rfl _ (S.own.data hc x) fun v hv => S.apart v (by simp [hv])
theorem DoSt.ref1 {m : Nat} (S : DoSt w wr b hb cb rb vc vr rvs h) (hc : h.cs[k]? = some cl) (hv : rvs[k]? = some (.slice (some ⟨g, 0, none⟩) m d)) (hm : cl.r.length = m) (x : Int) : DoSt w (wr.setCell ⟨g, i, none⟩ (.int .i64 x)) b hb cb rb vc vr rvs ⟨h.cs.set k ⟨cl.u, cl.d, cl.r.set i x⟩, h.rt⟩ := by
  subst hm
  exact S.into (v := .slice (some ⟨g, 0, none⟩) cl.r.length d) (by simp [List.mem_of_getElem? hv]) rfl _ (S.own.ref1 hc hv x) fun v hv => S.apart v (by simp [hv])
/-- a cell is put behind the last one, and the box holds the new slice -/
theorem DoSt.snoc {v9 v8 : Value} (S : DoSt w wr b hb cb rb vc vr rvs h) (hG : wr.grownBy w1 vc.ownBlock)
    (o9 : w1.ownsRow (w.heap.size + 3) 40 3 v9 (h.cs.length + 1) (flatC h.cs rvs ++ [.bool cl.u, .int .i64 cl.d, v8])) (q : v9.ownBlock = vc.ownBlock ∨ v9.ownBlock = some wr.heap.size)
    (o8 : OwnI wr (w.heap.size + 3) v8 cl.r) (hap : ∀ v ∈ vc :: vr :: rvs, v8.ownBlock = none ∨ v8.ownBlock ≠ v.ownBlock) (h8b : v8.ownBlock ≠ some b) :
    DoSt w (w1.setCell ⟨b, 0, none⟩ v9) b hb cb rb v9 vr (rvs ++ [v8]) ⟨h.cs ++ [cl], h.rt⟩ := by
  have hn := S.own.snoc hG o9 q o8 hap
  have hlo := S.lo
  have hbl := S.box.lt
  have hvcb : some b ≠ vc.ownBlock := by
    rcases S.apart vc (by simp) with e | e
    · rw [e]; simp
    · exact fun h => e h.symm
  have ap : Apart (some b) (v9 :: vr :: (rvs ++ [v8])) := by
    intro v hv
    simp only [List.mem_cons, List.mem_append, List.not_mem_nil, or_false] at hv
    rcases hv with rfl | rfl | hv | rfl
    · right
      rcases q with e | e
      · rw [e]; exact fun h => hvcb h.symm
      · rw [e]; intro e'; injection e' with e'; omega
    · exact S.apart v (by simp)
    · exact S.apart v (by simp [hv])
    · exact .inr h8b
  have far : ∀ {g' : Nat} {t : TypeId} {cs : Array Value}, Rw wr g' t cs → g' < w.heap.size + 3 → Rw (w1.setCell ⟨b, 0, none⟩ v9) g' t cs := fun hr hl =>
    Rw.other (Rw.far hr hG (fun e => by have := (S.own.blocks (v := vc) (by simp) e.symm).1; omega)) (by omega) _
  refine ⟨hn.far (put_any w1 b 0 v9) ap, ap, (Rw.far S.box hG hvcb).put 0 v9, far S.arg (by omega), far S.cmd (by omega), far S.res (by omega), ?_, hlo⟩
  exact (S.bel.grown hG S.bel.size (fun kk hk => by have := (S.own.blocks (v := vc) (by simp) hk).1; omega)).setCell (p := ⟨b, 0, none⟩) (by show w.heap.size ≤ b; omega) _
/-- a whole cell is written -/
theorem DoSt.cell {rv : Value} {old : Cl} (S : DoSt w wr b hb cb rb (.slice (some ⟨g, 0, none⟩) h.cs.length c) vr rvs h) (hc : h.cs[k]? = some old) (o : OwnI wr (w.heap.size + 3) rv cl.r) (hap : ∀ v ∈ (Value.slice (some ⟨g, 0, none⟩) h.cs.length c) :: vr :: rvs, rv.ownBlock = none ∨ rv.ownBlock ≠ v.ownBlock) (h8b : rv.ownBlock = none ∨ rv.ownBlock ≠ some b) :
    DoSt w (((wr.setCell ⟨g, k * 3, none⟩ (.bool cl.u)).setCell ⟨g, k * 3 + 1, none⟩ (.int .i64 cl.d)).setCell ⟨g, k * 3 + 2, none⟩ rv) b hb cb rb (.slice (some ⟨g, 0, none⟩) h.cs.length c) vr (rvs.set k rv) ⟨h.cs.set k cl, h.rt⟩ := by
  have hm : (Value.slice (some ⟨g, 0, none⟩) h.cs.length c) ∈ (Value.slice (some ⟨g, 0, none⟩) h.cs.length c) :: vr :: rvs := by simp
  have h1 : w.heap.size + 3 ≤ g ∧ g < wr.heap.size := S.own.blocks hm rfl
  have h2 : b ≠ g := by
    rcases S.apart _ hm with e | e
    · cases e
    · intro e'; exact e (by rw [e']; rfl)
  have oth : ∀ {g' : Nat} {t : TypeId} {cs : Array Value}, Rw wr g' t cs → g' ≠ g → Rw (((wr.setCell ⟨g, k * 3, none⟩ (.bool cl.u)).setCell ⟨g, k * 3 + 1, none⟩ (.int .i64 cl.d)).setCell ⟨g, k * 3 + 2, none⟩ rv) g' t cs := fun hr hne => ((hr.other hne _).other hne _).other hne _
  refine ⟨S.own.cell hc o hap, ?_, oth S.box h2, oth S.arg (by omega), oth S.cmd (by omega), oth S.res (by omega), ?_, S.lo⟩
  · intro x hx
    simp only [List.mem_cons] at hx
    rcases hx with rfl | rfl | hx
    · exact S.apart _ (by simp)
    · exact S.apart x (by simp)
    · rcases List.mem_or_eq_of_mem_set hx with hx | rfl
      · exact S.apart x (by simp [hx])
      · exact h8b
  · exact ((S.bel.setCell (p := ⟨g, k * 3, none⟩) (by show w.heap.size ≤ g; omega) _).setCell (p := ⟨g, k * 3 + 1, none⟩) (by show w.heap.size ≤ g; omega) _).setCell (p := ⟨g, k * 3 + 2, none⟩) (by show w.heap.size ≤ g; omega) _
theorem DoSt.cellN {n : Nat} {rv : Value} {old : Cl} (S : DoSt w wr b hb cb rb (.slice (some ⟨g, 0, none⟩) n c) vr rvs h) (hn : h.cs.length = n) (hc : h.cs[k]? = some old) (o : OwnI wr (w.heap.size + 3) rv cl.r) (hap : ∀ v ∈ (Value.slice (some ⟨g, 0, none⟩) n c) :: vr :: rvs, rv.ownBlock = none ∨ rv.ownBlock ≠ v.ownBlock) (h8b : rv.ownBlock = none ∨ rv.ownBlock ≠ some b) :
    DoSt w (((wr.setCell ⟨g, k * 3, none⟩ (.bool cl.u)).setCell ⟨g, k * 3 + 1, none⟩ (.int .i64 cl.d)).setCell ⟨g, k * 3 + 2, none⟩ rv) b hb cb rb (.slice (some ⟨g, 0, none⟩) n c) vr (rvs.set k rv) ⟨h.cs.set k cl, h.rt⟩ := by
  subst hn
  exact S.cell hc o hap h8b
/-- the copy goes into the result's box -/
theorem DoSt.done (S : DoSt w wr b hb cb rb vc vr rvs h) : OwnH ((wr.setCell ⟨w.heap.size + 2, 0, none⟩ vc).setCell ⟨w.heap.size + 2, 1, none⟩ vr) w.heap.size vc vr h ∧ Below w.heap.size w ((wr.setCell ⟨w.heap.size + 2, 0, none⟩ vc).setCell ⟨w.heap.size + 2, 1, none⟩ vr) := by
  have ap : Apart (some (w.heap.size + 2)) (vc :: vr :: rvs) := S.own.apart_below (by omega)
  exact ⟨⟨rvs, ((S.own.far (put_any wr _ 0 vc) ap).far (put_any _ _ 1 vr) ap).base (by omega)⟩, (S.bel.setCell (p := ⟨w.heap.size + 2, 0, none⟩) (by simp) vc).setCell (p := ⟨w.heap.size + 2, 1, none⟩) (by simp) vr⟩
end
end Go.Proofs.YthmddmddcdofaaaDoor

namespace Go.Proofs.YthmddmddcdofaaaDoor
open Go.RowKit
set_option maxRecDepth 100000
theorem own_noneC (w : World) (base : Nat) (hb : base ≤ w.heap.size) : (w.alloc (.cells #[] 40)).ownsRow base 40 3 (.slice (some ⟨w.heap.size, 0, none⟩) 0 0) 0 [] :=
  World.ownsRow_lit (base := base) (e := 40) (size := 3) w #[] 0 hb (by unfold maxLen; omega) rfl
theorem wpList_appendCs {w : World} {ops : Array Oper} {rest : List Oper} {o : Oper} {a : Act} {Q : Exit → Act → World → Prop} (hgd : o.guard = none) (s x : Operand)
    (ho : o.op = .call { callee := .builtin .append, args := #[s, x], argTypes := #[23, 23] })
    (base : Nat) (v : Value) (n : Nat) (vs : List Value) (hs : a.eval s = v) (hown : w.ownsRow base 40 3 v n vs) (A : Option Addr) (m c : Nat) (ys : List Value) (hx : a.eval x = .slice A m c) (hl : ys.length = m * 3)
    (hA : 0 < m → ∃ ad, A = some ad ∧ ∀ j u, ys[j]? = some u → w.cell? (ad.add j) = some u) (h1 : ∀ u ∈ ys, u.oneCell' = true) (hn : n + m ≤ 1099511627776) (hbase : base ≤ w.heap.size)
    (h : ∀ v' w', w'.ownsRow base 40 3 v' (n + m) (vs ++ ys) → w.grownBy w' v.ownBlock → (v'.ownBlock = v.ownBlock ∨ v'.ownBlock = some w.heap.size) → wpList Tryd.prog ops Q rest (a.put o.dst v') w') : wpList Tryd.prog ops Q (o :: rest) a w :=
  wpList_plain hgd fun _ hK => app_stepCs hgd s x ho base v n vs hs hown A m c ys hx hl hA h1 hn hbase fun v' w' e1 e2 e3 => hK _ _ (h v' w' e1 e2 e3)
/-- cells, copied whole -/
theorem cloneC_any (A : Option Addr) (n c : Nat) (cs : List Cl) (rvs : List Value) (w : World) (hl : cs.length = n) (hr : RefsAt w w.heap.size cs rvs)
    (hA : 0 < n → ∃ g o, A = some ⟨g, o, none⟩ ∧ g < w.heap.size ∧ ∀ (j : Nat) (u : Value), (flatC cs rvs)[j]? = some u → w.cell? ⟨g, o + j, none⟩ = some u) (hn : n ≤ 1099511627776) :
    Calls Tryd.prog 131 #[.slice A n c] w fun e w' => ∃ v, e = .returned v ∧ w'.ownsRow w.heap.size 40 3 v n (flatC cs rvs) ∧ Below w.heap.size w w' := by
  have q : ∀ (w : World) (a : Option Addr) (n c n' c' : Nat), (binOp .eql 23 (.slice a n c) (.slice none n' c')).run Tryd.prog w = .ok (.bool a.isNone) w := fun w a n c n' c' => Lib.run_eql_slice_nil w _ _ a n c n' c' Tryd.underlying23
  have hfl := flatC_length _ _ hr.1
  rw [hl] at hfl
  cases A with
  | none =>
    have h0 : n = 0 := by
      rcases Nat.eq_zero_or_pos n with h0 | h0
      · exact h0
      · obtain ⟨g, o, e, _⟩ := hA h0
        cases e
    subst h0
    have hnil : flatC cs rvs = [] := List.eq_nil_of_length_eq_zero (by omega)
    rw [hnil]
    clear hfl hA hr
    go_enter Tryd.func131, Tryd.ntmps131
    go_wp2
    go_ret
    exact ⟨_, rfl, World.ownsRow_nil _ _ _ _, Below.refl _ _⟩
  | some a =>
    have o0 := own_noneC w w.heap.size (Nat.le_refl _)
    have bl0 : Below w.heap.size w (w.alloc (.cells #[] 40)) := (Below.refl _ _).alloc (Nat.le_refl _) _
    have hone := hr.one
    obtain ⟨ys, hys⟩ : ∃ ys, flatC cs rvs = ys := ⟨_, rfl⟩
    rw [hys] at hA hfl hone ⊢
    have hA2 : 0 < n → ∃ ad, some a = some ad ∧ ∀ (j : Nat) (u : Value), ys[j]? = some u → (w.alloc (.cells #[] 40)).cell? (ad.add j) = some u := fun h0 => by
      obtain ⟨g, o, e, hg, hc⟩ := hA h0
      refine ⟨a, rfl, fun j u hu => ?_⟩
      rw [Option.some.inj e, add_lit]
      exact (bl0.cell (p := ⟨g, o + j, none⟩) hg).trans (hc j u hu)
    clear hr hA hys hl
    go_enter Tryd.func131, Tryd.ntmps131
    go_wp2_with (at_builtin; refine wpList_appendCs rfl (.tmp 5) (.tmp 6) rfl w.heap.size _ 0 [] rfl o0 (some a) n c ys rfl hfl hA2 hone (by omega) (by simp) ?_; intro v1 w1 o1 g1 s1)
    go_ret
    refine ⟨_, rfl, ?_, bl0.grown g1 (by simp) (fun k hk => (World.ownsRow.lt o0 k hk).1)⟩
    simpa using o1
/-- a copy of which the first k cells have references of their own; the others share theirs still -/
structure MidH (w : World) (base : Nat) (vc vr : Value) (ovs rvs : List Value) (k : Nat) (h : Hp) : Prop where
  len : ovs.length = k
  le : k ≤ h.cs.length
  all : rvs.length = h.cs.length
  row : w.ownsRow base 40 3 vc h.cs.length (flatC h.cs (ovs ++ rvs.drop k))
  refs : ∀ (j : Nat) (c : Cl) (v : Value), h.cs[j]? = some c → ovs[j]? = some v → OwnI w base v c.r
  roots : OwnI w base vr h.rt
  sep : Sep (vc :: vr :: ovs)
section
variable {w w' : World} {base k : Nat} {vc vr v : Value} {ovs rvs : List Value} {h : Hp}
theorem MidH.below (S : MidH w base vc vr ovs rvs k h) {B : Nat} (hb : Below B w w') (hB : w.heap.size ≤ B) : MidH w' base vc vr ovs rvs k h :=
  ⟨S.len, S.le, S.all, row_below S.row hb hB, fun j c v hc hv => (S.refs j c v hc hv).below hb hB, S.roots.below hb hB, S.sep⟩
theorem MidH.blocks (S : MidH w base vc vr ovs rvs k h) {v : Value} (hv : v ∈ vc :: vr :: ovs) {b : Nat} (hb : v.ownBlock = some b) : base ≤ b ∧ b < w.heap.size := by
  simp only [List.mem_cons] at hv
  rcases hv with rfl | rfl | hv
  · exact World.ownsRow.lt S.row b hb
  · exact World.ownsRow.lt S.roots b hb
  · obtain ⟨i, hi⟩ := List.mem_iff_getElem?.1 hv
    have hlt := (List.getElem?_eq_some_iff.1 hi).1
    have hc := List.getElem?_eq_getElem (show i < h.cs.length by have := S.len; have := S.le; omega)
    exact World.ownsRow.lt (S.refs i _ v hc hi) b hb
/-- what lies in no block of the copy's is apart from it -/
theorem MidH.apart_new (S : MidH w base vc vr ovs rvs k h) {b : Nat} (hb : w.heap.size ≤ b) : Apart (some b) (vc :: vr :: ovs) := fun v hv => by
  cases e : v.ownBlock with
  | none => exact .inl rfl
  | some q =>
    right
    have := (S.blocks hv e).2
    intro he
    have he := Option.some.inj he
    omega
theorem MidH.far (S : MidH w base vc vr ovs rvs k h) {row : Option Nat} (hg : w.grownBy w' row) (ha : Apart row (vc :: vr :: ovs)) : MidH w' base vc vr ovs rvs k h :=
  ⟨S.len, S.le, S.all, World.ownsRow.kept S.row hg (ha vc (by simp)), fun j c v hc hv => (S.refs j c v hc hv).far hg (ha v (by simp [List.mem_of_getElem? hv])), S.roots.far hg (ha vr (by simp)), S.sep⟩
theorem MidH.base' (S : MidH w base vc vr ovs rvs k h) {b : Nat} (hb : b ≤ base) : MidH w b vc vr ovs rvs k h :=
  ⟨S.len, S.le, S.all, row_base S.row hb, fun j c v hc hv => (S.refs j c v hc hv).base hb, S.roots.base hb, S.sep⟩
/-- the next cell gets references of its own -/
theorem MidH.next {g n c : Nat} {cl : Cl} (S : MidH w base (.slice (some ⟨g, 0, none⟩) n c) vr ovs rvs k h) (hn : h.cs.length = n) (hc : h.cs[k]? = some cl) (o : OwnI w base v cl.r)
    (hap : ∀ u ∈ (Value.slice (some ⟨g, 0, none⟩) n c) :: vr :: ovs, v.ownBlock = none ∨ v.ownBlock ≠ u.ownBlock) : MidH (w.setCell ⟨g, k * 3 + 2, none⟩ v) base (.slice (some ⟨g, 0, none⟩) n c) vr (ovs ++ [v]) rvs (k + 1) h := by
  have hk : k < h.cs.length := (List.getElem?_eq_some_iff.1 hc).1
  have hsp := S.sep
  unfold Sep at hsp
  rw [List.pairwise_cons, List.pairwise_cons] at hsp
  have ap : ∀ u ∈ vr :: ovs, u.ownBlock = none ∨ u.ownBlock ≠ some g := fun u hu => sep_back (hsp.1 u hu)
  have hvg : v.ownBlock = none ∨ v.ownBlock ≠ some g := hap (.slice (some ⟨g, 0, none⟩) n c) (by simp)
  refine ⟨by simp [S.len], by omega, S.all, ?_, fun j c' u hc' hu => ?_, S.roots.far (put_any w g _ _) (ap vr (by simp)), ?_⟩
  · have hrow : w.ownsRow base 40 3 (.slice (some ⟨g, 0, none⟩) h.cs.length c) h.cs.length (flatC h.cs (ovs ++ rvs.drop k)) := by
      have := S.row
      rwa [hn] at this ⊢
    have q := (World.ownsRow.stored hrow (k * 3 + 2) v).1
    rw [flatC_set_r _ _ _ _ _ cl.r (by simp [S.len, S.all]; omega) hc] at q
    have e1 : h.cs.set k ⟨cl.u, cl.d, cl.r⟩ = h.cs := by
      obtain ⟨h1, h2⟩ := List.getElem?_eq_some_iff.1 hc
      show h.cs.set k cl = h.cs
      rw [← h2]
      exact List.set_getElem_self h1
    have e2 : (ovs ++ rvs.drop k).set k v = (ovs ++ [v]) ++ rvs.drop (k + 1) := by
      rw [List.set_append_right _ _ (by rw [S.len]; exact Nat.le_refl _), S.len, Nat.sub_self, List.append_assoc]
      congr 1
      rw [List.drop_eq_getElem_cons (by rw [S.all]; exact hk)]
      rfl
    rw [e1, e2] at q
    rw [hn] at q ⊢
    exact q
  · rcases Nat.lt_or_ge j k with hj | hj
    · rw [List.getElem?_append_left (by rw [S.len]; exact hj)] at hu
      exact (S.refs j c' u hc' hu).far (put_any w g _ _) (ap u (by simp [List.mem_of_getElem? hu]))
    · have hjk : j = k := by
        have := (List.getElem?_eq_some_iff.1 hu).1
        simp [S.len] at this
        omega
      subst hjk
      rw [hc] at hc'
      rw [List.getElem?_append_right (by rw [S.len]; exact Nat.le_refl _), S.len, Nat.sub_self] at hu
      have hu : v = u := by simpa using hu
      rw [← hu, ← Option.some.inj hc']
      exact o.far (put_any w g _ _) hvg
  · unfold Sep
    rw [List.pairwise_cons, List.pairwise_cons]
    refine ⟨fun u hu => ?_, fun u hu => ?_, ?_⟩
    · rw [List.mem_cons, List.mem_append, List.mem_singleton] at hu
      rcases hu with rfl | hu | rfl
      · exact hsp.1 u (by simp)
      · exact hsp.1 u (by simp [hu])
      · exact sep_back (hap _ (by simp))
    · rw [List.mem_append, List.mem_singleton] at hu
      rcases hu with hu | rfl
      · exact hsp.2.1 u hu
      · exact sep_back (hap _ (by simp))
    · rw [List.pairwise_append]
      refine ⟨hsp.2.2, List.pairwise_singleton _ _, fun a ha b hb => ?_⟩
      rw [List.mem_singleton] at hb
      subst hb
      exact sep_back (hap a (by simp [ha]))
theorem MidH.done (S : MidH w base vc vr ovs rvs k h) (hk : k = h.cs.length) : OwnHx w base vc vr ovs h := by
  refine ⟨by rw [S.len, hk], ?_, S.refs, S.roots, S.sep⟩
  have := S.row
  rwa [hk, List.drop_of_length_le (by rw [S.all]; exact Nat.le_refl _), List.append_nil] at this
theorem MidH.form (S : MidH w base vc vr ovs rvs k h) : ∃ A c R d, vc = .slice A h.cs.length c ∧ vr = .slice R h.rt.length d ∧ h.cs.length ≤ c ∧ (0 < h.cs.length → ∃ g, A = some ⟨g, 0, none⟩ ∧ base ≤ g ∧ g < w.heap.size) := by
  obtain ⟨R, d, rfl, hR⟩ := S.roots.form
  rcases S.row.2 with ⟨e, h0⟩ | ⟨g, cap, cur, e, hb, hh, hc, _⟩
  · exact ⟨none, 0, R, d, by rw [e, h0], rfl, by omega, fun h => by omega⟩
  · exact ⟨some ⟨g, 0, none⟩, cap, R, d, e, rfl, hc, fun _ => ⟨g, rfl, hb, (Array.getElem?_eq_some_iff.1 hh).1⟩⟩
/-- the references that the next cell still shares -/
theorem MidH.ref {g n c : Nat} {cl : Cl} {B : Nat} (S : MidH w base (.slice (some ⟨g, 0, none⟩) n c) vr ovs rvs k h) (hn : h.cs.length = n) (hc : h.cs[k]? = some cl) (hr : RefsAt w B h.cs rvs) :
    ∃ A m cc, w.cell? ⟨g, k * 3 + 2, none⟩ = some (.slice A m cc) ∧ m ≤ cc ∧ IS w B A m cl.r ∧ ∀ i, w.frozen? ⟨g, i, none⟩ = false := by
  have hk : k < h.cs.length := (List.getElem?_eq_some_iff.1 hc).1
  have hv := List.getElem?_eq_getElem (show k < rvs.length by rw [S.all]; exact hk)
  obtain ⟨A, m, cc, e, hm, hi⟩ := hr.2 k cl _ hc hv
  have hv2 : (ovs ++ rvs.drop k)[k]? = some (.slice A m cc) := by
    rw [List.getElem?_append_right (by rw [S.len]; exact Nat.le_refl _), S.len, Nat.sub_self, List.getElem?_drop, Nat.add_zero, hv, e]
  obtain ⟨_, _, f3⟩ := flatC_at _ _ _ _ _ hc hv2
  have hrow : w.ownsRow base 40 3 (.slice (some ⟨g, 0, none⟩) h.cs.length c) h.cs.length (flatC h.cs (ovs ++ rvs.drop k)) := by
    have := S.row
    rwa [hn] at this ⊢
  exact ⟨A, m, cc, (World.ownsRow.cellAt hrow _ (by omega)).trans f3, hm, hi, fun i => World.ownsRow.frozenAt hrow i⟩
end
end Go.Proofs.YthmddmddcdofaaaDoor

namespace Go.Proofs.YthmddmddcdofaaaDoor
open Go.RowKit
set_option maxRecDepth 100000
namespace Hps
theorem canH_parts {h : Hp} {o : Cm} (hc : canH h o = true) : validH h = true ∧ okCm o = true := by
  unfold canH at hc
  rw [Bool.and_eq_true, Bool.and_eq_true] at hc
  exact hc.1
end Hps
set_option maxHeartbeats 4000000 in
theorem l8Do_drop (A R : Option Addr) (n c m d : Nat) (h : Hp) (a : Nat) (ob : Int) (oc : Int) (p : Nat) (w : World) (hs : HS w w.heap.size A n R m h) (hv : Hps.validH h = true) (ha : a < 4) :
    Calls Tryd.prog 90 #[heapV A n c R m d, cmV ⟨5, a, ob, oc⟩, .int .i64 p] w (GaveH w (Hps.doH h ⟨5, a, ob, oc⟩ p)) := by
  have hlc := hs.cells.1
  have hlr := hs.roots.1
  have h40 := (Hps.valid_iff.1 hv).2.1
  obtain rfl : m = 4 := by rw [← hlr]; exact (Hps.valid_iff.1 hv).2.2.1
  have HL := Lib.hid hlr
  have h3 : ∀ cl ∈ h.cs, cl.r.length ≤ 1000000 := fun cl hcl => by have := (Hps.okCell_iff.1 ((Hps.valid_iff.1 hv).1 cl hcl)).2.2.1; omega
  have b3 : Below w.heap.size w (((w.alloc (.cells #[.slice A n c, .slice R 4 d] 26)).alloc (.cells #[.int .i64 5, .int .i64 a, .int .i64 ob, .int .i64 oc] 49)).alloc (.cells #[.slice none 0 0, .slice none 0 0] 26)) := (((Below.refl w.heap.size w).alloc (Nat.le_refl _) _).alloc (by simp) _).alloc (by simp; omega) _
  have s3 := hs.up b3
  have q0 := ((Rw.new w 26 #[.slice A n c, .slice R 4 d]).alloc (.cells #[.int .i64 5, .int .i64 a, .int .i64 ob, .int .i64 oc] 49)).alloc (.cells #[.slice none 0 0, .slice none 0 0] 26)
  have q1 := (Rw.new (w.alloc (.cells #[.slice A n c, .slice R 4 d] 26)) 49 #[.int .i64 5, .int .i64 a, .int .i64 ob, .int .i64 oc]).alloc (.cells #[.slice none 0 0, .slice none 0 0] 26)
  have q2 := Rw.new ((w.alloc (.cells #[.slice A n c, .slice R 4 d] 26)).alloc (.cells #[.int .i64 5, .int .i64 a, .int .i64 ob, .int .i64 oc] 49)) 26 #[.slice none 0 0, .slice none 0 0]
  simp only [World.size_alloc, Nat.add_assoc, Nat.reduceAdd] at q1 q2
  clear hlr
  go_enter Tryd.func90, Tryd.ntmps90
  go_wp2_with fail
  refine (l7Copy_any _ _ _ _ _ _ h _ s3 (by omega) (by omega) h3).mono ?_
  rintro e w1 ⟨vc, vr, rfl, ⟨rvs, own⟩, b1⟩
  replace q0 := q0.keep b1 q0.lt
  replace q1 := q1.keep b1 q1.lt
  replace q2 := q2.keep b1 q2.lt
  replace b3 := b3.trans (b1.mono b3.size)
  simp only [World.size_alloc, Nat.add_assoc, Nat.reduceAdd] at own b1
  have hsz : w.heap.size + 3 ≤ w1.heap.size := by have := b1.size; simp at this; omega
  obtain ⟨Ac, cc, Rc, dc, rfl, rfl, hcc, hdc, fA, fR⟩ := own.form
  rw [hlc] at own fA hcc ⊢
  rw [HL.out] at own fR hdc ⊢
  obtain ⟨gr, rfl, hgr1, hgr2⟩ := fR (by omega)
  have S : DoSt w (w1.alloc (.cells #[.slice Ac n cc, .slice (some ⟨gr, 0, none⟩) 4 dc] 26)) w1.heap.size #[.slice A n c, .slice R 4 d] #[.int .i64 5, .int .i64 a, .int .i64 ob, .int .i64 oc] #[.slice none 0 0, .slice none 0 0] (.slice Ac n cc) (.slice (some ⟨gr, 0, none⟩) 4 dc) rvs h :=
    ⟨own.below ((Below.refl w1.heap.size w1).alloc (Nat.le_refl _) _) (Nat.le_refl _), own.apart_new (Nat.le_refl _), Rw.new w1 _ _, q0.alloc _, q1.alloc _, q2.alloc _, b3.alloc b3.size _, hsz⟩
  clear b1 s3 h3 fR own q0 q1 q2 b3
  go_upto_region 2 with fail
  generalize w1.alloc (.cells #[.slice Ac n cc, .slice (some ⟨gr, 0, none⟩) 4 dc] 26) = w2 at S ⊢
  have hb := S.lo
  generalize w1.heap.size = b at S hb hgr2 fA ⊢
  clear hsz w1
  have y0 : w2.cell? ⟨w.heap.size + 1, 0, none⟩ = some (.int .i64 5) := S.cmd.cell 0
  have y1 : w2.cell? ⟨w.heap.size + 1, 1, none⟩ = some (.int .i64 a) := S.cmd.cell 1
  have y2 : w2.cell? ⟨w.heap.size + 1, 2, none⟩ = some (.int .i64 ob) := S.cmd.cell 2
  have y3 : w2.cell? ⟨w.heap.size + 1, 3, none⟩ = some (.int .i64 oc) := S.cmd.cell 3
  have x0 : w2.cell? ⟨b, 0, none⟩ = some (.slice Ac n cc) := S.box.cell 0
  have x1 : w2.cell? ⟨b, 1, none⟩ = some (.slice (some ⟨gr, 0, none⟩) 4 dc) := S.box.cell 1
  have hva := Hps.valid_iff.1 hv
  obtain ⟨xo, hxo, cr⟩ := S.own.roots.cell_at (j := a) (by omega)
  have fz : w2.frozen? ⟨gr, a, none⟩ = false := S.own.roots.frozen HL.out a
  have ham : (a : Int) < 4 := by omega
  have S1 := S.root (i := a) HL.out (-1)
  have r0 : (w2.setCell ⟨gr, a, none⟩ (.int .i64 (-1))).cell? ⟨b, 0, none⟩ = some (.slice Ac n cc) := S1.box.cell 0
  have r1 : (w2.setCell ⟨gr, a, none⟩ (.int .i64 (-1))).cell? ⟨b, 1, none⟩ = some (.slice (some ⟨gr, 0, none⟩) 4 dc) := S1.box.cell 1
  have r2 : (w2.setCell ⟨gr, a, none⟩ (.int .i64 (-1))).frozen? ⟨w.heap.size + 1 + 1, 0, none⟩ = false := S1.res.frozen 0
  have r3 : (w2.setCell ⟨gr, a, none⟩ (.int .i64 (-1))).frozen? ⟨w.heap.size + 1 + 1, 1, none⟩ = false := S1.res.frozen 1
  have r4 : (w2.setCell ⟨gr, a, none⟩ (.int .i64 (-1))).cell? ⟨w.heap.size + 1 + 1, 0, none⟩ = some (.slice none 0 0) := S1.res.cell 0
  have r5 : (w2.setCell ⟨gr, a, none⟩ (.int .i64 (-1))).cell? ⟨w.heap.size + 1 + 1, 1, none⟩ = some (.slice none 0 0) := S1.res.cell 1
  have r6 : (((w2.setCell ⟨gr, a, none⟩ (.int .i64 (-1))).setCell ⟨w.heap.size + 1 + 1, 0, none⟩ (.slice Ac n cc)).setCell ⟨w.heap.size + 1 + 1, 1, none⟩ (.slice (some ⟨gr, 0, none⟩) 4 dc)).cell? ⟨w.heap.size + 1 + 1, 0, none⟩ = some (.slice Ac n cc) := ((S1.res.put 0 (.slice Ac n cc)).put 1 (.slice (some ⟨gr, 0, none⟩) 4 dc)).cell 0
  have r7 : (((w2.setCell ⟨gr, a, none⟩ (.int .i64 (-1))).setCell ⟨w.heap.size + 1 + 1, 0, none⟩ (.slice Ac n cc)).setCell ⟨w.heap.size + 1 + 1, 1, none⟩ (.slice (some ⟨gr, 0, none⟩) 4 dc)).cell? ⟨w.heap.size + 1 + 1, 1, none⟩ = some (.slice (some ⟨gr, 0, none⟩) 4 dc) := ((S1.res.put 0 (.slice Ac n cc)).put 1 (.slice (some ⟨gr, 0, none⟩) 4 dc)).cell 1
  have D : Hid (OwnH (((w2.setCell ⟨gr, a, none⟩ (.int .i64 (-1))).setCell ⟨w.heap.size + 1 + 1, 0, none⟩ (.slice Ac n cc)).setCell ⟨w.heap.size + 1 + 1, 1, none⟩ (.slice (some ⟨gr, 0, none⟩) 4 dc)) w.heap.size (.slice Ac n cc) (.slice (some ⟨gr, 0, none⟩) 4 dc) _ ∧ Below w.heap.size w (((w2.setCell ⟨gr, a, none⟩ (.int .i64 (-1))).setCell ⟨w.heap.size + 1 + 1, 0, none⟩ (.slice Ac n cc)).setCell ⟨w.heap.size + 1 + 1, 1, none⟩ (.slice (some ⟨gr, 0, none⟩) 4 dc))) := Lib.hid S1.done
  have HF := Lib.hid (show Hps.doH h ⟨5, a, ob, oc⟩ p = ⟨h.cs, h.rt.set a (-1)⟩ by simp [Hps.doH])
  clear S1
  clear S hva hxo
  go_wp2_with fail
  exact bodyPost_ret (v := .agg #[.slice Ac n cc, .slice (some ⟨gr, 0, none⟩) 4 dc]) (by simp [results, Tryd.results90, go_sem, *]) rfl ⟨_, _, rfl, by rw [HF.out]; exact D.out.1, D.out.2⟩
set_option maxHeartbeats 4000000 in
theorem l8Do_copy (A R : Option Addr) (n c m d : Nat) (h : Hp) (a : Nat) (ob : Nat) (oc : Int) (p : Nat) (w : World) (hs : HS w w.heap.size A n R m h) (hv : Hps.validH h = true) (ha : a < 4) (hb4 : ob < 4) :
    Calls Tryd.prog 90 #[heapV A n c R m d, cmV ⟨4, a, ob, oc⟩, .int .i64 p] w (GaveH w (Hps.doH h ⟨4, a, ob, oc⟩ p)) := by
  have hlc := hs.cells.1
  have hlr := hs.roots.1
  have h40 := (Hps.valid_iff.1 hv).2.1
  obtain rfl : m = 4 := by rw [← hlr]; exact (Hps.valid_iff.1 hv).2.2.1
  have HL := Lib.hid hlr
  have h3 : ∀ cl ∈ h.cs, cl.r.length ≤ 1000000 := fun cl hcl => by have := (Hps.okCell_iff.1 ((Hps.valid_iff.1 hv).1 cl hcl)).2.2.1; omega
  have b3 : Below w.heap.size w (((w.alloc (.cells #[.slice A n c, .slice R 4 d] 26)).alloc (.cells #[.int .i64 4, .int .i64 a, .int .i64 ob, .int .i64 oc] 49)).alloc (.cells #[.slice none 0 0, .slice none 0 0] 26)) := (((Below.refl w.heap.size w).alloc (Nat.le_refl _) _).alloc (by simp) _).alloc (by simp; omega) _
  have s3 := hs.up b3
  have q0 := ((Rw.new w 26 #[.slice A n c, .slice R 4 d]).alloc (.cells #[.int .i64 4, .int .i64 a, .int .i64 ob, .int .i64 oc] 49)).alloc (.cells #[.slice none 0 0, .slice none 0 0] 26)
  have q1 := (Rw.new (w.alloc (.cells #[.slice A n c, .slice R 4 d] 26)) 49 #[.int .i64 4, .int .i64 a, .int .i64 ob, .int .i64 oc]).alloc (.cells #[.slice none 0 0, .slice none 0 0] 26)
  have q2 := Rw.new ((w.alloc (.cells #[.slice A n c, .slice R 4 d] 26)).alloc (.cells #[.int .i64 4, .int .i64 a, .int .i64 ob, .int .i64 oc] 49)) 26 #[.slice none 0 0, .slice none 0 0]
  simp only [World.size_alloc, Nat.add_assoc, Nat.reduceAdd] at q1 q2
  clear hlr
  go_enter Tryd.func90, Tryd.ntmps90
  go_wp2_with fail
  refine (l7Copy_any _ _ _ _ _ _ h _ s3 (by omega) (by omega) h3).mono ?_
  rintro e w1 ⟨vc, vr, rfl, ⟨rvs, own⟩, b1⟩
  replace q0 := q0.keep b1 q0.lt
  replace q1 := q1.keep b1 q1.lt
  replace q2 := q2.keep b1 q2.lt
  replace b3 := b3.trans (b1.mono b3.size)
  simp only [World.size_alloc, Nat.add_assoc, Nat.reduceAdd] at own b1
  have hsz : w.heap.size + 3 ≤ w1.heap.size := by have := b1.size; simp at this; omega
  obtain ⟨Ac, cc, Rc, dc, rfl, rfl, hcc, hdc, fA, fR⟩ := own.form
  rw [hlc] at own fA hcc ⊢
  rw [HL.out] at own fR hdc ⊢
  obtain ⟨gr, rfl, hgr1, hgr2⟩ := fR (by omega)
  have S : DoSt w (w1.alloc (.cells #[.slice Ac n cc, .slice (some ⟨gr, 0, none⟩) 4 dc] 26)) w1.heap.size #[.slice A n c, .slice R 4 d] #[.int .i64 4, .int .i64 a, .int .i64 ob, .int .i64 oc] #[.slice none 0 0, .slice none 0 0] (.slice Ac n cc) (.slice (some ⟨gr, 0, none⟩) 4 dc) rvs h :=
    ⟨own.below ((Below.refl w1.heap.size w1).alloc (Nat.le_refl _) _) (Nat.le_refl _), own.apart_new (Nat.le_refl _), Rw.new w1 _ _, q0.alloc _, q1.alloc _, q2.alloc _, b3.alloc b3.size _, hsz⟩
  clear b1 s3 h3 fR own q0 q1 q2 b3
  go_upto_region 2 with fail
  generalize w1.alloc (.cells #[.slice Ac n cc, .slice (some ⟨gr, 0, none⟩) 4 dc] 26) = w2 at S ⊢
  have hb := S.lo
  generalize w1.heap.size = b at S hb hgr2 fA ⊢
  clear hsz w1
  have y0 : w2.cell? ⟨w.heap.size + 1, 0, none⟩ = some (.int .i64 4) := S.cmd.cell 0
  have y1 : w2.cell? ⟨w.heap.size + 1, 1, none⟩ = some (.int .i64 a) := S.cmd.cell 1
  have y2 : w2.cell? ⟨w.heap.size + 1, 2, none⟩ = some (.int .i64 ob) := S.cmd.cell 2
  have y3 : w2.cell? ⟨w.heap.size + 1, 3, none⟩ = some (.int .i64 oc) := S.cmd.cell 3
  have x0 : w2.cell? ⟨b, 0, none⟩ = some (.slice Ac n cc) := S.box.cell 0
  have x1 : w2.cell? ⟨b, 1, none⟩ = some (.slice (some ⟨gr, 0, none⟩) 4 dc) := S.box.cell 1
  have hva := Hps.valid_iff.1 hv
  have ham : (a : Int) < 4 := by omega
  have AR := hs.up S.bel
  have u0 : w2.cell? ⟨w.heap.size, 0, none⟩ = some (.slice A n c) := S.arg.cell 0
  have u1 : w2.cell? ⟨w.heap.size, 1, none⟩ = some (.slice R 4 d) := S.arg.cell 1
  obtain ⟨g2, o2, x, e1, hg2, hx, d1⟩ := AR.roots.at_ (k := ob) (by omega)
  subst e1
  have hbm : (ob : Int) < 4 := by omega
  have HX := Lib.hid hx
  have SS := Lib.hid S
  clear hx S AR hva y3
  go_wp2_with fail
  go_still_tail 10, (by kernel_rfl)
  change wpList _ _ _ _ _ w2.drew
  have S4 := SS.out.drew
  generalize w2.drew = w4 at S4 ⊢
  obtain ⟨xo, hxo, cr⟩ := S4.own.roots.cell_at (j := a) (by omega)
  have fz : w4.frozen? ⟨gr, a, none⟩ = false := S4.own.roots.frozen HL.out a
  have S1 := S4.root (i := a) HL.out x
  have hx := HX.out
  have r0 : (w4.setCell ⟨gr, a, none⟩ (.int .i64 x)).cell? ⟨b, 0, none⟩ = some (.slice Ac n cc) := S1.box.cell 0
  have r1 : (w4.setCell ⟨gr, a, none⟩ (.int .i64 x)).cell? ⟨b, 1, none⟩ = some (.slice (some ⟨gr, 0, none⟩) 4 dc) := S1.box.cell 1
  have r2 : (w4.setCell ⟨gr, a, none⟩ (.int .i64 x)).frozen? ⟨w.heap.size + 1 + 1, 0, none⟩ = false := S1.res.frozen 0
  have r3 : (w4.setCell ⟨gr, a, none⟩ (.int .i64 x)).frozen? ⟨w.heap.size + 1 + 1, 1, none⟩ = false := S1.res.frozen 1
  have r4 : (w4.setCell ⟨gr, a, none⟩ (.int .i64 x)).cell? ⟨w.heap.size + 1 + 1, 0, none⟩ = some (.slice none 0 0) := S1.res.cell 0
  have r5 : (w4.setCell ⟨gr, a, none⟩ (.int .i64 x)).cell? ⟨w.heap.size + 1 + 1, 1, none⟩ = some (.slice none 0 0) := S1.res.cell 1
  have r6 : (((w4.setCell ⟨gr, a, none⟩ (.int .i64 x)).setCell ⟨w.heap.size + 1 + 1, 0, none⟩ (.slice Ac n cc)).setCell ⟨w.heap.size + 1 + 1, 1, none⟩ (.slice (some ⟨gr, 0, none⟩) 4 dc)).cell? ⟨w.heap.size + 1 + 1, 0, none⟩ = some (.slice Ac n cc) := ((S1.res.put 0 (.slice Ac n cc)).put 1 (.slice (some ⟨gr, 0, none⟩) 4 dc)).cell 0
  have r7 : (((w4.setCell ⟨gr, a, none⟩ (.int .i64 x)).setCell ⟨w.heap.size + 1 + 1, 0, none⟩ (.slice Ac n cc)).setCell ⟨w.heap.size + 1 + 1, 1, none⟩ (.slice (some ⟨gr, 0, none⟩) 4 dc)).cell? ⟨w.heap.size + 1 + 1, 1, none⟩ = some (.slice (some ⟨gr, 0, none⟩) 4 dc) := ((S1.res.put 0 (.slice Ac n cc)).put 1 (.slice (some ⟨gr, 0, none⟩) 4 dc)).cell 1
  have D : Hid (OwnH (((w4.setCell ⟨gr, a, none⟩ (.int .i64 x)).setCell ⟨w.heap.size + 1 + 1, 0, none⟩ (.slice Ac n cc)).setCell ⟨w.heap.size + 1 + 1, 1, none⟩ (.slice (some ⟨gr, 0, none⟩) 4 dc)) w.heap.size (.slice Ac n cc) (.slice (some ⟨gr, 0, none⟩) 4 dc) _ ∧ Below w.heap.size w (((w4.setCell ⟨gr, a, none⟩ (.int .i64 x)).setCell ⟨w.heap.size + 1 + 1, 0, none⟩ (.slice Ac n cc)).setCell ⟨w.heap.size + 1 + 1, 1, none⟩ (.slice (some ⟨gr, 0, none⟩) 4 dc))) := Lib.hid S1.done
  have HF := Lib.hid (show Hps.doH h ⟨4, a, ob, oc⟩ p = ⟨h.cs, h.rt.set a x⟩ by simp [Hps.doH, Hps.rootAt, hx])
  clear S1
  clear S4 hxo hx
  go_wp2_with fail
  exact bodyPost_ret (v := .agg #[.slice Ac n cc, .slice (some ⟨gr, 0, none⟩) 4 dc]) (by simp [results, Tryd.results90, go_sem, *]) rfl ⟨_, _, rfl, by rw [HF.out]; exact D.out.1, D.out.2⟩
set_option maxHeartbeats 4000000 in
theorem l8Do_get (A R : Option Addr) (n c m d : Nat) (h : Hp) (a : Nat) (ob : Nat) (oc : Nat) (p : Nat) (w : World) (hs : HS w w.heap.size A n R m h) (hv : Hps.validH h = true) (ha : a < 4) (hb4 : ob < 4) (k : Nat) (cl : Cl) (hk : Hps.rootAt h ob = k) (hcl : h.cs[k]? = some cl) (hoc : oc < cl.r.length) :
    Calls Tryd.prog 90 #[heapV A n c R m d, cmV ⟨2, a, ob, oc⟩, .int .i64 p] w (GaveH w (Hps.doH h ⟨2, a, ob, oc⟩ p)) := by
  have hlc := hs.cells.1
  have hlr := hs.roots.1
  have h40 := (Hps.valid_iff.1 hv).2.1
  obtain rfl : m = 4 := by rw [← hlr]; exact (Hps.valid_iff.1 hv).2.2.1
  have HL := Lib.hid hlr
  have h3 : ∀ cl ∈ h.cs, cl.r.length ≤ 1000000 := fun cl hcl => by have := (Hps.okCell_iff.1 ((Hps.valid_iff.1 hv).1 cl hcl)).2.2.1; omega
  have b3 : Below w.heap.size w (((w.alloc (.cells #[.slice A n c, .slice R 4 d] 26)).alloc (.cells #[.int .i64 2, .int .i64 a, .int .i64 ob, .int .i64 oc] 49)).alloc (.cells #[.slice none 0 0, .slice none 0 0] 26)) := (((Below.refl w.heap.size w).alloc (Nat.le_refl _) _).alloc (by simp) _).alloc (by simp; omega) _
  have s3 := hs.up b3
  have q0 := ((Rw.new w 26 #[.slice A n c, .slice R 4 d]).alloc (.cells #[.int .i64 2, .int .i64 a, .int .i64 ob, .int .i64 oc] 49)).alloc (.cells #[.slice none 0 0, .slice none 0 0] 26)
  have q1 := (Rw.new (w.alloc (.cells #[.slice A n c, .slice R 4 d] 26)) 49 #[.int .i64 2, .int .i64 a, .int .i64 ob, .int .i64 oc]).alloc (.cells #[.slice none 0 0, .slice none 0 0] 26)
  have q2 := Rw.new ((w.alloc (.cells #[.slice A n c, .slice R 4 d] 26)).alloc (.cells #[.int .i64 2, .int .i64 a, .int .i64 ob, .int .i64 oc] 49)) 26 #[.slice none 0 0, .slice none 0 0]
  simp only [World.size_alloc, Nat.add_assoc, Nat.reduceAdd] at q1 q2
  clear hlr
  go_enter Tryd.func90, Tryd.ntmps90
  go_wp2_with fail
  refine (l7Copy_any _ _ _ _ _ _ h _ s3 (by omega) (by omega) h3).mono ?_
  rintro e w1 ⟨vc, vr, rfl, ⟨rvs, own⟩, b1⟩
  replace q0 := q0.keep b1 q0.lt
  replace q1 := q1.keep b1 q1.lt
  replace q2 := q2.keep b1 q2.lt
  replace b3 := b3.trans (b1.mono b3.size)
  simp only [World.size_alloc, Nat.add_assoc, Nat.reduceAdd] at own b1
  have hsz : w.heap.size + 3 ≤ w1.heap.size := by have := b1.size; simp at this; omega
  obtain ⟨Ac, cc, Rc, dc, rfl, rfl, hcc, hdc, fA, fR⟩ := own.form
  rw [hlc] at own fA hcc ⊢
  rw [HL.out] at own fR hdc ⊢
  obtain ⟨gr, rfl, hgr1, hgr2⟩ := fR (by omega)
  have S : DoSt w (w1.alloc (.cells #[.slice Ac n cc, .slice (some ⟨gr, 0, none⟩) 4 dc] 26)) w1.heap.size #[.slice A n c, .slice R 4 d] #[.int .i64 2, .int .i64 a, .int .i64 ob, .int .i64 oc] #[.slice none 0 0, .slice none 0 0] (.slice Ac n cc) (.slice (some ⟨gr, 0, none⟩) 4 dc) rvs h :=
    ⟨own.below ((Below.refl w1.heap.size w1).alloc (Nat.le_refl _) _) (Nat.le_refl _), own.apart_new (Nat.le_refl _), Rw.new w1 _ _, q0.alloc _, q1.alloc _, q2.alloc _, b3.alloc b3.size _, hsz⟩
  clear b1 s3 h3 fR own q0 q1 q2 b3
  go_upto_region 2 with fail
  generalize w1.alloc (.cells #[.slice Ac n cc, .slice (some ⟨gr, 0, none⟩) 4 dc] 26) = w2 at S ⊢
  have hb := S.lo
  generalize w1.heap.size = b at S hb hgr2 fA ⊢
  clear hsz w1
  have y0 : w2.cell? ⟨w.heap.size + 1, 0, none⟩ = some (.int .i64 2) := S.cmd.cell 0
  have y1 : w2.cell? ⟨w.heap.size + 1, 1, none⟩ = some (.int .i64 a) := S.cmd.cell 1
  have y2 : w2.cell? ⟨w.heap.size + 1, 2, none⟩ = some (.int .i64 ob) := S.cmd.cell 2
  have y3 : w2.cell? ⟨w.heap.size + 1, 3, none⟩ = some (.int .i64 oc) := S.cmd.cell 3
  have x0 : w2.cell? ⟨b, 0, none⟩ = some (.slice Ac n cc) := S.box.cell 0
  have x1 : w2.cell? ⟨b, 1, none⟩ = some (.slice (some ⟨gr, 0, none⟩) 4 dc) := S.box.cell 1
  have hva := Hps.valid_iff.1 hv
  have ham : (a : Int) < 4 := by omega
  have AR := hs.up S.bel
  have u0 : w2.cell? ⟨w.heap.size, 0, none⟩ = some (.slice A n c) := S.arg.cell 0
  have u1 : w2.cell? ⟨w.heap.size, 1, none⟩ = some (.slice R 4 d) := S.arg.cell 1
  obtain ⟨g2, o2, x, e1, hg2, hx, d1⟩ := AR.roots.at_ (k := ob) (by omega)
  subst e1
  have hbm : (ob : Int) < 4 := by omega
  have ex : x = (k : Int) := by rw [← hk]; simp [Hps.rootAt, hx]
  subst ex
  have hkl := (List.getElem?_eq_some_iff.1 hcl).1
  obtain ⟨g3, o3, cl', A', m', cc', e3, hg3, hcl', _, _, d2, hmc, hi⟩ := AR.cells.at_ (k := k) (by omega)
  rw [hcl] at hcl'
  injection hcl' with hcl'
  subst hcl' e3
  have hil := hi.1
  obtain ⟨g4, o4, y, e4, hg4, hy, d3⟩ := hi.at_ (k := oc) (by omega)
  subst e4
  have hkn : (k : Int) < n := by omega
  have hom : (oc : Int) < m' := by omega
  have HY := Lib.hid hy
  have HC := Lib.hid hcl
  have HK := Lib.hid hk
  have SS := Lib.hid S
  clear hx S AR hva hy hcl hk hil hi hoc hkl
  go_wp2_with fail
  go_still_tail 19, (by kernel_rfl)
  change wpList _ _ _ _ _ w2.drew
  have S4 := SS.out.drew
  generalize w2.drew = w4 at S4 ⊢
  obtain ⟨xo, hxo, cr⟩ := S4.own.roots.cell_at (j := a) (by omega)
  have fz : w4.frozen? ⟨gr, a, none⟩ = false := S4.own.roots.frozen HL.out a
  have S1 := S4.root (i := a) HL.out y
  have hcl := HC.out
  have hy := HY.out
  have hk := HK.out
  have r0 : (w4.setCell ⟨gr, a, none⟩ (.int .i64 y)).cell? ⟨b, 0, none⟩ = some (.slice Ac n cc) := S1.box.cell 0
  have r1 : (w4.setCell ⟨gr, a, none⟩ (.int .i64 y)).cell? ⟨b, 1, none⟩ = some (.slice (some ⟨gr, 0, none⟩) 4 dc) := S1.box.cell 1
  have r2 : (w4.setCell ⟨gr, a, none⟩ (.int .i64 y)).frozen? ⟨w.heap.size + 1 + 1, 0, none⟩ = false := S1.res.frozen 0
  have r3 : (w4.setCell ⟨gr, a, none⟩ (.int .i64 y)).frozen? ⟨w.heap.size + 1 + 1, 1, none⟩ = false := S1.res.frozen 1
  have r4 : (w4.setCell ⟨gr, a, none⟩ (.int .i64 y)).cell? ⟨w.heap.size + 1 + 1, 0, none⟩ = some (.slice none 0 0) := S1.res.cell 0
  have r5 : (w4.setCell ⟨gr, a, none⟩ (.int .i64 y)).cell? ⟨w.heap.size + 1 + 1, 1, none⟩ = some (.slice none 0 0) := S1.res.cell 1
  have r6 : (((w4.setCell ⟨gr, a, none⟩ (.int .i64 y)).setCell ⟨w.heap.size + 1 + 1, 0, none⟩ (.slice Ac n cc)).setCell ⟨w.heap.size + 1 + 1, 1, none⟩ (.slice (some ⟨gr, 0, none⟩) 4 dc)).cell? ⟨w.heap.size + 1 + 1, 0, none⟩ = some (.slice Ac n cc) := ((S1.res.put 0 (.slice Ac n cc)).put 1 (.slice (some ⟨gr, 0, none⟩) 4 dc)).cell 0
  have r7 : (((w4.setCell ⟨gr, a, none⟩ (.int .i64 y)).setCell ⟨w.heap.size + 1 + 1, 0, none⟩ (.slice Ac n cc)).setCell ⟨w.heap.size + 1 + 1, 1, none⟩ (.slice (some ⟨gr, 0, none⟩) 4 dc)).cell? ⟨w.heap.size + 1 + 1, 1, none⟩ = some (.slice (some ⟨gr, 0, none⟩) 4 dc) := ((S1.res.put 0 (.slice Ac n cc)).put 1 (.slice (some ⟨gr, 0, none⟩) 4 dc)).cell 1
  have D : Hid (OwnH (((w4.setCell ⟨gr, a, none⟩ (.int .i64 y)).setCell ⟨w.heap.size + 1 + 1, 0, none⟩ (.slice Ac n cc)).setCell ⟨w.heap.size + 1 + 1, 1, none⟩ (.slice (some ⟨gr, 0, none⟩) 4 dc)) w.heap.size (.slice Ac n cc) (.slice (some ⟨gr, 0, none⟩) 4 dc) _ ∧ Below w.heap.size w (((w4.setCell ⟨gr, a, none⟩ (.int .i64 y)).setCell ⟨w.heap.size + 1 + 1, 0, none⟩ (.slice Ac n cc)).setCell ⟨w.heap.size + 1 + 1, 1, none⟩ (.slice (some ⟨gr, 0, none⟩) 4 dc))) := Lib.hid S1.done
  have HF := Lib.hid (show Hps.doH h ⟨2, a, ob, oc⟩ p = ⟨h.cs, h.rt.set a y⟩ by simp [Hps.doH, Hps.refAt, hk, hcl, hy])
  clear S1
  clear S4 hxo hy hcl hk
  go_wp2_with fail
  exact bodyPost_ret (v := .agg #[.slice Ac n cc, .slice (some ⟨gr, 0, none⟩) 4 dc]) (by simp [results, Tryd.results90, go_sem, *]) rfl ⟨_, _, rfl, by rw [HF.out]; exact D.out.1, D.out.2⟩
set_option maxHeartbeats 4000000 in
theorem l8Do_set (A R : Option Addr) (n c m d : Nat) (h : Hp) (a : Nat) (ob : Nat) (oc : Nat) (p : Nat) (w : World) (hs : HS w w.heap.size A n R m h) (hv : Hps.validH h = true) (ha : a < 4) (hb4 : ob < 4) (k : Nat) (cl : Cl) (hk : Hps.rootAt h a = k) (hcl : h.cs[k]? = some cl) (hoc : oc < cl.r.length) :
    Calls Tryd.prog 90 #[heapV A n c R m d, cmV ⟨3, a, ob, oc⟩, .int .i64 p] w (GaveH w (Hps.doH h ⟨3, a, ob, oc⟩ p)) := by
  have hlc := hs.cells.1
  have hlr := hs.roots.1
  have h40 := (Hps.valid_iff.1 hv).2.1
  obtain rfl : m = 4 := by rw [← hlr]; exact (Hps.valid_iff.1 hv).2.2.1
  have HL := Lib.hid hlr
  have h3 : ∀ cl ∈ h.cs, cl.r.length ≤ 1000000 := fun cl hcl => by have := (Hps.okCell_iff.1 ((Hps.valid_iff.1 hv).1 cl hcl)).2.2.1; omega
  have b3 : Below w.heap.size w (((w.alloc (.cells #[.slice A n c, .slice R 4 d] 26)).alloc (.cells #[.int .i64 3, .int .i64 a, .int .i64 ob, .int .i64 oc] 49)).alloc (.cells #[.slice none 0 0, .slice none 0 0] 26)) := (((Below.refl w.heap.size w).alloc (Nat.le_refl _) _).alloc (by simp) _).alloc (by simp; omega) _
  have s3 := hs.up b3
  have q0 := ((Rw.new w 26 #[.slice A n c, .slice R 4 d]).alloc (.cells #[.int .i64 3, .int .i64 a, .int .i64 ob, .int .i64 oc] 49)).alloc (.cells #[.slice none 0 0, .slice none 0 0] 26)
  have q1 := (Rw.new (w.alloc (.cells #[.slice A n c, .slice R 4 d] 26)) 49 #[.int .i64 3, .int .i64 a, .int .i64 ob, .int .i64 oc]).alloc (.cells #[.slice none 0 0, .slice none 0 0] 26)
  have q2 := Rw.new ((w.alloc (.cells #[.slice A n c, .slice R 4 d] 26)).alloc (.cells #[.int .i64 3, .int .i64 a, .int .i64 ob, .int .i64 oc] 49)) 26 #[.slice none 0 0, .slice none 0 0]
  simp only [World.size_alloc, Nat.add_assoc, Nat.reduceAdd] at q1 q2
  clear hlr
  go_enter Tryd.func90, Tryd.ntmps90
  go_wp2_with fail
  refine (l7Copy_any _ _ _ _ _ _ h _ s3 (by omega) (by omega) h3).mono ?_
  rintro e w1 ⟨vc, vr, rfl, ⟨rvs, own⟩, b1⟩
  replace q0 := q0.keep b1 q0.lt
  replace q1 := q1.keep b1 q1.lt
  replace q2 := q2.keep b1 q2.lt
  replace b3 := b3.trans (b1.mono b3.size)
  simp only [World.size_alloc, Nat.add_assoc, Nat.reduceAdd] at own b1
  have hsz : w.heap.size + 3 ≤ w1.heap.size := by have := b1.size; simp at this; omega
  obtain ⟨Ac, cc, Rc, dc, rfl, rfl, hcc, hdc, fA, fR⟩ := own.form
  rw [hlc] at own fA hcc ⊢
  rw [HL.out] at own fR hdc ⊢
  obtain ⟨gr, rfl, hgr1, hgr2⟩ := fR (by omega)
  have S : DoSt w (w1.alloc (.cells #[.slice Ac n cc, .slice (some ⟨gr, 0, none⟩) 4 dc] 26)) w1.heap.size #[.slice A n c, .slice R 4 d] #[.int .i64 3, .int .i64 a, .int .i64 ob, .int .i64 oc] #[.slice none 0 0, .slice none 0 0] (.slice Ac n cc) (.slice (some ⟨gr, 0, none⟩) 4 dc) rvs h :=
    ⟨own.below ((Below.refl w1.heap.size w1).alloc (Nat.le_refl _) _) (Nat.le_refl _), own.apart_new (Nat.le_refl _), Rw.new w1 _ _, q0.alloc _, q1.alloc _, q2.alloc _, b3.alloc b3.size _, hsz⟩
  clear b1 s3 h3 fR own q0 q1 q2 b3
  go_upto_region 2 with fail
  generalize w1.alloc (.cells #[.slice Ac n cc, .slice (some ⟨gr, 0, none⟩) 4 dc] 26) = w2 at S ⊢
  have hb := S.lo
  generalize w1.heap.size = b at S hb hgr2 fA ⊢
  clear hsz w1
  have y0 : w2.cell? ⟨w.heap.size + 1, 0, none⟩ = some (.int .i64 3) := S.cmd.cell 0
  have y1 : w2.cell? ⟨w.heap.size + 1, 1, none⟩ = some (.int .i64 a) := S.cmd.cell 1
  have y2 : w2.cell? ⟨w.heap.size + 1, 2, none⟩ = some (.int .i64 ob) := S.cmd.cell 2
  have y3 : w2.cell? ⟨w.heap.size + 1, 3, none⟩ = some (.int .i64 oc) := S.cmd.cell 3
  have x0 : w2.cell? ⟨b, 0, none⟩ = some (.slice Ac n cc) := S.box.cell 0
  have x1 : w2.cell? ⟨b, 1, none⟩ = some (.slice (some ⟨gr, 0, none⟩) 4 dc) := S.box.cell 1
  have hva := Hps.valid_iff.1 hv
  have ham : (a : Int) < 4 := by omega
  have AR := hs.up S.bel
  have u0 : w2.cell? ⟨w.heap.size, 0, none⟩ = some (.slice A n c) := S.arg.cell 0
  have u1 : w2.cell? ⟨w.heap.size, 1, none⟩ = some (.slice R 4 d) := S.arg.cell 1
  obtain ⟨ga, oa, xa, e1, hga, hxa, da⟩ := AR.roots.at_ (k := a) (by omega)
  obtain ⟨g2, o2, x, e2, hg2, hx, d1⟩ := AR.roots.at_ (k := ob) (by omega)
  subst e1
  injection e2 with e2
  injection e2 with e2 e3
  subst e2 e3
  have hbm : (ob : Int) < 4 := by omega
  have ex : xa = (k : Int) := by rw [← hk]; simp [Hps.rootAt, hxa]
  subst ex
  have hkl := (List.getElem?_eq_some_iff.1 hcl).1
  obtain ⟨gc, v, e4, hgc1, hgc2, hrv, hov, _, _, d2, _⟩ := S.own.cell_at hcl
  subst e4
  obtain ⟨Av, cv, rfl, fv⟩ := hov.form
  obtain ⟨gv, rfl, hgv1, hgv2⟩ := fv (by omega)
  obtain ⟨m', hm'⟩ : ∃ m', cl.r.length = m' := ⟨_, rfl⟩
  rw [hm'] at d2 hrv hov
  have hkn : (k : Int) < n := by omega
  have hom : (oc : Int) < m' := by omega
  have HX := Lib.hid hx
  have HC := Lib.hid hcl
  have HK := Lib.hid hk
  have HV := Lib.hid hrv
  have HM := Lib.hid hm'
  have SS := Lib.hid S
  clear hx hxa S AR hva hcl hk hoc hkl hrv hov hm' fv
  go_wp2_with fail
  go_still_tail 19, (by kernel_rfl)
  change wpList _ _ _ _ _ w2.drew
  have S4 := SS.out.drew
  generalize w2.drew = w4 at S4 ⊢
  obtain ⟨_, _, e5, _, _, hv5, hov5, _⟩ := S4.own.cell_at HC.out
  rw [HV.out] at hv5
  injection hv5 with hv5
  subst hv5
  obtain ⟨xo, hxo, cr⟩ := hov5.cell_at (j := oc) (by omega)
  have fz : w4.frozen? ⟨gv, oc, none⟩ = false := hov5.frozen HM.out oc
  have S1 := S4.ref1 (i := oc) HC.out HV.out HM.out x
  have hx := HX.out
  have hcl := HC.out
  have hk := HK.out
  have r0 : (w4.setCell ⟨gv, oc, none⟩ (.int .i64 x)).cell? ⟨b, 0, none⟩ = some (.slice (some ⟨gc, 0, none⟩) n cc) := S1.box.cell 0
  have r1 : (w4.setCell ⟨gv, oc, none⟩ (.int .i64 x)).cell? ⟨b, 1, none⟩ = some (.slice (some ⟨gr, 0, none⟩) 4 dc) := S1.box.cell 1
  have r2 : (w4.setCell ⟨gv, oc, none⟩ (.int .i64 x)).frozen? ⟨w.heap.size + 1 + 1, 0, none⟩ = false := S1.res.frozen 0
  have r3 : (w4.setCell ⟨gv, oc, none⟩ (.int .i64 x)).frozen? ⟨w.heap.size + 1 + 1, 1, none⟩ = false := S1.res.frozen 1
  have r4 : (w4.setCell ⟨gv, oc, none⟩ (.int .i64 x)).cell? ⟨w.heap.size + 1 + 1, 0, none⟩ = some (.slice none 0 0) := S1.res.cell 0
  have r5 : (w4.setCell ⟨gv, oc, none⟩ (.int .i64 x)).cell? ⟨w.heap.size + 1 + 1, 1, none⟩ = some (.slice none 0 0) := S1.res.cell 1
  have r6 : (((w4.setCell ⟨gv, oc, none⟩ (.int .i64 x)).setCell ⟨w.heap.size + 1 + 1, 0, none⟩ (.slice (some ⟨gc, 0, none⟩) n cc)).setCell ⟨w.heap.size + 1 + 1, 1, none⟩ (.slice (some ⟨gr, 0, none⟩) 4 dc)).cell? ⟨w.heap.size + 1 + 1, 0, none⟩ = some (.slice (some ⟨gc, 0, none⟩) n cc) := ((S1.res.put 0 (.slice (some ⟨gc, 0, none⟩) n cc)).put 1 (.slice (some ⟨gr, 0, none⟩) 4 dc)).cell 0
  have r7 : (((w4.setCell ⟨gv, oc, none⟩ (.int .i64 x)).setCell ⟨w.heap.size + 1 + 1, 0, none⟩ (.slice (some ⟨gc, 0, none⟩) n cc)).setCell ⟨w.heap.size + 1 + 1, 1, none⟩ (.slice (some ⟨gr, 0, none⟩) 4 dc)).cell? ⟨w.heap.size + 1 + 1, 1, none⟩ = some (.slice (some ⟨gr, 0, none⟩) 4 dc) := ((S1.res.put 0 (.slice (some ⟨gc, 0, none⟩) n cc)).put 1 (.slice (some ⟨gr, 0, none⟩) 4 dc)).cell 1
  have D : Hid (OwnH (((w4.setCell ⟨gv, oc, none⟩ (.int .i64 x)).setCell ⟨w.heap.size + 1 + 1, 0, none⟩ (.slice (some ⟨gc, 0, none⟩) n cc)).setCell ⟨w.heap.size + 1 + 1, 1, none⟩ (.slice (some ⟨gr, 0, none⟩) 4 dc)) w.heap.size (.slice (some ⟨gc, 0, none⟩) n cc) (.slice (some ⟨gr, 0, none⟩) 4 dc) _ ∧ Below w.heap.size w (((w4.setCell ⟨gv, oc, none⟩ (.int .i64 x)).setCell ⟨w.heap.size + 1 + 1, 0, none⟩ (.slice (some ⟨gc, 0, none⟩) n cc)).setCell ⟨w.heap.size + 1 + 1, 1, none⟩ (.slice (some ⟨gr, 0, none⟩) 4 dc))) := Lib.hid S1.done
  have HF := Lib.hid (show Hps.doH h ⟨3, a, ob, oc⟩ p = ⟨h.cs.set k ⟨cl.u, cl.d, cl.r.set oc x⟩, h.rt⟩ by simp [Hps.doH, Hps.setRef, hk, hcl]; simp [Hps.rootAt, hx])
  clear S1
  clear S4 hxo hx hcl hk e5 hov5
  go_wp2_with fail
  exact bodyPost_ret (v := .agg #[.slice (some ⟨gc, 0, none⟩) n cc, .slice (some ⟨gr, 0, none⟩) 4 dc]) (by simp [results, Tryd.results90, go_sem, *]) rfl ⟨_, _, rfl, by rw [HF.out]; exact D.out.1, D.out.2⟩
set_option maxHeartbeats 4000000 in
theorem l8Do_data (A R : Option Addr) (n c m d : Nat) (h : Hp) (a : Nat) (ob : Int) (oc : Int) (p : Nat) (w : World) (hs : HS w w.heap.size A n R m h) (hv : Hps.validH h = true) (ha : a < 4) (k : Nat) (cl : Cl) (hk : Hps.rootAt h a = k) (hcl : h.cs[k]? = some cl) :
    Calls Tryd.prog 90 #[heapV A n c R m d, cmV ⟨6, a, ob, oc⟩, .int .i64 p] w (GaveH w (Hps.doH h ⟨6, a, ob, oc⟩ p)) := by
  have hlc := hs.cells.1
  have hlr := hs.roots.1
  have h40 := (Hps.valid_iff.1 hv).2.1
  obtain rfl : m = 4 := by rw [← hlr]; exact (Hps.valid_iff.1 hv).2.2.1
  have HL := Lib.hid hlr
  have h3 : ∀ cl ∈ h.cs, cl.r.length ≤ 1000000 := fun cl hcl => by have := (Hps.okCell_iff.1 ((Hps.valid_iff.1 hv).1 cl hcl)).2.2.1; omega
  have b3 : Below w.heap.size w (((w.alloc (.cells #[.slice A n c, .slice R 4 d] 26)).alloc (.cells #[.int .i64 6, .int .i64 a, .int .i64 ob, .int .i64 oc] 49)).alloc (.cells #[.slice none 0 0, .slice none 0 0] 26)) := (((Below.refl w.heap.size w).alloc (Nat.le_refl _) _).alloc (by simp) _).alloc (by simp; omega) _
  have s3 := hs.up b3
  have q0 := ((Rw.new w 26 #[.slice A n c, .slice R 4 d]).alloc (.cells #[.int .i64 6, .int .i64 a, .int .i64 ob, .int .i64 oc] 49)).alloc (.cells #[.slice none 0 0, .slice none 0 0] 26)
  have q1 := (Rw.new (w.alloc (.cells #[.slice A n c, .slice R 4 d] 26)) 49 #[.int .i64 6, .int .i64 a, .int .i64 ob, .int .i64 oc]).alloc (.cells #[.slice none 0 0, .slice none 0 0] 26)
  have q2 := Rw.new ((w.alloc (.cells #[.slice A n c, .slice R 4 d] 26)).alloc (.cells #[.int .i64 6, .int .i64 a, .int .i64 ob, .int .i64 oc] 49)) 26 #[.slice none 0 0, .slice none 0 0]
  simp only [World.size_alloc, Nat.add_assoc, Nat.reduceAdd] at q1 q2
  clear hlr
  go_enter Tryd.func90, Tryd.ntmps90
  go_wp2_with fail
  refine (l7Copy_any _ _ _ _ _ _ h _ s3 (by omega) (by omega) h3).mono ?_
  rintro e w1 ⟨vc, vr, rfl, ⟨rvs, own⟩, b1⟩
  replace q0 := q0.keep b1 q0.lt
  replace q1 := q1.keep b1 q1.lt
  replace q2 := q2.keep b1 q2.lt
  replace b3 := b3.trans (b1.mono b3.size)
  simp only [World.size_alloc, Nat.add_assoc, Nat.reduceAdd] at own b1
  have hsz : w.heap.size + 3 ≤ w1.heap.size := by have := b1.size; simp at this; omega
  obtain ⟨Ac, cc, Rc, dc, rfl, rfl, hcc, hdc, fA, fR⟩ := own.form
  rw [hlc] at own fA hcc ⊢
  rw [HL.out] at own fR hdc ⊢
  obtain ⟨gr, rfl, hgr1, hgr2⟩ := fR (by omega)
  have S : DoSt w (w1.alloc (.cells #[.slice Ac n cc, .slice (some ⟨gr, 0, none⟩) 4 dc] 26)) w1.heap.size #[.slice A n c, .slice R 4 d] #[.int .i64 6, .int .i64 a, .int .i64 ob, .int .i64 oc] #[.slice none 0 0, .slice none 0 0] (.slice Ac n cc) (.slice (some ⟨gr, 0, none⟩) 4 dc) rvs h :=
    ⟨own.below ((Below.refl w1.heap.size w1).alloc (Nat.le_refl _) _) (Nat.le_refl _), own.apart_new (Nat.le_refl _), Rw.new w1 _ _, q0.alloc _, q1.alloc _, q2.alloc _, b3.alloc b3.size _, hsz⟩
  clear b1 s3 h3 fR own q0 q1 q2 b3
  go_upto_region 2 with fail
  generalize w1.alloc (.cells #[.slice Ac n cc, .slice (some ⟨gr, 0, none⟩) 4 dc] 26) = w2 at S ⊢
  have hb := S.lo
  generalize w1.heap.size = b at S hb hgr2 fA ⊢
  clear hsz w1
  have y0 : w2.cell? ⟨w.heap.size + 1, 0, none⟩ = some (.int .i64 6) := S.cmd.cell 0
  have y1 : w2.cell? ⟨w.heap.size + 1, 1, none⟩ = some (.int .i64 a) := S.cmd.cell 1
  have y2 : w2.cell? ⟨w.heap.size + 1, 2, none⟩ = some (.int .i64 ob) := S.cmd.cell 2
  have y3 : w2.cell? ⟨w.heap.size + 1, 3, none⟩ = some (.int .i64 oc) := S.cmd.cell 3
  have x0 : w2.cell? ⟨b, 0, none⟩ = some (.slice Ac n cc) := S.box.cell 0
  have x1 : w2.cell? ⟨b, 1, none⟩ = some (.slice (some ⟨gr, 0, none⟩) 4 dc) := S.box.cell 1
  have hva := Hps.valid_iff.1 hv
  have ham : (a : Int) < 4 := by omega
  have AR := hs.up S.bel
  have u0 : w2.cell? ⟨w.heap.size, 0, none⟩ = some (.slice A n c) := S.arg.cell 0
  have u1 : w2.cell? ⟨w.heap.size, 1, none⟩ = some (.slice R 4 d) := S.arg.cell 1
  obtain ⟨ga, oa, xa, e1, hga, hxa, da⟩ := AR.roots.at_ (k := a) (by omega)
  subst e1
  have ex : xa = (k : Int) := by rw [← hk]; simp [Hps.rootAt, hxa]
  subst ex
  have hkl := (List.getElem?_eq_some_iff.1 hcl).1
  obtain ⟨gc, v, e4, hgc1, hgc2, _⟩ := S.own.cell_at hcl
  subst e4
  have hkn : (k : Int) < n := by omega
  have HC := Lib.hid hcl
  have HK := Lib.hid hk
  have SS := Lib.hid S
  clear hxa S AR hva hcl hk hkl
  go_wp2_with fail
  go_still_tail 10, (by kernel_rfl)
  change wpList _ _ _ _ _ w2.drew
  have S4 := SS.out.drew
  generalize w2.drew = w4 at S4 ⊢
  obtain ⟨_, _, e5, _, _, _, _, _, cr, _, fz⟩ := S4.own.cell_at HC.out
  injection e5 with e5
  injection e5 with e5
  subst e5
  have fz := fz (k * 3 + 1)
  have S1 := S4.data hlc HC.out ob
  have hcl := HC.out
  have hk := HK.out
  have r0 : (w4.setCell ⟨gc, k * 3 + 1, none⟩ (.int .i64 ob)).cell? ⟨b, 0, none⟩ = some (.slice (some ⟨gc, 0, none⟩) n cc) := S1.box.cell 0
  have r1 : (w4.setCell ⟨gc, k * 3 + 1, none⟩ (.int .i64 ob)).cell? ⟨b, 1, none⟩ = some (.slice (some ⟨gr, 0, none⟩) 4 dc) := S1.box.cell 1
  have r2 : (w4.setCell ⟨gc, k * 3 + 1, none⟩ (.int .i64 ob)).frozen? ⟨w.heap.size + 1 + 1, 0, none⟩ = false := S1.res.frozen 0
  have r3 : (w4.setCell ⟨gc, k * 3 + 1, none⟩ (.int .i64 ob)).frozen? ⟨w.heap.size + 1 + 1, 1, none⟩ = false := S1.res.frozen 1
  have r4 : (w4.setCell ⟨gc, k * 3 + 1, none⟩ (.int .i64 ob)).cell? ⟨w.heap.size + 1 + 1, 0, none⟩ = some (.slice none 0 0) := S1.res.cell 0
  have r5 : (w4.setCell ⟨gc, k * 3 + 1, none⟩ (.int .i64 ob)).cell? ⟨w.heap.size + 1 + 1, 1, none⟩ = some (.slice none 0 0) := S1.res.cell 1
  have r6 : (((w4.setCell ⟨gc, k * 3 + 1, none⟩ (.int .i64 ob)).setCell ⟨w.heap.size + 1 + 1, 0, none⟩ (.slice (some ⟨gc, 0, none⟩) n cc)).setCell ⟨w.heap.size + 1 + 1, 1, none⟩ (.slice (some ⟨gr, 0, none⟩) 4 dc)).cell? ⟨w.heap.size + 1 + 1, 0, none⟩ = some (.slice (some ⟨gc, 0, none⟩) n cc) := ((S1.res.put 0 (.slice (some ⟨gc, 0, none⟩) n cc)).put 1 (.slice (some ⟨gr, 0, none⟩) 4 dc)).cell 0
  have r7 : (((w4.setCell ⟨gc, k * 3 + 1, none⟩ (.int .i64 ob)).setCell ⟨w.heap.size + 1 + 1, 0, none⟩ (.slice (some ⟨gc, 0, none⟩) n cc)).setCell ⟨w.heap.size + 1 + 1, 1, none⟩ (.slice (some ⟨gr, 0, none⟩) 4 dc)).cell? ⟨w.heap.size + 1 + 1, 1, none⟩ = some (.slice (some ⟨gr, 0, none⟩) 4 dc) := ((S1.res.put 0 (.slice (some ⟨gc, 0, none⟩) n cc)).put 1 (.slice (some ⟨gr, 0, none⟩) 4 dc)).cell 1
  have D : Hid (OwnH (((w4.setCell ⟨gc, k * 3 + 1, none⟩ (.int .i64 ob)).setCell ⟨w.heap.size + 1 + 1, 0, none⟩ (.slice (some ⟨gc, 0, none⟩) n cc)).setCell ⟨w.heap.size + 1 + 1, 1, none⟩ (.slice (some ⟨gr, 0, none⟩) 4 dc)) w.heap.size (.slice (some ⟨gc, 0, none⟩) n cc) (.slice (some ⟨gr, 0, none⟩) 4 dc) _ ∧ Below w.heap.size w (((w4.setCell ⟨gc, k * 3 + 1, none⟩ (.int .i64 ob)).setCell ⟨w.heap.size + 1 + 1, 0, none⟩ (.slice (some ⟨gc, 0, none⟩) n cc)).setCell ⟨w.heap.size + 1 + 1, 1, none⟩ (.slice (some ⟨gr, 0, none⟩) 4 dc))) := Lib.hid S1.done
  have HF := Lib.hid (show Hps.doH h ⟨6, a, ob, oc⟩ p = ⟨h.cs.set k ⟨cl.u, ob, cl.r⟩, h.rt⟩ by simp [Hps.doH, Hps.setDat, hk, hcl])
  clear S1
  clear S4 hcl hk
  go_wp2_with fail
  exact bodyPost_ret (v := .agg #[.slice (some ⟨gc, 0, none⟩) n cc, .slice (some ⟨gr, 0, none⟩) 4 dc]) (by simp [results, Tryd.results90, go_sem, *]) rfl ⟨_, _, rfl, by rw [HF.out]; exact D.out.1, D.out.2⟩
theorem Sep8 {w1 w2 : World} {b1 : Nat} {vc vr v8 : Value} {rvs : List Value} {h : Hp} {xs : List Int} (S : OwnHx w1 b1 vc vr rvs h) (o : OwnI w2 w1.heap.size v8 xs) : ∀ v ∈ vc :: vr :: rvs, v8.ownBlock = none ∨ v8.ownBlock ≠ v.ownBlock := fun v hv => by
  cases e : v8.ownBlock with
  | none => exact .inl rfl
  | some k =>
    right
    intro e'
    have h1 := (World.ownsRow.lt o k e).1
    have h2 := (S.blocks hv e'.symm).2
    omega
set_option maxHeartbeats 8000000 in
theorem l8Do_new (A R : Option Addr) (n c m d : Nat) (h : Hp) (a : Nat) (ob : Nat) (oc : Int) (p : Nat) (w : World) (hs : HS w w.heap.size A n R m h) (hv : Hps.validH h = true) (ha : a < 4) (hb3 : ob ≤ 3) (hp : p ≤ n) :
    Calls Tryd.prog 90 #[heapV A n c R m d, cmV ⟨1, a, ob, oc⟩, .int .i64 p] w (GaveH w (Hps.doH h ⟨1, a, ob, oc⟩ p)) := by
  have hlc := hs.cells.1
  have hlr := hs.roots.1
  have h40 := (Hps.valid_iff.1 hv).2.1
  obtain rfl : m = 4 := by rw [← hlr]; exact (Hps.valid_iff.1 hv).2.2.1
  have HL := Lib.hid hlr
  have h3 : ∀ cl ∈ h.cs, cl.r.length ≤ 1000000 := fun cl hcl => by have := (Hps.okCell_iff.1 ((Hps.valid_iff.1 hv).1 cl hcl)).2.2.1; omega
  have b3 : Below w.heap.size w (((w.alloc (.cells #[.slice A n c, .slice R 4 d] 26)).alloc (.cells #[.int .i64 1, .int .i64 a, .int .i64 ob, .int .i64 oc] 49)).alloc (.cells #[.slice none 0 0, .slice none 0 0] 26)) := (((Below.refl w.heap.size w).alloc (Nat.le_refl _) _).alloc (by simp) _).alloc (by simp; omega) _
  have s3 := hs.up b3
  have q0 := ((Rw.new w 26 #[.slice A n c, .slice R 4 d]).alloc (.cells #[.int .i64 1, .int .i64 a, .int .i64 ob, .int .i64 oc] 49)).alloc (.cells #[.slice none 0 0, .slice none 0 0] 26)
  have q1 := (Rw.new (w.alloc (.cells #[.slice A n c, .slice R 4 d] 26)) 49 #[.int .i64 1, .int .i64 a, .int .i64 ob, .int .i64 oc]).alloc (.cells #[.slice none 0 0, .slice none 0 0] 26)
  have q2 := Rw.new ((w.alloc (.cells #[.slice A n c, .slice R 4 d] 26)).alloc (.cells #[.int .i64 1, .int .i64 a, .int .i64 ob, .int .i64 oc] 49)) 26 #[.slice none 0 0, .slice none 0 0]
  simp only [World.size_alloc, Nat.add_assoc, Nat.reduceAdd] at q1 q2
  clear hlr
  go_enter Tryd.func90, Tryd.ntmps90
  go_wp2_with fail
  refine (l7Copy_any _ _ _ _ _ _ h _ s3 (by omega) (by omega) h3).mono ?_
  rintro e w1 ⟨vc, vr, rfl, ⟨rvs, own⟩, b1⟩
  replace q0 := q0.keep b1 q0.lt
  replace q1 := q1.keep b1 q1.lt
  replace q2 := q2.keep b1 q2.lt
  replace b3 := b3.trans (b1.mono b3.size)
  simp only [World.size_alloc, Nat.add_assoc, Nat.reduceAdd] at own b1
  have hsz : w.heap.size + 3 ≤ w1.heap.size := by have := b1.size; simp at this; omega
  obtain ⟨Ac, cc, Rc, dc, rfl, rfl, hcc, hdc, fA, fR⟩ := own.form
  rw [hlc] at own fA hcc ⊢
  rw [HL.out] at own fR hdc ⊢
  obtain ⟨gr, rfl, hgr1, hgr2⟩ := fR (by omega)
  have S : DoSt w (w1.alloc (.cells #[.slice Ac n cc, .slice (some ⟨gr, 0, none⟩) 4 dc] 26)) w1.heap.size #[.slice A n c, .slice R 4 d] #[.int .i64 1, .int .i64 a, .int .i64 ob, .int .i64 oc] #[.slice none 0 0, .slice none 0 0] (.slice Ac n cc) (.slice (some ⟨gr, 0, none⟩) 4 dc) rvs h :=
    ⟨own.below ((Below.refl w1.heap.size w1).alloc (Nat.le_refl _) _) (Nat.le_refl _), own.apart_new (Nat.le_refl _), Rw.new w1 _ _, q0.alloc _, q1.alloc _, q2.alloc _, b3.alloc b3.size _, hsz⟩
  clear b1 s3 h3 fR own q0 q1 q2 b3
  go_upto_region 2 with fail
  generalize w1.alloc (.cells #[.slice Ac n cc, .slice (some ⟨gr, 0, none⟩) 4 dc] 26) = w2 at S ⊢
  have hb := S.lo
  generalize w1.heap.size = b at S hb hgr2 fA ⊢
  clear hsz w1
  have y0 : w2.cell? ⟨w.heap.size + 1, 0, none⟩ = some (.int .i64 1) := S.cmd.cell 0
  have y1 : w2.cell? ⟨w.heap.size + 1, 1, none⟩ = some (.int .i64 a) := S.cmd.cell 1
  have y2 : w2.cell? ⟨w.heap.size + 1, 2, none⟩ = some (.int .i64 ob) := S.cmd.cell 2
  have y3 : w2.cell? ⟨w.heap.size + 1, 3, none⟩ = some (.int .i64 oc) := S.cmd.cell 3
  have x0 : w2.cell? ⟨b, 0, none⟩ = some (.slice Ac n cc) := S.box.cell 0
  have x1 : w2.cell? ⟨b, 1, none⟩ = some (.slice (some ⟨gr, 0, none⟩) 4 dc) := S.box.cell 1
  have hva := Hps.valid_iff.1 hv
  have hbl := S.box.lt
  have T0 : Rw (w2.alloc (.cells #[.bool true, .int .i64 oc, .slice none 0 0] 40)) w2.heap.size 40 #[.bool true, .int .i64 oc, .slice none 0 0] := Rw.new _ _ _
  have SS := Lib.hid S
  have B0 : Below w2.heap.size w2 (w2.alloc (.cells #[.bool true, .int .i64 oc, .slice none 0 0] 40)) := (Below.refl _ _).alloc (Nat.le_refl _) _
  clear S hva
  go_wp2_with fail
  go_loopw [9] (fun i wr => ∃ (k : Nat) (v8 : Value), k ≤ ob ∧ i = .int .i64 k ∧ OwnI wr (w2.heap.size + 1) v8 (List.replicate k (-1)) ∧ Rw wr w2.heap.size 40 #[.bool true, .int .i64 oc, v8] ∧ Below w2.heap.size w2 wr ∧ w2.heap.size + 1 ≤ wr.heap.size) (fun i _ => ob - (intOf i).toNat)
  case atStart => exact ⟨0, .slice none 0 0, by omega, rfl, World.ownsRow_nil _ _ _ _, T0, B0, by simp⟩
  case round =>
    clear T0 B0
    obtain ⟨k, v8, hk, rfl, ho, hx, bb, hsz⟩ := hrel
    have z2 : wr.cell? ⟨w.heap.size + 1, 2, none⟩ = some (.int .i64 ob) := (SS.out.up bb).cmd.cell 2
    have x2 : wr.cell? ⟨w2.heap.size, 2, none⟩ = some v8 := hx.cell 2
    obtain ⟨A8, c8, e, hA⟩ := ho.form
    have hlen : (List.replicate k (-1 : Int)).length = k := by simp
    rw [hlen] at e hA
    subst e
    by_cases hlt : k < ob
    · have hlt' : (k : Int) < ob := by omega
      have ow := World.ownsRow.alloc ho (.cells #[.int .i64 (-1)] 3)
      have rr : IS (wr.alloc (.cells #[.int .i64 (-1)] 3)) (wr.alloc (.cells #[.int .i64 (-1)] 3)).heap.size (some ⟨wr.heap.size, 0, none⟩) 1 [-1] := (own_oneI wr (-1) 0 (Nat.zero_le _)).reads
      have HSx := Lib.hid (show List.replicate k (-1 : Int) ++ [-1] = List.replicate (k + 1) (-1) by rw [List.replicate_succ'])
      clear hlen hp y0 y1 y2 y3 x0 x1
      go_wp2_with (at_builtin; refine wpList_appendI rfl (.tmp 26) (.tmp 27) rfl (w2.heap.size + 1) _ (List.replicate k (-1)) rfl ow (some ⟨wr.heap.size, 0, none⟩) 1 1 _ [-1] rfl rr (by simp; omega) (by simp; omega) ?_; intro v5 w5 o5 g5 s5; have hx5 := Rw.far (hx.alloc (.cells #[.int .i64 (-1)] 3)) g5 (row_ne ho (by omega)); have x0 := hx5.cell 2; have x3 := hx5.frozen 2; obtain ⟨A5, c5, e5, f5⟩ := o5.form; subst e5; clear f5)
      have o6 : OwnI w5 (w2.heap.size + 1) (.slice A5 (k + 1) c5) (List.replicate (k + 1) (-1)) := by
        have := OwnI.cast HSx.out o5
        simpa using this
      have b5 : Below w2.heap.size w2 w5 := (bb.alloc bb.size _).grown g5 (by simp; omega) (fun kk hk => by have := (World.ownsRow.lt ho kk hk).1; omega)
      have s5' : w2.heap.size + 1 ≤ w5.heap.size := by have := g5.size; simp at this; omega
      go_roundw
      case rel =>
        refine ⟨k + 1, .slice A5 (k + 1) c5, by omega, by go_num, ?_, hx5.put 2 _, b5.setCell (p := ⟨w2.heap.size, 2, none⟩) (by simp) _, by simpa using s5'⟩
        exact o6.far (only_put (World.grownBy.refl _ _) 2 _) (.inr fun e => row_ne o6 (by omega) e.symm)
      case measure => simp [intOf]; omega
    · obtain rfl : k = ob := by omega
      have S := SS.out.up bb
      have z0 : wr.cell? ⟨b, 0, none⟩ = some (.slice Ac n cc) := S.box.cell 0
      have t0 : wr.cell? ⟨w2.heap.size, 0, none⟩ = some (.bool true) := hx.cell 0
      have t1 : wr.cell? ⟨w2.heap.size, 1, none⟩ = some (.int .i64 oc) := hx.cell 1
      have ap8 := Sep8 SS.out.own (ho.base (base' := w2.heap.size) (by omega))
      have h8b : (Value.slice A8 k c8).ownBlock ≠ some b := fun e => by
        have := (World.ownsRow.lt ho b e).1
        omega
      have o8 : OwnI wr (w.heap.size + 3) (.slice A8 k c8) (List.replicate k (-1)) := ho.base (by omega)
      clear hlen hA y0 y1 y2 y3 x0 x1
      by_cases hpn : p = n
      · subst hpn
        have own' := World.ownsRow.alloc S.own.row (.cells #[.bool true, .int .i64 oc, .slice A8 k c8] 40)
        rw [hlc] at own'
        have rr := Rw.new wr 40 #[.bool true, .int .i64 oc, .slice A8 k c8]
        have B1 : Below wr.heap.size wr (wr.alloc (.cells #[.bool true, .int .i64 oc, .slice A8 k c8] 40)) := (Below.refl _ _).alloc (Nat.le_refl _) _
        have SB := S.up B1
        have o8' := o8.below B1 (Nat.le_refl _)
        have hlo := S.lo
        have hbsz := S.bel.size
        have hsz3 : w.heap.size + 3 ≤ wr.heap.size := by have := S.box.lt; omega
        have GO := Lib.hid (fun v9 w9 (g9 : (wr.alloc (.cells #[.bool true, .int .i64 oc, .slice A8 k c8] 40)).grownBy w9 (Value.slice Ac p cc).ownBlock) o9 s9 => SB.snoc (cl := ⟨true, oc, List.replicate k (-1)⟩) (v9 := v9) (w1 := w9) g9 (by rw [hlc]; exact o9) s9 o8' ap8 h8b)
        have FB := Lib.hid (fun w9 (g9 : (wr.alloc (.cells #[.bool true, .int .i64 oc, .slice A8 k c8] 40)).grownBy w9 (Value.slice Ac p cc).ownBlock) => Rw.far SB.box g9 (fun e => by
          rcases SB.apart _ (List.mem_cons_self) with e' | e'
          · rw [e'] at e; cases e
          · exact e' e.symm))
        clear S SB o8 o8' ho ap8 B1 hx bb
        go_upto_region 12 with (at_builtin; refine wpList_appendC rfl (.tmp 36) (.tmp 38) rfl (w.heap.size + 3) _ p (flatC h.cs rvs) rfl own' wr.heap.size true oc A8 k c8 rfl rr (by omega) (by simp; omega) ?_; intro v9 w9 A9 c9 e9 o9 g9 s9; subst e9; have SN := GO.out _ w9 g9 o9 s9; have z9 := (FB.out w9 g9).cell 0; have f9 := (FB.out w9 g9).frozen 0; clear o9 g9 s9)
        generalize w9.setCell ⟨b, 0, none⟩ (.slice A9 (p + 1) c9) = w5 at SN ⊢
        clear z9 f9 GO FB own' rr z0 t0 t1
        have v1 : w5.cell? ⟨b, 1, none⟩ = some (.slice (some ⟨gr, 0, none⟩) 4 dc) := SN.box.cell 1
        have v2 : w5.cell? ⟨w.heap.size + 1, 1, none⟩ = some (.int .i64 a) := SN.cmd.cell 1
        obtain ⟨xo, hxo, cr⟩ := SN.own.roots.cell_at (j := a) (by omega)
        have fz : w5.frozen? ⟨gr, a, none⟩ = false := SN.own.roots.frozen HL.out a
        have ham : (a : Int) < 4 := by omega
        have S1 := SN.root (i := a) HL.out p
        have r0 : (w5.setCell ⟨gr, a, none⟩ (.int .i64 p)).cell? ⟨b, 0, none⟩ = some (.slice A9 (p + 1) c9) := S1.box.cell 0
        have r1 : (w5.setCell ⟨gr, a, none⟩ (.int .i64 p)).cell? ⟨b, 1, none⟩ = some (.slice (some ⟨gr, 0, none⟩) 4 dc) := S1.box.cell 1
        have r2 : (w5.setCell ⟨gr, a, none⟩ (.int .i64 p)).frozen? ⟨w.heap.size + 1 + 1, 0, none⟩ = false := S1.res.frozen 0
        have r3 : (w5.setCell ⟨gr, a, none⟩ (.int .i64 p)).frozen? ⟨w.heap.size + 1 + 1, 1, none⟩ = false := S1.res.frozen 1
        have r4 : (w5.setCell ⟨gr, a, none⟩ (.int .i64 p)).cell? ⟨w.heap.size + 1 + 1, 0, none⟩ = some (.slice none 0 0) := S1.res.cell 0
        have r5 : (w5.setCell ⟨gr, a, none⟩ (.int .i64 p)).cell? ⟨w.heap.size + 1 + 1, 1, none⟩ = some (.slice none 0 0) := S1.res.cell 1
        have r6 : (((w5.setCell ⟨gr, a, none⟩ (.int .i64 p)).setCell ⟨w.heap.size + 1 + 1, 0, none⟩ (.slice A9 (p + 1) c9)).setCell ⟨w.heap.size + 1 + 1, 1, none⟩ (.slice (some ⟨gr, 0, none⟩) 4 dc)).cell? ⟨w.heap.size + 1 + 1, 0, none⟩ = some (.slice A9 (p + 1) c9) := ((S1.res.put 0 (.slice A9 (p + 1) c9)).put 1 (.slice (some ⟨gr, 0, none⟩) 4 dc)).cell 0
        have r7 : (((w5.setCell ⟨gr, a, none⟩ (.int .i64 p)).setCell ⟨w.heap.size + 1 + 1, 0, none⟩ (.slice A9 (p + 1) c9)).setCell ⟨w.heap.size + 1 + 1, 1, none⟩ (.slice (some ⟨gr, 0, none⟩) 4 dc)).cell? ⟨w.heap.size + 1 + 1, 1, none⟩ = some (.slice (some ⟨gr, 0, none⟩) 4 dc) := ((S1.res.put 0 (.slice A9 (p + 1) c9)).put 1 (.slice (some ⟨gr, 0, none⟩) 4 dc)).cell 1
        have D : Hid (OwnH (((w5.setCell ⟨gr, a, none⟩ (.int .i64 p)).setCell ⟨w.heap.size + 1 + 1, 0, none⟩ (.slice A9 (p + 1) c9)).setCell ⟨w.heap.size + 1 + 1, 1, none⟩ (.slice (some ⟨gr, 0, none⟩) 4 dc)) w.heap.size (.slice A9 (p + 1) c9) (.slice (some ⟨gr, 0, none⟩) 4 dc) _ ∧ Below w.heap.size w (((w5.setCell ⟨gr, a, none⟩ (.int .i64 p)).setCell ⟨w.heap.size + 1 + 1, 0, none⟩ (.slice A9 (p + 1) c9)).setCell ⟨w.heap.size + 1 + 1, 1, none⟩ (.slice (some ⟨gr, 0, none⟩) 4 dc))) := Lib.hid S1.done
        have HF := Lib.hid (show Hps.doH h ⟨1, a, k, oc⟩ p = ⟨h.cs ++ [⟨true, oc, List.replicate k (-1)⟩], h.rt.set a p⟩ by simp [Hps.doH, Hps.putCl, Hps.newCl, hlc]; try omega)
        clear S1
        clear SN hxo
        go_wp2_with fail
        exact bodyPost_ret (v := .agg #[.slice A9 (p + 1) c9, .slice (some ⟨gr, 0, none⟩) 4 dc]) (by simp [results, Tryd.results90, go_sem, *]) rfl ⟨_, _, rfl, by rw [HF.out]; exact D.out.1, D.out.2⟩
      · obtain ⟨old, hold⟩ : ∃ old, h.cs[p]? = some old := ⟨_, List.getElem?_eq_getElem (show p < h.cs.length by omega)⟩
        obtain ⟨gc, v, e4, hgc1, hgc2, _, _, c0, c1, c2, fzc⟩ := S.own.cell_at hold
        subst e4
        have f0 := fzc (p * 3)
        have f1 := fzc (p * 3 + 1)
        have f2 := fzc (p * 3 + 2)
        have SN := S.cellN hlc (cl := ⟨true, oc, List.replicate k (-1)⟩) hold o8 ap8 (.inr h8b)
        have hpn' : (p : Int) < n := by omega
        have hpne : ¬ (p : Int) = n := by omega
        have hpb : ((p : Int) == n) = false := by rw [beq_eq_false_iff_ne]; exact hpne
        have hplt := (List.getElem?_eq_some_iff.1 hold).1
        clear S o8 ho ap8 hold fzc hx bb
        go_upto_region 12 with fail
        generalize ((wr.setCell ⟨gc, p * 3, none⟩ (.bool true)).setCell ⟨gc, p * 3 + 1, none⟩ (.int .i64 oc)).setCell ⟨gc, p * 3 + 2, none⟩ (.slice A8 k c8) = w5 at SN ⊢
        clear c0 c1 c2 f0 f1 f2 z0 t0 t1
        have v1 : w5.cell? ⟨b, 1, none⟩ = some (.slice (some ⟨gr, 0, none⟩) 4 dc) := SN.box.cell 1
        have v2 : w5.cell? ⟨w.heap.size + 1, 1, none⟩ = some (.int .i64 a) := SN.cmd.cell 1
        obtain ⟨xo, hxo, cr⟩ := SN.own.roots.cell_at (j := a) (by omega)
        have fz : w5.frozen? ⟨gr, a, none⟩ = false := SN.own.roots.frozen HL.out a
        have ham : (a : Int) < 4 := by omega
        have S1 := SN.root (i := a) HL.out p
        have r0 : (w5.setCell ⟨gr, a, none⟩ (.int .i64 p)).cell? ⟨b, 0, none⟩ = some (.slice (some ⟨gc, 0, none⟩) n cc) := S1.box.cell 0
        have r1 : (w5.setCell ⟨gr, a, none⟩ (.int .i64 p)).cell? ⟨b, 1, none⟩ = some (.slice (some ⟨gr, 0, none⟩) 4 dc) := S1.box.cell 1
        have r2 : (w5.setCell ⟨gr, a, none⟩ (.int .i64 p)).frozen? ⟨w.heap.size + 1 + 1, 0, none⟩ = false := S1.res.frozen 0
        have r3 : (w5.setCell ⟨gr, a, none⟩ (.int .i64 p)).frozen? ⟨w.heap.size + 1 + 1, 1, none⟩ = false := S1.res.frozen 1
        have r4 : (w5.setCell ⟨gr, a, none⟩ (.int .i64 p)).cell? ⟨w.heap.size + 1 + 1, 0, none⟩ = some (.slice none 0 0) := S1.res.cell 0
        have r5 : (w5.setCell ⟨gr, a, none⟩ (.int .i64 p)).cell? ⟨w.heap.size + 1 + 1, 1, none⟩ = some (.slice none 0 0) := S1.res.cell 1
        have r6 : (((w5.setCell ⟨gr, a, none⟩ (.int .i64 p)).setCell ⟨w.heap.size + 1 + 1, 0, none⟩ (.slice (some ⟨gc, 0, none⟩) n cc)).setCell ⟨w.heap.size + 1 + 1, 1, none⟩ (.slice (some ⟨gr, 0, none⟩) 4 dc)).cell? ⟨w.heap.size + 1 + 1, 0, none⟩ = some (.slice (some ⟨gc, 0, none⟩) n cc) := ((S1.res.put 0 (.slice (some ⟨gc, 0, none⟩) n cc)).put 1 (.slice (some ⟨gr, 0, none⟩) 4 dc)).cell 0
        have r7 : (((w5.setCell ⟨gr, a, none⟩ (.int .i64 p)).setCell ⟨w.heap.size + 1 + 1, 0, none⟩ (.slice (some ⟨gc, 0, none⟩) n cc)).setCell ⟨w.heap.size + 1 + 1, 1, none⟩ (.slice (some ⟨gr, 0, none⟩) 4 dc)).cell? ⟨w.heap.size + 1 + 1, 1, none⟩ = some (.slice (some ⟨gr, 0, none⟩) 4 dc) := ((S1.res.put 0 (.slice (some ⟨gc, 0, none⟩) n cc)).put 1 (.slice (some ⟨gr, 0, none⟩) 4 dc)).cell 1
        have D : Hid (OwnH (((w5.setCell ⟨gr, a, none⟩ (.int .i64 p)).setCell ⟨w.heap.size + 1 + 1, 0, none⟩ (.slice (some ⟨gc, 0, none⟩) n cc)).setCell ⟨w.heap.size + 1 + 1, 1, none⟩ (.slice (some ⟨gr, 0, none⟩) 4 dc)) w.heap.size (.slice (some ⟨gc, 0, none⟩) n cc) (.slice (some ⟨gr, 0, none⟩) 4 dc) _ ∧ Below w.heap.size w (((w5.setCell ⟨gr, a, none⟩ (.int .i64 p)).setCell ⟨w.heap.size + 1 + 1, 0, none⟩ (.slice (some ⟨gc, 0, none⟩) n cc)).setCell ⟨w.heap.size + 1 + 1, 1, none⟩ (.slice (some ⟨gr, 0, none⟩) 4 dc))) := Lib.hid S1.done
        have HF := Lib.hid (show Hps.doH h ⟨1, a, k, oc⟩ p = ⟨h.cs.set p ⟨true, oc, List.replicate k (-1)⟩, h.rt.set a p⟩ by simp [Hps.doH, Hps.putCl, Hps.newCl, hlc]; try omega)
        clear S1
        clear SN hxo
        go_wp2_with fail
        exact bodyPost_ret (v := .agg #[.slice (some ⟨gc, 0, none⟩) n cc, .slice (some ⟨gr, 0, none⟩) 4 dc]) (by simp [results, Tryd.results90, go_sem, *]) rfl ⟨_, _, rfl, by rw [HF.out]; exact D.out.1, D.out.2⟩
theorem l8Do_any (A R : Option Addr) (n c m d : Nat) (h : Hp) (o : Cm) (p : Nat) (w : World) (hs : HS w w.heap.size A n R m h) (hc : Hps.canH h o = true) (hp : o.op = 1 → p ≤ n) :
    Calls Tryd.prog 90 #[heapV A n c R m d, cmV o, .int .i64 p] w (GaveH w (Hps.doH h o p)) := by
  obtain ⟨hv, ho⟩ := Hps.canH_parts hc
  obtain ⟨op, a, b, cc⟩ := o
  obtain ⟨ha1, ha2⟩ := Hps.okCm_a ho
  obtain ⟨a, rfl⟩ := Int.eq_ofNat_of_zero_le ha1
  have ha : a < 4 := by simp only at ha2; omega
  rcases Hps.okCm_op ho with e | e | e | e | e | e <;> simp only at e <;> subst e
  · obtain ⟨_, hb, _⟩ := (Hps.okCm_new rfl).1 ho
    simp only at hb
    obtain ⟨b, rfl⟩ := Int.eq_ofNat_of_zero_le hb.1
    exact l8Do_new A R n c m d h a b cc p w hs hv ha (by omega) (hp rfl)
  · obtain ⟨_, hb, hcc⟩ := (Hps.okCm_get (.inl rfl)).1 ho
    rw [Hps.canH_get hv ho rfl] at hc
    simp only at hb hcc hc
    obtain ⟨b, rfl⟩ := Int.eq_ofNat_of_zero_le hb.1
    obtain ⟨cc, rfl⟩ := Int.eq_ofNat_of_zero_le hcc.1
    obtain ⟨k, cl, hk, hcl, hl⟩ := Hps.placeH_iff.1 hc
    exact l8Do_get A R n c m d h a b cc p w hs hv ha (by omega) k cl hk hcl (by omega)
  · obtain ⟨_, hb, hcc⟩ := (Hps.okCm_get (.inr rfl)).1 ho
    rw [Hps.canH_set hv ho rfl] at hc
    simp only at hb hcc hc
    obtain ⟨b, rfl⟩ := Int.eq_ofNat_of_zero_le hb.1
    obtain ⟨cc, rfl⟩ := Int.eq_ofNat_of_zero_le hcc.1
    obtain ⟨k, cl, hk, hcl, hl⟩ := Hps.placeH_iff.1 hc
    exact l8Do_set A R n c m d h a b cc p w hs hv ha (by omega) k cl hk hcl (by omega)
  · obtain ⟨_, hb, _⟩ := (Hps.okCm_copy rfl).1 ho
    simp only at hb
    obtain ⟨b, rfl⟩ := Int.eq_ofNat_of_zero_le hb.1
    exact l8Do_copy A R n c m d h a b cc p w hs hv ha (by omega)
  · exact l8Do_drop A R n c m d h a b cc p w hs hv ha
  · rw [Hps.canH_data hv ho rfl] at hc
    obtain ⟨k, hk, hk2, _⟩ := Hps.okRef_nat (Hps.root_ok hv _) (of_decide_eq_true hc)
    exact l8Do_data A R n c m d h a b cc p w hs hv ha k _ hk (List.getElem?_eq_getElem hk2)
end Go.Proofs.YthmddmddcdofaaaDoor

namespace Go.Proofs.YthmddmddcdofaaaDoor
open Go.RowKit
set_option maxRecDepth 100000
/-- a heap of the call's own, and a bool -/
def GaveH2 (w : World) (h : Hp) (ok : Bool) (e : Ending) (w' : World) : Prop := ∃ vc vr, e = .returned (.tuple #[.agg #[vc, vr], .bool ok]) ∧ OwnH w' w.heap.size vc vr h ∧ Below w.heap.size w w'
theorem own_zeroH (w : World) (base : Nat) (_hb : base ≤ w.heap.size) : OwnH w base (.slice none 0 0) (.slice none 0 0) Hps.zeroH := by
  refine ⟨[], rfl, World.ownsRow_nil _ _ _ _, fun k c v hc => by simp [Hps.zeroH] at hc, World.ownsRow_nil _ _ _ _, ?_⟩
  simp [Sep, Value.ownBlock]
/-- a heap of the call's own goes into the box of a result -/
theorem OwnH.out {w wr : World} {base g : Nat} {vc vr : Value} {h : Hp} (ho : OwnH wr base vc vr h) (hg : g < base) (hb : Below w.heap.size w wr) (hw : w.heap.size ≤ g) :
    OwnH ((wr.setCell ⟨g, 0, none⟩ vc).setCell ⟨g, 1, none⟩ vr) w.heap.size vc vr h ∧ Below w.heap.size w ((wr.setCell ⟨g, 0, none⟩ vc).setCell ⟨g, 1, none⟩ vr) := by
  obtain ⟨rvs, own⟩ := ho
  have ap : Apart (some g) (vc :: vr :: rvs) := own.apart_below hg
  exact ⟨⟨rvs, ((own.far (put_any wr g 0 vc) ap).far (put_any _ g 1 vr) ap).base (by omega)⟩, (hb.setCell (p := ⟨g, 0, none⟩) hw vc).setCell (p := ⟨g, 1, none⟩) hw vr⟩
theorem OwnH.base {w : World} {base base' : Nat} {vc vr : Value} {h : Hp} (ho : OwnH w base vc vr h) (hb : base' ≤ base) : OwnH w base' vc vr h := by
  obtain ⟨rvs, own⟩ := ho
  exact ⟨rvs, own.base hb⟩
theorem OwnH.below {w w' : World} {base B : Nat} {vc vr : Value} {h : Hp} (ho : OwnH w base vc vr h) (hb : Below B w w') (hB : w.heap.size ≤ B) : OwnH w' base vc vr h := by
  obtain ⟨rvs, own⟩ := ho
  exact ⟨rvs, own.below hb hB⟩
theorem OwnH.form {w : World} {base : Nat} {vc vr : Value} {h : Hp} (ho : OwnH w base vc vr h) : ∃ A c R d, vc = .slice A h.cs.length c ∧ vr = .slice R h.rt.length d ∧ HS w w.heap.size A h.cs.length R h.rt.length h := by
  obtain ⟨rvs, own⟩ := ho
  obtain ⟨A, c, R, d, rfl, rfl, _⟩ := own.form
  exact ⟨A, c, R, d, rfl, rfl, own.reads⟩
theorem OwnH.slices {w : World} {base : Nat} {vc vr : Value} {h : Hp} (ho : OwnH w base vc vr h) : ∃ A n c R m d, vc = .slice A n c ∧ vr = .slice R m d := by
  obtain ⟨A, c, R, d, e1, e2, _⟩ := ho.form
  exact ⟨A, _, c, R, _, d, e1, e2⟩
namespace Hps
end Hps
end Go.Proofs.YthmddmddcdofaaaDoor

namespace Go.Proofs.YthmddmddcdofaaaDoor
open Go.RowKit
set_option maxRecDepth 100000
theorem row_form {w : World} {base n s : Nat} {e : TypeId} {v : Value} {xs : List Value} (h : w.ownsRow base e s v n xs) : ∃ A c, v = .slice A n c := by
  rcases h.2 with ⟨rfl, h0⟩ | ⟨g, cap, cur, rfl, _⟩
  · exact ⟨none, 0, by rw [h0]⟩
  · exact ⟨_, _, rfl⟩
set_option maxHeartbeats 4000000 in
theorem cloneHeap_any (A R : Option Addr) (n c m d : Nat) (h : Hp) (w : World) (hs : HS w w.heap.size A n R m h) (hn : n ≤ 1099511627776) (hm : m ≤ 1099511627776) (h3 : ∀ cl ∈ h.cs, cl.r.length ≤ 1000000) :
    Calls Tryd.prog 92 #[heapV A n c R m d] w (GaveH w h) := by
  have hlc := hs.cells.1
  obtain ⟨rvs, hrv, hrA⟩ := hs.cells.refs
  have B2 : Below w.heap.size w ((w.alloc (.cells #[.slice A n c, .slice R m d] 26)).alloc (.cells #[.slice none 0 0, .slice none 0 0] 26)) := ((Below.refl _ _).alloc (Nat.le_refl _) _).alloc (by simp) _
  have Q1 := (Rw.new w 26 #[.slice A n c, .slice R m d]).alloc (.cells #[.slice none 0 0, .slice none 0 0] 26)
  have Q2 := Rw.new (w.alloc (.cells #[.slice A n c, .slice R m d] 26)) 26 #[.slice none 0 0, .slice none 0 0]
  simp only [World.size_alloc] at Q2
  have H3 := Lib.hid h3
  have HLC := Lib.hid hlc
  have HRV := Lib.hid hrv
  have HRA := Lib.hid hrA
  clear h3 hlc hrv hrA
  go_enter Tryd.func92, Tryd.ntmps92
  go_upto_region 1 with fail
  generalize ((w.alloc (.cells #[.slice A n c, .slice R m d] 26)).alloc (.cells #[.slice none 0 0, .slice none 0 0] 26)) = w2 at B2 Q1 Q2 ⊢
  have hz := Q2.lt
  refine wp_region_inv (by kernel_rfl) (by kernel_rfl) (fun L ac ww => ∃ t3 t5 t6 t7 t8 t9 t10 t11 : Value, ac = { tmps := #[heapV A n c R m d, Value.pointer (some { block := w.heap.size, off := 0 }), Value.pointer (some { block := w.heap.size + 1, off := 0 }), t3, undef, t5, t6, t7, t8, t9, t10, t11, undef, undef, undef, undef, undef, undef, undef, undef, undef, undef, undef, undef, undef, undef, undef, undef, undef, undef, undef, undef], defers := [] } ∧ (Below w2.heap.size w2 ww) ∧ (L 0 = true → t5 = .pointer (some ⟨w.heap.size, 0, none⟩)) ∧ (L 1 = true → t6 = .slice A n c) ∧ (L 2 = true → ww.ownsRow w2.heap.size 40 3 t7 n (flatC h.cs rvs)) ∧ (L 3 = true → t8 = .pointer (some ⟨w.heap.size, 1, none⟩)) ∧ (L 4 = true → t9 = .slice R m d) ∧ (L 5 = true → OwnI ww w2.heap.size t10 h.rt ∧ (t7.ownBlock = none ∨ t7.ownBlock ≠ t10.ownBlock) ∧ L 2 = true) ∧ (L 6 = true → t11 = .agg #[t7, t10] ∧ L 5 = true ∧ L 2 = true) ∧ (L 7 = true → ∃ g3, t3 = .pointer (some ⟨g3, 0, none⟩) ∧ w2.heap.size ≤ g3 ∧ ∃ cs, Rw ww g3 26 cs ∧ cs = (if L 8 = true then #[t7, t10] else #[.slice none 0 0, .slice none 0 0])) ∧ (L 8 = true → L 7 = true ∧ L 5 = true ∧ L 2 = true)) ?h0 ?hstep ?hdone
  case h0 => exact ⟨_, _, _, _, _, _, _, _, rfl, (Below.refl _ _).drew, (fun h => absurd h Bool.false_ne_true), (fun h => absurd h Bool.false_ne_true), (fun h => absurd h Bool.false_ne_true), (fun h => absurd h Bool.false_ne_true), (fun h => absurd h Bool.false_ne_true), (fun h => absurd h Bool.false_ne_true), (fun h => absurd h Bool.false_ne_true), (fun h => absurd h Bool.false_ne_true), (fun h => absurd h Bool.false_ne_true)⟩
  case hstep =>
    rintro L ac ww i o ho hL hd ⟨t3, t5, t6, t7, t8, t9, t10, t11, rfl, I0, f0, f1, f2, f3, f4, f5, f6, f7, f8⟩
    have hi : i < 9 := (Array.getElem?_eq_some_iff.1 ho).1
    obtain rfl | rfl | rfl | rfl | rfl | rfl | rfl | rfl | rfl : i = 0 ∨ i = 1 ∨ i = 2 ∨ i = 3 ∨ i = 4 ∨ i = 5 ∨ i = 6 ∨ i = 7 ∨ i = 8 := by omega
    · obtain rfl := Option.some.inj ho
      refine wpOp_step rfl (fun K' hK => ?_)
      go_simp
      refine hK _ _ ?_
      exact ⟨_, _, _, _, _, _, _, _, rfl, (I0), (fun _ => rfl), (kp f1), (kp f2), (kp f3), (kp f4), (fun h => ⟨(f5 (upd_ne h (by decide))).1, (f5 (upd_ne h (by decide))).2.1, upd_mono (f5 (upd_ne h (by decide))).2.2⟩), (fun h => ⟨(f6 (upd_ne h (by decide))).1, upd_mono (f6 (upd_ne h (by decide))).2.1, upd_mono (f6 (upd_ne h (by decide))).2.2⟩), (fun h => by
        obtain ⟨g3, e3, h3, cs, h5, h6⟩ := f7 (upd_ne h (by decide))
        exact ⟨g3, e3, h3, cs, h5, by rw [h6, upd_other (by decide)]⟩), (fun h => ⟨upd_mono (f8 (upd_ne h (by decide))).1, upd_mono (f8 (upd_ne h (by decide))).2.1, upd_mono (f8 (upd_ne h (by decide))).2.2⟩)⟩
    · obtain rfl := Option.some.inj ho
      have g0 := f0 (hd ⟨0, .data⟩ (by simp) rfl)
      subst g0
      have z0 : ww.cell? ⟨w.heap.size, 0, none⟩ = some (.slice A n c) := (I0.cell (p := ⟨w.heap.size, 0, none⟩) (by show w.heap.size < w2.heap.size; omega)).trans (Q1.cell 0)
      refine wpOp_step rfl (fun K' hK => ?_)
      go_simp
      refine hK _ _ ?_
      exact ⟨_, _, _, _, _, _, _, _, rfl, (I0), (kp f0), (fun _ => rfl), (kp f2), (kp f3), (kp f4), (fun h => ⟨(f5 (upd_ne h (by decide))).1, (f5 (upd_ne h (by decide))).2.1, upd_mono (f5 (upd_ne h (by decide))).2.2⟩), (fun h => ⟨(f6 (upd_ne h (by decide))).1, upd_mono (f6 (upd_ne h (by decide))).2.1, upd_mono (f6 (upd_ne h (by decide))).2.2⟩), (fun h => by
        obtain ⟨g3, e3, h3, cs, h5, h6⟩ := f7 (upd_ne h (by decide))
        exact ⟨g3, e3, h3, cs, h5, by rw [h6, upd_other (by decide)]⟩), (fun h => ⟨upd_mono (f8 (upd_ne h (by decide))).1, upd_mono (f8 (upd_ne h (by decide))).2.1, upd_mono (f8 (upd_ne h (by decide))).2.2⟩)⟩
    · obtain rfl := Option.some.inj ho
      have g1 := f1 (hd ⟨1, .data⟩ (by simp) rfl)
      subst g1
      refine wpOp_step rfl (fun K' hK => ?_)
      go_simp
      have bw := B2.trans (I0.mono B2.size)
      have hrv := (hs.up bw)
      obtain ⟨rvs2, hr2, hA2⟩ := (hs.below bw).cells.refs
      refine (cloneC_any A n c h.cs rvs ww HLC.out (by have := HRV.out.below bw; exact ⟨this.1, fun k c v hc hv => by obtain ⟨A1, m1, c1, e, h1, h2⟩ := this.2 k c v hc hv; exact ⟨A1, m1, c1, e, h1, h2.more bw.size⟩⟩) (fun h0 => by obtain ⟨g, o, e, hg, hc⟩ := HRA.out h0; exact ⟨g, o, e, Nat.lt_of_lt_of_le hg bw.size, fun j u hu => (bw.cell (p := ⟨g, o + j, none⟩) hg).trans (hc j u hu)⟩) hn).mono ?_
      rintro e w' ⟨v1, rfl, o1, b5⟩
      refine hK _ _ ?_
      exact ⟨_, _, _, _, _, _, _, _, rfl, (I0.trans (b5.mono I0.size)), (kp f0), (kp f1), (fun _ => row_base o1 I0.size), (kp f3), (kp f4), (fun h => by
        have h1 := upd_ne h (by decide)
        exact absurd (f5 h1).2.2 (by rw [hL]; decide)), (fun h => absurd (f6 (upd_ne h (by decide))).2.2 (by rw [hL]; decide)), (fun h => by
        have hL7 := upd_ne h (by decide)
        obtain ⟨g3, e3, h3, cs, h5, h6⟩ := f7 hL7
        have hL8 : L 8 = false := by
          cases e : L 8
          · rfl
          · have := (f8 e).2.2
            rw [hL] at this
            cases this
        rw [if_neg (by rw [hL8]; decide)] at h6
        exact ⟨g3, e3, h3, cs, h5.keep b5 h5.lt, by rw [h6, upd_other (by decide), if_neg (by rw [hL8]; decide)]⟩), (fun h => ⟨upd_mono (f8 (upd_ne h (by decide))).1, upd_mono (f8 (upd_ne h (by decide))).2.1, upd_mono (f8 (upd_ne h (by decide))).2.2⟩)⟩
    · obtain rfl := Option.some.inj ho
      refine wpOp_step rfl (fun K' hK => ?_)
      go_simp
      refine hK _ _ ?_
      exact ⟨_, _, _, _, _, _, _, _, rfl, (I0), (kp f0), (kp f1), (kp f2), (fun _ => rfl), (kp f4), (fun h => ⟨(f5 (upd_ne h (by decide))).1, (f5 (upd_ne h (by decide))).2.1, upd_mono (f5 (upd_ne h (by decide))).2.2⟩), (fun h => ⟨(f6 (upd_ne h (by decide))).1, upd_mono (f6 (upd_ne h (by decide))).2.1, upd_mono (f6 (upd_ne h (by decide))).2.2⟩), (fun h => by
        obtain ⟨g3, e3, h3, cs, h5, h6⟩ := f7 (upd_ne h (by decide))
        exact ⟨g3, e3, h3, cs, h5, by rw [h6, upd_other (by decide)]⟩), (fun h => ⟨upd_mono (f8 (upd_ne h (by decide))).1, upd_mono (f8 (upd_ne h (by decide))).2.1, upd_mono (f8 (upd_ne h (by decide))).2.2⟩)⟩
    · obtain rfl := Option.some.inj ho
      have g3 := f3 (hd ⟨3, .data⟩ (by simp) rfl)
      subst g3
      have z1 : ww.cell? ⟨w.heap.size, 1, none⟩ = some (.slice R m d) := (I0.cell (p := ⟨w.heap.size, 1, none⟩) (by show w.heap.size < w2.heap.size; omega)).trans (Q1.cell 1)
      refine wpOp_step rfl (fun K' hK => ?_)
      go_simp
      refine hK _ _ ?_
      exact ⟨_, _, _, _, _, _, _, _, rfl, (I0), (kp f0), (kp f1), (kp f2), (kp f3), (fun _ => rfl), (fun h => ⟨(f5 (upd_ne h (by decide))).1, (f5 (upd_ne h (by decide))).2.1, upd_mono (f5 (upd_ne h (by decide))).2.2⟩), (fun h => ⟨(f6 (upd_ne h (by decide))).1, upd_mono (f6 (upd_ne h (by decide))).2.1, upd_mono (f6 (upd_ne h (by decide))).2.2⟩), (fun h => by
        obtain ⟨g3, e3, h3, cs, h5, h6⟩ := f7 (upd_ne h (by decide))
        exact ⟨g3, e3, h3, cs, h5, by rw [h6, upd_other (by decide)]⟩), (fun h => ⟨upd_mono (f8 (upd_ne h (by decide))).1, upd_mono (f8 (upd_ne h (by decide))).2.1, upd_mono (f8 (upd_ne h (by decide))).2.2⟩)⟩
    · obtain rfl := Option.some.inj ho
      have g4 := f4 (hd ⟨4, .data⟩ (by simp) rfl)
      subst g4
      have g2 := f2 (hd ⟨2, .chain⟩ (by simp) rfl)
      refine wpOp_step rfl (fun K' hK => ?_)
      go_simp
      have bw := B2.trans (I0.mono B2.size)
      refine (cloneI_any R m d h.rt ww ((hs.up bw).roots) hm).mono ?_
      rintro e w' ⟨v1, rfl, o1, b5⟩
      refine hK _ _ ?_
      exact ⟨_, _, _, _, _, _, _, _, rfl, (I0.trans (b5.mono I0.size)), (kp f0), (kp f1), (fun h => row_below (f2 (upd_ne h (by decide))) b5 (Nat.le_refl _)), (kp f3), (kp f4), (fun _ => ⟨o1.base I0.size, by
        cases e7 : t7.ownBlock with
        | none => exact .inl rfl
        | some q =>
          right
          intro e
          have a1 := (World.ownsRow.lt g2 q e7).2
          have a2 := (World.ownsRow.lt o1 q e.symm).1
          omega, by rw [upd_other (by decide)]; exact hd ⟨2, .chain⟩ (by simp) rfl⟩), (fun h => absurd (f6 (upd_ne h (by decide))).2.1 (by rw [hL]; decide)), (fun h => by
        have hL7 := upd_ne h (by decide)
        obtain ⟨g3, e3, h3, cs, h5, h6⟩ := f7 hL7
        have hL8 : L 8 = false := by
          cases e : L 8
          · rfl
          · have := (f8 e).2.1
            rw [hL] at this
            cases this
        rw [if_neg (by rw [hL8]; decide)] at h6
        exact ⟨g3, e3, h3, cs, h5.keep b5 h5.lt, by rw [h6, upd_other (by decide), if_neg (by rw [hL8]; decide)]⟩), (fun h => ⟨upd_mono (f8 (upd_ne h (by decide))).1, upd_mono (f8 (upd_ne h (by decide))).2.1, upd_mono (f8 (upd_ne h (by decide))).2.2⟩)⟩
    · obtain rfl := Option.some.inj ho
      have g2 := f2 (hd ⟨2, .data⟩ (by simp) rfl)
      have g5 := f5 (hd ⟨5, .data⟩ (by simp) rfl)
      have l5 := hd ⟨5, .data⟩ (by simp) rfl
      have l2 := hd ⟨2, .data⟩ (by simp) rfl
      obtain ⟨A7, c7, rfl⟩ := row_form g2
      obtain ⟨A9, d9, rfl, -⟩ := g5.1.form
      refine wpOp_step rfl (fun K' hK => ?_)
      go_simp
      refine hK _ _ ?_
      exact ⟨_, _, _, _, _, _, _, _, rfl, (I0), (kp f0), (kp f1), (kp f2), (kp f3), (kp f4), (fun h => ⟨(f5 (upd_ne h (by decide))).1, (f5 (upd_ne h (by decide))).2.1, upd_mono (f5 (upd_ne h (by decide))).2.2⟩), (fun _ => ⟨rfl, upd_mono l5, upd_mono l2⟩), (fun h => by
        obtain ⟨g3, e3, h3, cs, h5, h6⟩ := f7 (upd_ne h (by decide))
        exact ⟨g3, e3, h3, cs, h5, by rw [h6, upd_other (by decide)]⟩), (fun h => ⟨upd_mono (f8 (upd_ne h (by decide))).1, upd_mono (f8 (upd_ne h (by decide))).2.1, upd_mono (f8 (upd_ne h (by decide))).2.2⟩)⟩
    · obtain rfl := Option.some.inj ho
      have hL8 : L 8 = false := by
        cases e : L 8
        · rfl
        · exact absurd (f8 e).1 (by rw [hL]; decide)
      refine wpOp_step rfl (fun K' hK => ?_)
      go_simp
      have b5 : Below ww.heap.size ww (ww.alloc (.cells #[.slice none 0 0, .slice none 0 0] 26)) := (Below.refl _ _).alloc (Nat.le_refl _) _
      refine hK _ _ ?_
      exact ⟨_, _, _, _, _, _, _, _, rfl, (I0.alloc I0.size _), (kp f0), (kp f1), (fun h => row_below (f2 (upd_ne h (by decide))) b5 (Nat.le_refl _)), (kp f3), (kp f4), (fun h => ⟨(f5 (upd_ne h (by decide))).1.below b5 (Nat.le_refl _), (f5 (upd_ne h (by decide))).2.1, upd_mono (f5 (upd_ne h (by decide))).2.2⟩), (fun h => ⟨(f6 (upd_ne h (by decide))).1, upd_mono (f6 (upd_ne h (by decide))).2.1, upd_mono (f6 (upd_ne h (by decide))).2.2⟩), (fun _ => ⟨_, rfl, I0.size, _, Rw.new _ _ _, by rw [upd_other (by decide), hL8, if_neg (by decide)]⟩), (fun h => ⟨upd_mono (f8 (upd_ne h (by decide))).1, upd_mono (f8 (upd_ne h (by decide))).2.1, upd_mono (f8 (upd_ne h (by decide))).2.2⟩)⟩
    · obtain rfl := Option.some.inj ho
      have g6 := f6 (hd ⟨6, .data⟩ (by simp) rfl)
      have g7 := f7 (hd ⟨7, .data⟩ (by simp) rfl)
      have l5 := hd ⟨5, .chain⟩ (by simp) rfl
      have l7 := hd ⟨7, .data⟩ (by simp) rfl
      have g5 := f5 l5
      have g2 := f2 g5.2.2
      have l2 := g5.2.2
      obtain ⟨g6, -, -⟩ := g6
      subst g6
      obtain ⟨g3, e3, h3, cs, h5, h6⟩ := g7
      rw [hL, if_neg (by decide)] at h6
      subst h6
      subst e3
      obtain ⟨A7, c7, rfl⟩ := row_form g2
      obtain ⟨A9, d9, rfl, -⟩ := g5.1.form
      have a7 : (Value.slice A7 n c7).ownBlock = none ∨ (Value.slice A7 n c7).ownBlock ≠ some g3 := .inr (row_type g2 h5 (by decide)).symm
      have a9 : (Value.slice A9 h.rt.length d9).ownBlock = none ∨ (Value.slice A9 h.rt.length d9).ownBlock ≠ some g3 := .inr (row_type g5.1 h5 (by decide)).symm
      have c0 := h5.cell 0
      have c1 := h5.cell 1
      simp only [List.getElem?_toArray, List.getElem?_cons_zero, List.getElem?_cons_succ] at c0 c1
      have z0 := h5.frozen 0
      have z1 := h5.frozen 1
      have hput := (h5.put 0 (.slice A7 n c7)).put 1 (.slice A9 h.rt.length d9)
      refine wpOp_step rfl (fun K' hK => ?_)
      go_simp
      refine hK _ _ ?_
      exact ⟨_, _, _, _, _, _, _, _, rfl, ((I0.setCell (p := ⟨g3, 0, none⟩) (by show w2.heap.size ≤ g3; omega) _).setCell (p := ⟨g3, 1, none⟩) (by show w2.heap.size ≤ g3; omega) _), (kp f0), (kp f1), (fun _ => World.ownsRow.kept (World.ownsRow.kept g2 (put_any ww g3 0 _) a7) (put_any _ g3 1 _) a7), (kp f3), (kp f4), (fun _ => ⟨(g5.1.far (put_any ww g3 0 _) a9).far (put_any _ g3 1 _) a9, g5.2.1, upd_mono l2⟩), (fun h => ⟨(f6 (upd_ne h (by decide))).1, upd_mono (f6 (upd_ne h (by decide))).2.1, upd_mono (f6 (upd_ne h (by decide))).2.2⟩), (fun _ => ⟨g3, rfl, h3, _, hput, by rw [upd_self, if_pos rfl]; rfl⟩), (fun _ => ⟨upd_mono l7, upd_mono l5, upd_mono l2⟩)⟩
  case hdone =>
    rintro L ac ww hall ⟨t3, t5, t6, t7, t8, t9, t10, t11, rfl, I0, f0, f1, f2, f3, f4, f5, f6, f7, f8⟩
    have e0 := f0 (hall 0 (by decide))
    have e1 := f1 (hall 1 (by decide))
    have e2 := f2 (hall 2 (by decide))
    have e3 := f3 (hall 3 (by decide))
    have e4 := f4 (hall 4 (by decide))
    have e5 := f5 (hall 5 (by decide))
    have e6 := f6 (hall 6 (by decide))
    have e7 := f7 (hall 7 (by decide))
    have e8 := f8 (hall 8 (by decide))
    clear f0 f1 f2 f3 f4 f5 f6 f7 f8
    obtain ⟨g3, rfl, hg3, cs, BX, e9⟩ := e7
    rw [hall 8 (by decide), if_pos rfl] at e9
    subst e9
    obtain ⟨e6, -, -⟩ := e6
    subst e0 e1 e3 e4 e6
    obtain ⟨A7, c7, rfl⟩ := row_form e2
    have OR := e5.1
    obtain ⟨A9, d9, rfl, -⟩ := OR.form
    have SP := e5.2.1
    clear e5 e8 hall
    have S0 : MidH ww w2.heap.size (.slice A7 n c7) (.slice A9 h.rt.length d9) [] rvs 0 h :=
      ⟨rfl, Nat.zero_le _, HRV.out.1, by rw [HLC.out]; exact e2, fun j cl v hc hv => by simp at hv, OR, by simp [Sep]; exact SP⟩
    have AP : Apart (some g3) (Value.slice A7 n c7 :: Value.slice A9 h.rt.length d9 :: []) := by
      intro u hu
      simp only [List.mem_cons, List.not_mem_nil, or_false] at hu
      rcases hu with rfl | rfl
      · exact .inr (row_type e2 BX (by decide)).symm
      · exact .inr (row_type OR BX (by decide)).symm
    clear e2 OR SP
    have c0 := BX.cell 0
    have c1 := BX.cell 1
    simp only [List.getElem?_toArray, List.getElem?_cons_zero, List.getElem?_cons_succ] at c0 c1
    go_wp2_with fail
    go_loopw [15] (fun i wr => ∃ (k : Nat) (ovs : List Value), k ≤ n ∧ i = .int .i64 k ∧ MidH wr w2.heap.size (.slice A7 n c7) (.slice A9 h.rt.length d9) ovs rvs k h ∧ Apart (some g3) (Value.slice A7 n c7 :: Value.slice A9 h.rt.length d9 :: ovs) ∧ Rw wr g3 26 #[.slice A7 n c7, .slice A9 h.rt.length d9] ∧ Below w2.heap.size w2 wr) (fun i _ => n - (intOf i).toNat)
    case atStart => exact ⟨0, [], Nat.zero_le _, rfl, S0, AP, BX, I0⟩
    case round =>
      clear S0 AP BX I0 c0 c1
      obtain ⟨k, ovs, hk, rfl, S, AP, BX, IW⟩ := hrel
      have bw := B2.trans (IW.mono B2.size)
      by_cases hlt : k < n
      · have hck := List.getElem?_eq_getElem (show k < h.cs.length by rw [HLC.out]; exact hlt)
        generalize h.cs[k]'(by rw [HLC.out]; exact hlt) = cl at hck
        obtain ⟨A8, c8, R8, d8, q1, -, -, fA⟩ := S.form
        obtain ⟨g, hg0, hg1, hg2⟩ := fA (by rw [HLC.out]; omega)
        have hA7 : A7 = some ⟨g, 0, none⟩ := by
          have q1 := q1
          injection q1 with q1 _ _
          exact q1.trans hg0
        subst hA7
        clear q1 fA hg0
        obtain ⟨A1, m1, c1, x2, hm1, is1, fz⟩ := S.ref HLC.out hck (HRV.out.below bw)
        have is2 := is1.more bw.size
        have hm3 : m1 ≤ 1099511627776 := by
          have := is1.1
          have := H3.out cl (List.mem_of_getElem? hck)
          omega
        have x0 := BX.cell 0
        simp only [List.getElem?_toArray, List.getElem?_cons_zero] at x0
        have hlt' : (k : Int) < n := by omega
        have hbx := BX.lt
        have fzg := fz (k * 3 + 2)
        clear is1 fz hm1
        have HCK := Lib.hid hck
        have SS := Lib.hid S
        have AA := Lib.hid AP
        have BB := Lib.hid BX
        clear hck S AP BX
        go_upto_region 5 with fail
        refine wp_region_inv (by kernel_rfl) (by kernel_rfl) (fun L ac ww => ∃ t18 t19 t20 t21 t22 t23 t24 t25 t26 t27 t28 t29 : Value, ac = { tmps := #[heapV A n c R m d, Value.pointer (some { block := w.heap.size, off := 0 }), Value.pointer (some { block := w.heap.size + 1, off := 0 }), Value.pointer (some { block := g3, off := 0 }), Value.int IntKind.i64 ↑k, Value.pointer (some { block := w.heap.size, off := 0 }), Value.slice A n c, Value.slice (some { block := g, off := 0 }) n c7, Value.pointer (some { block := w.heap.size, off := 1 }), Value.slice R m d, Value.slice A9 h.rt.length d9, Value.agg #[Value.slice (some { block := g, off := 0 }) n c7, Value.slice A9 h.rt.length d9], Value.pointer (some { block := g3, off := 0 }), Value.slice (some { block := g, off := 0 }) n c7, Value.int IntKind.i64 ↑n, Value.int IntKind.i64 ↑k, Value.bool true, Value.int IntKind.i64 ↑k, t18, t19, t20, t21, t22, t23, t24, t25, t26, t27, t28, t29, u30, undef], defers := [] } ∧ (L 12 = false → Below wr.heap.size wr ww) ∧ (L 0 = true → t18 = .pointer (some ⟨g3, 0, none⟩)) ∧ (L 1 = true → t19 = .slice (some ⟨g, 0, none⟩) n c7) ∧ (L 2 = true → t20 = .int .i64 k) ∧ (L 3 = true → t21 = .pointer (some ⟨g3, 0, none⟩)) ∧ (L 4 = true → t22 = .slice (some ⟨g, 0, none⟩) n c7) ∧ (L 5 = true → t23 = .int .i64 k) ∧ (L 6 = true → t24 = .pointer (some ⟨g, k * 3, none⟩)) ∧ (L 7 = true → t25 = .pointer (some ⟨g, k * 3 + 2, none⟩)) ∧ (L 8 = true → t26 = .slice A1 m1 c1) ∧ (L 9 = true → L 12 = false → OwnI ww wr.heap.size t27 cl.r) ∧ (L 10 = true → t28 = .pointer (some ⟨g, k * 3, none⟩)) ∧ (L 11 = true → t29 = .pointer (some ⟨g, k * 3 + 2, none⟩) ∧ L 10 = true) ∧ (L 12 = true → (∀ q, q < 12 → L q = true) ∧ ∃ w5, Below wr.heap.size wr w5 ∧ OwnI w5 wr.heap.size t27 cl.r ∧ ww = w5.setCell ⟨g, k * 3 + 2, none⟩ t27)) ?h0 ?hstep ?hdone
        case h0 => exact ⟨_, _, _, _, _, _, _, _, _, _, _, _, rfl, fun _ => (Below.refl _ _).drew, (fun h => absurd h Bool.false_ne_true), (fun h => absurd h Bool.false_ne_true), (fun h => absurd h Bool.false_ne_true), (fun h => absurd h Bool.false_ne_true), (fun h => absurd h Bool.false_ne_true), (fun h => absurd h Bool.false_ne_true), (fun h => absurd h Bool.false_ne_true), (fun h => absurd h Bool.false_ne_true), (fun h => absurd h Bool.false_ne_true), (fun h => absurd h Bool.false_ne_true), (fun h => absurd h Bool.false_ne_true), (fun h => absurd h Bool.false_ne_true), (fun h => absurd h Bool.false_ne_true)⟩
        case hstep =>
          rintro L ac ww i o ho hL hd ⟨t18, t19, t20, t21, t22, t23, t24, t25, t26, t27, t28, t29, rfl, I0, f0, f1, f2, f3, f4, f5, f6, f7, f8, f9, f10, f11, f12⟩
          have hi : i < 13 := (Array.getElem?_eq_some_iff.1 ho).1
          obtain rfl | rfl | rfl | rfl | rfl | rfl | rfl | rfl | rfl | rfl | rfl | rfl | rfl : i = 0 ∨ i = 1 ∨ i = 2 ∨ i = 3 ∨ i = 4 ∨ i = 5 ∨ i = 6 ∨ i = 7 ∨ i = 8 ∨ i = 9 ∨ i = 10 ∨ i = 11 ∨ i = 12 := by omega
          · obtain rfl := Option.some.inj ho
            have hL12 : L 12 = false := by
              cases e : L 12
              · rfl
              · exact absurd ((f12 e).1 0 (by omega)) (by rw [hL]; decide)
            have J := I0 hL12
            refine wpOp_step rfl (fun K' hK => ?_)
            go_simp
            refine hK _ _ ?_
            exact ⟨_, _, _, _, _, _, _, _, _, _, _, _, rfl, (fun _ => J), (fun _ => rfl), (kp f1), (kp f2), (kp f3), (kp f4), (kp f5), (kp f6), (kp f7), (kp f8), (fun h _ => f9 (upd_ne h (by decide)) hL12), (kp f10), (fun h => ⟨(f11 (upd_ne h (by decide))).1, upd_mono (f11 (upd_ne h (by decide))).2⟩), (fun h => absurd ((f12 (upd_ne h (by decide))).1 0 (by omega)) (by rw [hL]; decide))⟩
          · obtain rfl := Option.some.inj ho
            have g0 := f0 (hd ⟨0, .data⟩ (by simp) rfl)
            subst g0
            have hL12 : L 12 = false := by
              cases e : L 12
              · rfl
              · exact absurd ((f12 e).1 1 (by omega)) (by rw [hL]; decide)
            have J := I0 hL12
            have z0 : ww.cell? ⟨g3, 0, none⟩ = some (.slice (some ⟨g, 0, none⟩) n c7) := (J.cell (p := ⟨g3, 0, none⟩) hbx).trans x0
            refine wpOp_step rfl (fun K' hK => ?_)
            go_simp
            refine hK _ _ ?_
            exact ⟨_, _, _, _, _, _, _, _, _, _, _, _, rfl, (fun _ => J), (kp f0), (fun _ => rfl), (kp f2), (kp f3), (kp f4), (kp f5), (kp f6), (kp f7), (kp f8), (fun h _ => f9 (upd_ne h (by decide)) hL12), (kp f10), (fun h => ⟨(f11 (upd_ne h (by decide))).1, upd_mono (f11 (upd_ne h (by decide))).2⟩), (fun h => absurd ((f12 (upd_ne h (by decide))).1 1 (by omega)) (by rw [hL]; decide))⟩
          · obtain rfl := Option.some.inj ho
            have hL12 : L 12 = false := by
              cases e : L 12
              · rfl
              · exact absurd ((f12 e).1 2 (by omega)) (by rw [hL]; decide)
            have J := I0 hL12
            refine wpOp_step rfl (fun K' hK => ?_)
            go_simp
            refine hK _ _ ?_
            exact ⟨_, _, _, _, _, _, _, _, _, _, _, _, rfl, (fun _ => J), (kp f0), (kp f1), (fun _ => rfl), (kp f3), (kp f4), (kp f5), (kp f6), (kp f7), (kp f8), (fun h _ => f9 (upd_ne h (by decide)) hL12), (kp f10), (fun h => ⟨(f11 (upd_ne h (by decide))).1, upd_mono (f11 (upd_ne h (by decide))).2⟩), (fun h => absurd ((f12 (upd_ne h (by decide))).1 2 (by omega)) (by rw [hL]; decide))⟩
          · obtain rfl := Option.some.inj ho
            have hL12 : L 12 = false := by
              cases e : L 12
              · rfl
              · exact absurd ((f12 e).1 3 (by omega)) (by rw [hL]; decide)
            have J := I0 hL12
            refine wpOp_step rfl (fun K' hK => ?_)
            go_simp
            refine hK _ _ ?_
            exact ⟨_, _, _, _, _, _, _, _, _, _, _, _, rfl, (fun _ => J), (kp f0), (kp f1), (kp f2), (fun _ => rfl), (kp f4), (kp f5), (kp f6), (kp f7), (kp f8), (fun h _ => f9 (upd_ne h (by decide)) hL12), (kp f10), (fun h => ⟨(f11 (upd_ne h (by decide))).1, upd_mono (f11 (upd_ne h (by decide))).2⟩), (fun h => absurd ((f12 (upd_ne h (by decide))).1 3 (by omega)) (by rw [hL]; decide))⟩
          · obtain rfl := Option.some.inj ho
            have g3 := f3 (hd ⟨3, .data⟩ (by simp) rfl)
            subst g3
            have hL12 : L 12 = false := by
              cases e : L 12
              · rfl
              · exact absurd ((f12 e).1 4 (by omega)) (by rw [hL]; decide)
            have J := I0 hL12
            have z0 : ww.cell? ⟨g3, 0, none⟩ = some (.slice (some ⟨g, 0, none⟩) n c7) := (J.cell (p := ⟨g3, 0, none⟩) hbx).trans x0
            refine wpOp_step rfl (fun K' hK => ?_)
            go_simp
            refine hK _ _ ?_
            exact ⟨_, _, _, _, _, _, _, _, _, _, _, _, rfl, (fun _ => J), (kp f0), (kp f1), (kp f2), (kp f3), (fun _ => rfl), (kp f5), (kp f6), (kp f7), (kp f8), (fun h _ => f9 (upd_ne h (by decide)) hL12), (kp f10), (fun h => ⟨(f11 (upd_ne h (by decide))).1, upd_mono (f11 (upd_ne h (by decide))).2⟩), (fun h => absurd ((f12 (upd_ne h (by decide))).1 4 (by omega)) (by rw [hL]; decide))⟩
          · obtain rfl := Option.some.inj ho
            have hL12 : L 12 = false := by
              cases e : L 12
              · rfl
              · exact absurd ((f12 e).1 5 (by omega)) (by rw [hL]; decide)
            have J := I0 hL12
            refine wpOp_step rfl (fun K' hK => ?_)
            go_simp
            refine hK _ _ ?_
            exact ⟨_, _, _, _, _, _, _, _, _, _, _, _, rfl, (fun _ => J), (kp f0), (kp f1), (kp f2), (kp f3), (kp f4), (fun _ => rfl), (kp f6), (kp f7), (kp f8), (fun h _ => f9 (upd_ne h (by decide)) hL12), (kp f10), (fun h => ⟨(f11 (upd_ne h (by decide))).1, upd_mono (f11 (upd_ne h (by decide))).2⟩), (fun h => absurd ((f12 (upd_ne h (by decide))).1 5 (by omega)) (by rw [hL]; decide))⟩
          · obtain rfl := Option.some.inj ho
            have g4 := f4 (hd ⟨4, .data⟩ (by simp) rfl)
            have g5 := f5 (hd ⟨5, .data⟩ (by simp) rfl)
            subst g4
            subst g5
            have hL12 : L 12 = false := by
              cases e : L 12
              · rfl
              · exact absurd ((f12 e).1 6 (by omega)) (by rw [hL]; decide)
            have J := I0 hL12
            refine wpOp_step rfl (fun K' hK => ?_)
            go_simp
            refine hK _ _ ?_
            exact ⟨_, _, _, _, _, _, _, _, _, _, _, _, rfl, (fun _ => J), (kp f0), (kp f1), (kp f2), (kp f3), (kp f4), (kp f5), (fun _ => rfl), (kp f7), (kp f8), (fun h _ => f9 (upd_ne h (by decide)) hL12), (kp f10), (fun h => ⟨(f11 (upd_ne h (by decide))).1, upd_mono (f11 (upd_ne h (by decide))).2⟩), (fun h => absurd ((f12 (upd_ne h (by decide))).1 6 (by omega)) (by rw [hL]; decide))⟩
          · obtain rfl := Option.some.inj ho
            have g6 := f6 (hd ⟨6, .data⟩ (by simp) rfl)
            subst g6
            have hL12 : L 12 = false := by
              cases e : L 12
              · rfl
              · exact absurd ((f12 e).1 7 (by omega)) (by rw [hL]; decide)
            have J := I0 hL12
            refine wpOp_step rfl (fun K' hK => ?_)
            go_simp
            refine hK _ _ ?_
            exact ⟨_, _, _, _, _, _, _, _, _, _, _, _, rfl, (fun _ => J), (kp f0), (kp f1), (kp f2), (kp f3), (kp f4), (kp f5), (kp f6), (fun _ => rfl), (kp f8), (fun h _ => f9 (upd_ne h (by decide)) hL12), (kp f10), (fun h => ⟨(f11 (upd_ne h (by decide))).1, upd_mono (f11 (upd_ne h (by decide))).2⟩), (fun h => absurd ((f12 (upd_ne h (by decide))).1 7 (by omega)) (by rw [hL]; decide))⟩
          · obtain rfl := Option.some.inj ho
            have g7 := f7 (hd ⟨7, .data⟩ (by simp) rfl)
            subst g7
            have hL12 : L 12 = false := by
              cases e : L 12
              · rfl
              · exact absurd ((f12 e).1 8 (by omega)) (by rw [hL]; decide)
            have J := I0 hL12
            have z0 : ww.cell? ⟨g, k * 3 + 2, none⟩ = some (.slice A1 m1 c1) := (J.cell (p := ⟨g, k * 3 + 2, none⟩) hg2).trans x2
            refine wpOp_step rfl (fun K' hK => ?_)
            go_simp
            refine hK _ _ ?_
            exact ⟨_, _, _, _, _, _, _, _, _, _, _, _, rfl, (fun _ => J), (kp f0), (kp f1), (kp f2), (kp f3), (kp f4), (kp f5), (kp f6), (kp f7), (fun _ => rfl), (fun h _ => f9 (upd_ne h (by decide)) hL12), (kp f10), (fun h => ⟨(f11 (upd_ne h (by decide))).1, upd_mono (f11 (upd_ne h (by decide))).2⟩), (fun h => absurd ((f12 (upd_ne h (by decide))).1 8 (by omega)) (by rw [hL]; decide))⟩
          · obtain rfl := Option.some.inj ho
            have g8 := f8 (hd ⟨8, .data⟩ (by simp) rfl)
            subst g8
            have hL12 : L 12 = false := by
              cases e : L 12
              · rfl
              · exact absurd ((f12 e).1 9 (by omega)) (by rw [hL]; decide)
            have J := I0 hL12
            refine wpOp_step rfl (fun K' hK => ?_)
            go_simp
            refine (cloneI_any A1 m1 c1 cl.r ww (is2.up J) hm3).mono ?_
            rintro e w' ⟨v1, rfl, o1, b5⟩
            refine hK _ _ ?_
            exact ⟨_, _, _, _, _, _, _, _, _, _, _, _, rfl, (fun _ => J.trans (b5.mono J.size)), (kp f0), (kp f1), (kp f2), (kp f3), (kp f4), (kp f5), (kp f6), (kp f7), (kp f8), (fun _ _ => o1.base J.size), (kp f10), (fun h => ⟨(f11 (upd_ne h (by decide))).1, upd_mono (f11 (upd_ne h (by decide))).2⟩), (fun h => absurd ((f12 (upd_ne h (by decide))).1 9 (by omega)) (by rw [hL]; decide))⟩
          · obtain rfl := Option.some.inj ho
            have g1 := f1 (hd ⟨1, .data⟩ (by simp) rfl)
            have g2 := f2 (hd ⟨2, .data⟩ (by simp) rfl)
            subst g1
            subst g2
            have hL12 : L 12 = false := by
              cases e : L 12
              · rfl
              · exact absurd ((f12 e).1 10 (by omega)) (by rw [hL]; decide)
            have J := I0 hL12
            refine wpOp_step rfl (fun K' hK => ?_)
            go_simp
            refine hK _ _ ?_
            exact ⟨_, _, _, _, _, _, _, _, _, _, _, _, rfl, (fun _ => J), (kp f0), (kp f1), (kp f2), (kp f3), (kp f4), (kp f5), (kp f6), (kp f7), (kp f8), (fun h _ => f9 (upd_ne h (by decide)) hL12), (fun _ => rfl), (fun h => ⟨(f11 (upd_ne h (by decide))).1, upd_mono (f11 (upd_ne h (by decide))).2⟩), (fun h => absurd ((f12 (upd_ne h (by decide))).1 10 (by omega)) (by rw [hL]; decide))⟩
          · obtain rfl := Option.some.inj ho
            have g10 := f10 (hd ⟨10, .data⟩ (by simp) rfl)
            subst g10
            have hL12 : L 12 = false := by
              cases e : L 12
              · rfl
              · exact absurd ((f12 e).1 11 (by omega)) (by rw [hL]; decide)
            have J := I0 hL12
            refine wpOp_step rfl (fun K' hK => ?_)
            go_simp
            refine hK _ _ ?_
            exact ⟨_, _, _, _, _, _, _, _, _, _, _, _, rfl, (fun _ => J), (kp f0), (kp f1), (kp f2), (kp f3), (kp f4), (kp f5), (kp f6), (kp f7), (kp f8), (fun h _ => f9 (upd_ne h (by decide)) hL12), (kp f10), (fun _ => ⟨rfl, upd_mono (hd ⟨10, .data⟩ (by simp) rfl)⟩), (fun h => absurd ((f12 (upd_ne h (by decide))).1 11 (by omega)) (by rw [hL]; decide))⟩
          · obtain rfl := Option.some.inj ho
            have g9 := f9 (hd ⟨9, .data⟩ (by simp) rfl)
            have g11 := f11 (hd ⟨11, .data⟩ (by simp) rfl)
            have l11 := Lib.hid (hd ⟨11, .data⟩ (by simp) rfl)
            have l10 := Lib.hid g11.2
            obtain ⟨g11, -⟩ := g11
            subst g11
            have J := I0 hL
            have o9 := g9 hL
            have hfz : ww.frozen? ⟨g, k * 3 + 2, none⟩ = false := (World.frozen?_of_block (J.block g hg2)).trans fzg
            have hcl : ww.cell? ⟨g, k * 3 + 2, none⟩ = some (.slice A1 m1 c1) := (J.cell (p := ⟨g, k * 3 + 2, none⟩) hg2).trans x2
            obtain ⟨A2, c2, rfl⟩ := row_form o9
            refine wpOp_step rfl (fun K' hK => ?_)
            go_simp
            refine hK _ _ ?_
            exact ⟨_, _, _, _, _, _, _, _, _, _, _, _, rfl, (fun h => absurd h (by rw [upd_self]; decide)), (kp f0), (kp f1), (kp f2), (kp f3), (kp f4), (kp f5), (kp f6), (kp f7), (kp f8), (fun _ h => absurd h (by rw [upd_self]; decide)), (kp f10), (fun h => ⟨(f11 (upd_ne h (by decide))).1, upd_mono (f11 (upd_ne h (by decide))).2⟩), (fun _ => ⟨fun q hq => by
              obtain rfl | rfl | rfl | rfl | rfl | rfl | rfl | rfl | rfl | rfl | rfl | rfl : q = 0 ∨ q = 1 ∨ q = 2 ∨ q = 3 ∨ q = 4 ∨ q = 5 ∨ q = 6 ∨ q = 7 ∨ q = 8 ∨ q = 9 ∨ q = 10 ∨ q = 11 := by omega
              all_goals first | exact upd_mono l10.out | exact upd_mono l11.out | exact upd_mono (hd ⟨_, .phase⟩ (by simp) rfl), ww, J, o9, rfl⟩)⟩
        case hdone =>
          rintro L ac ww hall ⟨t18, t19, t20, t21, t22, t23, t24, t25, t26, t27, t28, t29, rfl, I0, f0, f1, f2, f3, f4, f5, f6, f7, f8, f9, f10, f11, f12⟩
          have e0 := f0 (hall 0 (by decide))
          have e1 := f1 (hall 1 (by decide))
          have e2 := f2 (hall 2 (by decide))
          have e3 := f3 (hall 3 (by decide))
          have e4 := f4 (hall 4 (by decide))
          have e5 := f5 (hall 5 (by decide))
          have e6 := f6 (hall 6 (by decide))
          have e7 := f7 (hall 7 (by decide))
          have e8 := f8 (hall 8 (by decide))
          have e9 := f9 (hall 9 (by decide))
          have e10 := f10 (hall 10 (by decide))
          have e11 := f11 (hall 11 (by decide))
          have e12 := f12 (hall 12 (by decide))
          clear f0 f1 f2 f3 f4 f5 f6 f7 f8 f9 f10 f11 f12
          obtain ⟨-, w5, b5, o5, rfl⟩ := e12
          have hb1 : (⟨g, k * 3 + 2, none⟩ : Addr).block = g := rfl
          have hI : Below w2.heap.size w2 (w5.setCell ⟨g, k * 3 + 2, none⟩ t27) := (IW.trans (b5.mono IW.size)).setCell (p := ⟨g, k * 3 + 2, none⟩) hg1 _
          have hnew : ∀ u : Value, (∀ q, u.ownBlock = some q → q < wr.heap.size) → t27.ownBlock = none ∨ t27.ownBlock ≠ u.ownBlock := fun u hu => by
            cases e : t27.ownBlock with
            | none => exact .inl rfl
            | some q =>
              right
              intro e2
              have a1 := (World.ownsRow.lt o5 q e).1
              have a2 := hu q e2.symm
              omega
          have hS := (SS.out.below b5 (Nat.le_refl _)).next HLC.out HCK.out (o5.base (by have := IW.size; omega)) (fun u hu => hnew u (fun q hq => (SS.out.blocks hu hq).2))
          have hg3g : g3 ≠ g := fun e => by
            rcases AA.out _ (List.mem_cons_self ..) with h1 | h1
            · cases h1
            · exact h1 (by rw [e]; rfl)
          have hAP : Apart (some g3) (Value.slice (some ⟨g, 0, none⟩) n c7 :: Value.slice A9 h.rt.length d9 :: (ovs ++ [t27])) := by
            intro u hu
            rw [List.mem_cons, List.mem_cons, List.mem_append, List.mem_singleton] at hu
            rcases hu with rfl | rfl | hu | rfl
            · exact AA.out _ (by simp)
            · exact AA.out _ (by simp)
            · exact AA.out _ (by simp [hu])
            · cases e : u.ownBlock with
              | none => exact .inl rfl
              | some q =>
                right
                intro e2
                have a1 := (World.ownsRow.lt o5 q e).1
                have a2 := Option.some.inj e2
                omega
          have hBX : Rw (w5.setCell ⟨g, k * 3 + 2, none⟩ t27) g3 26 #[.slice (some ⟨g, 0, none⟩) n c7, .slice A9 h.rt.length d9] := (BB.out.keep b5 hbx).other hg3g t27
          obtain ⟨e11, -⟩ := e11
          clear e0 e1 e2 e3 e4 e5 e6 e7 e8 e9 e10 e11 hall I0 IW bw SS AA BB hnew b5 o5 hb1
          go_wp2_with fail
          go_roundw
          case rel => exact ⟨k + 1, ovs ++ [t27], by omega, by go_num, hS, hAP, hBX, hI⟩
          case measure => simp [intOf]; omega
      · obtain rfl : k = n := by omega
        have own := S.done HLC.out.symm
        have x0 := BX.cell 0
        have x1 := BX.cell 1
        simp only [List.getElem?_toArray, List.getElem?_cons_zero, List.getElem?_cons_succ] at x0 x1
        have q3 := Q2.keep IW hz
        have r2 : wr.frozen? ⟨w.heap.size + 1, 0, none⟩ = false := q3.frozen 0
        have r3 : wr.frozen? ⟨w.heap.size + 1, 1, none⟩ = false := q3.frozen 1
        have r4 : wr.cell? ⟨w.heap.size + 1, 0, none⟩ = some (.slice none 0 0) := q3.cell 0
        have r5 : wr.cell? ⟨w.heap.size + 1, 1, none⟩ = some (.slice none 0 0) := q3.cell 1
        have r6 : ((wr.setCell ⟨w.heap.size + 1, 0, none⟩ (.slice A7 k c7)).setCell ⟨w.heap.size + 1, 1, none⟩ (.slice A9 h.rt.length d9)).cell? ⟨w.heap.size + 1, 0, none⟩ = some (.slice A7 k c7) := ((q3.put 0 (.slice A7 k c7)).put 1 (.slice A9 h.rt.length d9)).cell 0
        have r7 : ((wr.setCell ⟨w.heap.size + 1, 0, none⟩ (.slice A7 k c7)).setCell ⟨w.heap.size + 1, 1, none⟩ (.slice A9 h.rt.length d9)).cell? ⟨w.heap.size + 1, 1, none⟩ = some (.slice A9 h.rt.length d9) := ((q3.put 0 (.slice A7 k c7)).put 1 (.slice A9 h.rt.length d9)).cell 1
        have D := Lib.hid (OwnH.out (w := w) (g := w.heap.size + 1) ⟨ovs, own⟩ (by omega) bw (by omega))
        clear own S AP BX q3 bw IW B2 Q1 Q2
        go_wp2_with fail
        exact bodyPost_ret (v := .agg #[.slice A7 k c7, .slice A9 h.rt.length d9]) (by simp [results, Tryd.results92, go_sem, *]) rfl ⟨_, _, rfl, D.out.1, D.out.2⟩
end Go.Proofs.YthmddmddcdofaaaDoor

namespace Go.Proofs.YthmddmddcdofaaaDoor
open Go.RowKit
set_option maxRecDepth 100000
theorem upTo_any (x m : Int) (w : World) : Calls Tryd.prog 142 #[.int .i64 x, .int .i64 m] w fun e w' => e = .returned (.bool (Hps.inR x 0 m)) ∧ w = w' := by
  by_cases h0 : 0 ≤ x
  · have d0 : decide (0 ≤ x) = true := decide_eq_true h0
    have R := Lib.hid (show Hps.inR x 0 m = decide (x ≤ m) by simp [Hps.inR, h0])
    go_enter Tryd.func142, Tryd.ntmps142
    go_wp2_with fail
    go_ret
    exact ⟨by rw [R.out]; rfl, rfl⟩
  · have d0 : decide (0 ≤ x) = false := decide_eq_false h0
    have R := Lib.hid (show Hps.inR x 0 m = false by simp [Hps.inR, h0])
    go_enter Tryd.func142, Tryd.ntmps142
    go_wp2_with fail
    go_ret
    exact ⟨by rw [R.out]; rfl, rfl⟩
theorem upTo_is (x m : Int) (b : Bool) (w : World) (h : Hps.inR x 0 m = b) : Calls Tryd.prog 142 #[.int .i64 x, .int .i64 m] w fun e w' => e = .returned (.bool b) ∧ w = w' := h ▸ upTo_any x m w
/-- an operation of the table -/
abbrev opA (x y z : Int) (f g : Nat) : Value := .agg #[.int .i64 x, .int .i64 y, .int .i64 z, .func (.func f) #[] #[], .func (.func g) #[] #[]]
/-- none -/
abbrev opZ : Value := .agg #[.int .i64 0, .int .i64 0, .int .i64 0, .nilFunc, .nilFunc]
abbrev op1 : Value := opA 3 3 99 146 147
abbrev op2 : Value := opA 3 3 2 148 149
abbrev op3 : Value := opA 3 3 2 150 151
abbrev op4 : Value := opA 3 3 0 146 152
abbrev op5 : Value := opA 3 0 0 146 153
abbrev op6 : Value := opA 3 99 0 154 155
/-- the cells of the table -/
def opsC : Array Value := opZ.cells ++ op1.cells ++ op2.cells ++ op3.cells ++ op4.cells ++ op5.cells ++ op6.cells
/-- the table -/
abbrev opsV : Value := .agg opsC
theorem info_ops : (Tryd.prog.info? 154).map (·.size) = some opsC.size := by kernel_rfl
theorem opsC_one : opsC.all (·.oneCell') = true := by decide +kernel
/-- a table is stored whole -/
theorem wpList_storeOps {w : World} {ops : Array Oper} {rest : List Oper} {o : Oper} {a : Act} {Q : Exit → Act → World → Prop} (p v : Operand) (g : Nat) (c : Array Value) (hgd : o.guard = none) (ho : o.op = .store 154 p v)
    (hp : a.eval p = .pointer (some ⟨g, 0, none⟩)) (hv : a.eval v = opsV) (hr : Rw w g 154 c) (hs : c.size = 35) (hd : o.dst = none)
    (h : wpList Tryd.prog ops Q rest a (w.setRow g opsC)) : wpList Tryd.prog ops Q (o :: rest) a w :=
  wpList_plain hgd fun K hK => by
    have hst := run_storeVar_row (P := Tryd.prog) w g 154 154 c opsC hr info_ops (by rw [hs]; rfl) opsC_one
    unfold Oper.wp execOp
    simp only [ho, hp, hv, Instr.storeAt, Instr.sureAddr, Sem.run_bind, Sem.run_pure, Result.andThen_ok, hst]
    exact hK (a.put o.dst undef) _ (by rw [hd]; exact h)
theorem rw_row {w : World} {g : Nat} {t : TypeId} {c : Array Value} (h : Rw w g t c) (c' : Array Value) : Rw (w.setRow g c') g t c' := by
  unfold Rw at h ⊢
  simp [World.setRow, Array.getElem?_modify, h]
set_option maxHeartbeats 4000000 in
theorem operations_any (w : World) : Calls Tryd.prog 129 #[] w fun e w' => e = .returned opsV ∧ Below w.heap.size w w' := by
  go_enter Tryd.func129, Tryd.ntmps129
  go_wp2_with (with_reducible refine wpList_storeOps _ _ _ _ rfl rfl rfl ?hv (Rw.new _ _ _) ?hs rfl ?_)
  · rfl
  · rfl
  have hrow := rw_row (Rw.new w 154 opsC) opsC
  rw [World.setRow_alloc_new] at hrow ⊢
  have hld := run_loadVar_row (P := Tryd.prog) _ w.heap.size _ _ _ (0, 0) _ hrow Tryd.underlying154 rfl info_ops
  refine bodyPost_ret (v := opsV) ?_ rfl ⟨rfl, (Below.refl _ _).alloc (Nat.le_refl _) _⟩
  simp [results, Tryd.results129, asAddr, hld]
set_option maxHeartbeats 1000000 in
theorem takes_any (f g : Nat) (x y z : Int) (o : Cm) (w : World) : Calls Tryd.prog 130 #[opA x y z f g, cmV o] w fun e w' => e = .returned (.bool (Hps.inR o.a 0 x && Hps.inR o.b 0 y && Hps.inR o.c 0 z)) ∧ Below w.heap.size w w' := by
  obtain ⟨op, a, b, c⟩ := o
  have bb : Below w.heap.size w ((w.alloc (.cells #[.int .i64 x, .int .i64 y, .int .i64 z, .func (.func f) #[] #[], .func (.func g) #[] #[]] 122)).alloc (.cells #[.int .i64 op, .int .i64 a, .int .i64 b, .int .i64 c] 49)) := ((Below.refl _ _).alloc (Nat.le_refl _) _).alloc (by simp) _
  obtain ⟨xa, ha⟩ : ∃ u, Hps.inR a 0 x = u := ⟨_, rfl⟩
  obtain ⟨xb, hb⟩ : ∃ u, Hps.inR b 0 y = u := ⟨_, rfl⟩
  obtain ⟨xc, hc⟩ : ∃ u, Hps.inR c 0 z = u := ⟨_, rfl⟩
  have HA := Lib.hid ha
  have HB := Lib.hid hb
  have HC := Lib.hid hc
  clear ha hb hc
  go_enter Tryd.func130, Tryd.ntmps130
  go_wp2_with fail
  refine (upTo_is _ _ _ _ HA.out).mono ?_
  rintro e w1 ⟨rfl, rfl⟩
  cases xa
  · go_wp2_with fail
    go_ret
    exact ⟨by rw [HA.out]; rfl, bb⟩
  go_wp2_with fail
  refine (upTo_is _ _ _ _ HB.out).mono ?_
  rintro e w1 ⟨rfl, rfl⟩
  cases xb
  · go_wp2_with fail
    go_ret
    exact ⟨by rw [HA.out, HB.out]; rfl, bb⟩
  go_wp2_with fail
  refine (upTo_is _ _ _ _ HC.out).mono ?_
  rintro e w1 ⟨rfl, rfl⟩
  go_wp2_with fail
  go_ret
  exact ⟨by rw [HA.out, HB.out, HC.out]; rfl, bb⟩
theorem run_op1 (w : World) : (Instr.index 154 opsV (.int .i64 1)).run Tryd.prog w = .ok op1 w := by kernel_rfl
theorem run_op2 (w : World) : (Instr.index 154 opsV (.int .i64 2)).run Tryd.prog w = .ok op2 w := by kernel_rfl
theorem run_op3 (w : World) : (Instr.index 154 opsV (.int .i64 3)).run Tryd.prog w = .ok op3 w := by kernel_rfl
theorem run_op4 (w : World) : (Instr.index 154 opsV (.int .i64 4)).run Tryd.prog w = .ok op4 w := by kernel_rfl
theorem run_op5 (w : World) : (Instr.index 154 opsV (.int .i64 5)).run Tryd.prog w = .ok op5 w := by kernel_rfl
theorem run_op6 (w : World) : (Instr.index 154 opsV (.int .i64 6)).run Tryd.prog w = .ok op6 w := by kernel_rfl
end Go.Proofs.YthmddmddcdofaaaDoor

namespace Go.Proofs.YthmddmddcdofaaaDoor
open Go.RowKit
set_option maxRecDepth 100000
set_option maxHeartbeats 1000000 in
theorem operationOf_bad (o : Cm) (w : World) (h : o.op < 1 ∨ 6 < o.op) : Calls Tryd.prog 91 #[cmV o] w fun e w' => e = .returned (.tuple #[opZ, .bool false]) ∧ Below w.heap.size w w' := by
  obtain ⟨k, a, b, c⟩ := o
  simp only at h
  have b1 : Below w.heap.size w ((w.alloc (.cells #[.int .i64 k, .int .i64 a, .int .i64 b, .int .i64 c] 49)).alloc (.cells #[.int .i64 0, .int .i64 0, .int .i64 0, .nilFunc, .nilFunc] 122)) := ((Below.refl _ _).alloc (Nat.le_refl _) _).alloc (by simp) _
  have q1 := Rw.new (w.alloc (.cells #[.int .i64 k, .int .i64 a, .int .i64 b, .int .i64 c] 49)) 122 #[.int .i64 0, .int .i64 0, .int .i64 0, .nilFunc, .nilFunc]
  simp only [World.size_alloc] at q1
  by_cases h1 : k < 1
  · go_enter Tryd.func91, Tryd.ntmps91
    go_wp2_with fail
    exact bodyPost_ret (v := .tuple #[opZ, .bool false]) (by simp [results, Tryd.results91, go_sem, *]) rfl ⟨rfl, b1⟩
  · have d1 : decide (k < 1) = false := decide_eq_false h1
    have h2 : 6 < k := by omega
    go_enter Tryd.func91, Tryd.ntmps91
    go_wp2_with fail
    exact bodyPost_ret (v := .tuple #[opZ, .bool false]) (by simp [results, Tryd.results91, go_sem, *]) rfl ⟨rfl, b1⟩
set_option maxHeartbeats 4000000 in
theorem operationOf_walk (k x y z : Int) (f g : Nat) (a b c : Int) (w : World) (h1 : 1 ≤ k) (h6 : k ≤ 6) (hix : ∀ w, (Instr.index 154 opsV (.int .i64 k)).run Tryd.prog w = .ok (opA x y z f g) w) :
    Calls Tryd.prog 91 #[cmV ⟨k, a, b, c⟩] w fun e w' => e = .returned (.tuple #[opA x y z f g, .bool (Hps.inR a 0 x && Hps.inR b 0 y && Hps.inR c 0 z)]) ∧ Below w.heap.size w w' := by
  have HIX := Lib.hid hix
  obtain ⟨r, hr⟩ : ∃ r, (Hps.inR a 0 x && Hps.inR b 0 y && Hps.inR c 0 z) = r := ⟨_, rfl⟩
  rw [hr]
  have HR := Lib.hid hr
  have d1 : decide (k < 1) = false := decide_eq_false (by omega)
  have d2 : decide (6 < k) = false := decide_eq_false (by omega)
  clear h1 h6 hix hr
  have B2 : Below w.heap.size w ((w.alloc (.cells #[.int .i64 k, .int .i64 a, .int .i64 b, .int .i64 c] 49)).alloc (.cells #[.int .i64 0, .int .i64 0, .int .i64 0, .nilFunc, .nilFunc] 122)) := ((Below.refl _ _).alloc (Nat.le_refl _) _).alloc (by simp) _
  have Q1 := (Rw.new w 49 #[.int .i64 k, .int .i64 a, .int .i64 b, .int .i64 c]).alloc (.cells #[.int .i64 0, .int .i64 0, .int .i64 0, .nilFunc, .nilFunc] 122)
  have Q2 := Rw.new (w.alloc (.cells #[.int .i64 k, .int .i64 a, .int .i64 b, .int .i64 c] 49)) 122 #[.int .i64 0, .int .i64 0, .int .i64 0, .nilFunc, .nilFunc]
  simp only [World.size_alloc] at Q2
  go_enter Tryd.func91, Tryd.ntmps91
  go_upto_region 3 with fail
  generalize ((w.alloc (.cells #[.int .i64 k, .int .i64 a, .int .i64 b, .int .i64 c] 49)).alloc (.cells #[.int .i64 0, .int .i64 0, .int .i64 0, .nilFunc, .nilFunc] 122)) = w2 at B2 Q1 Q2 ⊢
  have hz := Q2.lt
  refine wp_region_inv (by kernel_rfl) (by kernel_rfl) (fun L ac ww => ∃ t4 t14 t15 t16 t17 : Value, ac = { tmps := #[cmV { op := k, a := a, b := b, c := c }, Value.pointer (some { block := w.heap.size, off := 0 }), Value.pointer (some { block := w.heap.size + 1, off := 0 }), Value.bool false, t4, Value.pointer (some { block := w.heap.size, off := 0 }), Value.int IntKind.i64 k, Value.bool false, Value.bool false, Value.pointer (some { block := w.heap.size, off := 0 }), Value.int IntKind.i64 k, Value.bool false, Value.bool false, undef, t14, t15, t16, t17, undef, undef, undef, undef], defers := [] } ∧ (Below w2.heap.size w2 ww) ∧ (L 0 = true → t14 = opsV) ∧ (L 1 = true → t15 = .pointer (some ⟨w.heap.size, 0, none⟩)) ∧ (L 2 = true → t16 = .int .i64 k) ∧ (L 3 = true → t17 = opA x y z f g) ∧ (L 4 = true → ∃ g4, t4 = .pointer (some ⟨g4, 0, none⟩) ∧ w2.heap.size ≤ g4 ∧ ∃ cs, Rw ww g4 122 cs ∧ cs = (if L 5 = true then #[.int .i64 x, .int .i64 y, .int .i64 z, .func (.func f) #[] #[], .func (.func g) #[] #[]] else #[.int .i64 0, .int .i64 0, .int .i64 0, .nilFunc, .nilFunc])) ∧ (L 5 = true → L 4 = true ∧ True)) ?h0 ?hstep ?hdone
  case h0 => exact ⟨_, _, _, _, _, rfl, (Below.refl _ _).drew, (fun h => absurd h Bool.false_ne_true), (fun h => absurd h Bool.false_ne_true), (fun h => absurd h Bool.false_ne_true), (fun h => absurd h Bool.false_ne_true), (fun h => absurd h Bool.false_ne_true), (fun h => absurd h Bool.false_ne_true)⟩
  case hstep =>
    rintro L ac ww i o ho hL hd ⟨t4, t14, t15, t16, t17, rfl, I0, f0, f1, f2, f3, f4, f5⟩
    have hi : i < 6 := (Array.getElem?_eq_some_iff.1 ho).1
    obtain rfl | rfl | rfl | rfl | rfl | rfl : i = 0 ∨ i = 1 ∨ i = 2 ∨ i = 3 ∨ i = 4 ∨ i = 5 := by omega
    · obtain rfl := Option.some.inj ho
      refine wpOp_step rfl (fun K' hK => ?_)
      go_simp
      refine (operations_any ww).mono ?_
      rintro e w' ⟨rfl, b5⟩
      refine hK _ _ ?_
      exact ⟨_, _, _, _, _, rfl, (I0.trans (b5.mono I0.size)), (fun _ => rfl), (kp f1), (kp f2), (kp f3), (fun h => by
        obtain ⟨g4, e4, h4, cs, h5, h6⟩ := f4 (upd_ne h (by decide))
        exact ⟨g4, e4, h4, cs, h5.keep b5 h5.lt, by rw [h6, upd_other (by decide)]⟩), (fun h => ⟨by first | exact upd_self | (rw [upd_other (by decide)]; exact (f5 (upd_ne h (by decide))).1), trivial⟩)⟩
    · obtain rfl := Option.some.inj ho
      refine wpOp_step rfl (fun K' hK => ?_)
      go_simp
      refine hK _ _ ?_
      exact ⟨_, _, _, _, _, rfl, (I0), (kp f0), (fun _ => rfl), (kp f2), (kp f3), (fun h => by
        obtain ⟨g4, e4, h4, cs, h5, h6⟩ := f4 (upd_ne h (by decide))
        exact ⟨g4, e4, h4, cs, h5, by rw [h6, upd_other (by decide)]⟩), (fun h => ⟨by first | exact upd_self | (rw [upd_other (by decide)]; exact (f5 (upd_ne h (by decide))).1), trivial⟩)⟩
    · obtain rfl := Option.some.inj ho
      have g1 := f1 (hd ⟨1, .data⟩ (by simp) rfl)
      subst g1
      have z0 : ww.cell? ⟨w.heap.size, 0, none⟩ = some (.int .i64 k) := (I0.cell (p := ⟨w.heap.size, 0, none⟩) (by show w.heap.size < w2.heap.size; omega)).trans (Q1.cell 0)
      refine wpOp_step rfl (fun K' hK => ?_)
      go_simp
      refine hK _ _ ?_
      exact ⟨_, _, _, _, _, rfl, (I0), (kp f0), (kp f1), (fun _ => rfl), (kp f3), (fun h => by
        obtain ⟨g4, e4, h4, cs, h5, h6⟩ := f4 (upd_ne h (by decide))
        exact ⟨g4, e4, h4, cs, h5, by rw [h6, upd_other (by decide)]⟩), (fun h => ⟨by first | exact upd_self | (rw [upd_other (by decide)]; exact (f5 (upd_ne h (by decide))).1), trivial⟩)⟩
    · obtain rfl := Option.some.inj ho
      have g0 := f0 (hd ⟨0, .data⟩ (by simp) rfl)
      have g2 := f2 (hd ⟨2, .data⟩ (by simp) rfl)
      subst g0
      subst g2
      have hix := HIX.out ww
      refine wpOp_step rfl (fun K' hK => ?_)
      go_simp
      refine hK _ _ ?_
      exact ⟨_, _, _, _, _, rfl, (I0), (kp f0), (kp f1), (kp f2), (fun _ => rfl), (fun h => by
        obtain ⟨g4, e4, h4, cs, h5, h6⟩ := f4 (upd_ne h (by decide))
        exact ⟨g4, e4, h4, cs, h5, by rw [h6, upd_other (by decide)]⟩), (fun h => ⟨by first | exact upd_self | (rw [upd_other (by decide)]; exact (f5 (upd_ne h (by decide))).1), trivial⟩)⟩
    · obtain rfl := Option.some.inj ho
      have hL5 : L 5 = false := by
        cases e : L 5
        · rfl
        · exact absurd (f5 e).1 (by rw [hL]; decide)
      refine wpOp_step rfl (fun K' hK => ?_)
      go_simp
      refine hK _ _ ?_
      exact ⟨_, _, _, _, _, rfl, (I0.alloc I0.size _), (kp f0), (kp f1), (kp f2), (kp f3), (fun _ => ⟨_, rfl, I0.size, _, Rw.new _ _ _, by rw [upd_other (by decide), hL5, if_neg (by decide)]⟩), (fun h => ⟨by first | exact upd_self | (rw [upd_other (by decide)]; exact (f5 (upd_ne h (by decide))).1), trivial⟩)⟩
    · obtain rfl := Option.some.inj ho
      have g3 := f3 (hd ⟨3, .data⟩ (by simp) rfl)
      have g4 := f4 (hd ⟨4, .data⟩ (by simp) rfl)
      subst g3
      obtain ⟨g4, e4, h4, cs, h5, h6⟩ := g4
      rw [hL, if_neg (by decide)] at h6
      subst h6
      subst e4
      have l4 := hd ⟨4, .data⟩ (by simp) rfl
      have c0 := h5.cell 0
      have c1 := h5.cell 1
      have c2 := h5.cell 2
      have c3 := h5.cell 3
      have c4 := h5.cell 4
      have fz0 := h5.frozen 0
      have fz1 := h5.frozen 1
      have fz2 := h5.frozen 2
      have fz3 := h5.frozen 3
      have fz4 := h5.frozen 4
      simp only [List.getElem?_toArray, List.getElem?_cons_zero, List.getElem?_cons_succ] at c0 c1 c2 c3 c4
      have hput := ((((h5.put 0 (.int .i64 x)).put 1 (.int .i64 y)).put 2 (.int .i64 z)).put 3 (.func (.func f) #[] #[])).put 4 (.func (.func g) #[] #[])
      have hbel := ((((I0.setCell (p := ⟨g4, 0, none⟩) (by show w2.heap.size ≤ g4; omega) (.int .i64 x)).setCell (p := ⟨g4, 1, none⟩) (by show w2.heap.size ≤ g4; omega) (.int .i64 y)).setCell (p := ⟨g4, 2, none⟩) (by show w2.heap.size ≤ g4; omega) (.int .i64 z)).setCell (p := ⟨g4, 3, none⟩) (by show w2.heap.size ≤ g4; omega) (.func (.func f) #[] #[])).setCell (p := ⟨g4, 4, none⟩) (by show w2.heap.size ≤ g4; omega) (.func (.func g) #[] #[])
      refine wpOp_step rfl (fun K' hK => ?_)
      go_simp
      refine hK _ _ ?_
      exact ⟨_, _, _, _, _, rfl, (hbel), (kp f0), (kp f1), (kp f2), (kp f3), (fun _ => ⟨g4, rfl, h4, _, hput, by rw [upd_self, if_pos rfl]; rfl⟩), (fun _ => ⟨by rw [upd_other (by decide)]; exact l4, trivial⟩)⟩
  case hdone =>
    rintro L ac ww hall ⟨t4, t14, t15, t16, t17, rfl, I0, f0, f1, f2, f3, f4, f5⟩
    have e0 := f0 (hall 0 (by decide))
    have e1 := f1 (hall 1 (by decide))
    have e2 := f2 (hall 2 (by decide))
    have e3 := f3 (hall 3 (by decide))
    have e4 := f4 (hall 4 (by decide))
    have e5 := f5 (hall 5 (by decide))
    clear f0 f1 f2 f3 f4 f5
    obtain ⟨g4, rfl, hg4, cs, R4, e6⟩ := e4
    rw [hall 5 (by decide), if_pos rfl] at e6
    subst e6
    subst e0 e1 e2 e3
    clear e5 hall
    replace B2 := B2.trans (I0.mono B2.size)
    replace Q1 := Q1.keep I0 Q1.lt
    replace Q2 := Q2.keep I0 Q2.lt
    clear I0
    go_upto_region 4 with fail
    have hne : g4 ≠ w.heap.size + 1 := by omega
    refine wp_region_inv (by kernel_rfl) (by kernel_rfl) (fun L ac wv => ∃ t3 t18 t19 t20 t21 : Value, ac = { tmps := #[cmV { op := k, a := a, b := b, c := c }, Value.pointer (some { block := w.heap.size, off := 0 }), Value.pointer (some { block := w.heap.size + 1, off := 0 }), t3, Value.pointer (some { block := g4, off := 0 }), Value.pointer (some { block := w.heap.size, off := 0 }), Value.int IntKind.i64 k, Value.bool false, Value.bool false, Value.pointer (some { block := w.heap.size, off := 0 }), Value.int IntKind.i64 k, Value.bool false, Value.bool false, undef, opsV, Value.pointer (some { block := w.heap.size, off := 0 }), Value.int IntKind.i64 k, opA x y z f g, t18, t19, t20, t21], defers := [] } ∧ (Below w.heap.size w wv) ∧ (Rw wv g4 122 #[.int .i64 x, .int .i64 y, .int .i64 z, .func (.func f) #[] #[], .func (.func g) #[] #[]]) ∧ (Rw wv w.heap.size 49 #[.int .i64 k, .int .i64 a, .int .i64 b, .int .i64 c]) ∧ (Rw wv (w.heap.size + 1) 122 (if L 4 = true then #[.int .i64 x, .int .i64 y, .int .i64 z, .func (.func f) #[] #[], .func (.func g) #[] #[]] else #[.int .i64 0, .int .i64 0, .int .i64 0, .nilFunc, .nilFunc])) ∧ (L 0 = true → t18 = opA x y z f g) ∧ (L 1 = true → t19 = opA x y z f g) ∧ (L 2 = true → t20 = cmV ⟨k, a, b, c⟩) ∧ (L 3 = true → t21 = .bool r) ∧ (L 4 = true → True) ∧ (L 5 = true → t3 = .bool r)) ?h0 ?hstep ?hdone
    case h0 => exact ⟨_, _, _, _, _, rfl, B2.drew, (R4.keep (Below.refl _ _).drew R4.lt), (Q1.keep (Below.refl _ _).drew Q1.lt), by rw [if_neg (by decide)]; exact Q2.keep (Below.refl _ _).drew Q2.lt, (fun h => absurd h Bool.false_ne_true), (fun h => absurd h Bool.false_ne_true), (fun h => absurd h Bool.false_ne_true), (fun h => absurd h Bool.false_ne_true), (fun h => absurd h Bool.false_ne_true), (fun h => absurd h Bool.false_ne_true)⟩
    case hstep =>
      rintro L ac wv i o ho hL hd ⟨t3, t18, t19, t20, t21, rfl, I0, I1, I2, I3, f0, f1, f2, f3, f4, f5⟩
      have hi : i < 6 := (Array.getElem?_eq_some_iff.1 ho).1
      obtain rfl | rfl | rfl | rfl | rfl | rfl : i = 0 ∨ i = 1 ∨ i = 2 ∨ i = 3 ∨ i = 4 ∨ i = 5 := by omega
      · obtain rfl := Option.some.inj ho
        have I10_ := I1.cell 0
        have I11_ := I1.cell 1
        have I12_ := I1.cell 2
        have I13_ := I1.cell 3
        have I14_ := I1.cell 4
        simp only [List.getElem?_toArray, List.getElem?_cons_zero, List.getElem?_cons_succ] at I10_ I11_ I12_ I13_ I14_
        refine wpOp_step rfl (fun K' hK => ?_)
        go_simp
        refine hK _ _ ?_
        exact ⟨_, _, _, _, _, rfl, (I0), (I1), (I2), (by rw [upd_other (by decide)]; exact I3), (fun _ => rfl), (kp f1), (kp f2), (kp f3), (kp f4), (kp f5)⟩
      · obtain rfl := Option.some.inj ho
        have I10_ := I1.cell 0
        have I11_ := I1.cell 1
        have I12_ := I1.cell 2
        have I13_ := I1.cell 3
        have I14_ := I1.cell 4
        simp only [List.getElem?_toArray, List.getElem?_cons_zero, List.getElem?_cons_succ] at I10_ I11_ I12_ I13_ I14_
        refine wpOp_step rfl (fun K' hK => ?_)
        go_simp
        refine hK _ _ ?_
        exact ⟨_, _, _, _, _, rfl, (I0), (I1), (I2), (by rw [upd_other (by decide)]; exact I3), (kp f0), (fun _ => rfl), (kp f2), (kp f3), (kp f4), (kp f5)⟩
      · obtain rfl := Option.some.inj ho
        have I20_ := I2.cell 0
        have I21_ := I2.cell 1
        have I22_ := I2.cell 2
        have I23_ := I2.cell 3
        simp only [List.getElem?_toArray, List.getElem?_cons_zero, List.getElem?_cons_succ] at I20_ I21_ I22_ I23_
        refine wpOp_step rfl (fun K' hK => ?_)
        go_simp
        refine hK _ _ ?_
        exact ⟨_, _, _, _, _, rfl, (I0), (I1), (I2), (by rw [upd_other (by decide)]; exact I3), (kp f0), (kp f1), (fun _ => rfl), (kp f3), (kp f4), (kp f5)⟩
      · obtain rfl := Option.some.inj ho
        have g1 := f1 (hd ⟨1, .data⟩ (by simp) rfl)
        have g2 := f2 (hd ⟨2, .data⟩ (by simp) rfl)
        subst g1
        subst g2
        refine wpOp_step rfl (fun K' hK => ?_)
        go_simp
        refine (takes_any f g x y z ⟨k, a, b, c⟩ wv).mono ?_
        simp only [HR.out]
        rintro e w' ⟨rfl, b5⟩
        refine hK _ _ ?_
        exact ⟨_, _, _, _, _, rfl, (I0.trans (b5.mono I0.size)), (I1.keep b5 I1.lt), (I2.keep b5 I2.lt), (by rw [upd_other (by decide)]; exact I3.keep b5 I3.lt), (kp f0), (kp f1), (kp f2), (fun _ => rfl), (kp f4), (kp f5)⟩
      · obtain rfl := Option.some.inj ho
        have g0 := f0 (hd ⟨0, .data⟩ (by simp) rfl)
        subst g0
        rw [hL, if_neg (by decide)] at I3
        have P0 := I3
        have P00_ := P0.cell 0
        have P01_ := P0.cell 1
        have P02_ := P0.cell 2
        have P03_ := P0.cell 3
        have P04_ := P0.cell 4
        simp only [List.getElem?_toArray, List.getElem?_cons_zero, List.getElem?_cons_succ] at P00_ P01_ P02_ P03_ P04_
        have fz0 := P0.frozen 0
        have fz1 := P0.frozen 1
        have fz2 := P0.frozen 2
        have fz3 := P0.frozen 3
        have fz4 := P0.frozen 4
        refine wpOp_step rfl (fun K' hK => ?_)
        go_simp
        refine hK _ _ ?_
        exact ⟨_, _, _, _, _, rfl, ((((((I0.setCell (p := ⟨w.heap.size + 1, 0, none⟩) (by show w.heap.size ≤ w.heap.size + 1; omega) (.int .i64 x)).setCell (p := ⟨w.heap.size + 1, 1, none⟩) (by show w.heap.size ≤ w.heap.size + 1; omega) (.int .i64 y)).setCell (p := ⟨w.heap.size + 1, 2, none⟩) (by show w.heap.size ≤ w.heap.size + 1; omega) (.int .i64 z)).setCell (p := ⟨w.heap.size + 1, 3, none⟩) (by show w.heap.size ≤ w.heap.size + 1; omega) (.func (.func f) #[] #[])).setCell (p := ⟨w.heap.size + 1, 4, none⟩) (by show w.heap.size ≤ w.heap.size + 1; omega) (.func (.func g) #[] #[]))), ((((((I1.other hne (.int .i64 x)).other hne (.int .i64 y)).other hne (.int .i64 z)).other hne (.func (.func f) #[] #[])).other hne (.func (.func g) #[] #[]))), ((((((I2.other (by omega) (.int .i64 x)).other (by omega) (.int .i64 y)).other (by omega) (.int .i64 z)).other (by omega) (.func (.func f) #[] #[])).other (by omega) (.func (.func g) #[] #[]))), (by rw [upd_self, if_pos rfl]; exact (((((P0.put 0 (.int .i64 x)).put 1 (.int .i64 y)).put 2 (.int .i64 z)).put 3 (.func (.func f) #[] #[])).put 4 (.func (.func g) #[] #[]))), (kp f0), (kp f1), (kp f2), (kp f3), (fun _ => trivial), (kp f5)⟩
      · obtain rfl := Option.some.inj ho
        have g3 := f3 (hd ⟨3, .data⟩ (by simp) rfl)
        subst g3
        refine wpOp_step rfl (fun K' hK => ?_)
        go_simp
        refine hK _ _ ?_
        exact ⟨_, _, _, _, _, rfl, (I0), (I1), (I2), (by rw [upd_other (by decide)]; exact I3), (kp f0), (kp f1), (kp f2), (kp f3), (kp f4), (fun _ => rfl)⟩
    case hdone =>
      rintro L ac wv hall ⟨t3, t18, t19, t20, t21, rfl, I0, I1, I2, I3, f0, f1, f2, f3, f4, f5⟩
      have e0 := f0 (hall 0 (by decide))
      have e1 := f1 (hall 1 (by decide))
      have e2 := f2 (hall 2 (by decide))
      have e3 := f3 (hall 3 (by decide))
      have e4 := f4 (hall 4 (by decide))
      have e5 := f5 (hall 5 (by decide))
      clear f0 f1 f2 f3 f4 f5
      rw [hall 4 (by decide), if_pos rfl] at I3
      subst e0 e1 e2 e3 e5
      clear e4 hall I1 I2 R4 Q1 Q2 B2
      have I30_ := I3.cell 0
      have I31_ := I3.cell 1
      have I32_ := I3.cell 2
      have I33_ := I3.cell 3
      have I34_ := I3.cell 4
      simp only [List.getElem?_toArray, List.getElem?_cons_zero, List.getElem?_cons_succ] at I30_ I31_ I32_ I33_ I34_
      go_wp2_with fail
      exact bodyPost_ret (v := .tuple #[opA x y z f g, .bool r]) (by simp [results, Tryd.results91, go_sem, *]) rfl ⟨rfl, I0⟩
theorem Hps.inR_zero {n : Int} : Hps.inR n 0 0 = decide (n = 0) := by
  unfold Hps.inR
  rw [← Bool.decide_and, decide_eq_decide]
  omega
theorem operationOf_1 (a b c : Int) (w : World) : Calls Tryd.prog 91 #[cmV ⟨1, a, b, c⟩] w fun e w' => e = .returned (.tuple #[op1, .bool (Hps.okCm ⟨1, a, b, c⟩)]) ∧ Below w.heap.size w w' := by
  have := operationOf_walk 1 3 3 99 _ _ a b c w (by omega) (by omega) run_op1
  rw [show Hps.okCm ⟨1, a, b, c⟩ = (Hps.inR a 0 3 && Hps.inR b 0 3 && Hps.inR c 0 99) by simp [Hps.okCm]]
  exact this
theorem operationOf_2 (a b c : Int) (w : World) : Calls Tryd.prog 91 #[cmV ⟨2, a, b, c⟩] w fun e w' => e = .returned (.tuple #[op2, .bool (Hps.okCm ⟨2, a, b, c⟩)]) ∧ Below w.heap.size w w' := by
  have := operationOf_walk 2 3 3 2 _ _ a b c w (by omega) (by omega) run_op2
  rw [show Hps.okCm ⟨2, a, b, c⟩ = (Hps.inR a 0 3 && Hps.inR b 0 3 && Hps.inR c 0 2) by simp [Hps.okCm]]
  exact this
theorem operationOf_3 (a b c : Int) (w : World) : Calls Tryd.prog 91 #[cmV ⟨3, a, b, c⟩] w fun e w' => e = .returned (.tuple #[op3, .bool (Hps.okCm ⟨3, a, b, c⟩)]) ∧ Below w.heap.size w w' := by
  have := operationOf_walk 3 3 3 2 _ _ a b c w (by omega) (by omega) run_op3
  rw [show Hps.okCm ⟨3, a, b, c⟩ = (Hps.inR a 0 3 && Hps.inR b 0 3 && Hps.inR c 0 2) by simp [Hps.okCm]]
  exact this
theorem operationOf_4 (a b c : Int) (w : World) : Calls Tryd.prog 91 #[cmV ⟨4, a, b, c⟩] w fun e w' => e = .returned (.tuple #[op4, .bool (Hps.okCm ⟨4, a, b, c⟩)]) ∧ Below w.heap.size w w' := by
  have := operationOf_walk 4 3 3 0 _ _ a b c w (by omega) (by omega) run_op4
  rw [show Hps.okCm ⟨4, a, b, c⟩ = (Hps.inR a 0 3 && Hps.inR b 0 3 && Hps.inR c 0 0) by simp [Hps.okCm, Hps.inR_zero]]
  exact this
theorem operationOf_5 (a b c : Int) (w : World) : Calls Tryd.prog 91 #[cmV ⟨5, a, b, c⟩] w fun e w' => e = .returned (.tuple #[op5, .bool (Hps.okCm ⟨5, a, b, c⟩)]) ∧ Below w.heap.size w w' := by
  have := operationOf_walk 5 3 0 0 _ _ a b c w (by omega) (by omega) run_op5
  rw [show Hps.okCm ⟨5, a, b, c⟩ = (Hps.inR a 0 3 && Hps.inR b 0 0 && Hps.inR c 0 0) by simp [Hps.okCm, Hps.inR_zero]]
  exact this
theorem operationOf_6 (a b c : Int) (w : World) : Calls Tryd.prog 91 #[cmV ⟨6, a, b, c⟩] w fun e w' => e = .returned (.tuple #[op6, .bool (Hps.okCm ⟨6, a, b, c⟩)]) ∧ Below w.heap.size w w' := by
  have := operationOf_walk 6 3 99 0 _ _ a b c w (by omega) (by omega) run_op6
  rw [show Hps.okCm ⟨6, a, b, c⟩ = (Hps.inR a 0 3 && Hps.inR b 0 99 && Hps.inR c 0 0) by simp [Hps.okCm, Hps.inR_zero]]
  exact this
theorem Hps.okCm_none {o : Cm} (h : o.op < 1 ∨ 6 < o.op) : Hps.okCm o = false := by
  cases e : Hps.okCm o
  · rfl
  · have := Hps.okCm_op e
    omega
/-- the operation of whatever instruction -/
theorem operationOf_any (o : Cm) (w : World) : Calls Tryd.prog 91 #[cmV o] w fun e w' => (∃ p, e = .returned (.tuple #[p, .bool (Hps.okCm o)]) ∧ (p = opZ ∨ ∃ x y z f g, p = opA x y z f g)) ∧ Below w.heap.size w w' := by
  obtain ⟨op, a, b, c⟩ := o
  by_cases h : op < 1 ∨ 6 < op
  · refine (operationOf_bad ⟨op, a, b, c⟩ w h).mono ?_
    rintro e w1 ⟨rfl, b1⟩
    exact ⟨⟨_, by rw [Hps.okCm_none (o := ⟨op, a, b, c⟩) h], .inl rfl⟩, b1⟩
  · obtain rfl | rfl | rfl | rfl | rfl | rfl : op = 1 ∨ op = 2 ∨ op = 3 ∨ op = 4 ∨ op = 5 ∨ op = 6 := by omega
    · exact (operationOf_1 a b c w).mono fun _ _ h => ⟨⟨_, h.1, .inr ⟨_, _, _, _, _, rfl⟩⟩, h.2⟩
    · exact (operationOf_2 a b c w).mono fun _ _ h => ⟨⟨_, h.1, .inr ⟨_, _, _, _, _, rfl⟩⟩, h.2⟩
    · exact (operationOf_3 a b c w).mono fun _ _ h => ⟨⟨_, h.1, .inr ⟨_, _, _, _, _, rfl⟩⟩, h.2⟩
    · exact (operationOf_4 a b c w).mono fun _ _ h => ⟨⟨_, h.1, .inr ⟨_, _, _, _, _, rfl⟩⟩, h.2⟩
    · exact (operationOf_5 a b c w).mono fun _ _ h => ⟨⟨_, h.1, .inr ⟨_, _, _, _, _, rfl⟩⟩, h.2⟩
    · exact (operationOf_6 a b c w).mono fun _ _ h => ⟨⟨_, h.1, .inr ⟨_, _, _, _, _, rfl⟩⟩, h.2⟩
set_option maxHeartbeats 1000000 in
theorem commandValid_any (o : Cm) (w : World) : Calls Tryd.prog 84 #[cmV o] w fun e w' => e = .returned (.bool (Hps.okCm o)) ∧ Below w.heap.size w w' := by
  have b1 : Below w.heap.size w (w.alloc (.cells #[.int .i64 o.op, .int .i64 o.a, .int .i64 o.b, .int .i64 o.c] 49)) := (Below.refl _ _).alloc (Nat.le_refl _) _
  obtain ⟨r, hr⟩ : ∃ r, Hps.okCm o = r := ⟨_, rfl⟩
  go_enter Tryd.func84, Tryd.ntmps84
  go_wp2_with fail
  refine (operationOf_any o _).mono ?_
  rw [hr]
  have HR := Lib.hid hr
  clear hr
  rintro e w1 ⟨⟨p, rfl, hp⟩, b2⟩
  have b3 := b1.trans (b2.mono b1.size)
  have hs := b3.size
  clear b1 b2
  rcases hp with rfl | ⟨x, y, z, f, g, rfl⟩
  · go_wp2_with fail
    go_ret
    exact ⟨by rw [HR.out]; rfl, b3.alloc hs _⟩
  · go_wp2_with fail
    go_ret
    exact ⟨by rw [HR.out]; rfl, b3.alloc hs _⟩
end Go.Proofs.YthmddmddcdofaaaDoor

namespace Go.Proofs.YthmddmddcdofaaaDoor
open Go.RowKit
set_option maxRecDepth 100000
theorem okRef_form {cs : List Cl} {x : Int} (h : Hps.okRef cs x = true) : x = -1 ∨ ∃ y : Nat, x = y ∧ y < cs.length := by
  by_cases h0 : 0 ≤ x
  · obtain ⟨y, e, hy, _⟩ := Hps.okRef_nat h h0
    exact .inr ⟨y, e, hy⟩
  · have := Hps.okRef_lo h
    have hlo : -1 ≤ x := by
      rcases Hps.okRef_iff.1 h with e | e
      · omega
      · omega
    exact .inl (by omega)
set_option maxHeartbeats 1000000 in
theorem hasRef_any (A R : Option Addr) (n c m d : Nat) (h : Hp) (k : Nat) (p x : Int) (w : World) (hs : HS w w.heap.size A n R m h) (_hn : n ≤ 1099511627776) (hx : h.rt[k]? = some x) (ho : Hps.okRef h.cs x = true) :
    Calls Tryd.prog 161 #[heapV A n c R m d, .int .i64 k, .int .i64 p] w fun e w' => e = .returned (.bool (Hps.placeH h.cs x p)) ∧ Below w.heap.size w w' := by
  have hlc := hs.cells.1
  have hlr := hs.roots.1
  have bb : Below w.heap.size w (w.alloc (.cells #[.slice A n c, .slice R m d] 26)) := (Below.refl _ _).alloc (Nat.le_refl _) _
  have hkm : k < m := by have := (List.getElem?_eq_some_iff.1 hx).1; omega
  obtain ⟨g, og, x', rfl, hg, hx', d1⟩ := (hs.roots.below bb).at_ (k := k) hkm
  rw [hx] at hx'
  obtain rfl := Option.some.inj hx'
  have hkm' : (k : Int) < m := by omega
  rcases okRef_form ho with rfl | ⟨y, rfl, hy⟩
  · have HP := Lib.hid (show Hps.placeH h.cs (-1) p = false by simp [Hps.placeH])
    clear hx hx' ho
    go_enter Tryd.func161, Tryd.ntmps161
    go_wp2_with fail
    go_ret
    exact ⟨by rw [HP.out]; rfl, bb⟩
  · obtain ⟨g2, o2, cl, A', m', cc, rfl, hg2, hcl, e1, e2, e3, hmc, hi⟩ := (hs.cells.below bb).at_ (k := y) (by omega)
    have hyn : (y : Int) < n := by omega
    have hne : ((y : Int) != -1) = true := by rw [bne_iff_ne]; omega
    have HP := Lib.hid (show Hps.placeH h.cs (y : Int) p = decide (p < (m' : Int)) by
      simp [Hps.placeH, hcl, hi.1])
    clear ho hcl hy e1 e2 hi hx hx'
    go_enter Tryd.func161, Tryd.ntmps161
    go_wp2_with fail
    go_ret
    exact ⟨by rw [HP.out]; rfl, bb⟩
/-- a function with a body is entered -/
theorem run_entered {f : Nat} {fn : Func} (hf : Tryd.prog.funcs[f]? = some fn) (hn : (fn.name == "runtime.NumGoroutine") = false) (hb : fn.body.isNone = false) (args : Array Value) (w : World) : (callFunc f args).run Tryd.prog w = .ok (.enter f args) w := by
  unfold callFunc
  simp only [Sem.run_bind, run_program, Result.andThen_ok, hf, hn, hb, Bool.false_eq_true, if_false]
  rfl
/-- what CommandPossible asks of the function in the table -/
def PossF (f : Nat) (o : Cm) (h : Hp) : Prop := ∀ (A R : Option Addr) (n c m d : Nat) (w : World), HS w w.heap.size A n R m h → n ≤ 1099511627776 → m ≤ 1099511627776 → n ≤ c → m ≤ d →
  Calls Tryd.prog f #[cmV o, heapV A n c R m d] w fun e w' => e = .returned (.bool (Hps.canH h o)) ∧ Below w.heap.size w w'
theorem poss_always {o : Cm} {h : Hp} (hc : Hps.canH h o = true) : PossF 146 o h := by
  intro A R n c m d w _ _ _ _ _
  rw [hc]
  have bb : Below w.heap.size w ((w.alloc (.cells #[.int .i64 o.op, .int .i64 o.a, .int .i64 o.b, .int .i64 o.c] 49)).alloc (.cells #[.slice A n c, .slice R m d] 26)) := ((Below.refl _ _).alloc (Nat.le_refl _) _).alloc (by simp) _
  go_enter Tryd.func146, Tryd.ntmps146
  go_wp2_with fail
  go_ret
  exact ⟨rfl, bb⟩
set_option maxHeartbeats 1000000 in
theorem poss_get {o : Cm} {h : Hp} (hv : Hps.validH h = true) (ho : Hps.okCm o = true) (e2 : o.op = 2) : PossF 148 o h := by
  intro A R n c m d w hs hn hm hc hd
  have R0 := Lib.hid (Hps.canH_get hv ho e2)
  obtain ⟨_, ⟨hb1, hb2⟩, _⟩ := (Hps.okCm_get (.inl e2)).1 ho
  obtain ⟨b, hbn⟩ := Int.eq_ofNat_of_zero_le hb1
  have hr4 := (Hps.valid_iff.1 hv).2.2.1
  have hx := List.getElem?_eq_getElem (show b < h.rt.length by omega)
  generalize h.rt[b]'(by omega) = x at hx
  have HRt := Lib.hid (Hps.rootAt_nat hx)
  have ok := Hps.valid_root hv hx
  obtain ⟨op, a, b', cc⟩ := o
  simp only at hbn
  subst hbn
  have bb : Below w.heap.size w ((w.alloc (.cells #[.int .i64 op, .int .i64 a, .int .i64 b, .int .i64 cc] 49)).alloc (.cells #[.slice A n c, .slice R m d] 26)) := ((Below.refl _ _).alloc (Nat.le_refl _) _).alloc (by simp) _
  have s2 := hs.up bb
  clear hb1 hb2 e2 ho hr4
  go_enter Tryd.func148, Tryd.ntmps148
  go_wp2_with fail
  refine (hasRef_any _ _ _ _ _ _ h b cc x _ s2 hn hx ok).mono ?_
  rintro e w1 ⟨rfl, b1⟩
  have b3 := bb.trans (b1.mono bb.size)
  go_wp2_with fail
  go_ret
  exact ⟨by rw [R0.out]; simp only [HRt.out]; rfl, b3⟩
set_option maxHeartbeats 1000000 in
theorem poss_set {o : Cm} {h : Hp} (hv : Hps.validH h = true) (ho : Hps.okCm o = true) (e2 : o.op = 3) : PossF 150 o h := by
  intro A R n c m d w hs hn hm hc hd
  have R0 := Lib.hid (Hps.canH_set hv ho e2)
  obtain ⟨hb1, hb2⟩ := Hps.okCm_a ho
  obtain ⟨b, hbn⟩ := Int.eq_ofNat_of_zero_le hb1
  have hr4 := (Hps.valid_iff.1 hv).2.2.1
  have hx := List.getElem?_eq_getElem (show b < h.rt.length by omega)
  generalize h.rt[b]'(by omega) = x at hx
  have HRt := Lib.hid (Hps.rootAt_nat hx)
  have ok := Hps.valid_root hv hx
  obtain ⟨op, a, b', cc⟩ := o
  simp only at hbn
  subst hbn
  have bb : Below w.heap.size w ((w.alloc (.cells #[.int .i64 op, .int .i64 b, .int .i64 b', .int .i64 cc] 49)).alloc (.cells #[.slice A n c, .slice R m d] 26)) := ((Below.refl _ _).alloc (Nat.le_refl _) _).alloc (by simp) _
  have s2 := hs.up bb
  clear hb1 hb2 e2 ho hr4
  go_enter Tryd.func150, Tryd.ntmps150
  go_wp2_with fail
  refine (hasRef_any _ _ _ _ _ _ h b cc x _ s2 hn hx ok).mono ?_
  rintro e w1 ⟨rfl, b1⟩
  have b3 := bb.trans (b1.mono bb.size)
  go_wp2_with fail
  go_ret
  exact ⟨by rw [R0.out]; simp only [HRt.out]; rfl, b3⟩
set_option maxHeartbeats 1000000 in
theorem poss_data {o : Cm} {h : Hp} (hv : Hps.validH h = true) (ho : Hps.okCm o = true) (e2 : o.op = 6) : PossF 154 o h := by
  intro A R n c m d w hs hn hm hc hd
  have R0 := Lib.hid (Hps.canH_data hv ho e2)
  obtain ⟨hb1, hb2⟩ := Hps.okCm_a ho
  obtain ⟨b, hbn⟩ := Int.eq_ofNat_of_zero_le hb1
  have hr4 := (Hps.valid_iff.1 hv).2.2.1
  have hx := List.getElem?_eq_getElem (show b < h.rt.length by omega)
  generalize h.rt[b]'(by omega) = x at hx
  have HRt := Lib.hid (Hps.rootAt_nat hx)
  have ok := Hps.valid_root hv hx
  obtain ⟨op, a, b', cc⟩ := o
  simp only at hbn
  subst hbn
  have bb : Below w.heap.size w ((w.alloc (.cells #[.int .i64 op, .int .i64 b, .int .i64 b', .int .i64 cc] 49)).alloc (.cells #[.slice A n c, .slice R m d] 26)) := ((Below.refl _ _).alloc (Nat.le_refl _) _).alloc (by simp) _
  have s2 := hs.below bb
  have hlr := hs.roots.1
  have hb4 : b < m := by
    simp only at hb2
    omega
  obtain ⟨g, og, x', rfl, hg, hx', d1⟩ := s2.roots.at_ (k := b) hb4
  rw [hx] at hx'
  obtain rfl := Option.some.inj hx'
  have hbm : (b : Int) < m := by exact_mod_cast hb4
  have HV := Lib.hid (show (x != -1) = decide (0 ≤ x) by
    rcases okRef_form ok with rfl | ⟨y, rfl, _⟩
    · rfl
    · rw [decide_eq_true (by omega : (0 : Int) ≤ (y : Int)), bne_iff_ne]
      omega)
  clear hb1 hb2 e2 ho hr4 hx hx' s2 hlr hs
  go_enter Tryd.func154, Tryd.ntmps154
  go_wp2_with fail
  go_ret
  exact ⟨by rw [R0.out]; simp only [HRt.out]; rw [← HV.out]; rfl, bb⟩
end Go.Proofs.YthmddmddcdofaaaDoor

namespace Go.Proofs.YthmddmddcdofaaaDoor
open Go.RowKit
set_option maxRecDepth 100000
/-- a heap of the call's own, and what a pointer v leads to lies apart, once l -/
def OwnF (w : World) (base : Nat) (v : Value) (l : Bool) (vc vr : Value) (h : Hp) : Prop := ∃ rvs, OwnHx w base vc vr rvs h ∧ ∀ g, l = true → v = .pointer (some ⟨g, 0, none⟩) → Apart (some g) (vc :: vr :: rvs)
section
variable {w w' : World} {base : Nat} {v vc vr : Value} {l l' : Bool} {h : Hp}
theorem OwnF.own (ho : OwnF w base v l vc vr h) : OwnH w base vc vr h := by
  obtain ⟨rvs, o, _⟩ := ho
  exact ⟨rvs, o⟩
theorem OwnF.below (ho : OwnF w base v l vc vr h) (hb : Below w.heap.size w w') : OwnF w' base v l vc vr h := by
  obtain ⟨rvs, o, a⟩ := ho
  exact ⟨rvs, o.below hb (Nat.le_refl _), a⟩
theorem OwnF.alloc (ho : OwnF w base v l vc vr h) (ob : Obj) : OwnF (w.alloc ob) base (.pointer (some ⟨w.heap.size, 0, none⟩)) l' vc vr h := by
  obtain ⟨rvs, o, a⟩ := ho
  refine ⟨rvs, o.below ((Below.refl _ _).alloc (Nat.le_refl _) _) (Nat.le_refl _), fun g _ e => ?_⟩
  injection e with e
  injection e with e
  injection e with e
  subst e
  exact o.apart_new (Nat.le_refl _)
theorem OwnF.new (ho : OwnH w base vc vr h) (hv : ∀ g, l = true → v = .pointer (some ⟨g, 0, none⟩) → g < base) : OwnF w base v l vc vr h := by
  obtain ⟨rvs, o⟩ := ho
  exact ⟨rvs, o, fun g hl e => o.apart_below (hv g hl e)⟩
theorem OwnF.put {g : Nat} (ho : OwnF w base (.pointer (some ⟨g, 0, none⟩)) l vc vr h) (hl : l = true) (u u' : Value) : OwnF ((w.setCell ⟨g, 0, none⟩ u).setCell ⟨g, 1, none⟩ u') base (.pointer (some ⟨g, 0, none⟩)) l vc vr h := by
  obtain ⟨rvs, o, a⟩ := ho
  exact ⟨rvs, (o.far (put_any w g 0 u) (a g hl rfl)).far (put_any _ g 1 u') (a g hl rfl), a⟩
end
/-- while a program runs: the heap so far in the box b -/
structure RunSt (w wr : World) (b : Nat) (vc vr : Value) (h : Hp) : Prop where
  own : ∃ rvs, OwnHx wr (w.heap.size + 1) vc vr rvs h ∧ Apart (some b) (vc :: vr :: rvs)
  box : Rw wr b 26 #[vc, vr]
  res : Rw wr w.heap.size 26 #[.slice none 0 0, .slice none 0 0]
  bel : Below w.heap.size w wr
  lo : w.heap.size + 1 ≤ b
theorem RunSt.next {w wr w5 : World} {b : Nat} {vc vr vc' vr' : Value} {h h' : Hp} (S : RunSt w wr b vc vr h) (B : Below wr.heap.size wr w5) (o : OwnH w5 wr.heap.size vc' vr' h') :
    RunSt w ((w5.setCell ⟨b, 0, none⟩ vc').setCell ⟨b, 1, none⟩ vr') b vc' vr' h' := by
  have hb := S.box.lt
  have hlo := S.lo
  obtain ⟨rvs, own⟩ := o
  have ap : Apart (some b) (vc' :: vr' :: rvs) := own.apart_below hb
  have x1 := S.box.keep B hb
  have x2 := S.res.keep B S.res.lt
  refine ⟨⟨rvs, ((own.far (put_any w5 b 0 vc') ap).far (put_any _ b 1 vr') ap).base (by omega), ap⟩, (x1.put 0 vc').put 1 vr', (x2.other (by omega) _).other (by omega) _, ?_, hlo⟩
  exact ((S.bel.trans (B.mono S.bel.size)).setCell (p := ⟨b, 0, none⟩) (by show w.heap.size ≤ b; omega) _).setCell (p := ⟨b, 1, none⟩) (by show w.heap.size ≤ b; omega) _
end Go.Proofs.YthmddmddcdofaaaDoor

namespace Go.Proofs.YthmddmddcdofaaaDoor
open Go.RowKit
set_option maxRecDepth 100000
/-- a heap of the call's own in the box b; what was there before the world w0 is as it was -/
structure BoxSt (w0 wr : World) (b : Nat) (vc vr : Value) (rvs : List Value) (h : Hp) : Prop where
  own : OwnHx wr w0.heap.size vc vr rvs h
  apart : Apart (some b) (vc :: vr :: rvs)
  box : Rw wr b 26 #[vc, vr]
  low : Below w0.heap.size w0 wr
  lo : w0.heap.size ≤ b
section
variable {w0 wr w1 : World} {b g c d i k : Nat} {vc vr : Value} {rvs : List Value} {h : Hp} {cl : Cl}
theorem BoxSt.up (S : BoxSt w0 wr b vc vr rvs h) (hw : Below wr.heap.size wr w1) : BoxSt w0 w1 b vc vr rvs h :=
  ⟨S.own.below hw (Nat.le_refl _), S.apart, S.box.keep hw S.box.lt, S.low.trans (hw.mono S.low.size), S.lo⟩
theorem BoxSt.drew (S : BoxSt w0 wr b vc vr rvs h) : BoxSt w0 wr.drew b vc vr rvs h := S.up (Below.refl _ _).drew
theorem BoxSt.into (S : BoxSt w0 wr b vc vr rvs h) {v : Value} (hv : v ∈ vc :: vr :: rvs) (hg : v.ownBlock = some g) {rvs' : List Value} {h' : Hp} (u : Value)
    (ho : OwnHx (wr.setCell ⟨g, i, none⟩ u) w0.heap.size vc vr rvs' h') (ha : ∀ v ∈ rvs', v.ownBlock = none ∨ v.ownBlock ≠ some b) : BoxSt w0 (wr.setCell ⟨g, i, none⟩ u) b vc vr rvs' h' := by
  have h1 := S.own.blocks hv hg
  have h2 : b ≠ g := by
    rcases S.apart v hv with e | e
    · rw [hg] at e; cases e
    · intro e'; rw [hg] at e; exact e (by rw [e'])
  refine ⟨ho, ?_, S.box.other h2 u, S.low.setCell (p := ⟨g, i, none⟩) (by show w0.heap.size ≤ g; omega) u, S.lo⟩
  intro x hx
  simp only [List.mem_cons] at hx
  rcases hx with rfl | rfl | hx
  · exact S.apart x (by simp)
  · exact S.apart x (by simp)
  · exact ha x hx
theorem BoxSt.root {m : Nat} (S : BoxSt w0 wr b vc (.slice (some ⟨g, 0, none⟩) m d) rvs h) (hm : h.rt.length = m) (x : Int) : BoxSt w0 (wr.setCell ⟨g, i, none⟩ (.int .i64 x)) b vc (.slice (some ⟨g, 0, none⟩) m d) rvs ⟨h.cs, h.rt.set i x⟩ := by
  subst hm
  exact S.into (v := .slice (some ⟨g, 0, none⟩) h.rt.length d) (by simp) rfl _ (S.own.root x) fun v hv => S.apart v (by simp [hv])
theorem BoxSt.data {n : Nat} (S : BoxSt w0 wr b (.slice (some ⟨g, 0, none⟩) n d) vr rvs h) (hn : h.cs.length = n) (hc : h.cs[k]? = some cl) (x : Int) : BoxSt w0 (wr.setCell ⟨g, k * 3 + 1, none⟩ (.int .i64 x)) b (.slice (some ⟨g, 0, none⟩) n d) vr rvs ⟨h.cs.set k ⟨cl.u, x, cl.r⟩, h.rt⟩ := by
  subst hn
  exact S.into (v := .slice (some ⟨g, 0, none⟩) h.cs.length d) (by simp) rfl _ (S.own.data hc x) fun v hv => S.apart v (by simp [hv])
theorem BoxSt.ref1 {m : Nat} (S : BoxSt w0 wr b vc vr rvs h) (hc : h.cs[k]? = some cl) (hv : rvs[k]? = some (.slice (some ⟨g, 0, none⟩) m d)) (hm : cl.r.length = m) (x : Int) : BoxSt w0 (wr.setCell ⟨g, i, none⟩ (.int .i64 x)) b vc vr rvs ⟨h.cs.set k ⟨cl.u, cl.d, cl.r.set i x⟩, h.rt⟩ := by
  subst hm
  exact S.into (v := .slice (some ⟨g, 0, none⟩) cl.r.length d) (by simp [List.mem_of_getElem? hv]) rfl _ (S.own.ref1 hc hv x) fun v hv => S.apart v (by simp [hv])
theorem BoxSt.snoc {v9 v8 : Value} (S : BoxSt w0 wr b vc vr rvs h) (hG : wr.grownBy w1 vc.ownBlock)
    (o9 : w1.ownsRow w0.heap.size 40 3 v9 (h.cs.length + 1) (flatC h.cs rvs ++ [.bool cl.u, .int .i64 cl.d, v8])) (q : v9.ownBlock = vc.ownBlock ∨ v9.ownBlock = some wr.heap.size)
    (o8 : OwnI wr w0.heap.size v8 cl.r) (hap : ∀ v ∈ vc :: vr :: rvs, v8.ownBlock = none ∨ v8.ownBlock ≠ v.ownBlock) (h8b : v8.ownBlock ≠ some b) :
    BoxSt w0 (w1.setCell ⟨b, 0, none⟩ v9) b v9 vr (rvs ++ [v8]) ⟨h.cs ++ [cl], h.rt⟩ := by
  have hn := S.own.snoc hG o9 q o8 hap
  have hlo := S.lo
  have hbl := S.box.lt
  have hvcb : some b ≠ vc.ownBlock := by
    rcases S.apart vc (by simp) with e | e
    · rw [e]; simp
    · exact fun h => e h.symm
  have ap : Apart (some b) (v9 :: vr :: (rvs ++ [v8])) := by
    intro v hv
    simp only [List.mem_cons, List.mem_append, List.not_mem_nil, or_false] at hv
    rcases hv with rfl | rfl | hv | rfl
    · right
      rcases q with e | e
      · rw [e]; exact fun h => hvcb h.symm
      · rw [e]; intro e'; injection e' with e'; omega
    · exact S.apart v (by simp)
    · exact S.apart v (by simp [hv])
    · exact .inr h8b
  refine ⟨hn.far (put_any w1 b 0 v9) ap, ap, (Rw.far S.box hG hvcb).put 0 v9, ?_, hlo⟩
  exact (S.low.grown hG S.low.size (fun kk hk => (S.own.blocks (v := vc) (by simp) hk).1)).setCell (p := ⟨b, 0, none⟩) (by show w0.heap.size ≤ b; omega) _
theorem BoxSt.cell {n : Nat} {rv : Value} {old : Cl} (S : BoxSt w0 wr b (.slice (some ⟨g, 0, none⟩) n c) vr rvs h) (hn : h.cs.length = n) (hc : h.cs[k]? = some old) (o : OwnI wr w0.heap.size rv cl.r) (hap : ∀ v ∈ (Value.slice (some ⟨g, 0, none⟩) n c) :: vr :: rvs, rv.ownBlock = none ∨ rv.ownBlock ≠ v.ownBlock) (h8b : rv.ownBlock = none ∨ rv.ownBlock ≠ some b) :
    BoxSt w0 (((wr.setCell ⟨g, k * 3, none⟩ (.bool cl.u)).setCell ⟨g, k * 3 + 1, none⟩ (.int .i64 cl.d)).setCell ⟨g, k * 3 + 2, none⟩ rv) b (.slice (some ⟨g, 0, none⟩) n c) vr (rvs.set k rv) ⟨h.cs.set k cl, h.rt⟩ := by
  subst hn
  have hm : (Value.slice (some ⟨g, 0, none⟩) h.cs.length c) ∈ (Value.slice (some ⟨g, 0, none⟩) h.cs.length c) :: vr :: rvs := by simp
  have h1 : w0.heap.size ≤ g ∧ g < wr.heap.size := S.own.blocks hm rfl
  have h2 : b ≠ g := by
    rcases S.apart _ hm with e | e
    · cases e
    · intro e'; exact e (by rw [e']; rfl)
  refine ⟨S.own.cell hc o hap, ?_, ((S.box.other h2 _).other h2 _).other h2 _, ?_, S.lo⟩
  · intro x hx
    simp only [List.mem_cons] at hx
    rcases hx with rfl | rfl | hx
    · exact S.apart _ (by simp)
    · exact S.apart x (by simp)
    · rcases List.mem_or_eq_of_mem_set hx with hx | rfl
      · exact S.apart x (by simp [hx])
      · exact h8b
  · exact ((S.low.setCell (p := ⟨g, k * 3, none⟩) (by show w0.heap.size ≤ g; omega) _).setCell (p := ⟨g, k * 3 + 1, none⟩) (by show w0.heap.size ≤ g; omega) _).setCell (p := ⟨g, k * 3 + 2, none⟩) (by show w0.heap.size ≤ g; omega) _
theorem BoxSt.ownH (S : BoxSt w0 wr b vc vr rvs h) : OwnH wr w0.heap.size vc vr h := ⟨rvs, S.own⟩
theorem BoxSt.of {w1 : World} (o : OwnH w1 w0.heap.size vc vr h) (hb : Below w0.heap.size w0 w1) : ∃ rvs, BoxSt w0 (w1.alloc (.cells #[vc, vr] 26)) w1.heap.size vc vr rvs h := by
  obtain ⟨rvs, own⟩ := o
  exact ⟨rvs, own.below ((Below.refl _ _).alloc (Nat.le_refl _) _) (Nat.le_refl _), own.apart_new (Nat.le_refl _), Rw.new _ _ _, hb.alloc hb.size _, hb.size⟩
end
set_option maxHeartbeats 4000000 in
theorem l11Drop_any (A R D : Option Addr) (n c m d e : Nat) (h : Hp) (bs : List Bool) (w : World) (hs : HS w w.heap.size A n R m h) (ho : OS w w.heap.size D n bs) (hn : n ≤ 1000000) (hm : m ≤ 1000000) (h3 : ∀ cl ∈ h.cs, cl.r.length ≤ 1000000) :
    Calls Tryd.prog 77 #[heapV A n c R m d, .slice D n e] w (GaveH w (Hps.dropH h bs)) := by
  have hlc := hs.cells.1
  have hlr := hs.roots.1
  have hlb := ho.1
  have b2 : Below w.heap.size w ((w.alloc (.cells #[.slice A n c, .slice R m d] 26)).alloc (.cells #[.slice none 0 0, .slice none 0 0] 26)) := ((Below.refl w.heap.size w).alloc (Nat.le_refl _) _).alloc (by simp) _
  have s2 := hs.up b2
  have q2 := Rw.new (w.alloc (.cells #[.slice A n c, .slice R m d] 26)) 26 #[.slice none 0 0, .slice none 0 0]
  simp only [World.size_alloc] at q2
  have q1 := (Rw.new w 26 #[.slice A n c, .slice R m d]).alloc (.cells #[.slice none 0 0, .slice none 0 0] 26)
  have hz : ((w.alloc (.cells #[.slice A n c, .slice R m d] 26)).alloc (.cells #[.slice none 0 0, .slice none 0 0] 26)).heap.size = w.heap.size + 1 + 1 := by simp
  go_enter Tryd.func77, Tryd.ntmps77
  go_upto_region 1 with fail
  generalize (w.alloc (.cells #[.slice A n c, .slice R m d] 26)).alloc (.cells #[.slice none 0 0, .slice none 0 0] 26) = w0 at b2 s2 q1 q2 hz ⊢
  have HZ := Lib.hid hz
  clear hz
  have y0 : w0.cell? ⟨w.heap.size, 0, none⟩ = some (.slice A n c) := q1.cell 0
  have y1 : w0.cell? ⟨w.heap.size, 1, none⟩ = some (.slice R m d) := q1.cell 1
  go_wp2_with fail
  clear y0 y1 q1
  refine (l7Copy_any _ _ _ _ _ _ h _ s2 hn hm h3).mono ?_
  rintro e w1 ⟨vc, vr, rfl, oh, b1⟩
  obtain ⟨rvs, S0⟩ := BoxSt.of oh b1
  obtain ⟨Ac, cc, Rc, dc, rfl, rfl, -⟩ := oh.form
  rw [hlc, hlr] at S0 ⊢
  clear oh b1 s2 h3
  go_upto_region 2 with fail
  generalize w1.alloc (.cells #[.slice Ac n cc, .slice Rc m dc] 26) = w3 at S0 ⊢
  generalize w1.heap.size = b at S0 ⊢
  clear w1
  have HLC := Lib.hid hlc
  have HLB := Lib.hid hlb
  clear hlc hlb hlr
  go_wp2_with fail
  go_loopw [6] (fun i wr => ∃ (k : Nat) (rvs : List Value), k ≤ n ∧ i = .int .i64 k ∧ BoxSt w0 wr b (.slice Ac n cc) (.slice Rc m dc) rvs ⟨Hps.dropL h.cs (bs.take k), h.rt⟩) (fun i _ => n - (intOf i).toNat)
  case atStart => exact ⟨0, rvs, by omega, rfl, by rw [List.take_zero, Hps.dropL_nil]; exact S0⟩
  case round =>
    clear S0 rvs
    obtain ⟨k, rvs, hk, rfl, S⟩ := hrel
    have bw := b2.trans (S.low.mono b2.size)
    have x0 : wr.cell? ⟨b, 0, none⟩ = some (.slice Ac n cc) := S.box.cell 0
    have x1 : wr.cell? ⟨b, 1, none⟩ = some (.slice Rc m dc) := S.box.cell 1
    by_cases hlt : k < n
    · obtain ⟨g, o, bl, rfl, hg, hbl, c1⟩ := (ho.below bw).at_ hlt
      have hlt' : (k : Int) < n := by omega
      have hkl : k < h.cs.length := by rw [HLC.out]; exact hlt
      have HS := Lib.hid (Hps.dropL_succ hbl hkl)
      cases bl
      · clear hbl hkl
        have HS' := HS.out
        rw [if_neg (by simp)] at HS'
        have HS2 := Lib.hid HS'
        clear HS' HS
        go_wp2_with fail
        go_roundw
        case rel => exact ⟨k + 1, rvs, by omega, by go_num, by rw [HS2.out]; exact S⟩
        case measure => simp [intOf]; omega
      · have HS' := HS.out
        rw [if_pos rfl] at HS'
        have HS2 := Lib.hid HS'
        have hdl : (Hps.dropL h.cs (bs.take k)).length = n := by rw [Hps.dropL_len]; exact HLC.out
        obtain ⟨old, hold⟩ : ∃ old, (Hps.dropL h.cs (bs.take k))[k]? = some old := ⟨_, List.getElem?_eq_getElem (show k < _ by rw [hdl]; exact hlt)⟩
        obtain ⟨gc, v, e4, hgc1, hgc2, -, -, y0, y1, y2, fz⟩ := S.own.cell_at hold
        subst e4
        have f0 := fz (k * 3)
        have f1 := fz (k * 3 + 1)
        have f2 := fz (k * 3 + 2)
        have SN := S.cell (cl := Hps.zeroCl) (rv := .slice none 0 0) hdl hold (World.ownsRow_nil _ _ _ _) (fun _ _ => .inl rfl) (.inl rfl)
        rw [← HS2.out] at SN
        have SH := Lib.hid SN
        clear hbl hkl hold hdl S SN HS HS' HS2 fz
        go_wp2_with fail
        go_roundw
        case rel => exact ⟨k + 1, _, by omega, by go_num, SH.out⟩
        case measure => simp [intOf]; omega
    · obtain rfl : k = n := by omega
      have HE := Lib.hid (show Hps.dropL h.cs (bs.take k) = Hps.dropL h.cs bs by rw [List.take_of_length_le (by rw [HLB.out]; omega)])
      have q3 := q2.keep S.low q2.lt
      have r2 : wr.frozen? ⟨w.heap.size + 1, 0, none⟩ = false := q3.frozen 0
      have r3 : wr.frozen? ⟨w.heap.size + 1, 1, none⟩ = false := q3.frozen 1
      have r4 : wr.cell? ⟨w.heap.size + 1, 0, none⟩ = some (.slice none 0 0) := q3.cell 0
      have r5 : wr.cell? ⟨w.heap.size + 1, 1, none⟩ = some (.slice none 0 0) := q3.cell 1
      have r6 : ((wr.setCell ⟨w.heap.size + 1, 0, none⟩ (.slice Ac k cc)).setCell ⟨w.heap.size + 1, 1, none⟩ (.slice Rc m dc)).cell? ⟨w.heap.size + 1, 0, none⟩ = some (.slice Ac k cc) := ((q3.put 0 (.slice Ac k cc)).put 1 (.slice Rc m dc)).cell 0
      have r7 : ((wr.setCell ⟨w.heap.size + 1, 0, none⟩ (.slice Ac k cc)).setCell ⟨w.heap.size + 1, 1, none⟩ (.slice Rc m dc)).cell? ⟨w.heap.size + 1, 1, none⟩ = some (.slice Rc m dc) := ((q3.put 0 (.slice Ac k cc)).put 1 (.slice Rc m dc)).cell 1
      have D := Lib.hid (S.ownH.out (w := w) (g := w.heap.size + 1) q2.lt bw (by omega))
      clear S q2 q3
      go_wp2_with fail
      exact bodyPost_ret (v := .agg #[.slice Ac k cc, .slice Rc m dc]) (by simp [results, Tryd.results77, go_sem, *]) rfl ⟨_, _, rfl, by rw [Hps.dropH, ← HE.out]; exact D.out.1, D.out.2⟩
end Go.Proofs.YthmddmddcdofaaaDoor
namespace Go.Proofs.YthmddmddcdofaaaDoor
open Go.RowKit
set_option maxRecDepth 100000
/-- a heap of the call's own, and a number -/
def GaveHN (w : World) (h : Hp) (k : Int) (e : Ending) (w' : World) : Prop := ∃ vc vr, e = .returned (.tuple #[.agg #[vc, vr], .int .i64 k]) ∧ OwnH w' w.heap.size vc vr h ∧ Below w.heap.size w w'
namespace Hps
theorem sweepH_no {h : Hp} {bs : List Bool} (e : validH h = false ∨ bs.length ≠ h.cs.length) : sweepH h bs = (zeroH, -1) := by
  unfold sweepH
  rcases e with e | e <;> simp [e]
theorem sweepH_bad {h : Hp} {bs : List Bool} (h1 : validH h = true) (h2 : bs.length = h.cs.length) (h3 : validH (dropH h (bs.map (!·))) = false) : sweepH h bs = (zeroH, -1) := by simp [sweepH, h1, h2, h3]
theorem sweepH_ok {h : Hp} {bs : List Bool} (h1 : validH h = true) (h2 : bs.length = h.cs.length) (h3 : validH (dropH h (bs.map (!·))) = true) : sweepH h bs = (dropH h (bs.map (!·)), (freedTo h.cs bs h.cs.length : Int)) := by simp [sweepH, h1, h2, h3]
theorem freedTo_kept {cs : List Cl} {bs : List Bool} {k : Nat} (h : bs[k]? = some true) : freedTo cs bs (k + 1) = freedTo cs bs k := by simp [freedTo, h]
theorem freedTo_free {cs : List Cl} {bs : List Bool} {k : Nat} {c : Cl} (h : bs[k]? = some false) (hc : cs[k]? = some c) : freedTo cs bs (k + 1) = freedTo cs bs k + (if c.u = true then 1 else 0) := by
  have : usedAt cs k = c.u := by simp [usedAt, hc]
  simp [freedTo, h, this]
theorem not_succ {bs : List Bool} {k : Nat} {b : Bool} (h : bs[k]? = some b) : (bs.take (k + 1)).map (!·) = (bs.take k).map (!·) ++ [!b] := by
  rw [List.take_add_one, h]
  simp
end Hps
set_option maxHeartbeats 4000000 in
theorem mSweepCells_any (A R D : Option Addr) (n c m d q e : Nat) (h : Hp) (bs : List Bool) (w : World) (hs : HS w w.heap.size A n R m h) (ho : OS w w.heap.size D q bs) (hn : n ≤ 1099511627776) (hm : m ≤ 1099511627776) (hq : q ≤ 1099511627776) :
    Calls Tryd.prog 27 #[heapV A n c R m d, .slice D q e] w (GaveHN w (Hps.sweepH h bs).1 (Hps.sweepH h bs).2) := by
  have hlc := hs.cells.1
  have hlr := hs.roots.1
  have hlb := ho.1
  have b2 : Below w.heap.size w ((w.alloc (.cells #[.slice A n c, .slice R m d] 26)).alloc (.cells #[.slice none 0 0, .slice none 0 0] 26)) := ((Below.refl w.heap.size w).alloc (Nat.le_refl _) _).alloc (by simp) _
  have s2 := hs.up b2
  have q3 := Rw.new (w.alloc (.cells #[.slice A n c, .slice R m d] 26)) 26 #[.slice none 0 0, .slice none 0 0]
  simp only [World.size_alloc] at q3
  have q1 := (Rw.new w 26 #[.slice A n c, .slice R m d]).alloc (.cells #[.slice none 0 0, .slice none 0 0] 26)
  go_enter Tryd.func27, Tryd.ntmps27
  go_wp2_with fail
  refine (mHeapValid_any _ _ _ _ _ _ h _ s2 hn hm).mono ?_
  rintro e w1 ⟨rfl, b1⟩
  replace q1 := q1.keep b1 q1.lt
  replace q3 := q3.keep b1 q3.lt
  replace b2 := b2.trans (b1.mono b2.size)
  have hG : w.heap.size + 1 < w1.heap.size := q3.lt
  clear b1 s2
  cases hv : Hps.validH h
  · have HF := Lib.hid (Hps.sweepH_no (bs := bs) (.inl hv))
    have r2 : (w1).frozen? ⟨w.heap.size + 1, 0, none⟩ = false := q3.frozen 0
    have r3 : (w1).frozen? ⟨w.heap.size + 1, 1, none⟩ = false := q3.frozen 1
    have r4 : (w1).cell? ⟨w.heap.size + 1, 0, none⟩ = some (.slice none 0 0) := q3.cell 0
    have r5 : (w1).cell? ⟨w.heap.size + 1, 1, none⟩ = some (.slice none 0 0) := q3.cell 1
    have r6 : (((w1).setCell ⟨w.heap.size + 1, 0, none⟩ (.slice none 0 0)).setCell ⟨w.heap.size + 1, 1, none⟩ (.slice none 0 0)).cell? ⟨w.heap.size + 1, 0, none⟩ = some (.slice none 0 0) := ((q3.put 0 (.slice none 0 0)).put 1 (.slice none 0 0)).cell 0
    have r7 : (((w1).setCell ⟨w.heap.size + 1, 0, none⟩ (.slice none 0 0)).setCell ⟨w.heap.size + 1, 1, none⟩ (.slice none 0 0)).cell? ⟨w.heap.size + 1, 1, none⟩ = some (.slice none 0 0) := ((q3.put 0 (.slice none 0 0)).put 1 (.slice none 0 0)).cell 1
    have D := Lib.hid ((own_zeroH (w1) (w1).heap.size (Nat.le_refl _)).out (w := w) (g := w.heap.size + 1) q3.lt b2 (by omega))
    clear q1 q3 b2 hv
    go_wp2_with fail
    exact bodyPost_ret (v := .tuple #[.agg #[.slice none 0 0, .slice none 0 0], .int .i64 (-1)]) (by simp [results, Tryd.results27, go_sem, *]) rfl ⟨_, _, by rw [HF.out], by rw [HF.out]; exact D.out.1, D.out.2⟩
  have x0 : w1.cell? ⟨w.heap.size, 0, none⟩ = some (.slice A n c) := q1.cell 0
  have x1 : w1.cell? ⟨w.heap.size, 1, none⟩ = some (.slice R m d) := q1.cell 1
  by_cases hqn : q = n
  case neg =>
    have HF := Lib.hid (Hps.sweepH_no (h := h) (bs := bs) (.inr (by rw [hlb, hlc]; exact hqn)))
    have hne : ((q : Int) != n) = true := by rw [bne_iff_ne]; omega
    have r2 : (w1).frozen? ⟨w.heap.size + 1, 0, none⟩ = false := q3.frozen 0
    have r3 : (w1).frozen? ⟨w.heap.size + 1, 1, none⟩ = false := q3.frozen 1
    have r4 : (w1).cell? ⟨w.heap.size + 1, 0, none⟩ = some (.slice none 0 0) := q3.cell 0
    have r5 : (w1).cell? ⟨w.heap.size + 1, 1, none⟩ = some (.slice none 0 0) := q3.cell 1
    have r6 : (((w1).setCell ⟨w.heap.size + 1, 0, none⟩ (.slice none 0 0)).setCell ⟨w.heap.size + 1, 1, none⟩ (.slice none 0 0)).cell? ⟨w.heap.size + 1, 0, none⟩ = some (.slice none 0 0) := ((q3.put 0 (.slice none 0 0)).put 1 (.slice none 0 0)).cell 0
    have r7 : (((w1).setCell ⟨w.heap.size + 1, 0, none⟩ (.slice none 0 0)).setCell ⟨w.heap.size + 1, 1, none⟩ (.slice none 0 0)).cell? ⟨w.heap.size + 1, 1, none⟩ = some (.slice none 0 0) := ((q3.put 0 (.slice none 0 0)).put 1 (.slice none 0 0)).cell 1
    have D := Lib.hid ((own_zeroH (w1) (w1).heap.size (Nat.le_refl _)).out (w := w) (g := w.heap.size + 1) q3.lt b2 (by omega))
    clear q1 q3 b2 hv hqn
    go_wp2_with fail
    exact bodyPost_ret (v := .tuple #[.agg #[.slice none 0 0, .slice none 0 0], .int .i64 (-1)]) (by simp [results, Tryd.results27, go_sem, *]) rfl ⟨_, _, by rw [HF.out], by rw [HF.out]; exact D.out.1, D.out.2⟩
  subst hqn
  have hn40 : q ≤ 40 := by rw [← hlc]; exact (Hps.valid_iff.1 hv).2.1
  have hm4 : m = 4 := by rw [← hlr]; exact (Hps.valid_iff.1 hv).2.2.1
  have H3 := Lib.hid (fun cl (hcl : cl ∈ h.cs) => show cl.r.length ≤ 1000000 by have := (Hps.okCell_iff.1 ((Hps.valid_iff.1 hv).1 cl hcl)).2.2.1; omega)
  have HLB := Lib.hid (show bs.length = h.cs.length by rw [hlb, hlc])
  have HLC := Lib.hid hlc
  have HB := Lib.hid hlb
  have HV := Lib.hid hv
  have HM := Lib.hid hm4
  have o0 := own_noneO w1 w1.heap.size (Nat.le_refl _)
  have e0 : Below w1.heap.size w1 (w1.alloc (.cells #[] 4)) := (Below.refl _ _).alloc (Nat.le_refl _) _
  clear hlb hlc hlr hv hm4
  go_wp2_with fail
  go_loopw [6, 7, 8] (fun v f i wr => ∃ k : Nat, k ≤ q ∧ i = .int .i64 k ∧ f = .int .i64 (Hps.freedTo h.cs bs k) ∧ OwnO wr w1.heap.size v ((bs.take k).map (!·)) ∧ Below w1.heap.size w1 wr) (fun _ _ i _ => q - (intOf i).toNat)
  case atStart => exact ⟨0, by omega, rfl, rfl, by rw [List.take_zero]; exact o0, e0⟩
  case round =>
    clear o0 e0
    obtain ⟨k, hk, rfl, rfl, ow, bb⟩ := hrel
    have bw := b2.trans (bb.mono b2.size)
    have x0' : wr.cell? ⟨w.heap.size, 0, none⟩ = some (.slice A q c) := (q1.keep bb q1.lt).cell 0
    have x1' : wr.cell? ⟨w.heap.size, 1, none⟩ = some (.slice R m d) := (q1.keep bb q1.lt).cell 1
    obtain ⟨Av, cv, e1, -⟩ := ow.form
    have hlen : ((bs.take k).map (!·)).length = k := by rw [List.length_map, List.length_take, HB.out]; omega
    rw [hlen] at e1
    subst e1
    have hfl := Hps.freedTo_le h.cs bs k
    by_cases hlt : k < q
    · obtain ⟨g, o, bl, rfl, hg, hbl, c1⟩ := (ho.below bw).at_ hlt
      obtain ⟨g2, o2, cl, A', m', cc, rfl, hg2, hcl, d1, d2, d3, -, -⟩ := (hs.cells.below bw).at_ hlt
      have hlt' : (k : Int) < q := by omega
      have HN := Lib.hid (Hps.not_succ hbl)
      have ow2 := World.ownsRow.alloc ow (.cells #[.bool (!bl)] 4)
      have rr : OS (wr.alloc (.cells #[.bool (!bl)] 4)) (wr.alloc (.cells #[.bool (!bl)] 4)).heap.size (some ⟨wr.heap.size, 0, none⟩) 1 [!bl] := (own_oneO wr (!bl) 0 (Nat.zero_le _)).reads
      have bsz := bb.size
      have WB := Lib.hid (fun (w5 : World) (g5 : (wr.alloc (.cells #[.bool (!bl)] 4)).grownBy w5 (Value.slice Av k cv).ownBlock) => show Below w1.heap.size w1 w5 from (bb.alloc bb.size _).grown g5 (by simp; omega) (fun kk hk => (World.ownsRow.lt ow kk hk).1))
      have hgw := Nat.lt_of_lt_of_le hg (b2.size)
      have hgw2 := Nat.lt_of_lt_of_le hg2 (b2.size)
      have hq1 := q1.lt
      cases bl
      · have HFR := Lib.hid (Hps.freedTo_free hbl hcl)
        have y1 : w1.cell? ⟨g, o + k, none⟩ = some (.bool false) := (bb.cell (p := ⟨g, o + k, none⟩) hgw).symm.trans c1
        have y2 : w1.cell? ⟨g2, o2 + k * 3, none⟩ = some (.bool cl.u) := (bb.cell (p := ⟨g2, o2 + k * 3, none⟩) hgw2).symm.trans d1
        clear hbl hcl d2 d3 ow
        simp only [Bool.not_false] at ow2 rr WB HN
        cases hu : cl.u
        · rw [hu] at HFR d1 y2
          simp only [Bool.false_eq_true, if_false, Nat.add_zero] at HFR
          go_wp2_with (at_builtin; refine wpList_appendO rfl (.tmp 29) (.tmp 35) rfl w1.heap.size _ ((bs.take k).map (!·)) rfl ow2 (some ⟨wr.heap.size, 0, none⟩) 1 1 _ [true] rfl rr (by rw [hlen]; omega) (by simp; omega) ?_; intro v5 w5 o5 g5 s5; have BN := WB.out w5 g5; have c5 := (BN.cell (p := ⟨g, o + k, none⟩) hgw).trans y1; have y5 := (BN.cell (p := ⟨w.heap.size, 0, none⟩) (by show w.heap.size < w1.heap.size; omega)).trans x0; have e5 := (BN.cell (p := ⟨g2, o2 + k * 3, none⟩) hgw2).trans y2)
          go_roundw
          case rel => exact ⟨k + 1, by omega, by go_num, by rw [HFR.out], by rw [HN.out]; exact o5, BN⟩
          case measure => simp [intOf]; omega
        · rw [hu] at HFR d1 y2
          simp only [if_true] at HFR
          go_wp2_with (at_builtin; refine wpList_appendO rfl (.tmp 29) (.tmp 35) rfl w1.heap.size _ ((bs.take k).map (!·)) rfl ow2 (some ⟨wr.heap.size, 0, none⟩) 1 1 _ [true] rfl rr (by rw [hlen]; omega) (by simp; omega) ?_; intro v5 w5 o5 g5 s5; have BN := WB.out w5 g5; have c5 := (BN.cell (p := ⟨g, o + k, none⟩) hgw).trans y1; have y5 := (BN.cell (p := ⟨w.heap.size, 0, none⟩) (by show w.heap.size < w1.heap.size; omega)).trans x0; have e5 := (BN.cell (p := ⟨g2, o2 + k * 3, none⟩) hgw2).trans y2)
          go_roundw
          case rel => exact ⟨k + 1, by omega, by go_num, by rw [HFR.out]; go_num, by rw [HN.out]; exact o5, BN⟩
          case measure => simp [intOf]; omega
      · have HFR := Lib.hid (Hps.freedTo_kept (cs := h.cs) hbl)
        have y1 : w1.cell? ⟨g, o + k, none⟩ = some (.bool true) := (bb.cell (p := ⟨g, o + k, none⟩) hgw).symm.trans c1
        have y2 : w1.cell? ⟨g2, o2 + k * 3, none⟩ = some (.bool cl.u) := (bb.cell (p := ⟨g2, o2 + k * 3, none⟩) hgw2).symm.trans d1
        clear hbl hcl d2 d3 ow
        simp only [Bool.not_true] at ow2 rr WB HN
        go_wp2_with (at_builtin; refine wpList_appendO rfl (.tmp 29) (.tmp 35) rfl w1.heap.size _ ((bs.take k).map (!·)) rfl ow2 (some ⟨wr.heap.size, 0, none⟩) 1 1 _ [false] rfl rr (by rw [hlen]; omega) (by simp; omega) ?_; intro v5 w5 o5 g5 s5; have BN := WB.out w5 g5; have c5 := (BN.cell (p := ⟨g, o + k, none⟩) hgw).trans y1; have y5 := (BN.cell (p := ⟨w.heap.size, 0, none⟩) (by show w.heap.size < w1.heap.size; omega)).trans x0; have e5 := (BN.cell (p := ⟨g2, o2 + k * 3, none⟩) hgw2).trans y2)
        go_roundw
        case rel => exact ⟨k + 1, by omega, by go_num, by rw [HFR.out], by rw [HN.out]; exact o5, BN⟩
        case measure => simp [intOf]; omega
    · obtain rfl : k = q := by omega
      have ow' : OwnO wr w1.heap.size (.slice Av k cv) (bs.map (!·)) := by
        rw [List.take_of_length_le (by rw [HB.out]; omega)] at ow
        exact ow
      have rd := ow'.reads
      have hsr := hs.up bw
      clear ow hlen x0 x1
      go_wp2_with fail
      refine (l11Drop_any _ _ _ _ _ _ _ _ h (bs.map (!·)) _ hsr rd (by omega) (by have := HM.out; omega) H3.out).mono ?_
      rintro e w5 ⟨vc, vr, rfl, oh, b5⟩
      have b6 := bw.trans (b5.mono bw.size)
      have q3 := (q3.keep bb q3.lt).keep b5 (q3.keep bb q3.lt).lt
      obtain ⟨rvs, S⟩ := BoxSt.of oh b5
      obtain ⟨Ac, cc, Rc, dc, rfl, rfl, -⟩ := oh.form
      have hlx : (Hps.dropH h (bs.map (!·))).cs.length = k := by rw [Hps.dropH, Hps.dropL_len]; exact HLC.out
      have hrx : (Hps.dropH h (bs.map (!·))).rt.length = m := hsr.roots.1
      rw [hlx, hrx] at oh S ⊢
      have b7 : Below w.heap.size w (w5.alloc (.cells #[.slice Ac k cc, .slice Rc m dc] 26)) := b6.alloc b6.size _
      replace q3 := q3.alloc (.cells #[.slice Ac k cc, .slice Rc m dc] 26)
      clear oh b5 b6 hsr x0' x1' rd ow'
      go_upto_region 12 with fail
      generalize w5.alloc (.cells #[.slice Ac k cc, .slice Rc m dc] 26) = w6 at S b7 q3 ⊢
      generalize w5.heap.size = b at S ⊢
      have z0 : w6.cell? ⟨b, 0, none⟩ = some (.slice Ac k cc) := S.box.cell 0
      have z1 : w6.cell? ⟨b, 1, none⟩ = some (.slice Rc m dc) := S.box.cell 1
      have hsx := S.own.reads
      go_wp2_with fail
      refine (mHeapValid_any _ _ _ _ _ _ _ _ hsx (by omega) (by have := HM.out; omega)).mono ?_
      rintro e w7 ⟨rfl, b8⟩
      replace q3 := q3.keep b8 q3.lt
      replace S := S.up b8
      replace b7 := b7.trans (b8.mono b7.size)
      clear hsx b8 z0 z1
      cases hv2 : Hps.validH (Hps.dropH h (bs.map (!·)))
      · have HF := Lib.hid (Hps.sweepH_bad HV.out HLB.out hv2)
        have r2 : (w7).frozen? ⟨w.heap.size + 1, 0, none⟩ = false := q3.frozen 0
        have r3 : (w7).frozen? ⟨w.heap.size + 1, 1, none⟩ = false := q3.frozen 1
        have r4 : (w7).cell? ⟨w.heap.size + 1, 0, none⟩ = some (.slice none 0 0) := q3.cell 0
        have r5 : (w7).cell? ⟨w.heap.size + 1, 1, none⟩ = some (.slice none 0 0) := q3.cell 1
        have r6 : (((w7).setCell ⟨w.heap.size + 1, 0, none⟩ (.slice none 0 0)).setCell ⟨w.heap.size + 1, 1, none⟩ (.slice none 0 0)).cell? ⟨w.heap.size + 1, 0, none⟩ = some (.slice none 0 0) := ((q3.put 0 (.slice none 0 0)).put 1 (.slice none 0 0)).cell 0
        have r7 : (((w7).setCell ⟨w.heap.size + 1, 0, none⟩ (.slice none 0 0)).setCell ⟨w.heap.size + 1, 1, none⟩ (.slice none 0 0)).cell? ⟨w.heap.size + 1, 1, none⟩ = some (.slice none 0 0) := ((q3.put 0 (.slice none 0 0)).put 1 (.slice none 0 0)).cell 1
        have D := Lib.hid ((own_zeroH (w7) (w7).heap.size (Nat.le_refl _)).out (w := w) (g := w.heap.size + 1) q3.lt b7 (by omega))
        clear S q3 b7 hv2 q1 b2 bb bw hfl
        go_wp2_with fail
        exact bodyPost_ret (v := .tuple #[.agg #[.slice none 0 0, .slice none 0 0], .int .i64 (-1)]) (by simp [results, Tryd.results27, go_sem, *]) rfl ⟨_, _, by rw [HF.out], by rw [HF.out]; exact D.out.1, D.out.2⟩
      · have HF := Lib.hid (Hps.sweepH_ok HV.out HLB.out hv2)
        rw [HLC.out] at HF
        have z0 : w7.cell? ⟨b, 0, none⟩ = some (.slice Ac k cc) := S.box.cell 0
        have z1 : w7.cell? ⟨b, 1, none⟩ = some (.slice Rc m dc) := S.box.cell 1
        have r2 : (w7).frozen? ⟨w.heap.size + 1, 0, none⟩ = false := q3.frozen 0
        have r3 : (w7).frozen? ⟨w.heap.size + 1, 1, none⟩ = false := q3.frozen 1
        have r4 : (w7).cell? ⟨w.heap.size + 1, 0, none⟩ = some (.slice none 0 0) := q3.cell 0
        have r5 : (w7).cell? ⟨w.heap.size + 1, 1, none⟩ = some (.slice none 0 0) := q3.cell 1
        have r6 : (((w7).setCell ⟨w.heap.size + 1, 0, none⟩ (.slice Ac k cc)).setCell ⟨w.heap.size + 1, 1, none⟩ (.slice Rc m dc)).cell? ⟨w.heap.size + 1, 0, none⟩ = some (.slice Ac k cc) := ((q3.put 0 (.slice Ac k cc)).put 1 (.slice Rc m dc)).cell 0
        have r7 : (((w7).setCell ⟨w.heap.size + 1, 0, none⟩ (.slice Ac k cc)).setCell ⟨w.heap.size + 1, 1, none⟩ (.slice Rc m dc)).cell? ⟨w.heap.size + 1, 1, none⟩ = some (.slice Rc m dc) := ((q3.put 0 (.slice Ac k cc)).put 1 (.slice Rc m dc)).cell 1
        have D := Lib.hid (S.ownH.out (w := w) (g := w.heap.size + 1) (by have := bb.size; omega) b7 (by omega))
        clear S q3 b7 hv2 q1 b2 bb bw hfl
        go_wp2_with fail
        exact bodyPost_ret (v := .tuple #[.agg #[.slice Ac k cc, .slice Rc m dc], .int .i64 (Hps.freedTo h.cs bs k : Int)]) (by simp [results, Tryd.results27, go_sem, *]) rfl ⟨_, _, by rw [HF.out], by rw [HF.out]; exact D.out.1, D.out.2⟩
end Go.Proofs.YthmddmddcdofaaaDoor
namespace Go.Proofs.YthmddmddcdofaaaDoor
open Go.RowKit
set_option maxRecDepth 100000
theorem OwnO.slices {w : World} {base : Nat} {v : Value} {xs : List Bool} (h : OwnO w base v xs) : ∃ A n c, v = .slice A n c := by
  obtain ⟨A, c, e, -⟩ := h.form
  exact ⟨A, _, c, e⟩
theorem OwnH.put {w : World} {base g : Nat} {vc vr : Value} {h : Hp} (ho : OwnH w base vc vr h) (hg : g < base) (u u' : Value) : OwnH ((w.setCell ⟨g, 0, none⟩ u).setCell ⟨g, 1, none⟩ u') base vc vr h := by
  obtain ⟨rvs, own⟩ := ho
  have ap : Apart (some g) (vc :: vr :: rvs) := own.apart_below hg
  exact ⟨rvs, (own.far (put_any w g 0 u) ap).far (put_any _ g 1 u') ap⟩
theorem OwnO.put2 {w : World} {base g : Nat} {v : Value} {xs : List Bool} (h : OwnO w base v xs) (hg : g < base) (u u' : Value) : OwnO ((w.setCell ⟨g, 0, none⟩ u).setCell ⟨g, 1, none⟩ u') base v xs := by
  have ne : v.ownBlock = none ∨ v.ownBlock ≠ some g := by
    cases e : v.ownBlock with
    | none => exact .inl rfl
    | some k => right; intro e'; injection e' with e'; have := (World.ownsRow.lt h k e).1; omega
  exact (h.far (put_any w g 0 u) ne).far (put_any _ g 1 u') ne
set_option maxRecDepth 100000 in
set_option maxHeartbeats 4000000 in
theorem mCollectSweep_any (A R : Option Addr) (n c m d : Nat) (h : Hp) (w : World) (hs : HS w w.heap.size A n R m h) (hn : n ≤ 1099511627776) (hm : m ≤ 1099511627776) :
    Calls Tryd.prog 32 #[heapV A n c R m d] w (GaveHN w (Hps.collectH h).1 (Hps.collectH h).2) := by
  have b2 : Below w.heap.size w ((w.alloc (.cells #[.slice A n c, .slice R m d] 26)).alloc (.cells #[.slice none 0 0, .slice none 0 0] 26)) := ((Below.refl w.heap.size w).alloc (Nat.le_refl _) _).alloc (by simp) _
  have q3 := Rw.new (w.alloc (.cells #[.slice A n c, .slice R m d] 26)) 26 #[.slice none 0 0, .slice none 0 0]
  simp only [World.size_alloc] at q3
  have q1 := (Rw.new w 26 #[.slice A n c, .slice R m d]).alloc (.cells #[.slice none 0 0, .slice none 0 0] 26)
  have hz : w.heap.size + 1 + 1 ≤ ((w.alloc (.cells #[.slice A n c, .slice R m d] 26)).alloc (.cells #[.slice none 0 0, .slice none 0 0] 26)).heap.size := by simp
  obtain ⟨rm, hrm⟩ : ∃ rm, Hps.reachH h = rm := ⟨_, rfl⟩
  obtain ⟨h2, hh2⟩ : ∃ h2, (Hps.collectH h).1 = h2 := ⟨_, rfl⟩
  obtain ⟨kk, hkk⟩ : ∃ kk, (Hps.collectH h).2 = kk := ⟨_, rfl⟩
  have hrl : rm.length ≤ 1099511627776 := by
    rw [← hrm, Hps.reachH]
    split
    · rw [Hps.reachL_len, hs.cells.1]; exact hn
    · simp
  have C1 := Lib.hid (fun (ww : World) (hh : HS ww ww.heap.size A n R m h) => by
    have := mReachable_any A R n c m d h ww hh hn hm
    rw [hrm] at this
    exact this)
  have C2 := Lib.hid (fun (ww : World) (Av : Option Addr) (nv cv : Nat) (hh : HS ww ww.heap.size A n R m h) (oo : OS ww ww.heap.size Av nv rm) => by
    have := mSweepCells_any A R Av n c m d nv cv h rm ww hh oo hn hm (by rw [← oo.1]; exact hrl)
    rw [show Hps.sweepH h rm = Hps.collectH h by rw [Hps.collectH, hrm], hh2, hkk] at this
    exact this)
  rw [hh2, hkk]
  clear hrm hh2 hkk hrl
  go_enter Tryd.func32, Tryd.ntmps32
  go_upto_region 1 with fail
  generalize (w.alloc (.cells #[.slice A n c, .slice R m d] 26)).alloc (.cells #[.slice none 0 0, .slice none 0 0] 26) = w0 at b2 q1 q3 hz ⊢
  refine wp_region_inv (by kernel_rfl) (by kernel_rfl) (fun L ac ww => ∃ t3 t4 t5 t6 t7 t8 t9 : Value, ac = { tmps := #[heapV A n c R m d, Value.pointer (some { block := w.heap.size, off := 0 }), Value.pointer (some { block := w.heap.size + 1, off := 0 }), t3, t4, t5, t6, t7, t8, t9], defers := [] } ∧ (Below (w.heap.size + 1) w0 ww) ∧ (∃ z0 z1 : Value, Rw ww (w.heap.size + 1) 26 #[z0, z1]) ∧ (L 4 = true → L 3 = true) ∧ (L 0 = true → t4 = .agg #[.slice A n c, .slice R m d]) ∧ (L 1 = true → t5 = .agg #[.slice A n c, .slice R m d]) ∧ (L 2 = true → ∃ (Av : Option Addr) (nv cv : Nat), t6 = .slice Av nv cv ∧ OwnO ww w0.heap.size (.slice Av nv cv) rm) ∧ (L 3 = true → ∃ (A5 : Option Addr) (n5 c5 : Nat) (R5 : Option Addr) (m5 d5 : Nat), t7 = .tuple #[.agg #[.slice A5 n5 c5, .slice R5 m5 d5], .int .i64 kk] ∧ OwnH ww w0.heap.size (.slice A5 n5 c5) (.slice R5 m5 d5) h2) ∧ (L 4 = true → ∃ (A5 : Option Addr) (n5 c5 : Nat) (R5 : Option Addr) (m5 d5 : Nat), t7 = .tuple #[.agg #[.slice A5 n5 c5, .slice R5 m5 d5], .int .i64 kk] ∧ t8 = .agg #[.slice A5 n5 c5, .slice R5 m5 d5]) ∧ (L 5 = true → t9 = .int .i64 kk) ∧ (L 6 = true → ∃ (A5 : Option Addr) (n5 c5 : Nat) (R5 : Option Addr) (m5 d5 : Nat), Rw ww (w.heap.size + 1) 26 #[.slice A5 n5 c5, .slice R5 m5 d5] ∧ OwnH ww w0.heap.size (.slice A5 n5 c5) (.slice R5 m5 d5) h2) ∧ (L 7 = true → t3 = .int .i64 kk)) ?h0 ?hstep ?hdone
  case h0 => exact ⟨_, _, _, _, _, _, _, rfl, (Below.refl _ _).drew, ⟨_, _, q3⟩, fun h => absurd h Bool.false_ne_true, (fun h => absurd h Bool.false_ne_true), (fun h => absurd h Bool.false_ne_true), (fun h => absurd h Bool.false_ne_true), (fun h => absurd h Bool.false_ne_true), (fun h => absurd h Bool.false_ne_true), (fun h => absurd h Bool.false_ne_true), (fun h => absurd h Bool.false_ne_true), (fun h => absurd h Bool.false_ne_true)⟩
  case hstep =>
    rintro L ac ww i o ho hL hd ⟨t3, t4, t5, t6, t7, t8, t9, rfl, I0, I1, I2, f0, f1, f2, f3, f4, f5, f6, f7⟩
    have hi : i < 8 := (Array.getElem?_eq_some_iff.1 ho).1
    obtain rfl | rfl | rfl | rfl | rfl | rfl | rfl | rfl : i = 0 ∨ i = 1 ∨ i = 2 ∨ i = 3 ∨ i = 4 ∨ i = 5 ∨ i = 6 ∨ i = 7 := by omega
    · obtain rfl := Option.some.inj ho
      have y0 : ww.cell? ⟨w.heap.size, 0, none⟩ = some (.slice A n c) := (I0.cell (p := ⟨w.heap.size, 0, none⟩) (Nat.lt_succ_self _)).trans (q1.cell 0)
      have y1 : ww.cell? ⟨w.heap.size, 1, none⟩ = some (.slice R m d) := (I0.cell (p := ⟨w.heap.size, 1, none⟩) (Nat.lt_succ_self _)).trans (q1.cell 1)
      refine wpOp_step rfl (fun K' hK => ?_)
      go_simp
      refine hK _ _ ?_
      exact ⟨_, _, _, _, _, _, _, rfl, (I0), (I1), (fun h => upd_mono (I2 (upd_ne h (by decide)))), (fun _ => rfl), (kp f1), (kp f2), (kp f3), (kp f4), (kp f5), (kp f6), (kp f7)⟩
    · obtain rfl := Option.some.inj ho
      have y0 : ww.cell? ⟨w.heap.size, 0, none⟩ = some (.slice A n c) := (I0.cell (p := ⟨w.heap.size, 0, none⟩) (Nat.lt_succ_self _)).trans (q1.cell 0)
      have y1 : ww.cell? ⟨w.heap.size, 1, none⟩ = some (.slice R m d) := (I0.cell (p := ⟨w.heap.size, 1, none⟩) (Nat.lt_succ_self _)).trans (q1.cell 1)
      refine wpOp_step rfl (fun K' hK => ?_)
      go_simp
      refine hK _ _ ?_
      exact ⟨_, _, _, _, _, _, _, rfl, (I0), (I1), (fun h => upd_mono (I2 (upd_ne h (by decide)))), (kp f0), (fun _ => rfl), (kp f2), (kp f3), (kp f4), (kp f5), (kp f6), (kp f7)⟩
    · obtain rfl := Option.some.inj ho
      have g1 := f1 (hd ⟨1, .data⟩ (by simp) rfl)
      subst g1
      refine wpOp_step rfl (fun K' hK => ?_)
      go_simp
      have hsw : HS ww ww.heap.size A n R m h := hs.up (b2.trans (I0.mono (Nat.le_succ _)))
      refine (C1.out ww hsw).mono ?_
      rintro e w' ⟨v1, rfl, oo, b5⟩
      obtain ⟨Av, nv, cv, rfl⟩ := oo.slices
      have hsz := I0.size
      obtain ⟨z0, z1, hz1⟩ := I1
      refine hK _ _ ?_
      exact ⟨_, _, _, _, _, _, _, rfl, (I0.trans (b5.mono (Nat.le_trans (by omega) hsz))), (⟨z0, z1, hz1.keep b5 hz1.lt⟩), (fun h => upd_mono (I2 (upd_ne h (by decide)))), (kp f0), (kp f1), (fun _ => ⟨_, _, _, rfl, oo.base hsz⟩), (fun h => by
        obtain ⟨A5, n5, c5, R5, m5, d5, r5, o5⟩ := f3 (upd_ne h (by decide))
        exact ⟨A5, n5, c5, R5, m5, d5, r5, o5.below b5 (Nat.le_refl _)⟩), (kp f4), (kp f5), (fun h => by
        obtain ⟨A5, n5, c5, R5, m5, d5, r5, o5⟩ := f6 (upd_ne h (by decide))
        exact ⟨A5, n5, c5, R5, m5, d5, r5.keep b5 r5.lt, o5.below b5 (Nat.le_refl _)⟩), (kp f7)⟩
    · obtain rfl := Option.some.inj ho
      have g0 := f0 (hd ⟨0, .data⟩ (by simp) rfl)
      have g2 := f2 (hd ⟨2, .data⟩ (by simp) rfl)
      subst g0
      obtain ⟨Av, nv, cv, rfl, o2⟩ := g2
      refine wpOp_step rfl (fun K' hK => ?_)
      go_simp
      have hsw : HS ww ww.heap.size A n R m h := hs.up (b2.trans (I0.mono (Nat.le_succ _)))
      refine (C2.out ww Av nv cv hsw o2.reads).mono ?_
      rintro e w' ⟨v1, v2, rfl, oh, b5⟩
      obtain ⟨A5, n5, c5, R5, m5, d5, rfl, rfl⟩ := oh.slices
      have hsz := I0.size
      obtain ⟨z0, z1, hz1⟩ := I1
      refine hK _ _ ?_
      exact ⟨_, _, _, _, _, _, _, rfl, (I0.trans (b5.mono (Nat.le_trans (by omega) hsz))), (⟨z0, z1, hz1.keep b5 hz1.lt⟩), (fun h => upd_mono (I2 (upd_ne h (by decide)))), (kp f0), (kp f1), (fun h => ⟨Av, nv, cv, rfl, o2.below b5 (Nat.le_refl _)⟩), (fun _ => ⟨_, _, _, _, _, _, rfl, oh.base hsz⟩), (fun h => absurd (I2 (upd_ne h (by decide))) (by rw [hL]; simp)), (kp f5), (fun h => by
        obtain ⟨A5, n5, c5, R5, m5, d5, r5, o5⟩ := f6 (upd_ne h (by decide))
        exact ⟨A5, n5, c5, R5, m5, d5, r5.keep b5 r5.lt, o5.below b5 (Nat.le_refl _)⟩), (kp f7)⟩
    · obtain rfl := Option.some.inj ho
      have g3 := f3 (hd ⟨3, .data⟩ (by simp) rfl)
      obtain ⟨A5, n5, c5, R5, m5, d5, rfl, o3⟩ := g3
      refine wpOp_step rfl (fun K' hK => ?_)
      go_simp
      refine hK _ _ ?_
      exact ⟨_, _, _, _, _, _, _, rfl, (I0), (I1), (fun _ => upd_mono (hd ⟨3, .data⟩ (by simp) rfl)), (kp f0), (kp f1), (kp f2), (fun _ => ⟨_, _, _, _, _, _, rfl, o3⟩), (fun _ => ⟨_, _, _, _, _, _, rfl, rfl⟩), (kp f5), (kp f6), (kp f7)⟩
    · obtain rfl := Option.some.inj ho
      have g3 := f3 (hd ⟨3, .data⟩ (by simp) rfl)
      obtain ⟨A5, n5, c5, R5, m5, d5, rfl, o3⟩ := g3
      refine wpOp_step rfl (fun K' hK => ?_)
      go_simp
      refine hK _ _ ?_
      exact ⟨_, _, _, _, _, _, _, rfl, (I0), (I1), (fun h => upd_mono (I2 (upd_ne h (by decide)))), (kp f0), (kp f1), (kp f2), (fun _ => ⟨_, _, _, _, _, _, rfl, o3⟩), (kp f4), (fun _ => rfl), (kp f6), (kp f7)⟩
    · obtain rfl := Option.some.inj ho
      have g4 := f4 (hd ⟨4, .data⟩ (by simp) rfl)
      have g3 := f3 (hd ⟨3, .chain⟩ (by simp) rfl)
      obtain ⟨A5, n5, c5, R5, m5, d5, rfl, rfl⟩ := g4
      obtain ⟨A6, n6, c6, R6, m6, d6, e6, oo⟩ := g3
      injection e6 with e6
      simp at e6
      obtain ⟨⟨rfl, rfl, rfl⟩, rfl, rfl, rfl⟩ := e6
      obtain ⟨z0, z1, hz1⟩ := I1
      have u0 := hz1.cell 0
      have u1 := hz1.cell 1
      have u2 := hz1.frozen 0
      have u3 := hz1.frozen 1
      simp at u0 u1
      refine wpOp_step rfl (fun K' hK => ?_)
      go_simp
      refine hK _ _ ?_
      exact ⟨_, _, _, _, _, _, _, rfl, ((I0.setCell (p := ⟨w.heap.size + 1, 0, none⟩) (Nat.le_refl _) _).setCell (p := ⟨w.heap.size + 1, 1, none⟩) (Nat.le_refl _) _), (⟨_, _, (hz1.put 0 _).put 1 _⟩), (fun h => upd_mono (I2 (upd_ne h (by decide)))), (kp f0), (kp f1), (fun h => by
        obtain ⟨Av, nv, cv, e, o2⟩ := f2 (upd_ne h (by decide))
        exact ⟨Av, nv, cv, e, o2.put2 (by omega) _ _⟩), (fun h => ⟨_, _, _, _, _, _, rfl, oo.put (by omega) _ _⟩), (kp f4), (kp f5), (fun _ => ⟨_, _, _, _, _, _, (hz1.put 0 _).put 1 _, oo.put (by omega) _ _⟩), (kp f7)⟩
    · obtain rfl := Option.some.inj ho
      have g5 := f5 (hd ⟨5, .data⟩ (by simp) rfl)
      subst g5
      refine wpOp_step rfl (fun K' hK => ?_)
      go_simp
      refine hK _ _ ?_
      exact ⟨_, _, _, _, _, _, _, rfl, (I0), (I1), (fun h => upd_mono (I2 (upd_ne h (by decide)))), (kp f0), (kp f1), (kp f2), (kp f3), (kp f4), (kp f5), (kp f6), (fun _ => rfl)⟩
  case hdone =>
    rintro L ac ww hall ⟨t3, t4, t5, t6, t7, t8, t9, rfl, I0, I1, I2, f0, f1, f2, f3, f4, f5, f6, f7⟩
    have e0 := f0 (hall 0 (by decide))
    have e1 := f1 (hall 1 (by decide))
    have e2 := f2 (hall 2 (by decide))
    have e3 := f3 (hall 3 (by decide))
    have e4 := f4 (hall 4 (by decide))
    have e5 := f5 (hall 5 (by decide))
    have e6 := f6 (hall 6 (by decide))
    have e7 := f7 (hall 7 (by decide))
    clear f0 f1 f2 f3 f4 f5 f6 f7
    obtain ⟨A5, n5, c5, R5, m5, d5, r5, o5⟩ := e6
    have r6 := r5.cell 0
    have r7 := r5.cell 1
    simp at r6 r7
    have bf : Below w.heap.size w ww := b2.trans (I0.mono (Nat.le_succ _))
    have of := o5.base (base' := w.heap.size) (by omega)
    clear e0 e1 e2 e3 e4 e5 I1 I2 C1 C2 q1 q3 hs o5 r5
    go_wp2_with fail
    exact bodyPost_ret (v := .tuple #[.agg #[.slice A5 n5 c5, .slice R5 m5 d5], .int .i64 kk]) (by simp [results, Tryd.results32, go_sem, *]) rfl ⟨_, _, rfl, of, bf⟩
end Go.Proofs.YthmddmddcdofaaaDoor

namespace Go.Proofs.YthmddmddcdofaaaDoor
open Go.RowKit
set_option maxRecDepth 100000
/-- the value v owns the numbers xs: a row that begins somewhere in a block, from block 'base' on -/
def OwnQ (w : World) (base : Nat) (v : Value) (xs : List Int) : Prop :=
  (v = .slice none 0 0 ∧ xs = []) ∨ ∃ g o cap cur, v = .slice (some ⟨g, o, none⟩) xs.length cap ∧ base ≤ g ∧ w.heap[g]? = some (.cells cur 3 (0, 0)) ∧ xs.length ≤ cap ∧ o + cap ≤ cur.size ∧ cap ≤ 9223372036854775807 ∧ ∀ (k : Nat) (u : Int), xs[k]? = some u → cur[o + k]? = some (.int .i64 u)
section
variable {w w' : World} {bs bs' B : Nat} {v : Value} {xs ys : List Int}
theorem OwnI.queue (h : OwnI w bs v xs) : OwnQ w bs v xs := by
  rcases h.2 with ⟨rfl, h0⟩ | ⟨g, cap, cur, rfl, hb, hh, hnc, hcap, hsz, hx⟩
  · exact .inl ⟨rfl, List.eq_nil_of_length_eq_zero h0⟩
  · refine .inr ⟨g, 0, cap, cur, rfl, hb, hh, hnc, by omega, by unfold maxLen at hcap; omega, fun k u hk => ?_⟩
    have h1 : (xs.map (Value.int .i64))[k]? = some (.int .i64 u) := by rw [List.getElem?_map, hk]; rfl
    rw [← hx, List.getElem?_take] at h1
    split at h1
    · rw [Nat.zero_add]; simpa using h1
    · cases h1
theorem OwnQ.lt (h : OwnQ w bs v xs) : ∀ k, v.ownBlock = some k → bs ≤ k ∧ k < w.heap.size := by
  intro k hk
  rcases h with ⟨rfl, _⟩ | ⟨g, o, cap, cur, rfl, hb, hh, _⟩
  · cases hk
  · obtain rfl : g = k := Option.some.inj hk
    exact ⟨hb, (Array.getElem?_eq_some_iff.1 hh).1⟩
theorem OwnQ.kept {row : Option Nat} (h : OwnQ w bs v xs) (hg : w.grownBy w' row) (hne : v.ownBlock = none ∨ v.ownBlock ≠ row) : OwnQ w' bs v xs := by
  rcases h with h0 | ⟨g, o, cap, cur, rfl, hb, hh, hr⟩
  · exact .inl h0
  · refine .inr ⟨g, o, cap, cur, rfl, hb, (hg.block g (Array.getElem?_eq_some_iff.1 hh).1 fun e => ?_).trans hh, hr⟩
    rcases hne with h1 | h1
    · cases h1
    · exact h1 e
theorem OwnQ.below (h : OwnQ w bs v xs) (hb : Below B w w') (hB : w.heap.size ≤ B) : OwnQ w' bs v xs := by
  rcases h with h0 | ⟨g, o, cap, cur, e, hb', hh, hr⟩
  · exact .inl h0
  · exact .inr ⟨g, o, cap, cur, e, hb', (hb.block g (Nat.lt_of_lt_of_le (Array.getElem?_eq_some_iff.1 hh).1 hB)).trans hh, hr⟩
theorem OwnQ.base (h : OwnQ w bs v xs) (hb : bs' ≤ bs) : OwnQ w bs' v xs := by
  rcases h with h0 | ⟨g, o, cap, cur, e, hb', hr⟩
  · exact .inl h0
  · exact .inr ⟨g, o, cap, cur, e, by omega, hr⟩
theorem OwnQ.form (h : OwnQ w bs v xs) : ∃ A c, v = .slice A xs.length c := by
  rcases h with ⟨rfl, rfl⟩ | ⟨g, o, cap, cur, rfl, _⟩
  · exact ⟨none, 0, rfl⟩
  · exact ⟨_, _, rfl⟩
/-- the first number, and what is left without it -/
theorem OwnQ.head {x : Int} (h : OwnQ w bs v (x :: xs)) : ∃ g o c, v = .slice (some ⟨g, o, none⟩) (xs.length + 1) c ∧ g < w.heap.size ∧ w.cell? ⟨g, o, none⟩ = some (.int .i64 x) ∧ xs.length + 1 ≤ c ∧ c ≤ 9223372036854775807 ∧ OwnQ w bs (if c = 1 then .slice (some ⟨g, o, none⟩) 0 0 else .slice (some ⟨g, o + 1, none⟩) xs.length (c - 1)) xs := by
  rcases h with ⟨_, h0⟩ | ⟨g, o, cap, cur, e, hb, hh, hnc, hsz, hcap, hc⟩
  · cases h0
  · refine ⟨g, o, cap, e, (Array.getElem?_eq_some_iff.1 hh).1, ?_, hnc, hcap, ?_⟩
    · have := hc 0 x rfl
      rw [Nat.add_zero] at this
      exact (cell_of_row w g o cur 3 (0, 0) hh).trans this
    · have hnc' : xs.length + 1 ≤ cap := hnc
      by_cases h1 : cap = 1
      · rw [if_pos h1]
        obtain rfl : xs = [] := List.eq_nil_of_length_eq_zero (by omega)
        exact .inr ⟨g, o, 0, cur, rfl, hb, hh, Nat.le_refl _, by omega, by omega, fun k u hk => by simp at hk⟩
      · rw [if_neg h1]
        refine .inr ⟨g, o + 1, cap - 1, cur, rfl, hb, hh, by omega, by omega, by omega, fun k u hk => ?_⟩
        have := hc (k + 1) u (by simpa using hk)
        rw [show o + 1 + k = o + (k + 1) by omega]
        exact this
end
end Go.Proofs.YthmddmddcdofaaaDoor

namespace Go.Proofs.YthmddmddcdofaaaDoor
open Go.RowKit
set_option maxRecDepth 100000
/-- what lies beside a heap in its box: nothing, or a row of numbers of the call's own, and blocks that stay as they are -/
abbrev Beside := Option (Value × List Int × List (Nat × TypeId × Array Value))
def Beside.cells (K : Beside) (vc vr : Value) : Array Value := match K with
  | none => #[vc, vr]
  | some p => #[vc, vr, p.1]
/-- a block is one of those -/
def Beside.Has (K : Beside) (g : Nat) : Prop := ∃ p, K = some p ∧ (p.1.ownBlock = some g ∨ ∃ e ∈ p.2.2, e.1 = g)
structure Beside.Ok (K : Beside) (w0 wr : World) (b : Nat) (vs : List Value) : Prop where
  row : ∀ p, K = some p → OwnQ wr w0.heap.size p.1 p.2.1
  kept : ∀ p, K = some p → ∀ e ∈ p.2.2, Rw wr e.1 e.2.1 e.2.2 ∧ p.1.ownBlock ≠ some e.1
  apart : ∀ g, K.Has g → g ≠ b ∧ ∀ v ∈ vs, v.ownBlock ≠ some g
theorem Beside.ok_none (w0 wr : World) (b : Nat) (vs : List Value) : Beside.Ok none w0 wr b vs := ⟨fun _ e => (nomatch e), fun _ e => (nomatch e), fun _ ⟨_, e, _⟩ => (nomatch e)⟩
/-- a heap of the call's own in the box b, a block of type T -/
structure BoxX (T : TypeId) (K : Beside) (w0 wr : World) (b : Nat) (vc vr : Value) (rvs : List Value) (h : Hp) : Prop where
  own : OwnHx wr w0.heap.size vc vr rvs h
  apart : Apart (some b) (vc :: vr :: rvs)
  box : Rw wr b T (K.cells vc vr)
  low : Below w0.heap.size w0 wr
  lo : w0.heap.size ≤ b
  side : K.Ok w0 wr b (vc :: vr :: rvs)
section
variable {T : TypeId} {K : Beside} {w0 wr w1 : World} {b g c d i k : Nat} {vc vr : Value} {rvs : List Value} {h : Hp} {cl : Cl}
theorem Beside.Ok.lt {vs : List Value} (S : K.Ok w0 wr b vs) (hg : K.Has g) : g < wr.heap.size := by
  obtain ⟨p, e, h1 | ⟨x, hx, rfl⟩⟩ := hg
  · exact ((S.row p e).lt g h1).2
  · exact (S.kept p e x hx).1.lt
theorem Beside.Ok.up {vs : List Value} (S : K.Ok w0 wr b vs) (hw : Below wr.heap.size wr w1) : K.Ok w0 w1 b vs :=
  ⟨fun p e => (S.row p e).below hw (Nat.le_refl _), fun p e x hx => ⟨(S.kept p e x hx).1.keep hw (S.kept p e x hx).1.lt, (S.kept p e x hx).2⟩, S.apart⟩
theorem Beside.Ok.far {vs : List Value} {row : Option Nat} (S : K.Ok w0 wr b vs) (hG : wr.grownBy w1 row) (hne : ∀ g, K.Has g → row ≠ some g) : K.Ok w0 w1 b vs :=
  ⟨fun p e => (S.row p e).kept hG (by
      cases e1 : p.1.ownBlock with
      | none => exact .inl rfl
      | some g => exact .inr fun e2 => hne g ⟨p, e, .inl e1⟩ e2.symm),
    fun p e x hx => ⟨Rw.far (S.kept p e x hx).1 hG (fun e2 => hne x.1 ⟨p, e, .inr ⟨x, hx, rfl⟩⟩ e2.symm), (S.kept p e x hx).2⟩, S.apart⟩
theorem Beside.Ok.rows {vs vs' : List Value} (S : K.Ok w0 wr b vs) (hs : ∀ v ∈ vs', v ∈ vs ∨ ∀ g, K.Has g → v.ownBlock ≠ some g) : K.Ok w0 wr b vs' :=
  ⟨S.row, S.kept, fun g hg => ⟨(S.apart g hg).1, fun v hv => by
    rcases hs v hv with h1 | h1
    · exact (S.apart g hg).2 v h1
    · exact h1 g hg⟩⟩
theorem BoxSt.toX (S : BoxSt w0 wr b vc vr rvs h) : BoxX 26 none w0 wr b vc vr rvs h := ⟨S.own, S.apart, S.box, S.low, S.lo, Beside.ok_none _ _ _ _⟩
theorem BoxX.c0 (S : BoxX T K w0 wr b vc vr rvs h) : wr.cell? ⟨b, 0, none⟩ = some vc := (S.box.cell 0).trans (by cases K <;> rfl)
theorem BoxX.c1 (S : BoxX T K w0 wr b vc vr rvs h) : wr.cell? ⟨b, 1, none⟩ = some vr := (S.box.cell 1).trans (by cases K <;> rfl)
theorem BoxX.up (S : BoxX T K w0 wr b vc vr rvs h) (hw : Below wr.heap.size wr w1) : BoxX T K w0 w1 b vc vr rvs h :=
  ⟨S.own.below hw (Nat.le_refl _), S.apart, S.box.keep hw S.box.lt, S.low.trans (hw.mono S.low.size), S.lo, S.side.up hw⟩
theorem BoxX.drew (S : BoxX T K w0 wr b vc vr rvs h) : BoxX T K w0 wr.drew b vc vr rvs h := S.up (Below.refl _ _).drew
theorem BoxX.form (S : BoxX T K w0 wr b vc vr rvs h) (hl : 0 < h.rt.length) : ∃ A c gr d, vc = .slice A h.cs.length c ∧ vr = .slice (some ⟨gr, 0, none⟩) h.rt.length d ∧ (0 < h.cs.length → ∃ g, A = some ⟨g, 0, none⟩) := by
  obtain ⟨A, c, R, d, e1, e2, _, _, fA, fR⟩ := S.own.form
  obtain ⟨gr, rfl, _, _⟩ := fR hl
  exact ⟨A, c, gr, d, e1, e2, fun h => by obtain ⟨g, e, _⟩ := fA h; exact ⟨g, e⟩⟩
theorem BoxSt.form (S : BoxSt w0 wr b vc vr rvs h) (hl : 0 < h.rt.length) : ∃ A c gr d, vc = .slice A h.cs.length c ∧ vr = .slice (some ⟨gr, 0, none⟩) h.rt.length d ∧ (0 < h.cs.length → ∃ g, A = some ⟨g, 0, none⟩) := S.toX.form hl
/-- a block of the heap is none of those beside it, nor the box -/
theorem BoxX.beside (S : BoxX T K w0 wr b vc vr rvs h) {v : Value} (hv : v ∈ vc :: vr :: rvs) (hg : v.ownBlock = some g) (g' : Nat) (hk : K.Has g') : some g ≠ some g' := fun e => (S.side.apart g' hk).2 v hv (hg.trans e)
theorem BoxX.boxNe (S : BoxX T K w0 wr b vc vr rvs h) {v : Value} (hv : v ∈ vc :: vr :: rvs) (hg : v.ownBlock = some g) : b ≠ g := by
  rcases S.apart v hv with e | e
  · rw [hg] at e; cases e
  · intro e'; rw [hg] at e; exact e (by rw [e'])
theorem BoxX.into (S : BoxX T K w0 wr b vc vr rvs h) {v : Value} (hv : v ∈ vc :: vr :: rvs) (hg : v.ownBlock = some g) {h' : Hp} (u : Value)
    (ho : OwnHx (wr.setCell ⟨g, i, none⟩ u) w0.heap.size vc vr rvs h') : BoxX T K w0 (wr.setCell ⟨g, i, none⟩ u) b vc vr rvs h' := by
  have h1 := S.own.blocks hv hg
  exact ⟨ho, S.apart, S.box.other (S.boxNe hv hg) u, S.low.setCell (p := ⟨g, i, none⟩) (by show w0.heap.size ≤ g; omega) u, S.lo, S.side.far (put_any wr g i u) (S.beside hv hg)⟩
theorem BoxX.root {m : Nat} (S : BoxX T K w0 wr b vc (.slice (some ⟨g, 0, none⟩) m d) rvs h) (hm : h.rt.length = m) (x : Int) : BoxX T K w0 (wr.setCell ⟨g, i, none⟩ (.int .i64 x)) b vc (.slice (some ⟨g, 0, none⟩) m d) rvs ⟨h.cs, h.rt.set i x⟩ := by
  subst hm
  exact S.into (v := .slice (some ⟨g, 0, none⟩) h.rt.length d) (by simp) rfl _ (S.own.root x)
theorem BoxX.data {n : Nat} (S : BoxX T K w0 wr b (.slice (some ⟨g, 0, none⟩) n d) vr rvs h) (hn : h.cs.length = n) (hc : h.cs[k]? = some cl) (x : Int) : BoxX T K w0 (wr.setCell ⟨g, k * 3 + 1, none⟩ (.int .i64 x)) b (.slice (some ⟨g, 0, none⟩) n d) vr rvs ⟨h.cs.set k ⟨cl.u, x, cl.r⟩, h.rt⟩ := by
  subst hn
  exact S.into (v := .slice (some ⟨g, 0, none⟩) h.cs.length d) (by simp) rfl _ (S.own.data hc x)
theorem BoxX.ref1 {m : Nat} (S : BoxX T K w0 wr b vc vr rvs h) (hc : h.cs[k]? = some cl) (hv : rvs[k]? = some (.slice (some ⟨g, 0, none⟩) m d)) (hm : cl.r.length = m) (x : Int) : BoxX T K w0 (wr.setCell ⟨g, i, none⟩ (.int .i64 x)) b vc vr rvs ⟨h.cs.set k ⟨cl.u, cl.d, cl.r.set i x⟩, h.rt⟩ := by
  subst hm
  exact S.into (v := .slice (some ⟨g, 0, none⟩) cl.r.length d) (by simp [List.mem_of_getElem? hv]) rfl _ (S.own.ref1 hc hv x)
theorem BoxX.snoc {v9 v8 : Value} (S : BoxX T K w0 wr b vc vr rvs h) (hG : wr.grownBy w1 vc.ownBlock)
    (o9 : w1.ownsRow w0.heap.size 40 3 v9 (h.cs.length + 1) (flatC h.cs rvs ++ [.bool cl.u, .int .i64 cl.d, v8])) (q : v9.ownBlock = vc.ownBlock ∨ v9.ownBlock = some wr.heap.size)
    (o8 : OwnI wr w0.heap.size v8 cl.r) (hap : ∀ v ∈ vc :: vr :: rvs, v8.ownBlock = none ∨ v8.ownBlock ≠ v.ownBlock) (h8b : v8.ownBlock ≠ some b) (h8k : ∀ g, K.Has g → v8.ownBlock ≠ some g) :
    BoxX T K w0 (w1.setCell ⟨b, 0, none⟩ v9) b v9 vr (rvs ++ [v8]) ⟨h.cs ++ [cl], h.rt⟩ := by
  have hn := S.own.snoc hG o9 q o8 hap
  have hlo := S.lo
  have hbl := S.box.lt
  have hvcb : some b ≠ vc.ownBlock := by
    rcases S.apart vc (by simp) with e | e
    · rw [e]; simp
    · exact fun h => e h.symm
  have ap : Apart (some b) (v9 :: vr :: (rvs ++ [v8])) := by
    intro v hv
    simp only [List.mem_cons, List.mem_append, List.not_mem_nil, or_false] at hv
    rcases hv with rfl | rfl | hv | rfl
    · right
      rcases q with e | e
      · rw [e]; exact fun h => hvcb h.symm
      · rw [e]; intro e'; injection e' with e'; omega
    · exact S.apart v (by simp)
    · exact S.apart v (by simp [hv])
    · exact .inr h8b
  have sd : K.Ok w0 wr b (v9 :: vr :: (rvs ++ [v8])) := S.side.rows fun v hv => by
    simp only [List.mem_cons, List.mem_append, List.not_mem_nil, or_false] at hv
    rcases hv with rfl | rfl | hv | rfl
    · right
      intro g hg
      rcases q with e9 | e9
      · rw [e9]
        exact (S.side.apart g hg).2 vc (by simp)
      · rw [e9]
        intro e'
        injection e' with e'
        have := S.side.lt hg
        omega
    · exact .inl (by simp)
    · exact .inl (by simp [hv])
    · exact .inr h8k
  refine ⟨hn.far (put_any w1 b 0 v9) ap, ap, ?_, ?_, hlo, (sd.far hG fun g hg => (S.side.apart g hg).2 vc (by simp)).far (put_any w1 b 0 v9) fun g hg e => (S.side.apart g hg).1 (Option.some.inj e).symm⟩
  · have := (Rw.far S.box hG hvcb).put 0 v9
    cases K with
    | none => exact this
    | some p => exact this
  · exact (S.low.grown hG S.low.size (fun kk hk => (S.own.blocks (v := vc) (by simp) hk).1)).setCell (p := ⟨b, 0, none⟩) (by show w0.heap.size ≤ b; omega) _
theorem BoxX.cell {n : Nat} {rv : Value} {old : Cl} (S : BoxX T K w0 wr b (.slice (some ⟨g, 0, none⟩) n c) vr rvs h) (hn : h.cs.length = n) (hc : h.cs[k]? = some old) (o : OwnI wr w0.heap.size rv cl.r) (hap : ∀ v ∈ (Value.slice (some ⟨g, 0, none⟩) n c) :: vr :: rvs, rv.ownBlock = none ∨ rv.ownBlock ≠ v.ownBlock) (h8b : rv.ownBlock = none ∨ rv.ownBlock ≠ some b) (h8k : ∀ g, K.Has g → rv.ownBlock ≠ some g) :
    BoxX T K w0 (((wr.setCell ⟨g, k * 3, none⟩ (.bool cl.u)).setCell ⟨g, k * 3 + 1, none⟩ (.int .i64 cl.d)).setCell ⟨g, k * 3 + 2, none⟩ rv) b (.slice (some ⟨g, 0, none⟩) n c) vr (rvs.set k rv) ⟨h.cs.set k cl, h.rt⟩ := by
  subst hn
  have hm : (Value.slice (some ⟨g, 0, none⟩) h.cs.length c) ∈ (Value.slice (some ⟨g, 0, none⟩) h.cs.length c) :: vr :: rvs := by simp
  have h1 : w0.heap.size ≤ g ∧ g < wr.heap.size := S.own.blocks hm rfl
  have h2 : b ≠ g := S.boxNe hm rfl
  have sn := S.beside hm rfl
  refine ⟨S.own.cell hc o hap, ?_, ((S.box.other h2 _).other h2 _).other h2 _, ?_, S.lo, (((S.side.far (put_any wr g _ _) sn).far (put_any _ g _ _) sn).far (put_any _ g _ _) sn).rows fun x hx => ?_⟩
  · intro x hx
    simp only [List.mem_cons] at hx
    rcases hx with rfl | rfl | hx
    · exact S.apart _ (by simp)
    · exact S.apart x (by simp)
    · rcases List.mem_or_eq_of_mem_set hx with hx | rfl
      · exact S.apart x (by simp [hx])
      · exact h8b
  · exact ((S.low.setCell (p := ⟨g, k * 3, none⟩) (by show w0.heap.size ≤ g; omega) _).setCell (p := ⟨g, k * 3 + 1, none⟩) (by show w0.heap.size ≤ g; omega) _).setCell (p := ⟨g, k * 3 + 2, none⟩) (by show w0.heap.size ≤ g; omega) _
  · simp only [List.mem_cons] at hx
    rcases hx with rfl | rfl | hx
    · exact .inl (by simp)
    · exact .inl (by simp)
    · rcases List.mem_or_eq_of_mem_set hx with hx | rfl
      · exact .inl (by simp [hx])
      · exact .inr h8k
/-- another row beside the heap -/
theorem BoxX.beside3 {v : Value} {xs fs : List Int} {ve : Value} {E : List (Nat × TypeId × Array Value)} (S : BoxX T (some (ve, fs, E)) w0 wr b vc vr rvs h) (hq : OwnQ wr w0.heap.size v xs) (ha : ∀ u ∈ vc :: vr :: rvs, u.ownBlock = none ∨ u.ownBlock ≠ v.ownBlock) (hb : v.ownBlock ≠ some b) (hE : ∀ e ∈ E, v.ownBlock ≠ some e.1) : BoxX T (some (v, xs, E)) w0 (wr.setCell ⟨b, 2, none⟩ v) b vc vr rvs h := by
  have hk : ∀ e ∈ E, e.1 ≠ b ∧ ∀ u ∈ vc :: vr :: rvs, u.ownBlock ≠ some e.1 := fun e he => S.side.apart e.1 ⟨_, rfl, .inr ⟨e, he, rfl⟩⟩
  refine ⟨S.own.far (put_any wr b 2 v) S.apart, S.apart, S.box.put 2 v, S.low.setCell (p := ⟨b, 2, none⟩) S.lo _, S.lo, ⟨fun p e => ?_, fun p e x hx => ?_, fun g' hg => ?_⟩⟩
  · cases e
    exact hq.kept (put_any wr b 2 v) (.inr hb)
  · cases e
    exact ⟨Rw.far (S.side.kept _ rfl x hx).1 (put_any wr b 2 v) (fun e => (hk x hx).1 (Option.some.inj e)), hE x hx⟩
  · obtain ⟨p, e, h1 | ⟨x, hx, rfl⟩⟩ := hg
    · cases e
      simp only at h1
      refine ⟨fun e => hb (by rw [h1, e]), fun u hu e => ?_⟩
      rcases ha u hu with h2 | h2
      · rw [e] at h2; cases h2
      · exact h2 (by rw [e, h1])
    · cases e
      exact hk x hx
/-- a further block that stays -/
theorem BoxX.more {ve : Value} {fs : List Int} {E : List (Nat × TypeId × Array Value)} {t : TypeId} {cs : Array Value} (S : BoxX T (some (ve, fs, E)) w0 wr b vc vr rvs h) (hr : Rw wr g t cs) (hb : g ≠ b) (hv : ∀ u ∈ vc :: vr :: rvs, u.ownBlock ≠ some g) (he : ve.ownBlock ≠ some g) : BoxX T (some (ve, fs, (g, t, cs) :: E)) w0 wr b vc vr rvs h := by
  refine ⟨S.own, S.apart, S.box, S.low, S.lo, ⟨fun p e => ?_, fun p e x hx => ?_, fun g' hg => ?_⟩⟩
  · cases e
    exact S.side.row (ve, fs, E) rfl
  · cases e
    rcases List.mem_cons.1 hx with rfl | hx
    · exact ⟨hr, he⟩
    · exact S.side.kept _ rfl x hx
  · obtain ⟨p, e, h1 | ⟨x, hx, rfl⟩⟩ := hg
    · cases e
      exact S.side.apart g' ⟨_, rfl, .inl h1⟩
    · cases e
      rcases List.mem_cons.1 hx with rfl | hx
      · exact ⟨hb, hv⟩
      · exact S.side.apart _ ⟨_, rfl, .inr ⟨x, hx, rfl⟩⟩
theorem BoxX.less {ve : Value} {fs : List Int} {E : List (Nat × TypeId × Array Value)} {x : Nat × TypeId × Array Value} (S : BoxX T (some (ve, fs, x :: E)) w0 wr b vc vr rvs h) : BoxX T (some (ve, fs, E)) w0 wr b vc vr rvs h ∧ Rw wr x.1 x.2.1 x.2.2 := by
  refine ⟨⟨S.own, S.apart, S.box, S.low, S.lo, ⟨fun p e => ?_, fun p e x hx => ?_, fun g' hg => ?_⟩⟩, (S.side.kept _ rfl x (by simp)).1⟩
  · cases e
    exact S.side.row (ve, fs, x :: E) rfl
  · cases e
    exact S.side.kept _ rfl _ (List.mem_cons_of_mem _ hx)
  · obtain ⟨p, e, h1 | ⟨x, hx, rfl⟩⟩ := hg
    · cases e
      exact S.side.apart g' ⟨_, rfl, .inl h1⟩
    · cases e
      exact S.side.apart _ ⟨_, rfl, .inr ⟨x, List.mem_cons_of_mem _ hx, rfl⟩⟩
theorem BoxX.ownH (S : BoxX T K w0 wr b vc vr rvs h) : OwnH wr w0.heap.size vc vr h := ⟨rvs, S.own⟩
end
end Go.Proofs.YthmddmddcdofaaaDoor

namespace Go.Proofs.YthmddmddcdofaaaDoor
open Go.RowKit
set_option maxRecDepth 100000
/-- what StepHeap asks of the function in the table -/
def ExecF (g : Nat) (o : Cm) (h : Hp) : Prop := ∀ (T : TypeId) (K : Beside) (w0 w1 : World) (b : Nat) (vc vr : Value) (rvs : List Value), BoxX T K w0 w1 b vc vr rvs h →
  Calls Tryd.prog g #[cmV o, .pointer (some ⟨b, 0, none⟩)] w1 fun e w' => (∃ v, e = .returned v) ∧ ∃ vc' vr' rvs', BoxX T K w0 w' b vc' vr' rvs' (Hps.doH h o h.cs.length)
set_option maxHeartbeats 4000000 in
theorem exec_drop {a : Nat} {ob : Int} {oc : Int} {h : Hp} (hv : Hps.validH h = true) (ha : a < 4) : ExecF 153 ⟨5, a, ob, oc⟩ h := by
  intro T K w0 w1 b vc vr rvs S0
  have hr4 := (Hps.valid_iff.1 hv).2.2.1
  have HF := Lib.hid (show Hps.doH h ⟨5, a, ob, oc⟩ h.cs.length = ⟨h.cs, h.rt.set a (-1)⟩ by simp [Hps.doH])
  have ham : (a : Int) < 4 := by omega
  have HL := Lib.hid hr4
  obtain ⟨A, c, gr, d, rfl, rfl, -⟩ := S0.form (by omega)
  rw [hr4] at S0
  have S := S0.up ((Below.refl w1.heap.size w1).alloc (Nat.le_refl _) (.cells #[.int .i64 5, .int .i64 a, .int .i64 ob, .int .i64 oc] 49))
  have Q := Rw.new w1 49 #[.int .i64 5, .int .i64 a, .int .i64 ob, .int .i64 oc]
  clear S0 hr4 hv
  go_enter Tryd.func153, Tryd.ntmps153
  go_upto_region 1 with fail
  generalize w1.alloc (.cells #[.int .i64 5, .int .i64 a, .int .i64 ob, .int .i64 oc] 49) = w2 at S Q ⊢
  generalize w1.heap.size = q at Q ⊢
  have y1 : w2.cell? ⟨q, 1, none⟩ = some (.int .i64 a) := Q.cell 1
  have y2 : w2.cell? ⟨q, 2, none⟩ = some (.int .i64 ob) := Q.cell 2
  have y3 : w2.cell? ⟨q, 3, none⟩ = some (.int .i64 oc) := Q.cell 3
  have x1 : w2.cell? ⟨b, 1, none⟩ = some (.slice (some ⟨gr, 0, none⟩) 4 d) := S.c1
  have SS := Lib.hid S
  clear S Q y2 y3
  go_still_tail 7, (by kernel_rfl)
  change wpList _ _ _ _ _ w2.drew
  have S4 := SS.out.drew
  generalize w2.drew = w4 at S4 ⊢
  obtain ⟨xo, hxo, cr⟩ := S4.own.roots.cell_at (j := a) (by omega)
  have fz : w4.frozen? ⟨gr, a, none⟩ = false := S4.own.roots.frozen HL.out a
  have S5 := S4.root (i := a) HL.out (-1)
  clear S4 SS
  go_wp2_with fail
  go_end0
  exact ⟨⟨_, rfl⟩, _, _, _, by rw [HF.out]; exact S5⟩
set_option maxHeartbeats 4000000 in
theorem exec_copy {a : Nat} {ob : Nat} {oc : Int} {h : Hp} (hv : Hps.validH h = true) (ha : a < 4) (hb : ob < 4) : ExecF 152 ⟨4, a, ob, oc⟩ h := by
  intro T K w0 w1 b vc vr rvs S0
  have hr4 := (Hps.valid_iff.1 hv).2.2.1
  have ham : (a : Int) < 4 := by omega
  have hbm : (ob : Int) < 4 := by omega
  have hx := List.getElem?_eq_getElem (show ob < h.rt.length by omega)
  generalize h.rt[ob]'(by omega) = x at hx
  have HF := Lib.hid (show Hps.doH h ⟨4, a, ob, oc⟩ h.cs.length = ⟨h.cs, h.rt.set a x⟩ by simp [Hps.doH, Hps.rootAt, hx])
  have HL := Lib.hid hr4
  obtain ⟨A, c, gr, d, rfl, rfl, -⟩ := S0.form (by omega)
  rw [hr4] at S0
  have S := S0.up ((Below.refl w1.heap.size w1).alloc (Nat.le_refl _) (.cells #[.int .i64 4, .int .i64 a, .int .i64 ob, .int .i64 oc] 49))
  have Q := Rw.new w1 49 #[.int .i64 4, .int .i64 a, .int .i64 ob, .int .i64 oc]
  clear S0 hr4 hv
  go_enter Tryd.func152, Tryd.ntmps152
  go_upto_region 1 with fail
  generalize w1.alloc (.cells #[.int .i64 4, .int .i64 a, .int .i64 ob, .int .i64 oc] 49) = w2 at S Q ⊢
  generalize w1.heap.size = q at Q ⊢
  have y1 : w2.cell? ⟨q, 1, none⟩ = some (.int .i64 a) := Q.cell 1
  have y2 : w2.cell? ⟨q, 2, none⟩ = some (.int .i64 ob) := Q.cell 2
  have y3 : w2.cell? ⟨q, 3, none⟩ = some (.int .i64 oc) := Q.cell 3
  have x1 : w2.cell? ⟨b, 1, none⟩ = some (.slice (some ⟨gr, 0, none⟩) 4 d) := S.c1
  obtain ⟨x2, hx2, cx2⟩ := S.own.roots.cell_at (j := ob) (by omega)
  rw [hx] at hx2
  obtain rfl := Option.some.inj hx2
  have SS := Lib.hid S
  clear S Q y3 hx hx2
  go_still_tail 15, (by kernel_rfl)
  change wpList _ _ _ _ _ w2.drew
  have S4 := SS.out.drew
  generalize w2.drew = w4 at S4 ⊢
  obtain ⟨xo, hxo, cr⟩ := S4.own.roots.cell_at (j := a) (by omega)
  have fz : w4.frozen? ⟨gr, a, none⟩ = false := S4.own.roots.frozen HL.out a
  have S5 := S4.root (i := a) HL.out x
  clear S4 SS
  go_wp2_with fail
  go_end0
  exact ⟨⟨_, rfl⟩, _, _, _, by rw [HF.out]; exact S5⟩
set_option maxHeartbeats 4000000 in
theorem exec_get {a : Nat} {ob : Nat} {oc : Nat} {h : Hp} (hv : Hps.validH h = true) (ha : a < 4) (hb : ob < 4) {k : Nat} {cl : Cl} (hk : Hps.rootAt h ob = k) (hcl : h.cs[k]? = some cl) (hoc : oc < cl.r.length) : ExecF 149 ⟨2, a, ob, oc⟩ h := by
  intro T K w0 w1 b vc vr rvs S0
  have hr4 := (Hps.valid_iff.1 hv).2.2.1
  have ham : (a : Int) < 4 := by omega
  have hbm : (ob : Int) < 4 := by omega
  have hx := List.getElem?_eq_getElem (show ob < h.rt.length by omega)
  generalize h.rt[ob]'(by omega) = x at hx
  rw [Hps.rootAt_nat hx] at hk
  subst hk
  have hy := List.getElem?_eq_getElem hoc
  generalize cl.r[oc] = y at hy
  have hlk := (List.getElem?_eq_some_iff.1 hcl).1
  obtain ⟨n, hn⟩ : ∃ n, h.cs.length = n := ⟨_, rfl⟩
  have hkn : (k : Int) < n := by omega
  have hck : h.cs[(k : Int).toNat]? = some cl := hcl
  have HF := Lib.hid (show Hps.doH h ⟨2, a, ob, oc⟩ h.cs.length = ⟨h.cs, h.rt.set a y⟩ by simp [Hps.doH, Hps.rootAt, hx, Hps.refAt, hcl, hy])
  have HL := Lib.hid hr4
  obtain ⟨A, c, gr, d, rfl, rfl, -⟩ := S0.form (by omega)
  rw [hr4] at S0
  have S := S0.up ((Below.refl w1.heap.size w1).alloc (Nat.le_refl _) (.cells #[.int .i64 2, .int .i64 a, .int .i64 ob, .int .i64 oc] 49))
  have Q := Rw.new w1 49 #[.int .i64 2, .int .i64 a, .int .i64 ob, .int .i64 oc]
  clear S0 hr4 hv
  go_enter Tryd.func149, Tryd.ntmps149
  go_upto_region 1 with fail
  generalize w1.alloc (.cells #[.int .i64 2, .int .i64 a, .int .i64 ob, .int .i64 oc] 49) = w2 at S Q ⊢
  generalize w1.heap.size = q at Q ⊢
  have y1 : w2.cell? ⟨q, 1, none⟩ = some (.int .i64 a) := Q.cell 1
  have y2 : w2.cell? ⟨q, 2, none⟩ = some (.int .i64 ob) := Q.cell 2
  have y3 : w2.cell? ⟨q, 3, none⟩ = some (.int .i64 oc) := Q.cell 3
  rw [hn] at S
  have x1 : w2.cell? ⟨b, 1, none⟩ = some (.slice (some ⟨gr, 0, none⟩) 4 d) := S.c1
  obtain ⟨x2, hx2, cx2⟩ := S.own.roots.cell_at (j := ob) (by omega)
  rw [hx] at hx2
  obtain rfl := Option.some.inj hx2
  obtain ⟨gc, v, hA, hg1, hg2, hrv, hov, d0, d1, d2, fzc⟩ := S.own.cell_at (A := A) (n := n) (c := c) (by exact hcl)
  subst hA
  have x0 : w2.cell? ⟨b, 0, none⟩ = some (.slice (some ⟨gc, 0, none⟩) n c) := S.c0
  obtain ⟨A8, c8, rfl, fA8⟩ := hov.form
  obtain ⟨g8, rfl, _, _⟩ := fA8 (by omega)
  obtain ⟨m8, hm8⟩ : ∃ m8, cl.r.length = m8 := ⟨_, rfl⟩
  rw [hm8] at hov d2 hrv hoc
  obtain ⟨y', hy', cy⟩ := hov.cell_at (j := oc) hoc
  rw [hy] at hy'
  obtain rfl := Option.some.inj hy'
  have hom : (oc : Int) < m8 := by omega
  have SS := Lib.hid S
  clear S Q hx hx2 hck hcl hy hy' hov hrv hm8 hg1 hg2 d0 d1 fzc fA8 hoc
  go_still_tail 26, (by kernel_rfl)
  change wpList _ _ _ _ _ w2.drew
  have S4 := SS.out.drew
  generalize w2.drew = w4 at S4 ⊢
  obtain ⟨xo, hxo, cr⟩ := S4.own.roots.cell_at (j := a) (by omega)
  have fz : w4.frozen? ⟨gr, a, none⟩ = false := S4.own.roots.frozen HL.out a
  have S5 := S4.root (i := a) HL.out y
  clear S4 SS
  go_wp2_with fail
  go_end0
  exact ⟨⟨_, rfl⟩, _, _, _, by rw [HF.out]; exact S5⟩
set_option maxHeartbeats 4000000 in
theorem exec_set {a : Nat} {ob : Nat} {oc : Nat} {h : Hp} (hv : Hps.validH h = true) (ha : a < 4) (hb : ob < 4) {k : Nat} {cl : Cl} (hk : Hps.rootAt h a = k) (hcl : h.cs[k]? = some cl) (hoc : oc < cl.r.length) : ExecF 151 ⟨3, a, ob, oc⟩ h := by
  intro T K w0 w1 b vc vr rvs S0
  have hr4 := (Hps.valid_iff.1 hv).2.2.1
  have ham : (a : Int) < 4 := by omega
  have hbm : (ob : Int) < 4 := by omega
  have hx := List.getElem?_eq_getElem (show a < h.rt.length by omega)
  generalize h.rt[a]'(by omega) = x at hx
  rw [Hps.rootAt_nat hx] at hk
  subst hk
  have hz := List.getElem?_eq_getElem (show ob < h.rt.length by omega)
  generalize h.rt[ob]'(by omega) = z at hz
  have hlk := (List.getElem?_eq_some_iff.1 hcl).1
  obtain ⟨n, hn⟩ : ∃ n, h.cs.length = n := ⟨_, rfl⟩
  have hkn : (k : Int) < n := by omega
  have HF := Lib.hid (show Hps.doH h ⟨3, a, ob, oc⟩ h.cs.length = ⟨h.cs.set k ⟨cl.u, cl.d, cl.r.set oc z⟩, h.rt⟩ by simp [Hps.doH, Hps.rootAt, hx, hz, Hps.setRef, hcl])
  have HL := Lib.hid hr4
  obtain ⟨A, c, gr, d, rfl, rfl, -⟩ := S0.form (by omega)
  rw [hr4] at S0
  have S := S0.up ((Below.refl w1.heap.size w1).alloc (Nat.le_refl _) (.cells #[.int .i64 3, .int .i64 a, .int .i64 ob, .int .i64 oc] 49))
  have Q := Rw.new w1 49 #[.int .i64 3, .int .i64 a, .int .i64 ob, .int .i64 oc]
  clear S0 hr4 hv
  go_enter Tryd.func151, Tryd.ntmps151
  go_upto_region 1 with fail
  generalize w1.alloc (.cells #[.int .i64 3, .int .i64 a, .int .i64 ob, .int .i64 oc] 49) = w2 at S Q ⊢
  generalize w1.heap.size = q at Q ⊢
  have y1 : w2.cell? ⟨q, 1, none⟩ = some (.int .i64 a) := Q.cell 1
  have y2 : w2.cell? ⟨q, 2, none⟩ = some (.int .i64 ob) := Q.cell 2
  have y3 : w2.cell? ⟨q, 3, none⟩ = some (.int .i64 oc) := Q.cell 3
  rw [hn] at S
  have x1 : w2.cell? ⟨b, 1, none⟩ = some (.slice (some ⟨gr, 0, none⟩) 4 d) := S.c1
  obtain ⟨x2, hx2, cx2⟩ := S.own.roots.cell_at (j := a) (by omega)
  rw [hx] at hx2
  obtain rfl := Option.some.inj hx2
  obtain ⟨x3, hx3, cx3⟩ := S.own.roots.cell_at (j := ob) (by omega)
  rw [hz] at hx3
  obtain rfl := Option.some.inj hx3
  obtain ⟨gc, v, hA, hg1, hg2, hrv, hov, d0, d1, d2, fzc⟩ := S.own.cell_at (A := A) (n := n) (c := c) (by exact hcl)
  subst hA
  have x0 : w2.cell? ⟨b, 0, none⟩ = some (.slice (some ⟨gc, 0, none⟩) n c) := S.c0
  obtain ⟨A8, c8, rfl, fA8⟩ := hov.form
  obtain ⟨g8, rfl, _, _⟩ := fA8 (by omega)
  obtain ⟨m8, hm8⟩ : ∃ m8, cl.r.length = m8 := ⟨_, rfl⟩
  rw [hm8] at hov d2 hrv hoc
  have hom : (oc : Int) < m8 := by omega
  obtain ⟨yo, hyo, cyo⟩ := hov.cell_at (j := oc) hoc
  have fzo : w2.frozen? ⟨g8, oc, none⟩ = false := hov.frozen hm8 oc
  have SS := Lib.hid S
  have HCL := Lib.hid hcl
  have HRV := Lib.hid hrv
  have HM8 := Lib.hid hm8
  clear S Q hx hx2 hx3 hz hcl hyo hov hrv hm8 hg1 hg2 d0 d1 fzc fA8 hoc
  go_still_tail 26, (by kernel_rfl)
  change wpList _ _ _ _ _ w2.drew
  have S4 := SS.out.drew
  have FZ := Lib.hid (show w2.drew.frozen? ⟨g8, oc, none⟩ = false from fzo)
  have CR := Lib.hid (show w2.drew.cell? ⟨g8, oc, none⟩ = some (.int .i64 yo) from cyo)
  generalize w2.drew = w4 at S4 FZ CR ⊢
  have fz : w4.frozen? ⟨g8, oc, none⟩ = false := FZ.out
  have cr : w4.cell? ⟨g8, oc, none⟩ = some (.int .i64 yo) := CR.out
  have S5 := S4.ref1 (i := oc) HCL.out HRV.out HM8.out z
  clear S4 SS
  go_wp2_with fail
  go_end0
  exact ⟨⟨_, rfl⟩, _, _, _, by rw [HF.out]; exact S5⟩
set_option maxHeartbeats 4000000 in
theorem exec_data {a : Nat} {ob : Int} {oc : Int} {h : Hp} (hv : Hps.validH h = true) (ha : a < 4) {k : Nat} {cl : Cl} (hk : Hps.rootAt h a = k) (hcl : h.cs[k]? = some cl) : ExecF 155 ⟨6, a, ob, oc⟩ h := by
  intro T K w0 w1 b vc vr rvs S0
  have hr4 := (Hps.valid_iff.1 hv).2.2.1
  have ham : (a : Int) < 4 := by omega
  have hx := List.getElem?_eq_getElem (show a < h.rt.length by omega)
  generalize h.rt[a]'(by omega) = x at hx
  rw [Hps.rootAt_nat hx] at hk
  subst hk
  have hlk := (List.getElem?_eq_some_iff.1 hcl).1
  obtain ⟨n, hn⟩ : ∃ n, h.cs.length = n := ⟨_, rfl⟩
  have hkn : (k : Int) < n := by omega
  have HF := Lib.hid (show Hps.doH h ⟨6, a, ob, oc⟩ h.cs.length = ⟨h.cs.set k ⟨cl.u, ob, cl.r⟩, h.rt⟩ by simp [Hps.doH, Hps.rootAt, hx, Hps.setDat, hcl])
  have HL := Lib.hid hr4
  obtain ⟨A, c, gr, d, rfl, rfl, -⟩ := S0.form (by omega)
  rw [hr4] at S0
  have S := S0.up ((Below.refl w1.heap.size w1).alloc (Nat.le_refl _) (.cells #[.int .i64 6, .int .i64 a, .int .i64 ob, .int .i64 oc] 49))
  have Q := Rw.new w1 49 #[.int .i64 6, .int .i64 a, .int .i64 ob, .int .i64 oc]
  clear S0 hr4 hv
  go_enter Tryd.func155, Tryd.ntmps155
  go_upto_region 1 with fail
  generalize w1.alloc (.cells #[.int .i64 6, .int .i64 a, .int .i64 ob, .int .i64 oc] 49) = w2 at S Q ⊢
  generalize w1.heap.size = q at Q ⊢
  have y1 : w2.cell? ⟨q, 1, none⟩ = some (.int .i64 a) := Q.cell 1
  have y2 : w2.cell? ⟨q, 2, none⟩ = some (.int .i64 ob) := Q.cell 2
  have y3 : w2.cell? ⟨q, 3, none⟩ = some (.int .i64 oc) := Q.cell 3
  rw [hn] at S
  have x1 : w2.cell? ⟨b, 1, none⟩ = some (.slice (some ⟨gr, 0, none⟩) 4 d) := S.c1
  obtain ⟨x2, hx2, cx2⟩ := S.own.roots.cell_at (j := a) (by omega)
  rw [hx] at hx2
  obtain rfl := Option.some.inj hx2
  obtain ⟨gc, v, hA, hg1, hg2, hrv, hov, d0, d1, d2, fzc⟩ := S.own.cell_at (A := A) (n := n) (c := c) (by exact hcl)
  subst hA
  have x0 : w2.cell? ⟨b, 0, none⟩ = some (.slice (some ⟨gc, 0, none⟩) n c) := S.c0
  have fzo := fzc (k * 3 + 1)
  have SS := Lib.hid S
  have HCL := Lib.hid hcl
  have HN := Lib.hid hn
  clear S Q hx hx2 hcl hov hrv hg1 hg2 d0 d2 fzc hn
  go_still_tail 16, (by kernel_rfl)
  change wpList _ _ _ _ _ w2.drew
  have S4 := SS.out.drew
  have FZ := Lib.hid (show w2.drew.frozen? ⟨gc, k * 3 + 1, none⟩ = false from fzo)
  have CR := Lib.hid (show w2.drew.cell? ⟨gc, k * 3 + 1, none⟩ = some (.int .i64 cl.d) from d1)
  generalize w2.drew = w4 at S4 FZ CR ⊢
  have fz : w4.frozen? ⟨gc, k * 3 + 1, none⟩ = false := FZ.out
  have cr : w4.cell? ⟨gc, k * 3 + 1, none⟩ = some (.int .i64 cl.d) := CR.out
  have S5 := S4.data HN.out HCL.out ob
  clear S4 SS
  go_wp2_with fail
  go_end0
  exact ⟨⟨_, rfl⟩, _, _, _, by rw [HF.out]; exact S5⟩
end Go.Proofs.YthmddmddcdofaaaDoor

namespace Go.Proofs.YthmddmddcdofaaaDoor
open Go.RowKit
set_option maxRecDepth 100000
theorem info_intsize : (Tryd.prog.info? 3).map (·.size) = some 1 := by kernel_rfl
/-- k times -1, then 0 up to N -/
def repN (N k : Nat) : List Value := List.replicate k (.int .i64 (-1)) ++ List.replicate (N - k) (.int .i64 0)
def RowN (w : World) (g N k : Nat) : Prop := w.heap[g]? = some (.cells (repN N k).toArray 3 (0, 0))
theorem RowN.cell {w : World} {g N k j : Nat} (h : RowN w g N k) (hj : j < k) : w.cell? ⟨g, j, none⟩ = some (.int .i64 (-1)) := by
  have : (repN N k)[j]? = some (.int .i64 (-1)) := by
    unfold repN
    rw [List.getElem?_append_left (by simpa using hj)]
    simp [hj]
  have e : w.cell? ⟨g, j, none⟩ = (repN N k).toArray[j]? := Rw.cell (cs := (repN N k).toArray) h j
  rw [e]
  simpa using this
theorem RowN.put {w : World} {g N k : Nat} (h : RowN w g N k) (j : Nat) : RowN (w.setRow g (repN N j).toArray) g N j := setRow_heap w g _ _ _ _ h
theorem mulN64_0 (w : World) : Calls Tryd.prog 159 #[.int .u64 1, .int .u64 0] w fun e w' => e = .returned (.tuple #[.int .u64 0, .int .u64 0]) ∧ w = w' := by
  go_enter Tryd.func159, Tryd.ntmps159
  go_wp2_with fail
  go_ret2
  exact ⟨rfl, rfl⟩
theorem mulN_0 (w : World) : Calls Tryd.prog 139 #[.int .u64 1, .int .u64 0] w fun e w' => e = .returned (.tuple #[.int .u64 0, .int .u64 0]) ∧ w = w' := by
  go_enter Tryd.func139, Tryd.ntmps139
  go_wp2_with fail
  refine (mulN64_0 _).mono ?_
  rintro e w1 ⟨rfl, rfl⟩
  go_wp2_with fail
  go_ret2
  exact ⟨rfl, rfl⟩
theorem copyN_first_0 {w : World} {g g0 : Nat} (hr : RowN w g0 0 0) (_hc : w.cell? ⟨g, 0, none⟩ = some (.int .i64 (-1))) (ty : TypeId) :
    (Builtin.copy_ #[24, 24] ty #[.slice (some ⟨g0, 0, none⟩) 0 0, .slice (some ⟨g, 0, none⟩) 1 1]).run Tryd.prog w = .ok (.int .i64 0) (w.setRow g0 (repN 0 0).toArray) :=
  run_copy_row (P := Tryd.prog) w 24 24 ty 3 g0 0 0 0 ⟨g, 0, none⟩ 1 1 (repN 0 0).toArray 3 [] Tryd.underlying24 info_intsize hr rfl (by
    intro j v hj
    simp at hj) (by decide) (by intro v hv; simp at hv)
set_option maxHeartbeats 1000000 in
theorem repeat_0 (g : Nat) (w : World) (hg : g < w.heap.size) (hc : w.cell? ⟨g, 0, none⟩ = some (.int .i64 (-1))) :
    Calls Tryd.prog 115 #[.slice (some ⟨g, 0, none⟩) 1 1, .int .i64 0] w (GaveI w (List.replicate 0 (-1))) := by
  have hmk := makeI w 0 (by omega)
  have b2 : Below w.heap.size w (w.alloc (.cells (Array.replicate 0 (.int .i64 0)) 3)) := (Below.refl _ _).alloc (Nat.le_refl _) _
  have k2 : RowN (w.alloc (.cells (Array.replicate 0 (.int .i64 0)) 3)) w.heap.size 0 0 := Rw.new w 3 (Array.replicate 0 (.int .i64 0))
  have hc2 := (b2.cell (p := ⟨g, 0, none⟩) hg).trans hc
  obtain ⟨w2, hw2⟩ : ∃ w2, w.alloc (.cells (Array.replicate 0 (.int .i64 0)) 3) = w2 := ⟨_, rfl⟩
  rw [hw2] at hmk b2 k2 hc2
  obtain ⟨G, hG⟩ : ∃ G, w.heap.size = G := ⟨_, rfl⟩
  rw [hG] at hmk b2 k2
  simp at hmk
  have hcp := copyN_first_0 k2 hc2
  have k3 := k2.put 0
  have b3 : Below G w (w2.setRow G (repN 0 0).toArray) := below_setRow b2 (Nat.le_refl _) _
  obtain ⟨w3, hw3⟩ : ∃ w3, w2.setRow G (repN 0 0).toArray = w3 := ⟨_, rfl⟩
  rw [hw3] at hcp k3 b3
  clear hw2 hw3
  go_enter Tryd.func115, Tryd.ntmps115
  go_wp2_with fail
  refine (mulN_0 _).mono ?_
  rintro e w1 ⟨rfl, rfl⟩
  go_wp2_with fail
  clear k2 hc2 hmk hcp b2
  go_loopw [8] (fun v wr => ∃ k : Nat, (k = 0) ∧ v = .int .i64 k ∧ RowN wr G 0 k ∧ Below G w wr) (fun v _ => 0 - (intOf v).toNat)
  case atStart => exact ⟨0, rfl, rfl, k3, b3⟩
  case round =>
    clear k3 b3
    obtain ⟨k, hk, rfl, hr, bb⟩ := hrel
    subst hk
    · go_wp2_with fail
      go_ret
      refine ⟨_, rfl, ⟨by simp, .inr ⟨G, 0, (repN 0 0).toArray, by simp, by omega, hr, by simp, by unfold maxLen; omega, by decide, rfl⟩⟩, by rw [hG]; exact bb⟩
theorem mulN64_1 (w : World) : Calls Tryd.prog 159 #[.int .u64 1, .int .u64 1] w fun e w' => e = .returned (.tuple #[.int .u64 0, .int .u64 1]) ∧ w = w' := by
  go_enter Tryd.func159, Tryd.ntmps159
  go_wp2_with fail
  go_ret2
  exact ⟨rfl, rfl⟩
theorem mulN_1 (w : World) : Calls Tryd.prog 139 #[.int .u64 1, .int .u64 1] w fun e w' => e = .returned (.tuple #[.int .u64 0, .int .u64 1]) ∧ w = w' := by
  go_enter Tryd.func139, Tryd.ntmps139
  go_wp2_with fail
  refine (mulN64_1 _).mono ?_
  rintro e w1 ⟨rfl, rfl⟩
  go_wp2_with fail
  go_ret2
  exact ⟨rfl, rfl⟩
theorem copyN_first_1 {w : World} {g g0 : Nat} (hr : RowN w g0 1 0) (hc : w.cell? ⟨g, 0, none⟩ = some (.int .i64 (-1))) (ty : TypeId) :
    (Builtin.copy_ #[24, 24] ty #[.slice (some ⟨g0, 0, none⟩) 1 1, .slice (some ⟨g, 0, none⟩) 1 1]).run Tryd.prog w = .ok (.int .i64 1) (w.setRow g0 (repN 1 1).toArray) :=
  run_copy_row (P := Tryd.prog) w 24 24 ty 3 g0 0 1 1 ⟨g, 0, none⟩ 1 1 (repN 1 0).toArray 3 [.int .i64 (-1)] Tryd.underlying24 info_intsize hr rfl (by
    intro j v hj
    match j, hj with
    | 0, hj => simp at hj; subst hj; exact hc) (by decide) (by intro v hv; simp at hv; subst hv; rfl)
set_option maxHeartbeats 1000000 in
theorem repeat_1 (g : Nat) (w : World) (hg : g < w.heap.size) (hc : w.cell? ⟨g, 0, none⟩ = some (.int .i64 (-1))) :
    Calls Tryd.prog 115 #[.slice (some ⟨g, 0, none⟩) 1 1, .int .i64 1] w (GaveI w (List.replicate 1 (-1))) := by
  have hmk := makeI w 1 (by omega)
  have b2 : Below w.heap.size w (w.alloc (.cells (Array.replicate 1 (.int .i64 0)) 3)) := (Below.refl _ _).alloc (Nat.le_refl _) _
  have k2 : RowN (w.alloc (.cells (Array.replicate 1 (.int .i64 0)) 3)) w.heap.size 1 0 := Rw.new w 3 (Array.replicate 1 (.int .i64 0))
  have hc2 := (b2.cell (p := ⟨g, 0, none⟩) hg).trans hc
  obtain ⟨w2, hw2⟩ : ∃ w2, w.alloc (.cells (Array.replicate 1 (.int .i64 0)) 3) = w2 := ⟨_, rfl⟩
  rw [hw2] at hmk b2 k2 hc2
  obtain ⟨G, hG⟩ : ∃ G, w.heap.size = G := ⟨_, rfl⟩
  rw [hG] at hmk b2 k2
  simp at hmk
  have hcp := copyN_first_1 k2 hc2
  have k3 := k2.put 1
  have b3 : Below G w (w2.setRow G (repN 1 1).toArray) := below_setRow b2 (Nat.le_refl _) _
  obtain ⟨w3, hw3⟩ : ∃ w3, w2.setRow G (repN 1 1).toArray = w3 := ⟨_, rfl⟩
  rw [hw3] at hcp k3 b3
  clear hw2 hw3
  go_enter Tryd.func115, Tryd.ntmps115
  go_wp2_with fail
  refine (mulN_1 _).mono ?_
  rintro e w1 ⟨rfl, rfl⟩
  go_wp2_with fail
  clear k2 hc2 hmk hcp b2
  go_loopw [8] (fun v wr => ∃ k : Nat, (k = 1) ∧ v = .int .i64 k ∧ RowN wr G 1 k ∧ Below G w wr) (fun v _ => 1 - (intOf v).toNat)
  case atStart => exact ⟨1, rfl, rfl, k3, b3⟩
  case round =>
    clear k3 b3
    obtain ⟨k, hk, rfl, hr, bb⟩ := hrel
    subst hk
    · go_wp2_with fail
      go_ret
      refine ⟨_, rfl, ⟨by simp, .inr ⟨G, 1, (repN 1 1).toArray, by simp, by omega, hr, by simp, by unfold maxLen; omega, by decide, rfl⟩⟩, by rw [hG]; exact bb⟩
theorem mulN64_2 (w : World) : Calls Tryd.prog 159 #[.int .u64 1, .int .u64 2] w fun e w' => e = .returned (.tuple #[.int .u64 0, .int .u64 2]) ∧ w = w' := by
  go_enter Tryd.func159, Tryd.ntmps159
  go_wp2_with fail
  go_ret2
  exact ⟨rfl, rfl⟩
theorem mulN_2 (w : World) : Calls Tryd.prog 139 #[.int .u64 1, .int .u64 2] w fun e w' => e = .returned (.tuple #[.int .u64 0, .int .u64 2]) ∧ w = w' := by
  go_enter Tryd.func139, Tryd.ntmps139
  go_wp2_with fail
  refine (mulN64_2 _).mono ?_
  rintro e w1 ⟨rfl, rfl⟩
  go_wp2_with fail
  go_ret2
  exact ⟨rfl, rfl⟩
theorem copyN_first_2 {w : World} {g g0 : Nat} (hr : RowN w g0 2 0) (hc : w.cell? ⟨g, 0, none⟩ = some (.int .i64 (-1))) (ty : TypeId) :
    (Builtin.copy_ #[24, 24] ty #[.slice (some ⟨g0, 0, none⟩) 2 2, .slice (some ⟨g, 0, none⟩) 1 1]).run Tryd.prog w = .ok (.int .i64 1) (w.setRow g0 (repN 2 1).toArray) :=
  run_copy_row (P := Tryd.prog) w 24 24 ty 3 g0 0 2 2 ⟨g, 0, none⟩ 1 1 (repN 2 0).toArray 3 [.int .i64 (-1)] Tryd.underlying24 info_intsize hr rfl (by
    intro j v hj
    match j, hj with
    | 0, hj => simp at hj; subst hj; exact hc) (by decide) (by intro v hv; simp at hv; subst hv; rfl)
theorem copyN_2_1 {w : World} {g : Nat} (h : RowN w g 2 1) (ty : TypeId) :
    (Builtin.copy_ #[24, 24] ty #[.slice (some ⟨g, 1, none⟩) 1 1, .slice (some ⟨g, 0, none⟩) 1 2]).run Tryd.prog w = .ok (.int .i64 1) (w.setRow g (repN 2 2).toArray) :=
  run_copy_row (P := Tryd.prog) w 24 24 ty 3 g 1 1 1 ⟨g, 0, none⟩ 1 2 (repN 2 1).toArray 3 [.int .i64 (-1)] Tryd.underlying24 info_intsize h rfl (by
    intro j v hj
    match j, hj with
    | 0, hj => simp at hj; subst hj; exact h.cell (j := 0) (by omega)) (by decide) (by intro v hv; simp at hv; subst hv; rfl)
set_option maxHeartbeats 1000000 in
theorem repeat_2 (g : Nat) (w : World) (hg : g < w.heap.size) (hc : w.cell? ⟨g, 0, none⟩ = some (.int .i64 (-1))) :
    Calls Tryd.prog 115 #[.slice (some ⟨g, 0, none⟩) 1 1, .int .i64 2] w (GaveI w (List.replicate 2 (-1))) := by
  have hmk := makeI w 2 (by omega)
  have b2 : Below w.heap.size w (w.alloc (.cells (Array.replicate 2 (.int .i64 0)) 3)) := (Below.refl _ _).alloc (Nat.le_refl _) _
  have k2 : RowN (w.alloc (.cells (Array.replicate 2 (.int .i64 0)) 3)) w.heap.size 2 0 := Rw.new w 3 (Array.replicate 2 (.int .i64 0))
  have hc2 := (b2.cell (p := ⟨g, 0, none⟩) hg).trans hc
  obtain ⟨w2, hw2⟩ : ∃ w2, w.alloc (.cells (Array.replicate 2 (.int .i64 0)) 3) = w2 := ⟨_, rfl⟩
  rw [hw2] at hmk b2 k2 hc2
  obtain ⟨G, hG⟩ : ∃ G, w.heap.size = G := ⟨_, rfl⟩
  rw [hG] at hmk b2 k2
  simp at hmk
  have hcp := copyN_first_2 k2 hc2
  have k3 := k2.put 1
  have b3 : Below G w (w2.setRow G (repN 2 1).toArray) := below_setRow b2 (Nat.le_refl _) _
  obtain ⟨w3, hw3⟩ : ∃ w3, w2.setRow G (repN 2 1).toArray = w3 := ⟨_, rfl⟩
  rw [hw3] at hcp k3 b3
  clear hw2 hw3
  go_enter Tryd.func115, Tryd.ntmps115
  go_wp2_with fail
  refine (mulN_2 _).mono ?_
  rintro e w1 ⟨rfl, rfl⟩
  go_wp2_with fail
  clear k2 hc2 hmk hcp b2
  go_loopw [8] (fun v wr => ∃ k : Nat, (k = 1 ∨ k = 2) ∧ v = .int .i64 k ∧ RowN wr G 2 k ∧ Below G w wr) (fun v _ => 2 - (intOf v).toNat)
  case atStart => exact ⟨1, .inl rfl, rfl, k3, b3⟩
  case round =>
    clear k3 b3
    obtain ⟨k, hk, rfl, hr, bb⟩ := hrel
    rcases hk with rfl | rfl
    · have hcp := copyN_2_1 (w := wr.drew) hr
      have kn := RowN.put (w := wr.drew) hr 2
      have bn : Below G w (wr.drew.setRow G (repN 2 2).toArray) := below_setRow bb.drew (Nat.le_refl _) _
      obtain ⟨w3, hw3⟩ : ∃ w3, wr.drew.setRow G (repN 2 2).toArray = w3 := ⟨_, rfl⟩
      rw [hw3] at hcp kn bn
      clear hw3
      go_wp2_with fail
      go_region
      go_wp2
      go_roundw
      case rel => exact ⟨2, .inr rfl, rfl, kn, bn⟩
      case measure => simp [intOf]
    · go_wp2_with fail
      go_ret
      refine ⟨_, rfl, ⟨by simp, .inr ⟨G, 2, (repN 2 2).toArray, by simp, by omega, hr, by simp, by unfold maxLen; omega, by decide, rfl⟩⟩, by rw [hG]; exact bb⟩
theorem mulN64_3 (w : World) : Calls Tryd.prog 159 #[.int .u64 1, .int .u64 3] w fun e w' => e = .returned (.tuple #[.int .u64 0, .int .u64 3]) ∧ w = w' := by
  go_enter Tryd.func159, Tryd.ntmps159
  go_wp2_with fail
  go_ret2
  exact ⟨rfl, rfl⟩
theorem mulN_3 (w : World) : Calls Tryd.prog 139 #[.int .u64 1, .int .u64 3] w fun e w' => e = .returned (.tuple #[.int .u64 0, .int .u64 3]) ∧ w = w' := by
  go_enter Tryd.func139, Tryd.ntmps139
  go_wp2_with fail
  refine (mulN64_3 _).mono ?_
  rintro e w1 ⟨rfl, rfl⟩
  go_wp2_with fail
  go_ret2
  exact ⟨rfl, rfl⟩
theorem copyN_first_3 {w : World} {g g0 : Nat} (hr : RowN w g0 3 0) (hc : w.cell? ⟨g, 0, none⟩ = some (.int .i64 (-1))) (ty : TypeId) :
    (Builtin.copy_ #[24, 24] ty #[.slice (some ⟨g0, 0, none⟩) 3 3, .slice (some ⟨g, 0, none⟩) 1 1]).run Tryd.prog w = .ok (.int .i64 1) (w.setRow g0 (repN 3 1).toArray) :=
  run_copy_row (P := Tryd.prog) w 24 24 ty 3 g0 0 3 3 ⟨g, 0, none⟩ 1 1 (repN 3 0).toArray 3 [.int .i64 (-1)] Tryd.underlying24 info_intsize hr rfl (by
    intro j v hj
    match j, hj with
    | 0, hj => simp at hj; subst hj; exact hc) (by decide) (by intro v hv; simp at hv; subst hv; rfl)
theorem copyN_3_1 {w : World} {g : Nat} (h : RowN w g 3 1) (ty : TypeId) :
    (Builtin.copy_ #[24, 24] ty #[.slice (some ⟨g, 1, none⟩) 2 2, .slice (some ⟨g, 0, none⟩) 1 3]).run Tryd.prog w = .ok (.int .i64 1) (w.setRow g (repN 3 2).toArray) :=
  run_copy_row (P := Tryd.prog) w 24 24 ty 3 g 1 2 2 ⟨g, 0, none⟩ 1 3 (repN 3 1).toArray 3 [.int .i64 (-1)] Tryd.underlying24 info_intsize h rfl (by
    intro j v hj
    match j, hj with
    | 0, hj => simp at hj; subst hj; exact h.cell (j := 0) (by omega)) (by decide) (by intro v hv; simp at hv; subst hv; rfl)
theorem copyN_3_2 {w : World} {g : Nat} (h : RowN w g 3 2) (ty : TypeId) :
    (Builtin.copy_ #[24, 24] ty #[.slice (some ⟨g, 2, none⟩) 1 1, .slice (some ⟨g, 0, none⟩) 2 3]).run Tryd.prog w = .ok (.int .i64 1) (w.setRow g (repN 3 3).toArray) :=
  run_copy_row (P := Tryd.prog) w 24 24 ty 3 g 2 1 1 ⟨g, 0, none⟩ 2 3 (repN 3 2).toArray 3 [.int .i64 (-1)] Tryd.underlying24 info_intsize h rfl (by
    intro j v hj
    match j, hj with
    | 0, hj => simp at hj; subst hj; exact h.cell (j := 0) (by omega)) (by decide) (by intro v hv; simp at hv; subst hv; rfl)
set_option maxHeartbeats 1000000 in
theorem repeat_3 (g : Nat) (w : World) (hg : g < w.heap.size) (hc : w.cell? ⟨g, 0, none⟩ = some (.int .i64 (-1))) :
    Calls Tryd.prog 115 #[.slice (some ⟨g, 0, none⟩) 1 1, .int .i64 3] w (GaveI w (List.replicate 3 (-1))) := by
  have hmk := makeI w 3 (by omega)
  have b2 : Below w.heap.size w (w.alloc (.cells (Array.replicate 3 (.int .i64 0)) 3)) := (Below.refl _ _).alloc (Nat.le_refl _) _
  have k2 : RowN (w.alloc (.cells (Array.replicate 3 (.int .i64 0)) 3)) w.heap.size 3 0 := Rw.new w 3 (Array.replicate 3 (.int .i64 0))
  have hc2 := (b2.cell (p := ⟨g, 0, none⟩) hg).trans hc
  obtain ⟨w2, hw2⟩ : ∃ w2, w.alloc (.cells (Array.replicate 3 (.int .i64 0)) 3) = w2 := ⟨_, rfl⟩
  rw [hw2] at hmk b2 k2 hc2
  obtain ⟨G, hG⟩ : ∃ G, w.heap.size = G := ⟨_, rfl⟩
  rw [hG] at hmk b2 k2
  simp at hmk
  have hcp := copyN_first_3 k2 hc2
  have k3 := k2.put 1
  have b3 : Below G w (w2.setRow G (repN 3 1).toArray) := below_setRow b2 (Nat.le_refl _) _
  obtain ⟨w3, hw3⟩ : ∃ w3, w2.setRow G (repN 3 1).toArray = w3 := ⟨_, rfl⟩
  rw [hw3] at hcp k3 b3
  clear hw2 hw3
  go_enter Tryd.func115, Tryd.ntmps115
  go_wp2_with fail
  refine (mulN_3 _).mono ?_
  rintro e w1 ⟨rfl, rfl⟩
  go_wp2_with fail
  clear k2 hc2 hmk hcp b2
  go_loopw [8] (fun v wr => ∃ k : Nat, (k = 1 ∨ k = 2 ∨ k = 3) ∧ v = .int .i64 k ∧ RowN wr G 3 k ∧ Below G w wr) (fun v _ => 3 - (intOf v).toNat)
  case atStart => exact ⟨1, .inl rfl, rfl, k3, b3⟩
  case round =>
    clear k3 b3
    obtain ⟨k, hk, rfl, hr, bb⟩ := hrel
    rcases hk with rfl | rfl | rfl
    · have hcp := copyN_3_1 (w := wr.drew) hr
      have kn := RowN.put (w := wr.drew) hr 2
      have bn : Below G w (wr.drew.setRow G (repN 3 2).toArray) := below_setRow bb.drew (Nat.le_refl _) _
      obtain ⟨w3, hw3⟩ : ∃ w3, wr.drew.setRow G (repN 3 2).toArray = w3 := ⟨_, rfl⟩
      rw [hw3] at hcp kn bn
      clear hw3
      go_wp2_with fail
      go_region
      go_wp2
      go_roundw
      case rel => exact ⟨2, .inr (.inl rfl), rfl, kn, bn⟩
      case measure => simp [intOf]
    · have hcp := copyN_3_2 (w := wr.drew) hr
      have kn := RowN.put (w := wr.drew) hr 3
      have bn : Below G w (wr.drew.setRow G (repN 3 3).toArray) := below_setRow bb.drew (Nat.le_refl _) _
      obtain ⟨w3, hw3⟩ : ∃ w3, wr.drew.setRow G (repN 3 3).toArray = w3 := ⟨_, rfl⟩
      rw [hw3] at hcp kn bn
      clear hw3
      go_wp2_with fail
      go_region
      go_wp2
      go_roundw
      case rel => exact ⟨3, .inr (.inr rfl), rfl, kn, bn⟩
      case measure => simp [intOf]
    · go_wp2_with fail
      go_ret
      refine ⟨_, rfl, ⟨by simp, .inr ⟨G, 3, (repN 3 3).toArray, by simp, by omega, hr, by simp, by unfold maxLen; omega, by decide, rfl⟩⟩, by rw [hG]; exact bb⟩
theorem repeat_ones (n : Nat) (hn : n ≤ 3) (g : Nat) (w : World) (hg : g < w.heap.size) (hc : w.cell? ⟨g, 0, none⟩ = some (.int .i64 (-1))) :
    Calls Tryd.prog 115 #[.slice (some ⟨g, 0, none⟩) 1 1, .int .i64 n] w (GaveI w (List.replicate n (-1))) := by
  obtain rfl | rfl | rfl | rfl : n = 0 ∨ n = 1 ∨ n = 2 ∨ n = 3 := by omega
  · exact repeat_0 g w hg hc
  · exact repeat_1 g w hg hc
  · exact repeat_2 g w hg hc
  · exact repeat_3 g w hg hc
end Go.Proofs.YthmddmddcdofaaaDoor

