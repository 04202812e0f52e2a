/- What the claim DECollectSweep stands on, part 2 of 3: texts of one seat put together, with what the claim needs of them. No conditions. -/
import Derived.Test.YthmddmddcdofaaaDoorShIa
namespace Go.Proofs.YthmddmddcdofaaaDoor
open Go.RowKit
set_option maxRecDepth 100000
namespace Hps
end Hps
theorem flatC_get {cs : List Cl} {vs : List Value} (hl : vs.length = cs.length) {j : Nat} {u : Value} (h : (flatC cs vs)[j]? = some u) : ∃ k c v, j / 3 = k ∧ cs[k]? = some c ∧ vs[k]? = some v ∧ ((j = k * 3 ∧ u = .bool c.u) ∨ (j = k * 3 + 1 ∧ u = .int .i64 c.d) ∨ (j = k * 3 + 2 ∧ u = v)) := by
  have hj := (List.getElem?_eq_some_iff.1 h).1
  rw [flatC_length _ _ hl] at hj
  have hk : j / 3 < cs.length := by omega
  have hc := List.getElem?_eq_getElem hk
  have hv := List.getElem?_eq_getElem (show j / 3 < vs.length by omega)
  obtain ⟨f1, f2, f3⟩ := flatC_at _ _ _ _ _ hc hv
  refine ⟨j / 3, _, _, rfl, hc, hv, ?_⟩
  rcases (show j = j / 3 * 3 ∨ j = j / 3 * 3 + 1 ∨ j = j / 3 * 3 + 2 by omega) with e | e | e
  · rw [← e, h] at f1
    exact .inl ⟨e, Option.some.inj f1⟩
  · rw [← e, h] at f2
    exact .inr (.inl ⟨e, Option.some.inj f2⟩)
  · rw [← e, h] at f3
    exact .inr (.inr ⟨e, Option.some.inj f3⟩)
/-- what the slices of the references are, where cells are read -/
def RefsAt (w : World) (B : Nat) (cs : List Cl) (rvs : List Value) : Prop := rvs.length = cs.length ∧ ∀ (k : Nat) (c : Cl) (v : Value), cs[k]? = some c → rvs[k]? = some v → ∃ A' m cc, v = .slice A' m cc ∧ m ≤ cc ∧ IS w B A' m c.r
theorem RefsAt.below {w w' : World} {B : Nat} {cs : List Cl} {rvs : List Value} (h : RefsAt w B cs rvs) (hb : Below B w w') : RefsAt w' B cs rvs :=
  ⟨h.1, fun k c v hc hv => by
    obtain ⟨A', m, cc, e, hm, hi⟩ := h.2 k c v hc hv
    exact ⟨A', m, cc, e, hm, hi.below hb⟩⟩
theorem RefsAt.one {w : World} {B : Nat} {cs : List Cl} {rvs : List Value} (h : RefsAt w B cs rvs) : ∀ u ∈ flatC cs rvs, u.oneCell' = true := fun u hu => by
  obtain ⟨j, hj⟩ := List.mem_iff_getElem?.1 hu
  obtain ⟨k, c, v, _, hc, hv, hx⟩ := flatC_get h.1 hj
  rcases hx with ⟨_, rfl⟩ | ⟨_, rfl⟩ | ⟨_, rfl⟩
  · rfl
  · rfl
  · obtain ⟨A', m, cc, rfl, _⟩ := h.2 k c u hc hv
    rfl
theorem CS.refs {w : World} {B n : Nat} {A : Option Addr} {cs : List Cl} (h : CS w B A n cs) : ∃ rvs, RefsAt w B cs rvs ∧ (0 < n → ∃ g o, A = some ⟨g, o, none⟩ ∧ g < B ∧ ∀ (j : Nat) (u : Value), (flatC cs rvs)[j]? = some u → w.cell? ⟨g, o + j, none⟩ = some u) := by
  rcases Nat.eq_zero_or_pos n with h0 | h0
  · have : cs = [] := List.eq_nil_of_length_eq_zero (h.1.trans h0)
    subst this
    exact ⟨[], ⟨rfl, fun k c v hc => by simp at hc⟩, fun hh => by omega⟩
  · obtain ⟨g, o, rfl, hgB, hc⟩ := h.2 h0
    have hl : ((List.range n).map fun k => (w.cell? ⟨g, o + k * 3 + 2, none⟩).getD undef).length = cs.length := by simp [h.1]
    have hrv : ∀ (k : Nat) (c : Cl) (v : Value), cs[k]? = some c → ((List.range n).map fun k => (w.cell? ⟨g, o + k * 3 + 2, none⟩).getD undef)[k]? = some v → w.cell? ⟨g, o + k * 3 + 2, none⟩ = some v ∧ ∃ A' m cc, v = .slice A' m cc ∧ m ≤ cc ∧ IS w B A' m c.r := fun k c v h1 h2 => by
      have hk : k < n := by have := (List.getElem?_eq_some_iff.1 h1).1; have := h.1; omega
      rw [List.getElem?_map, List.getElem?_range hk] at h2
      obtain ⟨_, _, A', m, cc, c3, hm, hi⟩ := hc k c h1
      rw [Option.map_some, c3] at h2
      have h2 := Option.some.inj h2
      exact ⟨by rw [c3, ← h2]; rfl, A', m, cc, by rw [← h2]; rfl, hm, hi⟩
    refine ⟨_, ⟨hl, fun k c v h1 h2 => (hrv k c v h1 h2).2⟩, fun _ => ⟨g, o, rfl, hgB, fun j u hj => ?_⟩⟩
    obtain ⟨k, c, v, _, h1, h2, hx⟩ := flatC_get hl hj
    rcases hx with ⟨rfl, rfl⟩ | ⟨rfl, rfl⟩ | ⟨rfl, rfl⟩
    · exact (hc k c h1).1
    · rw [← Nat.add_assoc]
      exact (hc k c h1).2.1
    · rw [← Nat.add_assoc]
      exact (hrv k c u h1 h2).1
theorem run_appendCs (w : World) (base : Nat) (v : Value) (n : Nat) (vs : List Value) (hown : w.ownsRow base 40 3 v n vs) (A : Option Addr) (m c : Nat) (ys : List Value) (hl : ys.length = m * 3)
    (hA : 0 < m → ∃ ad, A = some ad ∧ ∀ j u, ys[j]? = some u → w.cell? (ad.add j) = some u) (h1 : ∀ u ∈ ys, u.oneCell' = true) (hn : n + m ≤ 1099511627776) (hbase : base ≤ w.heap.size) (ty : TypeId) :
    ∃ v' w', (Builtin.append_ #[23, 23] ty #[v, .slice A m c]).run Tryd.prog w = .ok v' w' ∧ w'.ownsRow base 40 3 v' (n + m) (vs ++ ys) ∧ w.grownBy w' v.ownBlock ∧ (v'.ownBlock = v.ownBlock ∨ v'.ownBlock = some w.heap.size) := by
  obtain ⟨i0, hi0, hz0, hz1, hz2⟩ := info_parts info_cell
  rcases A with _ | ad
  · have h0 : m = 0 := by
      rcases Nat.eq_zero_or_pos m with h0 | h0
      · exact h0
      · obtain ⟨ad, e, _⟩ := hA h0
        cases e
    subst h0
    have : ys = [] := List.eq_nil_of_length_eq_zero (by omega)
    subst this
    refine ⟨v, w, ?_, by simpa using hown, World.grownBy.refl _ _, .inl rfl⟩
    rcases hown.2 with ⟨rfl, _⟩ | ⟨g, cap, cur, rfl, _, _, hnc, _⟩
    · simp [Builtin.append_, run_underlying Tryd.underlying23, sizeOf, typeInfo, hi0, Builtin.lenOf, Builtin.firstCells]
    · simp [Builtin.append_, run_underlying Tryd.underlying23, sizeOf, typeInfo, hi0, Builtin.lenOf, Builtin.firstCells, hnc, storeCells]
  · have hcells : ∀ j u, ys[j]? = some u → w.cell? (ad.add j) = some u := fun j u hj => by
      have hp : 0 < m := by have := (List.getElem?_eq_some_iff.1 hj).1; omega
      obtain ⟨ad', e, hc⟩ := hA hp
      have e := Option.some.inj e
      rw [e]
      exact hc j u hj
    obtain ⟨v', w', hrun, h2, h3, _, h5⟩ := run_append_own_at (P := Tryd.prog) w base 23 ty 40 i0 _ 3 40 Tryd.underlying23 hi0 hz0 hz1 hz2 rfl (by omega) v n vs hown ad m c ys
      (by omega) hcells h1 (by unfold maxLen; omega) (by omega) hbase
    exact ⟨v', w', hrun, h2, h3, h5⟩
/-- all cells of a slice are appended onto the call's own row -/
theorem app_stepCs {w : World} {o : Oper} {a : Act} {K : Act → World → Prop} {Q : Exit → Act → World → Prop} (_hgd : o.guard = none) (s x : Operand)
    (ho : o.op = .call { callee := .builtin .append, args := #[s, x], argTypes := #[23, 23] })
    (base : Nat) (v : Value) (n : Nat) (vs : List Value) (hs : a.eval s = v) (hown : w.ownsRow base 40 3 v n vs) (A : Option Addr) (m c : Nat) (ys : List Value) (hx : a.eval x = .slice A m c) (hl : ys.length = m * 3)
    (hA : 0 < m → ∃ ad, A = some ad ∧ ∀ j u, ys[j]? = some u → w.cell? (ad.add j) = some u) (h1 : ∀ u ∈ ys, u.oneCell' = true) (hn : n + m ≤ 1099511627776) (hbase : base ≤ w.heap.size)
    (h : ∀ v' w', w'.ownsRow base 40 3 v' (n + m) (vs ++ ys) → w.grownBy w' v.ownBlock → (v'.ownBlock = v.ownBlock ∨ v'.ownBlock = some w.heap.size) → K (a.put o.dst v') w') : Oper.wp Tryd.prog o a w K Q := by
  obtain ⟨v', w', hrun, h2, h3, h4⟩ := run_appendCs w base v n vs hown A m c ys hl hA h1 hn hbase o.type
  unfold Oper.wp execOp
  simp only [ho, resolve, invoke, builtin, Sem.run_bind, Sem.run_pure, Result.andThen_ok, List.map_toArray, List.map_cons, List.map_nil, hs, hx, hrun]
  exact h v' w' h2 h3 h4
/-- an object of another type is not the row's -/
theorem row_type {w : World} {base s n g : Nat} {e t : TypeId} {v : Value} {xs : List Value} {cs : Array Value} (h : w.ownsRow base e s v n xs) (hr : Rw w g t cs) (hne : t ≠ e) : some g ≠ v.ownBlock := fun hg => by
  rcases h.2 with ⟨rfl, _⟩ | ⟨g', cap, cur, rfl, _, hh, _⟩
  · cases hg
  · have : g = g' := Option.some.inj hg
    subst this
    have hr' : w.heap[g]? = some (.cells cs t (0, 0)) := hr
    rw [hr'] at hh
    injection hh with hh
    injection hh with h1 h2
    exact hne h2
end Go.Proofs.YthmddmddcdofaaaDoor

namespace Go.Proofs.YthmddmddcdofaaaDoor
open Go.RowKit
theorem Sep.get {l : List Value} (h : Sep l) {i j : Nat} {a b : Value} (hi : l[i]? = some a) (hj : l[j]? = some b) (hne : i < j) : a.ownBlock = none ∨ a.ownBlock ≠ b.ownBlock := by
  obtain ⟨h1, e1⟩ := List.getElem?_eq_some_iff.1 hi
  obtain ⟨h2, e2⟩ := List.getElem?_eq_some_iff.1 hj
  have := List.pairwise_iff_getElem.1 h i j h1 h2 hne
  rw [e1, e2] at this
  exact this
theorem sep_back {a b : Value} (h : a.ownBlock = none ∨ a.ownBlock ≠ b.ownBlock) : b.ownBlock = none ∨ b.ownBlock ≠ a.ownBlock := by
  rcases h with e | e
  · cases e' : b.ownBlock with
    | none => exact .inl rfl
    | some k => right; rw [e]; simp
  · exact .inr fun e' => e e'.symm
/-- the blocks of the slices of references are neither the cells' nor the roots' -/
theorem OwnHx.apart_cells {w : World} {base : Nat} {vc vr : Value} {rvs : List Value} {h : Hp} (S : OwnHx w base vc vr rvs h) : ∀ v ∈ vr :: rvs, v.ownBlock = none ∨ v.ownBlock ≠ vc.ownBlock := fun v hv => by
  have := S.sep
  unfold Sep at this
  rw [List.pairwise_cons] at this
  exact sep_back (this.1 v hv)
theorem OwnHx.apart_roots {w : World} {base : Nat} {vc vr : Value} {rvs : List Value} {h : Hp} (S : OwnHx w base vc vr rvs h) : ∀ v ∈ vc :: rvs, v.ownBlock = none ∨ v.ownBlock ≠ vr.ownBlock := fun v hv => by
  have := S.sep
  unfold Sep at this
  rw [List.pairwise_cons, List.pairwise_cons] at this
  rcases List.mem_cons.1 hv with rfl | hv
  · exact this.1 vr (by simp)
  · exact sep_back (this.2.1 v hv)
theorem put_any (w : World) (g i : Nat) (u : Value) : w.grownBy (w.setCell ⟨g, i, none⟩ u) (some g) := ⟨rfl, rfl, rfl, by simp [World.setCell], fun j _ hne => Below.heap_setCell w _ u j (by rintro rfl; exact hne rfl)⟩
/-- a root is written -/
theorem OwnHx.root {w : World} {base g c i : Nat} {vc : Value} {rvs : List Value} {h : Hp} (S : OwnHx w base vc (.slice (some ⟨g, 0, none⟩) h.rt.length c) rvs h) (x : Int) :
    OwnHx (w.setCell ⟨g, i, none⟩ (.int .i64 x)) base vc (.slice (some ⟨g, 0, none⟩) h.rt.length c) rvs ⟨h.cs, h.rt.set i x⟩ := by
  have ap : ∀ v ∈ vc :: rvs, v.ownBlock = none ∨ v.ownBlock ≠ some g := S.apart_roots
  refine ⟨S.len, World.ownsRow.kept S.row (put_any w g i _) (ap vc (by simp)), fun k cl v hc hv => (S.refs k cl v hc hv).far (put_any w g i _) (ap v (by simp [List.mem_of_getElem? hv])), ?_, S.sep⟩
  exact S.roots.put' rfl x
/-- the number of a cell is written -/
theorem OwnHx.data {w : World} {base g c k : Nat} {vr : Value} {rvs : List Value} {h : Hp} {cl : Cl} (S : OwnHx w base (.slice (some ⟨g, 0, none⟩) h.cs.length c) vr rvs h) (hc : h.cs[k]? = some cl) (x : Int) :
    OwnHx (w.setCell ⟨g, k * 3 + 1, none⟩ (.int .i64 x)) base (.slice (some ⟨g, 0, none⟩) h.cs.length c) vr rvs ⟨h.cs.set k ⟨cl.u, x, cl.r⟩, h.rt⟩ := by
  have ap : ∀ v ∈ vr :: rvs, v.ownBlock = none ∨ v.ownBlock ≠ some g := S.apart_cells
  refine ⟨by simp [S.len], ?_, fun j c' v hc' hv => ?_, S.roots.far (put_any w g _ _) (ap vr (by simp)), S.sep⟩
  · have := (World.ownsRow.stored S.row (k * 3 + 1) (.int .i64 x)).1
    rw [flatC_set_d _ _ _ _ _ S.len hc] at this
    simpa using this
  · rw [List.getElem?_set] at hc'
    have hmem := List.mem_of_getElem? hv
    by_cases hj : k = j
    · subst hj
      rw [if_pos rfl, if_pos (List.getElem?_eq_some_iff.1 hc).1] at hc'
      injection hc' with hc'
      subst hc'
      exact (S.refs k cl v hc hv).far (put_any w g _ _) (ap v (by simp [hmem]))
    · rw [if_neg hj] at hc'
      exact (S.refs j c' v hc' hv).far (put_any w g _ _) (ap v (by simp [hmem]))
/-- a whole cell is written, with references of the call's own -/
theorem OwnHx.cell {w : World} {base g c k : Nat} {vr rv : Value} {rvs : List Value} {h : Hp} {cl old : Cl} (S : OwnHx w base (.slice (some ⟨g, 0, none⟩) h.cs.length c) vr rvs h) (hc : h.cs[k]? = some old) (o : OwnI w base rv cl.r) (hap : ∀ v ∈ (Value.slice (some ⟨g, 0, none⟩) h.cs.length c) :: vr :: rvs, rv.ownBlock = none ∨ rv.ownBlock ≠ v.ownBlock) :
    OwnHx (((w.setCell ⟨g, k * 3, none⟩ (.bool cl.u)).setCell ⟨g, k * 3 + 1, none⟩ (.int .i64 cl.d)).setCell ⟨g, k * 3 + 2, none⟩ rv) base (.slice (some ⟨g, 0, none⟩) h.cs.length c) vr (rvs.set k rv) ⟨h.cs.set k cl, h.rt⟩ := by
  have hk := (List.getElem?_eq_some_iff.1 hc).1
  have ap : ∀ v ∈ vr :: rvs, v.ownBlock = none ∨ v.ownBlock ≠ some g := S.apart_cells
  have hrg : rv.ownBlock = none ∨ rv.ownBlock ≠ some g := hap (.slice (some ⟨g, 0, none⟩) h.cs.length c) (by simp)
  have far3 : ∀ {v : Value} {xs : List Int}, OwnI w base v xs → (v.ownBlock = none ∨ v.ownBlock ≠ some g) → OwnI (((w.setCell ⟨g, k * 3, none⟩ (.bool cl.u)).setCell ⟨g, k * 3 + 1, none⟩ (.int .i64 cl.d)).setCell ⟨g, k * 3 + 2, none⟩ rv) base v xs := fun ho hn => ((ho.far (put_any _ g _ _) hn).far (put_any _ g _ _) hn).far (put_any _ g _ _) hn
  refine ⟨by simp [S.len], ?_, fun j c' v hc' hvj => ?_, far3 S.roots (ap vr (by simp)), ?_⟩
  · have q := (((World.ownsRow.stored S.row (k * 3) (.bool cl.u)).1.stored (k * 3 + 1) (.int .i64 cl.d)).1.stored (k * 3 + 2) rv).1
    rw [flatC_set_u _ _ _ _ _ S.len hc] at q
    have hc1 : (h.cs.set k ⟨cl.u, old.d, old.r⟩)[k]? = some ⟨cl.u, old.d, old.r⟩ := by simp [hk]
    rw [flatC_set_d _ _ _ _ _ (by simp [S.len]) hc1] at q
    have hc2 : ((h.cs.set k ⟨cl.u, old.d, old.r⟩).set k ⟨cl.u, cl.d, old.r⟩)[k]? = some ⟨cl.u, cl.d, old.r⟩ := by simp [hk]
    rw [flatC_set_r _ _ _ _ _ cl.r (by simp [S.len]) hc2] at q
    simpa using q
  · rw [List.getElem?_set] at hc' hvj
    by_cases hj : k = j
    · subst hj
      rw [if_pos rfl, if_pos hk] at hc'
      rw [if_pos rfl, if_pos (by rw [S.len]; exact hk)] at hvj
      injection hc' with hc'
      injection hvj with hvj
      subst hc' hvj
      exact far3 o hrg
    · rw [if_neg hj] at hc' hvj
      exact far3 (S.refs j c' v hc' hvj) (ap v (by simp [List.mem_of_getElem? hvj]))
  · have hs := S.sep
    unfold Sep at hs ⊢
    rw [List.pairwise_cons, List.pairwise_cons] at hs ⊢
    refine ⟨fun v hv => ?_, fun v hv => ?_, ?_⟩
    · rcases List.mem_cons.1 hv with rfl | hv
      · exact hs.1 v (by simp)
      · rcases List.mem_or_eq_of_mem_set hv with hv | rfl
        · exact hs.1 v (by simp [hv])
        · exact sep_back (hap _ (by simp))
    · rcases List.mem_or_eq_of_mem_set hv with hv | rfl
      · exact hs.2.1 v hv
      · exact sep_back (hap _ (by simp))
    · rw [List.pairwise_iff_getElem]
      intro i j hi hj hij
      rw [List.length_set] at hi hj
      have hp := List.pairwise_iff_getElem.1 hs.2.2 i j hi hj hij
      rw [List.getElem_set, List.getElem_set]
      by_cases e1 : k = i
      · rw [if_pos e1, if_neg (by omega)]
        exact hap _ (by simp)
      · rw [if_neg e1]
        by_cases e2 : k = j
        · rw [if_pos e2]
          exact sep_back (hap _ (by simp))
        · rw [if_neg e2]
          exact hp
end Go.Proofs.YthmddmddcdofaaaDoor

namespace Go.Proofs.YthmddmddcdofaaaDoor
open Go.RowKit
set_option maxRecDepth 100000
namespace Hps
end Hps
end Go.Proofs.YthmddmddcdofaaaDoor

namespace Go.Proofs.YthmddmddcdofaaaDoor
open Go.RowKit
theorem OwnI.cell_at {w : World} {base g c n j : Nat} {xs : List Int} (h : OwnI w base (.slice (some ⟨g, 0, none⟩) n c) xs) (hj : j < n) : ∃ x : Int, xs[j]? = some x ∧ w.cell? ⟨g, j, none⟩ = some (.int .i64 x) := by
  obtain ⟨g', o', x, e, _, hx, hc⟩ := h.reads.at_ hj
  injection e with e
  injection e with e1 e2
  subst e1 e2
  rw [Nat.zero_add] at hc
  exact ⟨x, hx, hc⟩
/-- a cell of a heap of the call's own, in memory -/
theorem OwnHx.cell_at {w : World} {base n c k : Nat} {A : Option Addr} {vr : Value} {rvs : List Value} {h : Hp} {cl : Cl} (S : OwnHx w base (.slice A n c) vr rvs h) (hc : h.cs[k]? = some cl) :
    ∃ (g : Nat) (v : Value), A = some ⟨g, 0, none⟩ ∧ base ≤ g ∧ g < w.heap.size ∧ rvs[k]? = some v ∧ OwnI w base v cl.r ∧ w.cell? ⟨g, k * 3, none⟩ = some (.bool cl.u) ∧ w.cell? ⟨g, k * 3 + 1, none⟩ = some (.int .i64 cl.d) ∧ w.cell? ⟨g, k * 3 + 2, none⟩ = some v ∧ ∀ i, w.frozen? ⟨g, i, none⟩ = false := by
  have hk : k < h.cs.length := (List.getElem?_eq_some_iff.1 hc).1
  obtain ⟨v, hv, hi⟩ := S.ref hc
  obtain ⟨f1, f2, f3⟩ := flatC_at _ _ _ _ _ hc hv
  obtain ⟨A', c', R', d', e1, _, _, _, fA, _⟩ := S.form
  injection e1 with e1 e2 e3
  subst e1 e2 e3
  obtain ⟨g, rfl, h1, h2⟩ := fA (by omega)
  exact ⟨g, v, rfl, h1, h2, hv, hi, (World.ownsRow.cellAt S.row _ (by omega)).trans f1, (World.ownsRow.cellAt S.row _ (by omega)).trans f2, (World.ownsRow.cellAt S.row _ (by omega)).trans f3, fun i => World.ownsRow.frozenAt S.row i⟩
/-- a cell is put behind the last one -/
theorem OwnHx.snoc {w w1 : World} {base : Nat} {vc vr v9 v8 : Value} {rvs : List Value} {h : Hp} {cl : Cl} (S : OwnHx w base vc vr rvs h) (hG : w.grownBy w1 vc.ownBlock)
    (o9 : w1.ownsRow base 40 3 v9 (h.cs.length + 1) (flatC h.cs rvs ++ [.bool cl.u, .int .i64 cl.d, v8])) (q : v9.ownBlock = vc.ownBlock ∨ v9.ownBlock = some w.heap.size)
    (o8 : OwnI w base v8 cl.r) (hap : ∀ v ∈ vc :: vr :: rvs, v8.ownBlock = none ∨ v8.ownBlock ≠ v.ownBlock) : OwnHx w1 base v9 vr (rvs ++ [v8]) ⟨h.cs ++ [cl], h.rt⟩ := by
  have hsp := S.sep
  unfold Sep at hsp
  simp only [List.pairwise_cons, List.mem_cons] at hsp
  obtain ⟨sp1, sp2, sp3⟩ := hsp
  have h8lt : ∀ kk, v8.ownBlock = some kk → kk < w.heap.size := fun kk hk => (World.ownsRow.lt o8 kk hk).2
  have hvr : ∀ kk, vr.ownBlock = some kk → kk < w.heap.size := fun kk hk => (S.blocks (by simp) hk).2
  have hrv : ∀ v ∈ rvs, ∀ kk, v.ownBlock = some kk → kk < w.heap.size := fun v hv kk hk => (S.blocks (by simp [hv]) hk).2
  have h9old : ∀ v : Value, (vc.ownBlock = none ∨ vc.ownBlock ≠ v.ownBlock) → (∀ kk, v.ownBlock = some kk → kk < w.heap.size) → v9.ownBlock = none ∨ v9.ownBlock ≠ v.ownBlock := fun v hv hlt' => by
    rcases q with e | e
    · rw [e]; exact hv
    · right
      rw [e]
      intro e'
      have := hlt' _ e'.symm
      omega
  refine ⟨by simp [S.len], ?_, ?_, S.roots.far hG (sep_back (sp1 vr (.inl rfl))), ?_⟩
  · have e : flatC (h.cs ++ [cl]) (rvs ++ [v8]) = flatC h.cs rvs ++ [.bool cl.u, .int .i64 cl.d, v8] := by
      rw [flatC_append _ _ _ _ S.len]
      simp [flatC]
    rw [e, List.length_append, List.length_singleton]
    exact o9
  · intro j c' v hc' hv
    simp only at hc'
    rcases Nat.lt_or_ge j h.cs.length with hj | hj
    · rw [List.getElem?_append_left hj] at hc'
      rw [List.getElem?_append_left (by rw [S.len]; exact hj)] at hv
      exact (S.refs j c' v hc' hv).far hG (sep_back (sp1 v (.inr (List.mem_of_getElem? hv))))
    · rw [List.getElem?_append_right hj] at hc'
      rw [List.getElem?_append_right (by rw [S.len]; exact hj), S.len] at hv
      have hjk : j - h.cs.length = 0 := by
        rcases Nat.eq_zero_or_pos (j - h.cs.length) with e | e
        · exact e
        · rw [List.getElem?_eq_none (by simp; omega)] at hv; cases hv
      rw [hjk] at hc' hv
      simp at hc' hv
      subst hc' hv
      exact o8.far hG (hap vc (by simp))
  · unfold Sep
    simp only [List.pairwise_cons, List.mem_cons, List.mem_append, List.pairwise_append, List.not_mem_nil, or_false]
    refine ⟨fun v hv => ?_, fun v hv => ?_, sp3, ⟨by simp, List.Pairwise.nil⟩, fun a ha v hv => ?_⟩
    · rcases hv with rfl | hv | rfl
      · exact h9old v (sp1 v (.inl rfl)) hvr
      · exact h9old v (sp1 v (.inr hv)) (hrv v hv)
      · exact h9old v (sep_back (hap vc (by simp))) h8lt
    · rcases hv with hv | rfl
      · exact sp2 v hv
      · exact sep_back (hap vr (by simp))
    · subst hv
      exact sep_back (hap a (by simp [ha]))
/-- the copy in the box b, and the boxes of the arguments and of the result -/
structure DoSt (w wr : World) (b : Nat) (hb cb rb : Array Value) (vc vr : Value) (rvs : List Value) (h : Hp) : Prop where
  own : OwnHx wr (w.heap.size + 3) vc vr rvs h
  apart : Apart (some b) (vc :: vr :: rvs)
  box : Rw wr b 26 #[vc, vr]
  arg : Rw wr w.heap.size 26 hb
  cmd : Rw wr (w.heap.size + 1) 49 cb
  res : Rw wr (w.heap.size + 2) 26 rb
  bel : Below w.heap.size w wr
  lo : w.heap.size + 3 ≤ b
section
variable {w wr w1 : World} {b g c d i k : Nat} {hb cb rb : Array Value} {vc vr : Value} {rvs : List Value} {h : Hp} {cl : Cl}
theorem DoSt.drew (S : DoSt w wr b hb cb rb vc vr rvs h) : DoSt w wr.drew b hb cb rb vc vr rvs h := by
  have hw : Below wr.heap.size wr wr.drew := (Below.refl _ _).drew
  exact ⟨S.own.below hw (Nat.le_refl _), S.apart, S.box.keep hw S.box.lt, S.arg.keep hw S.arg.lt, S.cmd.keep hw S.cmd.lt, S.res.keep hw S.res.lt, S.bel.drew, S.lo⟩
theorem DoSt.up (S : DoSt w wr b hb cb rb vc vr rvs h) (hw : Below wr.heap.size wr w1) : DoSt w w1 b hb cb rb vc vr rvs h :=
  ⟨S.own.below hw (Nat.le_refl _), S.apart, S.box.keep hw S.box.lt, S.arg.keep hw S.arg.lt, S.cmd.keep hw S.cmd.lt, S.res.keep hw S.res.lt, S.bel.trans (hw.mono S.bel.size), S.lo⟩
/-- into a block of the copy's own something is written -/
theorem DoSt.into (S : DoSt w wr b hb cb rb vc vr rvs h) {v : Value} (hv : v ∈ vc :: vr :: rvs) (hg : v.ownBlock = some g) {rvs' : List Value} {h' : Hp} (u : Value)
    (ho : OwnHx (wr.setCell ⟨g, i, none⟩ u) (w.heap.size + 3) vc vr rvs' h') (ha : ∀ v ∈ rvs', v.ownBlock = none ∨ v.ownBlock ≠ some b) : DoSt w (wr.setCell ⟨g, i, none⟩ u) b hb cb rb vc vr rvs' h' := by
  have h1 := S.own.blocks hv hg
  have h2 : b ≠ g := by
    rcases S.apart v hv with e | e
    · rw [hg] at e; cases e
    · intro e'; rw [hg] at e; exact e (by rw [e'])
  refine ⟨ho, ?_, S.box.other h2 u, S.arg.other (by omega) u, S.cmd.other (by omega) u, S.res.other (by omega) u, S.bel.setCell (p := ⟨g, i, none⟩) (by show w.heap.size ≤ g; omega) u, S.lo⟩
  intro x hx
  simp only [List.mem_cons] at hx
  rcases hx with rfl | rfl | hx
  · exact S.apart x (by simp)
  · exact S.apart x (by simp)
  · exact ha x hx
theorem DoSt.root {m : Nat} (S : DoSt w wr b hb cb rb vc (.slice (some ⟨g, 0, none⟩) m d) rvs h) (hm : h.rt.length = m) (x : Int) : DoSt w (wr.setCell ⟨g, i, none⟩ (.int .i64 x)) b hb cb rb vc (.slice (some ⟨g, 0, none⟩) m d) rvs ⟨h.cs, h.rt.set i x⟩ := by
  subst hm
  exact S.into (v := .slice (some ⟨g, 0, none⟩) h.rt.length d) (by simp) rfl _ (S.own.root x) fun v hv => S.apart v (by simp [hv])
theorem DoSt.data {n : Nat} (S : DoSt w wr b hb cb rb (.slice (some ⟨g, 0, none⟩) n d) vr rvs h) (hn : h.cs.length = n) (hc : h.cs[k]? = some cl) (x : Int) : DoSt w (wr.setCell ⟨g, k * 3 + 1, none⟩ (.int .i64 x)) b hb cb rb (.slice (some ⟨g, 0, none⟩) n d) vr rvs ⟨h.cs.set k ⟨cl.u, x, cl.r⟩, h.rt⟩ := by
  subst hn
  exact S.into (v := .slice (some ⟨g, 0, none⟩) h.cs.length d) (by simp) rfl _ (S.own.data hc x) fun v hv => S.apart v (by simp [hv])
/-- a cell is put behind the last one, and the box holds the new slice -/
theorem DoSt.snoc {v9 v8 : Value} (S : DoSt w wr b hb cb rb vc vr rvs h) (hG : wr.grownBy w1 vc.ownBlock)
    (o9 : w1.ownsRow (w.heap.size + 3) 40 3 v9 (h.cs.length + 1) (flatC h.cs rvs ++ [.bool cl.u, .int .i64 cl.d, v8])) (q : v9.ownBlock = vc.ownBlock ∨ v9.ownBlock = some wr.heap.size)
    (o8 : OwnI wr (w.heap.size + 3) v8 cl.r) (hap : ∀ v ∈ vc :: vr :: rvs, v8.ownBlock = none ∨ v8.ownBlock ≠ v.ownBlock) (h8b : v8.ownBlock ≠ some b) :
    DoSt w (w1.setCell ⟨b, 0, none⟩ v9) b hb cb rb v9 vr (rvs ++ [v8]) ⟨h.cs ++ [cl], h.rt⟩ := by
  have hn := S.own.snoc hG o9 q o8 hap
  have hlo := S.lo
  have hbl := S.box.lt
  have hvcb : some b ≠ vc.ownBlock := by
    rcases S.apart vc (by simp) with e | e
    · rw [e]; simp
    · exact fun h => e h.symm
  have ap : Apart (some b) (v9 :: vr :: (rvs ++ [v8])) := by
    intro v hv
    simp only [List.mem_cons, List.mem_append, List.not_mem_nil, or_false] at hv
    rcases hv with rfl | rfl | hv | rfl
    · right
      rcases q with e | e
      · rw [e]; exact fun h => hvcb h.symm
      · rw [e]; intro e'; injection e' with e'; omega
    · exact S.apart v (by simp)
    · exact S.apart v (by simp [hv])
    · exact .inr h8b
  have far : ∀ {g' : Nat} {t : TypeId} {cs : Array Value}, Rw wr g' t cs → g' < w.heap.size + 3 → Rw (w1.setCell ⟨b, 0, none⟩ v9) g' t cs := fun hr hl =>
    Rw.other (Rw.far hr hG (fun e => by have := (S.own.blocks (v := vc) (by simp) e.symm).1; omega)) (by omega) _
  refine ⟨hn.far (put_any w1 b 0 v9) ap, ap, (Rw.far S.box hG hvcb).put 0 v9, far S.arg (by omega), far S.cmd (by omega), far S.res (by omega), ?_, hlo⟩
  exact (S.bel.grown hG S.bel.size (fun kk hk => by have := (S.own.blocks (v := vc) (by simp) hk).1; omega)).setCell (p := ⟨b, 0, none⟩) (by show w.heap.size ≤ b; omega) _
/-- a whole cell is written -/
theorem DoSt.cell {rv : Value} {old : Cl} (S : DoSt w wr b hb cb rb (.slice (some ⟨g, 0, none⟩) h.cs.length c) vr rvs h) (hc : h.cs[k]? = some old) (o : OwnI wr (w.heap.size + 3) rv cl.r) (hap : ∀ v ∈ (Value.slice (some ⟨g, 0, none⟩) h.cs.length c) :: vr :: rvs, rv.ownBlock = none ∨ rv.ownBlock ≠ v.ownBlock) (h8b : rv.ownBlock = none ∨ rv.ownBlock ≠ some b) :
    DoSt w (((wr.setCell ⟨g, k * 3, none⟩ (.bool cl.u)).setCell ⟨g, k * 3 + 1, none⟩ (.int .i64 cl.d)).setCell ⟨g, k * 3 + 2, none⟩ rv) b hb cb rb (.slice (some ⟨g, 0, none⟩) h.cs.length c) vr (rvs.set k rv) ⟨h.cs.set k cl, h.rt⟩ := by
  have hm : (Value.slice (some ⟨g, 0, none⟩) h.cs.length c) ∈ (Value.slice (some ⟨g, 0, none⟩) h.cs.length c) :: vr :: rvs := by simp
  have h1 : w.heap.size + 3 ≤ g ∧ g < wr.heap.size := S.own.blocks hm rfl
  have h2 : b ≠ g := by
    rcases S.apart _ hm with e | e
    · cases e
    · intro e'; exact e (by rw [e']; rfl)
  have oth : ∀ {g' : Nat} {t : TypeId} {cs : Array Value}, Rw wr g' t cs → g' ≠ g → Rw (((wr.setCell ⟨g, k * 3, none⟩ (.bool cl.u)).setCell ⟨g, k * 3 + 1, none⟩ (.int .i64 cl.d)).setCell ⟨g, k * 3 + 2, none⟩ rv) g' t cs := fun hr hne => ((hr.other hne _).other hne _).other hne _
  refine ⟨S.own.cell hc o hap, ?_, oth S.box h2, oth S.arg (by omega), oth S.cmd (by omega), oth S.res (by omega), ?_, S.lo⟩
  · intro x hx
    simp only [List.mem_cons] at hx
    rcases hx with rfl | rfl | hx
    · exact S.apart _ (by simp)
    · exact S.apart x (by simp)
    · rcases List.mem_or_eq_of_mem_set hx with hx | rfl
      · exact S.apart x (by simp [hx])
      · exact h8b
  · exact ((S.bel.setCell (p := ⟨g, k * 3, none⟩) (by show w.heap.size ≤ g; omega) _).setCell (p := ⟨g, k * 3 + 1, none⟩) (by show w.heap.size ≤ g; omega) _).setCell (p := ⟨g, k * 3 + 2, none⟩) (by show w.heap.size ≤ g; omega) _
/-- the copy goes into the result's box -/
theorem DoSt.done (S : DoSt w wr b hb cb rb vc vr rvs h) : OwnH ((wr.setCell ⟨w.heap.size + 2, 0, none⟩ vc).setCell ⟨w.heap.size + 2, 1, none⟩ vr) w.heap.size vc vr h ∧ Below w.heap.size w ((wr.setCell ⟨w.heap.size + 2, 0, none⟩ vc).setCell ⟨w.heap.size + 2, 1, none⟩ vr) := by
  have ap : Apart (some (w.heap.size + 2)) (vc :: vr :: rvs) := S.own.apart_below (by omega)
  exact ⟨⟨rvs, ((S.own.far (put_any wr _ 0 vc) ap).far (put_any _ _ 1 vr) ap).base (by omega)⟩, (S.bel.setCell (p := ⟨w.heap.size + 2, 0, none⟩) (by simp) vc).setCell (p := ⟨w.heap.size + 2, 1, none⟩) (by simp) vr⟩
end
end Go.Proofs.YthmddmddcdofaaaDoor

namespace Go.Proofs.YthmddmddcdofaaaDoor
open Go.RowKit
set_option maxRecDepth 100000
theorem own_noneC (w : World) (base : Nat) (hb : base ≤ w.heap.size) : (w.alloc (.cells #[] 40)).ownsRow base 40 3 (.slice (some ⟨w.heap.size, 0, none⟩) 0 0) 0 [] :=
  World.ownsRow_lit (base := base) (e := 40) (size := 3) w #[] 0 hb (by unfold maxLen; omega) rfl
theorem wpList_appendCs {w : World} {ops : Array Oper} {rest : List Oper} {o : Oper} {a : Act} {Q : Exit → Act → World → Prop} (hgd : o.guard = none) (s x : Operand)
    (ho : o.op = .call { callee := .builtin .append, args := #[s, x], argTypes := #[23, 23] })
    (base : Nat) (v : Value) (n : Nat) (vs : List Value) (hs : a.eval s = v) (hown : w.ownsRow base 40 3 v n vs) (A : Option Addr) (m c : Nat) (ys : List Value) (hx : a.eval x = .slice A m c) (hl : ys.length = m * 3)
    (hA : 0 < m → ∃ ad, A = some ad ∧ ∀ j u, ys[j]? = some u → w.cell? (ad.add j) = some u) (h1 : ∀ u ∈ ys, u.oneCell' = true) (hn : n + m ≤ 1099511627776) (hbase : base ≤ w.heap.size)
    (h : ∀ v' w', w'.ownsRow base 40 3 v' (n + m) (vs ++ ys) → w.grownBy w' v.ownBlock → (v'.ownBlock = v.ownBlock ∨ v'.ownBlock = some w.heap.size) → wpList Tryd.prog ops Q rest (a.put o.dst v') w') : wpList Tryd.prog ops Q (o :: rest) a w :=
  wpList_plain hgd fun _ hK => app_stepCs hgd s x ho base v n vs hs hown A m c ys hx hl hA h1 hn hbase fun v' w' e1 e2 e3 => hK _ _ (h v' w' e1 e2 e3)
/-- cells, copied whole -/
theorem cloneC_any (A : Option Addr) (n c : Nat) (cs : List Cl) (rvs : List Value) (w : World) (hl : cs.length = n) (hr : RefsAt w w.heap.size cs rvs)
    (hA : 0 < n → ∃ g o, A = some ⟨g, o, none⟩ ∧ g < w.heap.size ∧ ∀ (j : Nat) (u : Value), (flatC cs rvs)[j]? = some u → w.cell? ⟨g, o + j, none⟩ = some u) (hn : n ≤ 1099511627776) :
    Calls Tryd.prog 131 #[.slice A n c] w fun e w' => ∃ v, e = .returned v ∧ w'.ownsRow w.heap.size 40 3 v n (flatC cs rvs) ∧ Below w.heap.size w w' := by
  have q : ∀ (w : World) (a : Option Addr) (n c n' c' : Nat), (binOp .eql 23 (.slice a n c) (.slice none n' c')).run Tryd.prog w = .ok (.bool a.isNone) w := fun w a n c n' c' => Lib.run_eql_slice_nil w _ _ a n c n' c' Tryd.underlying23
  have hfl := flatC_length _ _ hr.1
  rw [hl] at hfl
  cases A with
  | none =>
    have h0 : n = 0 := by
      rcases Nat.eq_zero_or_pos n with h0 | h0
      · exact h0
      · obtain ⟨g, o, e, _⟩ := hA h0
        cases e
    subst h0
    have hnil : flatC cs rvs = [] := List.eq_nil_of_length_eq_zero (by omega)
    rw [hnil]
    clear hfl hA hr
    go_enter Tryd.func131, Tryd.ntmps131
    go_wp2
    go_ret
    exact ⟨_, rfl, World.ownsRow_nil _ _ _ _, Below.refl _ _⟩
  | some a =>
    have o0 := own_noneC w w.heap.size (Nat.le_refl _)
    have bl0 : Below w.heap.size w (w.alloc (.cells #[] 40)) := (Below.refl _ _).alloc (Nat.le_refl _) _
    have hone := hr.one
    obtain ⟨ys, hys⟩ : ∃ ys, flatC cs rvs = ys := ⟨_, rfl⟩
    rw [hys] at hA hfl hone ⊢
    have hA2 : 0 < n → ∃ ad, some a = some ad ∧ ∀ (j : Nat) (u : Value), ys[j]? = some u → (w.alloc (.cells #[] 40)).cell? (ad.add j) = some u := fun h0 => by
      obtain ⟨g, o, e, hg, hc⟩ := hA h0
      refine ⟨a, rfl, fun j u hu => ?_⟩
      rw [Option.some.inj e, add_lit]
      exact (bl0.cell (p := ⟨g, o + j, none⟩) hg).trans (hc j u hu)
    clear hr hA hys hl
    go_enter Tryd.func131, Tryd.ntmps131
    go_wp2_with (at_builtin; refine wpList_appendCs rfl (.tmp 5) (.tmp 6) rfl w.heap.size _ 0 [] rfl o0 (some a) n c ys rfl hfl hA2 hone (by omega) (by simp) ?_; intro v1 w1 o1 g1 s1)
    go_ret
    refine ⟨_, rfl, ?_, bl0.grown g1 (by simp) (fun k hk => (World.ownsRow.lt o0 k hk).1)⟩
    simpa using o1
/-- a copy of which the first k cells have references of their own; the others share theirs still -/
structure MidH (w : World) (base : Nat) (vc vr : Value) (ovs rvs : List Value) (k : Nat) (h : Hp) : Prop where
  len : ovs.length = k
  le : k ≤ h.cs.length
  all : rvs.length = h.cs.length
  row : w.ownsRow base 40 3 vc h.cs.length (flatC h.cs (ovs ++ rvs.drop k))
  refs : ∀ (j : Nat) (c : Cl) (v : Value), h.cs[j]? = some c → ovs[j]? = some v → OwnI w base v c.r
  roots : OwnI w base vr h.rt
  sep : Sep (vc :: vr :: ovs)
section
variable {w w' : World} {base k : Nat} {vc vr v : Value} {ovs rvs : List Value} {h : Hp}
theorem MidH.below (S : MidH w base vc vr ovs rvs k h) {B : Nat} (hb : Below B w w') (hB : w.heap.size ≤ B) : MidH w' base vc vr ovs rvs k h :=
  ⟨S.len, S.le, S.all, row_below S.row hb hB, fun j c v hc hv => (S.refs j c v hc hv).below hb hB, S.roots.below hb hB, S.sep⟩
theorem MidH.blocks (S : MidH w base vc vr ovs rvs k h) {v : Value} (hv : v ∈ vc :: vr :: ovs) {b : Nat} (hb : v.ownBlock = some b) : base ≤ b ∧ b < w.heap.size := by
  simp only [List.mem_cons] at hv
  rcases hv with rfl | rfl | hv
  · exact World.ownsRow.lt S.row b hb
  · exact World.ownsRow.lt S.roots b hb
  · obtain ⟨i, hi⟩ := List.mem_iff_getElem?.1 hv
    have hlt := (List.getElem?_eq_some_iff.1 hi).1
    have hc := List.getElem?_eq_getElem (show i < h.cs.length by have := S.len; have := S.le; omega)
    exact World.ownsRow.lt (S.refs i _ v hc hi) b hb
/-- what lies in no block of the copy's is apart from it -/
theorem MidH.apart_new (S : MidH w base vc vr ovs rvs k h) {b : Nat} (hb : w.heap.size ≤ b) : Apart (some b) (vc :: vr :: ovs) := fun v hv => by
  cases e : v.ownBlock with
  | none => exact .inl rfl
  | some q =>
    right
    have := (S.blocks hv e).2
    intro he
    have he := Option.some.inj he
    omega
theorem MidH.far (S : MidH w base vc vr ovs rvs k h) {row : Option Nat} (hg : w.grownBy w' row) (ha : Apart row (vc :: vr :: ovs)) : MidH w' base vc vr ovs rvs k h :=
  ⟨S.len, S.le, S.all, World.ownsRow.kept S.row hg (ha vc (by simp)), fun j c v hc hv => (S.refs j c v hc hv).far hg (ha v (by simp [List.mem_of_getElem? hv])), S.roots.far hg (ha vr (by simp)), S.sep⟩
theorem MidH.base' (S : MidH w base vc vr ovs rvs k h) {b : Nat} (hb : b ≤ base) : MidH w b vc vr ovs rvs k h :=
  ⟨S.len, S.le, S.all, row_base S.row hb, fun j c v hc hv => (S.refs j c v hc hv).base hb, S.roots.base hb, S.sep⟩
/-- the next cell gets references of its own -/
theorem MidH.next {g n c : Nat} {cl : Cl} (S : MidH w base (.slice (some ⟨g, 0, none⟩) n c) vr ovs rvs k h) (hn : h.cs.length = n) (hc : h.cs[k]? = some cl) (o : OwnI w base v cl.r)
    (hap : ∀ u ∈ (Value.slice (some ⟨g, 0, none⟩) n c) :: vr :: ovs, v.ownBlock = none ∨ v.ownBlock ≠ u.ownBlock) : MidH (w.setCell ⟨g, k * 3 + 2, none⟩ v) base (.slice (some ⟨g, 0, none⟩) n c) vr (ovs ++ [v]) rvs (k + 1) h := by
  have hk : k < h.cs.length := (List.getElem?_eq_some_iff.1 hc).1
  have hsp := S.sep
  unfold Sep at hsp
  rw [List.pairwise_cons, List.pairwise_cons] at hsp
  have ap : ∀ u ∈ vr :: ovs, u.ownBlock = none ∨ u.ownBlock ≠ some g := fun u hu => sep_back (hsp.1 u hu)
  have hvg : v.ownBlock = none ∨ v.ownBlock ≠ some g := hap (.slice (some ⟨g, 0, none⟩) n c) (by simp)
  refine ⟨by simp [S.len], by omega, S.all, ?_, fun j c' u hc' hu => ?_, S.roots.far (put_any w g _ _) (ap vr (by simp)), ?_⟩
  · have hrow : w.ownsRow base 40 3 (.slice (some ⟨g, 0, none⟩) h.cs.length c) h.cs.length (flatC h.cs (ovs ++ rvs.drop k)) := by
      have := S.row
      rwa [hn] at this ⊢
    have q := (World.ownsRow.stored hrow (k * 3 + 2) v).1
    rw [flatC_set_r _ _ _ _ _ cl.r (by simp [S.len, S.all]; omega) hc] at q
    have e1 : h.cs.set k ⟨cl.u, cl.d, cl.r⟩ = h.cs := by
      obtain ⟨h1, h2⟩ := List.getElem?_eq_some_iff.1 hc
      show h.cs.set k cl = h.cs
      rw [← h2]
      exact List.set_getElem_self h1
    have e2 : (ovs ++ rvs.drop k).set k v = (ovs ++ [v]) ++ rvs.drop (k + 1) := by
      rw [List.set_append_right _ _ (by rw [S.len]; exact Nat.le_refl _), S.len, Nat.sub_self, List.append_assoc]
      congr 1
      rw [List.drop_eq_getElem_cons (by rw [S.all]; exact hk)]
      rfl
    rw [e1, e2] at q
    rw [hn] at q ⊢
    exact q
  · rcases Nat.lt_or_ge j k with hj | hj
    · rw [List.getElem?_append_left (by rw [S.len]; exact hj)] at hu
      exact (S.refs j c' u hc' hu).far (put_any w g _ _) (ap u (by simp [List.mem_of_getElem? hu]))
    · have hjk : j = k := by
        have := (List.getElem?_eq_some_iff.1 hu).1
        simp [S.len] at this
        omega
      subst hjk
      rw [hc] at hc'
      rw [List.getElem?_append_right (by rw [S.len]; exact Nat.le_refl _), S.len, Nat.sub_self] at hu
      have hu : v = u := by simpa using hu
      rw [← hu, ← Option.some.inj hc']
      exact o.far (put_any w g _ _) hvg
  · unfold Sep
    rw [List.pairwise_cons, List.pairwise_cons]
    refine ⟨fun u hu => ?_, fun u hu => ?_, ?_⟩
    · rw [List.mem_cons, List.mem_append, List.mem_singleton] at hu
      rcases hu with rfl | hu | rfl
      · exact hsp.1 u (by simp)
      · exact hsp.1 u (by simp [hu])
      · exact sep_back (hap _ (by simp))
    · rw [List.mem_append, List.mem_singleton] at hu
      rcases hu with hu | rfl
      · exact hsp.2.1 u hu
      · exact sep_back (hap _ (by simp))
    · rw [List.pairwise_append]
      refine ⟨hsp.2.2, List.pairwise_singleton _ _, fun a ha b hb => ?_⟩
      rw [List.mem_singleton] at hb
      subst hb
      exact sep_back (hap a (by simp [ha]))
theorem MidH.done (S : MidH w base vc vr ovs rvs k h) (hk : k = h.cs.length) : OwnHx w base vc vr ovs h := by
  refine ⟨by rw [S.len, hk], ?_, S.refs, S.roots, S.sep⟩
  have := S.row
  rwa [hk, List.drop_of_length_le (by rw [S.all]; exact Nat.le_refl _), List.append_nil] at this
theorem MidH.form (S : MidH w base vc vr ovs rvs k h) : ∃ A c R d, vc = .slice A h.cs.length c ∧ vr = .slice R h.rt.length d ∧ h.cs.length ≤ c ∧ (0 < h.cs.length → ∃ g, A = some ⟨g, 0, none⟩ ∧ base ≤ g ∧ g < w.heap.size) := by
  obtain ⟨R, d, rfl, hR⟩ := S.roots.form
  rcases S.row.2 with ⟨e, h0⟩ | ⟨g, cap, cur, e, hb, hh, hc, _⟩
  · exact ⟨none, 0, R, d, by rw [e, h0], rfl, by omega, fun h => by omega⟩
  · exact ⟨some ⟨g, 0, none⟩, cap, R, d, e, rfl, hc, fun _ => ⟨g, rfl, hb, (Array.getElem?_eq_some_iff.1 hh).1⟩⟩
/-- the references that the next cell still shares -/
theorem MidH.ref {g n c : Nat} {cl : Cl} {B : Nat} (S : MidH w base (.slice (some ⟨g, 0, none⟩) n c) vr ovs rvs k h) (hn : h.cs.length = n) (hc : h.cs[k]? = some cl) (hr : RefsAt w B h.cs rvs) :
    ∃ A m cc, w.cell? ⟨g, k * 3 + 2, none⟩ = some (.slice A m cc) ∧ m ≤ cc ∧ IS w B A m cl.r ∧ ∀ i, w.frozen? ⟨g, i, none⟩ = false := by
  have hk : k < h.cs.length := (List.getElem?_eq_some_iff.1 hc).1
  have hv := List.getElem?_eq_getElem (show k < rvs.length by rw [S.all]; exact hk)
  obtain ⟨A, m, cc, e, hm, hi⟩ := hr.2 k cl _ hc hv
  have hv2 : (ovs ++ rvs.drop k)[k]? = some (.slice A m cc) := by
    rw [List.getElem?_append_right (by rw [S.len]; exact Nat.le_refl _), S.len, Nat.sub_self, List.getElem?_drop, Nat.add_zero, hv, e]
  obtain ⟨_, _, f3⟩ := flatC_at _ _ _ _ _ hc hv2
  have hrow : w.ownsRow base 40 3 (.slice (some ⟨g, 0, none⟩) h.cs.length c) h.cs.length (flatC h.cs (ovs ++ rvs.drop k)) := by
    have := S.row
    rwa [hn] at this ⊢
  exact ⟨A, m, cc, (World.ownsRow.cellAt hrow _ (by omega)).trans f3, hm, hi, fun i => World.ownsRow.frozenAt hrow i⟩
end
end Go.Proofs.YthmddmddcdofaaaDoor

namespace Go.Proofs.YthmddmddcdofaaaDoor
open Go.RowKit
set_option maxRecDepth 100000
namespace Hps
end Hps
end Go.Proofs.YthmddmddcdofaaaDoor

namespace Go.Proofs.YthmddmddcdofaaaDoor
open Go.RowKit
set_option maxRecDepth 100000
theorem own_zeroH (w : World) (base : Nat) (_hb : base ≤ w.heap.size) : OwnH w base (.slice none 0 0) (.slice none 0 0) Hps.zeroH := by
  refine ⟨[], rfl, World.ownsRow_nil _ _ _ _, fun k c v hc => by simp [Hps.zeroH] at hc, World.ownsRow_nil _ _ _ _, ?_⟩
  simp [Sep, Value.ownBlock]
/-- a heap of the call's own goes into the box of a result -/
theorem OwnH.out {w wr : World} {base g : Nat} {vc vr : Value} {h : Hp} (ho : OwnH wr base vc vr h) (hg : g < base) (hb : Below w.heap.size w wr) (hw : w.heap.size ≤ g) :
    OwnH ((wr.setCell ⟨g, 0, none⟩ vc).setCell ⟨g, 1, none⟩ vr) w.heap.size vc vr h ∧ Below w.heap.size w ((wr.setCell ⟨g, 0, none⟩ vc).setCell ⟨g, 1, none⟩ vr) := by
  obtain ⟨rvs, own⟩ := ho
  have ap : Apart (some g) (vc :: vr :: rvs) := own.apart_below hg
  exact ⟨⟨rvs, ((own.far (put_any wr g 0 vc) ap).far (put_any _ g 1 vr) ap).base (by omega)⟩, (hb.setCell (p := ⟨g, 0, none⟩) hw vc).setCell (p := ⟨g, 1, none⟩) hw vr⟩
theorem OwnH.base {w : World} {base base' : Nat} {vc vr : Value} {h : Hp} (ho : OwnH w base vc vr h) (hb : base' ≤ base) : OwnH w base' vc vr h := by
  obtain ⟨rvs, own⟩ := ho
  exact ⟨rvs, own.base hb⟩
theorem OwnH.below {w w' : World} {base B : Nat} {vc vr : Value} {h : Hp} (ho : OwnH w base vc vr h) (hb : Below B w w') (hB : w.heap.size ≤ B) : OwnH w' base vc vr h := by
  obtain ⟨rvs, own⟩ := ho
  exact ⟨rvs, own.below hb hB⟩
theorem OwnH.form {w : World} {base : Nat} {vc vr : Value} {h : Hp} (ho : OwnH w base vc vr h) : ∃ A c R d, vc = .slice A h.cs.length c ∧ vr = .slice R h.rt.length d ∧ HS w w.heap.size A h.cs.length R h.rt.length h := by
  obtain ⟨rvs, own⟩ := ho
  obtain ⟨A, c, R, d, rfl, rfl, _⟩ := own.form
  exact ⟨A, c, R, d, rfl, rfl, own.reads⟩
theorem OwnH.slices {w : World} {base : Nat} {vc vr : Value} {h : Hp} (ho : OwnH w base vc vr h) : ∃ A n c R m d, vc = .slice A n c ∧ vr = .slice R m d := by
  obtain ⟨A, c, R, d, e1, e2, _⟩ := ho.form
  exact ⟨A, _, c, R, _, d, e1, e2⟩
namespace Hps
end Hps
end Go.Proofs.YthmddmddcdofaaaDoor

namespace Go.Proofs.YthmddmddcdofaaaDoor
open Go.RowKit
set_option maxRecDepth 100000
theorem row_form {w : World} {base n s : Nat} {e : TypeId} {v : Value} {xs : List Value} (h : w.ownsRow base e s v n xs) : ∃ A c, v = .slice A n c := by
  rcases h.2 with ⟨rfl, h0⟩ | ⟨g, cap, cur, rfl, _⟩
  · exact ⟨none, 0, by rw [h0]⟩
  · exact ⟨_, _, rfl⟩
set_option maxHeartbeats 4000000 in
theorem cloneHeap_any (A R : Option Addr) (n c m d : Nat) (h : Hp) (w : World) (hs : HS w w.heap.size A n R m h) (hn : n ≤ 1099511627776) (hm : m ≤ 1099511627776) (h3 : ∀ cl ∈ h.cs, cl.r.length ≤ 1000000) :
    Calls Tryd.prog 92 #[heapV A n c R m d] w (GaveH w h) := by
  have hlc := hs.cells.1
  obtain ⟨rvs, hrv, hrA⟩ := hs.cells.refs
  have B2 : Below w.heap.size w ((w.alloc (.cells #[.slice A n c, .slice R m d] 26)).alloc (.cells #[.slice none 0 0, .slice none 0 0] 26)) := ((Below.refl _ _).alloc (Nat.le_refl _) _).alloc (by simp) _
  have Q1 := (Rw.new w 26 #[.slice A n c, .slice R m d]).alloc (.cells #[.slice none 0 0, .slice none 0 0] 26)
  have Q2 := Rw.new (w.alloc (.cells #[.slice A n c, .slice R m d] 26)) 26 #[.slice none 0 0, .slice none 0 0]
  simp only [World.size_alloc] at Q2
  have H3 := Lib.hid h3
  have HLC := Lib.hid hlc
  have HRV := Lib.hid hrv
  have HRA := Lib.hid hrA
  clear h3 hlc hrv hrA
  go_enter Tryd.func92, Tryd.ntmps92
  go_upto_region 1 with fail
  generalize ((w.alloc (.cells #[.slice A n c, .slice R m d] 26)).alloc (.cells #[.slice none 0 0, .slice none 0 0] 26)) = w2 at B2 Q1 Q2 ⊢
  have hz := Q2.lt
  refine wp_region_inv (by kernel_rfl) (by kernel_rfl) (fun L ac ww => ∃ t3 t5 t6 t7 t8 t9 t10 t11 : Value, ac = { tmps := #[heapV A n c R m d, Value.pointer (some { block := w.heap.size, off := 0 }), Value.pointer (some { block := w.heap.size + 1, off := 0 }), t3, undef, t5, t6, t7, t8, t9, t10, t11, undef, undef, undef, undef, undef, undef, undef, undef, undef, undef, undef, undef, undef, undef, undef, undef, undef, undef, undef, undef], defers := [] } ∧ (Below w2.heap.size w2 ww) ∧ (L 0 = true → t5 = .pointer (some ⟨w.heap.size, 0, none⟩)) ∧ (L 1 = true → t6 = .slice A n c) ∧ (L 2 = true → ww.ownsRow w2.heap.size 40 3 t7 n (flatC h.cs rvs)) ∧ (L 3 = true → t8 = .pointer (some ⟨w.heap.size, 1, none⟩)) ∧ (L 4 = true → t9 = .slice R m d) ∧ (L 5 = true → OwnI ww w2.heap.size t10 h.rt ∧ (t7.ownBlock = none ∨ t7.ownBlock ≠ t10.ownBlock) ∧ L 2 = true) ∧ (L 6 = true → t11 = .agg #[t7, t10] ∧ L 5 = true ∧ L 2 = true) ∧ (L 7 = true → ∃ g3, t3 = .pointer (some ⟨g3, 0, none⟩) ∧ w2.heap.size ≤ g3 ∧ ∃ cs, Rw ww g3 26 cs ∧ cs = (if L 8 = true then #[t7, t10] else #[.slice none 0 0, .slice none 0 0])) ∧ (L 8 = true → L 7 = true ∧ L 5 = true ∧ L 2 = true)) ?h0 ?hstep ?hdone
  case h0 => exact ⟨_, _, _, _, _, _, _, _, rfl, (Below.refl _ _).drew, (fun h => absurd h Bool.false_ne_true), (fun h => absurd h Bool.false_ne_true), (fun h => absurd h Bool.false_ne_true), (fun h => absurd h Bool.false_ne_true), (fun h => absurd h Bool.false_ne_true), (fun h => absurd h Bool.false_ne_true), (fun h => absurd h Bool.false_ne_true), (fun h => absurd h Bool.false_ne_true), (fun h => absurd h Bool.false_ne_true)⟩
  case hstep =>
    rintro L ac ww i o ho hL hd ⟨t3, t5, t6, t7, t8, t9, t10, t11, rfl, I0, f0, f1, f2, f3, f4, f5, f6, f7, f8⟩
    have hi : i < 9 := (Array.getElem?_eq_some_iff.1 ho).1
    obtain rfl | rfl | rfl | rfl | rfl | rfl | rfl | rfl | rfl : i = 0 ∨ i = 1 ∨ i = 2 ∨ i = 3 ∨ i = 4 ∨ i = 5 ∨ i = 6 ∨ i = 7 ∨ i = 8 := by omega
    · obtain rfl := Option.some.inj ho
      refine wpOp_step rfl (fun K' hK => ?_)
      go_simp
      refine hK _ _ ?_
      exact ⟨_, _, _, _, _, _, _, _, rfl, (I0), (fun _ => rfl), (kp f1), (kp f2), (kp f3), (kp f4), (fun h => ⟨(f5 (upd_ne h (by decide))).1, (f5 (upd_ne h (by decide))).2.1, upd_mono (f5 (upd_ne h (by decide))).2.2⟩), (fun h => ⟨(f6 (upd_ne h (by decide))).1, upd_mono (f6 (upd_ne h (by decide))).2.1, upd_mono (f6 (upd_ne h (by decide))).2.2⟩), (fun h => by
        obtain ⟨g3, e3, h3, cs, h5, h6⟩ := f7 (upd_ne h (by decide))
        exact ⟨g3, e3, h3, cs, h5, by rw [h6, upd_other (by decide)]⟩), (fun h => ⟨upd_mono (f8 (upd_ne h (by decide))).1, upd_mono (f8 (upd_ne h (by decide))).2.1, upd_mono (f8 (upd_ne h (by decide))).2.2⟩)⟩
    · obtain rfl := Option.some.inj ho
      have g0 := f0 (hd ⟨0, .data⟩ (by simp) rfl)
      subst g0
      have z0 : ww.cell? ⟨w.heap.size, 0, none⟩ = some (.slice A n c) := (I0.cell (p := ⟨w.heap.size, 0, none⟩) (by show w.heap.size < w2.heap.size; omega)).trans (Q1.cell 0)
      refine wpOp_step rfl (fun K' hK => ?_)
      go_simp
      refine hK _ _ ?_
      exact ⟨_, _, _, _, _, _, _, _, rfl, (I0), (kp f0), (fun _ => rfl), (kp f2), (kp f3), (kp f4), (fun h => ⟨(f5 (upd_ne h (by decide))).1, (f5 (upd_ne h (by decide))).2.1, upd_mono (f5 (upd_ne h (by decide))).2.2⟩), (fun h => ⟨(f6 (upd_ne h (by decide))).1, upd_mono (f6 (upd_ne h (by decide))).2.1, upd_mono (f6 (upd_ne h (by decide))).2.2⟩), (fun h => by
        obtain ⟨g3, e3, h3, cs, h5, h6⟩ := f7 (upd_ne h (by decide))
        exact ⟨g3, e3, h3, cs, h5, by rw [h6, upd_other (by decide)]⟩), (fun h => ⟨upd_mono (f8 (upd_ne h (by decide))).1, upd_mono (f8 (upd_ne h (by decide))).2.1, upd_mono (f8 (upd_ne h (by decide))).2.2⟩)⟩
    · obtain rfl := Option.some.inj ho
      have g1 := f1 (hd ⟨1, .data⟩ (by simp) rfl)
      subst g1
      refine wpOp_step rfl (fun K' hK => ?_)
      go_simp
      have bw := B2.trans (I0.mono B2.size)
      have hrv := (hs.up bw)
      obtain ⟨rvs2, hr2, hA2⟩ := (hs.below bw).cells.refs
      refine (cloneC_any A n c h.cs rvs ww HLC.out (by have := HRV.out.below bw; exact ⟨this.1, fun k c v hc hv => by obtain ⟨A1, m1, c1, e, h1, h2⟩ := this.2 k c v hc hv; exact ⟨A1, m1, c1, e, h1, h2.more bw.size⟩⟩) (fun h0 => by obtain ⟨g, o, e, hg, hc⟩ := HRA.out h0; exact ⟨g, o, e, Nat.lt_of_lt_of_le hg bw.size, fun j u hu => (bw.cell (p := ⟨g, o + j, none⟩) hg).trans (hc j u hu)⟩) hn).mono ?_
      rintro e w' ⟨v1, rfl, o1, b5⟩
      refine hK _ _ ?_
      exact ⟨_, _, _, _, _, _, _, _, rfl, (I0.trans (b5.mono I0.size)), (kp f0), (kp f1), (fun _ => row_base o1 I0.size), (kp f3), (kp f4), (fun h => by
        have h1 := upd_ne h (by decide)
        exact absurd (f5 h1).2.2 (by rw [hL]; decide)), (fun h => absurd (f6 (upd_ne h (by decide))).2.2 (by rw [hL]; decide)), (fun h => by
        have hL7 := upd_ne h (by decide)
        obtain ⟨g3, e3, h3, cs, h5, h6⟩ := f7 hL7
        have hL8 : L 8 = false := by
          cases e : L 8
          · rfl
          · have := (f8 e).2.2
            rw [hL] at this
            cases this
        rw [if_neg (by rw [hL8]; decide)] at h6
        exact ⟨g3, e3, h3, cs, h5.keep b5 h5.lt, by rw [h6, upd_other (by decide), if_neg (by rw [hL8]; decide)]⟩), (fun h => ⟨upd_mono (f8 (upd_ne h (by decide))).1, upd_mono (f8 (upd_ne h (by decide))).2.1, upd_mono (f8 (upd_ne h (by decide))).2.2⟩)⟩
    · obtain rfl := Option.some.inj ho
      refine wpOp_step rfl (fun K' hK => ?_)
      go_simp
      refine hK _ _ ?_
      exact ⟨_, _, _, _, _, _, _, _, rfl, (I0), (kp f0), (kp f1), (kp f2), (fun _ => rfl), (kp f4), (fun h => ⟨(f5 (upd_ne h (by decide))).1, (f5 (upd_ne h (by decide))).2.1, upd_mono (f5 (upd_ne h (by decide))).2.2⟩), (fun h => ⟨(f6 (upd_ne h (by decide))).1, upd_mono (f6 (upd_ne h (by decide))).2.1, upd_mono (f6 (upd_ne h (by decide))).2.2⟩), (fun h => by
        obtain ⟨g3, e3, h3, cs, h5, h6⟩ := f7 (upd_ne h (by decide))
        exact ⟨g3, e3, h3, cs, h5, by rw [h6, upd_other (by decide)]⟩), (fun h => ⟨upd_mono (f8 (upd_ne h (by decide))).1, upd_mono (f8 (upd_ne h (by decide))).2.1, upd_mono (f8 (upd_ne h (by decide))).2.2⟩)⟩
    · obtain rfl := Option.some.inj ho
      have g3 := f3 (hd ⟨3, .data⟩ (by simp) rfl)
      subst g3
      have z1 : ww.cell? ⟨w.heap.size, 1, none⟩ = some (.slice R m d) := (I0.cell (p := ⟨w.heap.size, 1, none⟩) (by show w.heap.size < w2.heap.size; omega)).trans (Q1.cell 1)
      refine wpOp_step rfl (fun K' hK => ?_)
      go_simp
      refine hK _ _ ?_
      exact ⟨_, _, _, _, _, _, _, _, rfl, (I0), (kp f0), (kp f1), (kp f2), (kp f3), (fun _ => rfl), (fun h => ⟨(f5 (upd_ne h (by decide))).1, (f5 (upd_ne h (by decide))).2.1, upd_mono (f5 (upd_ne h (by decide))).2.2⟩), (fun h => ⟨(f6 (upd_ne h (by decide))).1, upd_mono (f6 (upd_ne h (by decide))).2.1, upd_mono (f6 (upd_ne h (by decide))).2.2⟩), (fun h => by
        obtain ⟨g3, e3, h3, cs, h5, h6⟩ := f7 (upd_ne h (by decide))
        exact ⟨g3, e3, h3, cs, h5, by rw [h6, upd_other (by decide)]⟩), (fun h => ⟨upd_mono (f8 (upd_ne h (by decide))).1, upd_mono (f8 (upd_ne h (by decide))).2.1, upd_mono (f8 (upd_ne h (by decide))).2.2⟩)⟩
    · obtain rfl := Option.some.inj ho
      have g4 := f4 (hd ⟨4, .data⟩ (by simp) rfl)
      subst g4
      have g2 := f2 (hd ⟨2, .chain⟩ (by simp) rfl)
      refine wpOp_step rfl (fun K' hK => ?_)
      go_simp
      have bw := B2.trans (I0.mono B2.size)
      refine (cloneI_any R m d h.rt ww ((hs.up bw).roots) hm).mono ?_
      rintro e w' ⟨v1, rfl, o1, b5⟩
      refine hK _ _ ?_
      exact ⟨_, _, _, _, _, _, _, _, rfl, (I0.trans (b5.mono I0.size)), (kp f0), (kp f1), (fun h => row_below (f2 (upd_ne h (by decide))) b5 (Nat.le_refl _)), (kp f3), (kp f4), (fun _ => ⟨o1.base I0.size, by
        cases e7 : t7.ownBlock with
        | none => exact .inl rfl
        | some q =>
          right
          intro e
          have a1 := (World.ownsRow.lt g2 q e7).2
          have a2 := (World.ownsRow.lt o1 q e.symm).1
          omega, by rw [upd_other (by decide)]; exact hd ⟨2, .chain⟩ (by simp) rfl⟩), (fun h => absurd (f6 (upd_ne h (by decide))).2.1 (by rw [hL]; decide)), (fun h => by
        have hL7 := upd_ne h (by decide)
        obtain ⟨g3, e3, h3, cs, h5, h6⟩ := f7 hL7
        have hL8 : L 8 = false := by
          cases e : L 8
          · rfl
          · have := (f8 e).2.1
            rw [hL] at this
            cases this
        rw [if_neg (by rw [hL8]; decide)] at h6
        exact ⟨g3, e3, h3, cs, h5.keep b5 h5.lt, by rw [h6, upd_other (by decide), if_neg (by rw [hL8]; decide)]⟩), (fun h => ⟨upd_mono (f8 (upd_ne h (by decide))).1, upd_mono (f8 (upd_ne h (by decide))).2.1, upd_mono (f8 (upd_ne h (by decide))).2.2⟩)⟩
    · obtain rfl := Option.some.inj ho
      have g2 := f2 (hd ⟨2, .data⟩ (by simp) rfl)
      have g5 := f5 (hd ⟨5, .data⟩ (by simp) rfl)
      have l5 := hd ⟨5, .data⟩ (by simp) rfl
      have l2 := hd ⟨2, .data⟩ (by simp) rfl
      obtain ⟨A7, c7, rfl⟩ := row_form g2
      obtain ⟨A9, d9, rfl, -⟩ := g5.1.form
      refine wpOp_step rfl (fun K' hK => ?_)
      go_simp
      refine hK _ _ ?_
      exact ⟨_, _, _, _, _, _, _, _, rfl, (I0), (kp f0), (kp f1), (kp f2), (kp f3), (kp f4), (fun h => ⟨(f5 (upd_ne h (by decide))).1, (f5 (upd_ne h (by decide))).2.1, upd_mono (f5 (upd_ne h (by decide))).2.2⟩), (fun _ => ⟨rfl, upd_mono l5, upd_mono l2⟩), (fun h => by
        obtain ⟨g3, e3, h3, cs, h5, h6⟩ := f7 (upd_ne h (by decide))
        exact ⟨g3, e3, h3, cs, h5, by rw [h6, upd_other (by decide)]⟩), (fun h => ⟨upd_mono (f8 (upd_ne h (by decide))).1, upd_mono (f8 (upd_ne h (by decide))).2.1, upd_mono (f8 (upd_ne h (by decide))).2.2⟩)⟩
    · obtain rfl := Option.some.inj ho
      have hL8 : L 8 = false := by
        cases e : L 8
        · rfl
        · exact absurd (f8 e).1 (by rw [hL]; decide)
      refine wpOp_step rfl (fun K' hK => ?_)
      go_simp
      have b5 : Below ww.heap.size ww (ww.alloc (.cells #[.slice none 0 0, .slice none 0 0] 26)) := (Below.refl _ _).alloc (Nat.le_refl _) _
      refine hK _ _ ?_
      exact ⟨_, _, _, _, _, _, _, _, rfl, (I0.alloc I0.size _), (kp f0), (kp f1), (fun h => row_below (f2 (upd_ne h (by decide))) b5 (Nat.le_refl _)), (kp f3), (kp f4), (fun h => ⟨(f5 (upd_ne h (by decide))).1.below b5 (Nat.le_refl _), (f5 (upd_ne h (by decide))).2.1, upd_mono (f5 (upd_ne h (by decide))).2.2⟩), (fun h => ⟨(f6 (upd_ne h (by decide))).1, upd_mono (f6 (upd_ne h (by decide))).2.1, upd_mono (f6 (upd_ne h (by decide))).2.2⟩), (fun _ => ⟨_, rfl, I0.size, _, Rw.new _ _ _, by rw [upd_other (by decide), hL8, if_neg (by decide)]⟩), (fun h => ⟨upd_mono (f8 (upd_ne h (by decide))).1, upd_mono (f8 (upd_ne h (by decide))).2.1, upd_mono (f8 (upd_ne h (by decide))).2.2⟩)⟩
    · obtain rfl := Option.some.inj ho
      have g6 := f6 (hd ⟨6, .data⟩ (by simp) rfl)
      have g7 := f7 (hd ⟨7, .data⟩ (by simp) rfl)
      have l5 := hd ⟨5, .chain⟩ (by simp) rfl
      have l7 := hd ⟨7, .data⟩ (by simp) rfl
      have g5 := f5 l5
      have g2 := f2 g5.2.2
      have l2 := g5.2.2
      obtain ⟨g6, -, -⟩ := g6
      subst g6
      obtain ⟨g3, e3, h3, cs, h5, h6⟩ := g7
      rw [hL, if_neg (by decide)] at h6
      subst h6
      subst e3
      obtain ⟨A7, c7, rfl⟩ := row_form g2
      obtain ⟨A9, d9, rfl, -⟩ := g5.1.form
      have a7 : (Value.slice A7 n c7).ownBlock = none ∨ (Value.slice A7 n c7).ownBlock ≠ some g3 := .inr (row_type g2 h5 (by decide)).symm
      have a9 : (Value.slice A9 h.rt.length d9).ownBlock = none ∨ (Value.slice A9 h.rt.length d9).ownBlock ≠ some g3 := .inr (row_type g5.1 h5 (by decide)).symm
      have c0 := h5.cell 0
      have c1 := h5.cell 1
      simp only [List.getElem?_toArray, List.getElem?_cons_zero, List.getElem?_cons_succ] at c0 c1
      have z0 := h5.frozen 0
      have z1 := h5.frozen 1
      have hput := (h5.put 0 (.slice A7 n c7)).put 1 (.slice A9 h.rt.length d9)
      refine wpOp_step rfl (fun K' hK => ?_)
      go_simp
      refine hK _ _ ?_
      exact ⟨_, _, _, _, _, _, _, _, rfl, ((I0.setCell (p := ⟨g3, 0, none⟩) (by show w2.heap.size ≤ g3; omega) _).setCell (p := ⟨g3, 1, none⟩) (by show w2.heap.size ≤ g3; omega) _), (kp f0), (kp f1), (fun _ => World.ownsRow.kept (World.ownsRow.kept g2 (put_any ww g3 0 _) a7) (put_any _ g3 1 _) a7), (kp f3), (kp f4), (fun _ => ⟨(g5.1.far (put_any ww g3 0 _) a9).far (put_any _ g3 1 _) a9, g5.2.1, upd_mono l2⟩), (fun h => ⟨(f6 (upd_ne h (by decide))).1, upd_mono (f6 (upd_ne h (by decide))).2.1, upd_mono (f6 (upd_ne h (by decide))).2.2⟩), (fun _ => ⟨g3, rfl, h3, _, hput, by rw [upd_self, if_pos rfl]; rfl⟩), (fun _ => ⟨upd_mono l7, upd_mono l5, upd_mono l2⟩)⟩
  case hdone =>
    rintro L ac ww hall ⟨t3, t5, t6, t7, t8, t9, t10, t11, rfl, I0, f0, f1, f2, f3, f4, f5, f6, f7, f8⟩
    have e0 := f0 (hall 0 (by decide))
    have e1 := f1 (hall 1 (by decide))
    have e2 := f2 (hall 2 (by decide))
    have e3 := f3 (hall 3 (by decide))
    have e4 := f4 (hall 4 (by decide))
    have e5 := f5 (hall 5 (by decide))
    have e6 := f6 (hall 6 (by decide))
    have e7 := f7 (hall 7 (by decide))
    have e8 := f8 (hall 8 (by decide))
    clear f0 f1 f2 f3 f4 f5 f6 f7 f8
    obtain ⟨g3, rfl, hg3, cs, BX, e9⟩ := e7
    rw [hall 8 (by decide), if_pos rfl] at e9
    subst e9
    obtain ⟨e6, -, -⟩ := e6
    subst e0 e1 e3 e4 e6
    obtain ⟨A7, c7, rfl⟩ := row_form e2
    have OR := e5.1
    obtain ⟨A9, d9, rfl, -⟩ := OR.form
    have SP := e5.2.1
    clear e5 e8 hall
    have S0 : MidH ww w2.heap.size (.slice A7 n c7) (.slice A9 h.rt.length d9) [] rvs 0 h :=
      ⟨rfl, Nat.zero_le _, HRV.out.1, by rw [HLC.out]; exact e2, fun j cl v hc hv => by simp at hv, OR, by simp [Sep]; exact SP⟩
    have AP : Apart (some g3) (Value.slice A7 n c7 :: Value.slice A9 h.rt.length d9 :: []) := by
      intro u hu
      simp only [List.mem_cons, List.not_mem_nil, or_false] at hu
      rcases hu with rfl | rfl
      · exact .inr (row_type e2 BX (by decide)).symm
      · exact .inr (row_type OR BX (by decide)).symm
    clear e2 OR SP
    have c0 := BX.cell 0
    have c1 := BX.cell 1
    simp only [List.getElem?_toArray, List.getElem?_cons_zero, List.getElem?_cons_succ] at c0 c1
    go_wp2_with fail
    go_loopw [15] (fun i wr => ∃ (k : Nat) (ovs : List Value), k ≤ n ∧ i = .int .i64 k ∧ MidH wr w2.heap.size (.slice A7 n c7) (.slice A9 h.rt.length d9) ovs rvs k h ∧ Apart (some g3) (Value.slice A7 n c7 :: Value.slice A9 h.rt.length d9 :: ovs) ∧ Rw wr g3 26 #[.slice A7 n c7, .slice A9 h.rt.length d9] ∧ Below w2.heap.size w2 wr) (fun i _ => n - (intOf i).toNat)
    case atStart => exact ⟨0, [], Nat.zero_le _, rfl, S0, AP, BX, I0⟩
    case round =>
      clear S0 AP BX I0 c0 c1
      obtain ⟨k, ovs, hk, rfl, S, AP, BX, IW⟩ := hrel
      have bw := B2.trans (IW.mono B2.size)
      by_cases hlt : k < n
      · have hck := List.getElem?_eq_getElem (show k < h.cs.length by rw [HLC.out]; exact hlt)
        generalize h.cs[k]'(by rw [HLC.out]; exact hlt) = cl at hck
        obtain ⟨A8, c8, R8, d8, q1, -, -, fA⟩ := S.form
        obtain ⟨g, hg0, hg1, hg2⟩ := fA (by rw [HLC.out]; omega)
        have hA7 : A7 = some ⟨g, 0, none⟩ := by
          have q1 := q1
          injection q1 with q1 _ _
          exact q1.trans hg0
        subst hA7
        clear q1 fA hg0
        obtain ⟨A1, m1, c1, x2, hm1, is1, fz⟩ := S.ref HLC.out hck (HRV.out.below bw)
        have is2 := is1.more bw.size
        have hm3 : m1 ≤ 1099511627776 := by
          have := is1.1
          have := H3.out cl (List.mem_of_getElem? hck)
          omega
        have x0 := BX.cell 0
        simp only [List.getElem?_toArray, List.getElem?_cons_zero] at x0
        have hlt' : (k : Int) < n := by omega
        have hbx := BX.lt
        have fzg := fz (k * 3 + 2)
        clear is1 fz hm1
        have HCK := Lib.hid hck
        have SS := Lib.hid S
        have AA := Lib.hid AP
        have BB := Lib.hid BX
        clear hck S AP BX
        go_upto_region 5 with fail
        refine wp_region_inv (by kernel_rfl) (by kernel_rfl) (fun L ac ww => ∃ t18 t19 t20 t21 t22 t23 t24 t25 t26 t27 t28 t29 : Value, ac = { tmps := #[heapV A n c R m d, Value.pointer (some { block := w.heap.size, off := 0 }), Value.pointer (some { block := w.heap.size + 1, off := 0 }), Value.pointer (some { block := g3, off := 0 }), Value.int IntKind.i64 ↑k, Value.pointer (some { block := w.heap.size, off := 0 }), Value.slice A n c, Value.slice (some { block := g, off := 0 }) n c7, Value.pointer (some { block := w.heap.size, off := 1 }), Value.slice R m d, Value.slice A9 h.rt.length d9, Value.agg #[Value.slice (some { block := g, off := 0 }) n c7, Value.slice A9 h.rt.length d9], Value.pointer (some { block := g3, off := 0 }), Value.slice (some { block := g, off := 0 }) n c7, Value.int IntKind.i64 ↑n, Value.int IntKind.i64 ↑k, Value.bool true, Value.int IntKind.i64 ↑k, t18, t19, t20, t21, t22, t23, t24, t25, t26, t27, t28, t29, u30, undef], defers := [] } ∧ (L 12 = false → Below wr.heap.size wr ww) ∧ (L 0 = true → t18 = .pointer (some ⟨g3, 0, none⟩)) ∧ (L 1 = true → t19 = .slice (some ⟨g, 0, none⟩) n c7) ∧ (L 2 = true → t20 = .int .i64 k) ∧ (L 3 = true → t21 = .pointer (some ⟨g3, 0, none⟩)) ∧ (L 4 = true → t22 = .slice (some ⟨g, 0, none⟩) n c7) ∧ (L 5 = true → t23 = .int .i64 k) ∧ (L 6 = true → t24 = .pointer (some ⟨g, k * 3, none⟩)) ∧ (L 7 = true → t25 = .pointer (some ⟨g, k * 3 + 2, none⟩)) ∧ (L 8 = true → t26 = .slice A1 m1 c1) ∧ (L 9 = true → L 12 = false → OwnI ww wr.heap.size t27 cl.r) ∧ (L 10 = true → t28 = .pointer (some ⟨g, k * 3, none⟩)) ∧ (L 11 = true → t29 = .pointer (some ⟨g, k * 3 + 2, none⟩) ∧ L 10 = true) ∧ (L 12 = true → (∀ q, q < 12 → L q = true) ∧ ∃ w5, Below wr.heap.size wr w5 ∧ OwnI w5 wr.heap.size t27 cl.r ∧ ww = w5.setCell ⟨g, k * 3 + 2, none⟩ t27)) ?h0 ?hstep ?hdone
        case h0 => exact ⟨_, _, _, _, _, _, _, _, _, _, _, _, rfl, fun _ => (Below.refl _ _).drew, (fun h => absurd h Bool.false_ne_true), (fun h => absurd h Bool.false_ne_true), (fun h => absurd h Bool.false_ne_true), (fun h => absurd h Bool.false_ne_true), (fun h => absurd h Bool.false_ne_true), (fun h => absurd h Bool.false_ne_true), (fun h => absurd h Bool.false_ne_true), (fun h => absurd h Bool.false_ne_true), (fun h => absurd h Bool.false_ne_true), (fun h => absurd h Bool.false_ne_true), (fun h => absurd h Bool.false_ne_true), (fun h => absurd h Bool.false_ne_true), (fun h => absurd h Bool.false_ne_true)⟩
        case hstep =>
          rintro L ac ww i o ho hL hd ⟨t18, t19, t20, t21, t22, t23, t24, t25, t26, t27, t28, t29, rfl, I0, f0, f1, f2, f3, f4, f5, f6, f7, f8, f9, f10, f11, f12⟩
          have hi : i < 13 := (Array.getElem?_eq_some_iff.1 ho).1
          obtain rfl | rfl | rfl | rfl | rfl | rfl | rfl | rfl | rfl | rfl | rfl | rfl | rfl : i = 0 ∨ i = 1 ∨ i = 2 ∨ i = 3 ∨ i = 4 ∨ i = 5 ∨ i = 6 ∨ i = 7 ∨ i = 8 ∨ i = 9 ∨ i = 10 ∨ i = 11 ∨ i = 12 := by omega
          · obtain rfl := Option.some.inj ho
            have hL12 : L 12 = false := by
              cases e : L 12
              · rfl
              · exact absurd ((f12 e).1 0 (by omega)) (by rw [hL]; decide)
            have J := I0 hL12
            refine wpOp_step rfl (fun K' hK => ?_)
            go_simp
            refine hK _ _ ?_
            exact ⟨_, _, _, _, _, _, _, _, _, _, _, _, rfl, (fun _ => J), (fun _ => rfl), (kp f1), (kp f2), (kp f3), (kp f4), (kp f5), (kp f6), (kp f7), (kp f8), (fun h _ => f9 (upd_ne h (by decide)) hL12), (kp f10), (fun h => ⟨(f11 (upd_ne h (by decide))).1, upd_mono (f11 (upd_ne h (by decide))).2⟩), (fun h => absurd ((f12 (upd_ne h (by decide))).1 0 (by omega)) (by rw [hL]; decide))⟩
          · obtain rfl := Option.some.inj ho
            have g0 := f0 (hd ⟨0, .data⟩ (by simp) rfl)
            subst g0
            have hL12 : L 12 = false := by
              cases e : L 12
              · rfl
              · exact absurd ((f12 e).1 1 (by omega)) (by rw [hL]; decide)
            have J := I0 hL12
            have z0 : ww.cell? ⟨g3, 0, none⟩ = some (.slice (some ⟨g, 0, none⟩) n c7) := (J.cell (p := ⟨g3, 0, none⟩) hbx).trans x0
            refine wpOp_step rfl (fun K' hK => ?_)
            go_simp
            refine hK _ _ ?_
            exact ⟨_, _, _, _, _, _, _, _, _, _, _, _, rfl, (fun _ => J), (kp f0), (fun _ => rfl), (kp f2), (kp f3), (kp f4), (kp f5), (kp f6), (kp f7), (kp f8), (fun h _ => f9 (upd_ne h (by decide)) hL12), (kp f10), (fun h => ⟨(f11 (upd_ne h (by decide))).1, upd_mono (f11 (upd_ne h (by decide))).2⟩), (fun h => absurd ((f12 (upd_ne h (by decide))).1 1 (by omega)) (by rw [hL]; decide))⟩
          · obtain rfl := Option.some.inj ho
            have hL12 : L 12 = false := by
              cases e : L 12
              · rfl
              · exact absurd ((f12 e).1 2 (by omega)) (by rw [hL]; decide)
            have J := I0 hL12
            refine wpOp_step rfl (fun K' hK => ?_)
            go_simp
            refine hK _ _ ?_
            exact ⟨_, _, _, _, _, _, _, _, _, _, _, _, rfl, (fun _ => J), (kp f0), (kp f1), (fun _ => rfl), (kp f3), (kp f4), (kp f5), (kp f6), (kp f7), (kp f8), (fun h _ => f9 (upd_ne h (by decide)) hL12), (kp f10), (fun h => ⟨(f11 (upd_ne h (by decide))).1, upd_mono (f11 (upd_ne h (by decide))).2⟩), (fun h => absurd ((f12 (upd_ne h (by decide))).1 2 (by omega)) (by rw [hL]; decide))⟩
          · obtain rfl := Option.some.inj ho
            have hL12 : L 12 = false := by
              cases e : L 12
              · rfl
              · exact absurd ((f12 e).1 3 (by omega)) (by rw [hL]; decide)
            have J := I0 hL12
            refine wpOp_step rfl (fun K' hK => ?_)
            go_simp
            refine hK _ _ ?_
            exact ⟨_, _, _, _, _, _, _, _, _, _, _, _, rfl, (fun _ => J), (kp f0), (kp f1), (kp f2), (fun _ => rfl), (kp f4), (kp f5), (kp f6), (kp f7), (kp f8), (fun h _ => f9 (upd_ne h (by decide)) hL12), (kp f10), (fun h => ⟨(f11 (upd_ne h (by decide))).1, upd_mono (f11 (upd_ne h (by decide))).2⟩), (fun h => absurd ((f12 (upd_ne h (by decide))).1 3 (by omega)) (by rw [hL]; decide))⟩
          · obtain rfl := Option.some.inj ho
            have g3 := f3 (hd ⟨3, .data⟩ (by simp) rfl)
            subst g3
            have hL12 : L 12 = false := by
              cases e : L 12
              · rfl
              · exact absurd ((f12 e).1 4 (by omega)) (by rw [hL]; decide)
            have J := I0 hL12
            have z0 : ww.cell? ⟨g3, 0, none⟩ = some (.slice (some ⟨g, 0, none⟩) n c7) := (J.cell (p := ⟨g3, 0, none⟩) hbx).trans x0
            refine wpOp_step rfl (fun K' hK => ?_)
            go_simp
            refine hK _ _ ?_
            exact ⟨_, _, _, _, _, _, _, _, _, _, _, _, rfl, (fun _ => J), (kp f0), (kp f1), (kp f2), (kp f3), (fun _ => rfl), (kp f5), (kp f6), (kp f7), (kp f8), (fun h _ => f9 (upd_ne h (by decide)) hL12), (kp f10), (fun h => ⟨(f11 (upd_ne h (by decide))).1, upd_mono (f11 (upd_ne h (by decide))).2⟩), (fun h => absurd ((f12 (upd_ne h (by decide))).1 4 (by omega)) (by rw [hL]; decide))⟩
          · obtain rfl := Option.some.inj ho
            have hL12 : L 12 = false := by
              cases e : L 12
              · rfl
              · exact absurd ((f12 e).1 5 (by omega)) (by rw [hL]; decide)
            have J := I0 hL12
            refine wpOp_step rfl (fun K' hK => ?_)
            go_simp
            refine hK _ _ ?_
            exact ⟨_, _, _, _, _, _, _, _, _, _, _, _, rfl, (fun _ => J), (kp f0), (kp f1), (kp f2), (kp f3), (kp f4), (fun _ => rfl), (kp f6), (kp f7), (kp f8), (fun h _ => f9 (upd_ne h (by decide)) hL12), (kp f10), (fun h => ⟨(f11 (upd_ne h (by decide))).1, upd_mono (f11 (upd_ne h (by decide))).2⟩), (fun h => absurd ((f12 (upd_ne h (by decide))).1 5 (by omega)) (by rw [hL]; decide))⟩
          · obtain rfl := Option.some.inj ho
            have g4 := f4 (hd ⟨4, .data⟩ (by simp) rfl)
            have g5 := f5 (hd ⟨5, .data⟩ (by simp) rfl)
            subst g4
            subst g5
            have hL12 : L 12 = false := by
              cases e : L 12
              · rfl
              · exact absurd ((f12 e).1 6 (by omega)) (by rw [hL]; decide)
            have J := I0 hL12
            refine wpOp_step rfl (fun K' hK => ?_)
            go_simp
            refine hK _ _ ?_
            exact ⟨_, _, _, _, _, _, _, _, _, _, _, _, rfl, (fun _ => J), (kp f0), (kp f1), (kp f2), (kp f3), (kp f4), (kp f5), (fun _ => rfl), (kp f7), (kp f8), (fun h _ => f9 (upd_ne h (by decide)) hL12), (kp f10), (fun h => ⟨(f11 (upd_ne h (by decide))).1, upd_mono (f11 (upd_ne h (by decide))).2⟩), (fun h => absurd ((f12 (upd_ne h (by decide))).1 6 (by omega)) (by rw [hL]; decide))⟩
          · obtain rfl := Option.some.inj ho
            have g6 := f6 (hd ⟨6, .data⟩ (by simp) rfl)
            subst g6
            have hL12 : L 12 = false := by
              cases e : L 12
              · rfl
              · exact absurd ((f12 e).1 7 (by omega)) (by rw [hL]; decide)
            have J := I0 hL12
            refine wpOp_step rfl (fun K' hK => ?_)
            go_simp
            refine hK _ _ ?_
            exact ⟨_, _, _, _, _, _, _, _, _, _, _, _, rfl, (fun _ => J), (kp f0), (kp f1), (kp f2), (kp f3), (kp f4), (kp f5), (kp f6), (fun _ => rfl), (kp f8), (fun h _ => f9 (upd_ne h (by decide)) hL12), (kp f10), (fun h => ⟨(f11 (upd_ne h (by decide))).1, upd_mono (f11 (upd_ne h (by decide))).2⟩), (fun h => absurd ((f12 (upd_ne h (by decide))).1 7 (by omega)) (by rw [hL]; decide))⟩
          · obtain rfl := Option.some.inj ho
            have g7 := f7 (hd ⟨7, .data⟩ (by simp) rfl)
            subst g7
            have hL12 : L 12 = false := by
              cases e : L 12
              · rfl
              · exact absurd ((f12 e).1 8 (by omega)) (by rw [hL]; decide)
            have J := I0 hL12
            have z0 : ww.cell? ⟨g, k * 3 + 2, none⟩ = some (.slice A1 m1 c1) := (J.cell (p := ⟨g, k * 3 + 2, none⟩) hg2).trans x2
            refine wpOp_step rfl (fun K' hK => ?_)
            go_simp
            refine hK _ _ ?_
            exact ⟨_, _, _, _, _, _, _, _, _, _, _, _, rfl, (fun _ => J), (kp f0), (kp f1), (kp f2), (kp f3), (kp f4), (kp f5), (kp f6), (kp f7), (fun _ => rfl), (fun h _ => f9 (upd_ne h (by decide)) hL12), (kp f10), (fun h => ⟨(f11 (upd_ne h (by decide))).1, upd_mono (f11 (upd_ne h (by decide))).2⟩), (fun h => absurd ((f12 (upd_ne h (by decide))).1 8 (by omega)) (by rw [hL]; decide))⟩
          · obtain rfl := Option.some.inj ho
            have g8 := f8 (hd ⟨8, .data⟩ (by simp) rfl)
            subst g8
            have hL12 : L 12 = false := by
              cases e : L 12
              · rfl
              · exact absurd ((f12 e).1 9 (by omega)) (by rw [hL]; decide)
            have J := I0 hL12
            refine wpOp_step rfl (fun K' hK => ?_)
            go_simp
            refine (cloneI_any A1 m1 c1 cl.r ww (is2.up J) hm3).mono ?_
            rintro e w' ⟨v1, rfl, o1, b5⟩
            refine hK _ _ ?_
            exact ⟨_, _, _, _, _, _, _, _, _, _, _, _, rfl, (fun _ => J.trans (b5.mono J.size)), (kp f0), (kp f1), (kp f2), (kp f3), (kp f4), (kp f5), (kp f6), (kp f7), (kp f8), (fun _ _ => o1.base J.size), (kp f10), (fun h => ⟨(f11 (upd_ne h (by decide))).1, upd_mono (f11 (upd_ne h (by decide))).2⟩), (fun h => absurd ((f12 (upd_ne h (by decide))).1 9 (by omega)) (by rw [hL]; decide))⟩
          · obtain rfl := Option.some.inj ho
            have g1 := f1 (hd ⟨1, .data⟩ (by simp) rfl)
            have g2 := f2 (hd ⟨2, .data⟩ (by simp) rfl)
            subst g1
            subst g2
            have hL12 : L 12 = false := by
              cases e : L 12
              · rfl
              · exact absurd ((f12 e).1 10 (by omega)) (by rw [hL]; decide)
            have J := I0 hL12
            refine wpOp_step rfl (fun K' hK => ?_)
            go_simp
            refine hK _ _ ?_
            exact ⟨_, _, _, _, _, _, _, _, _, _, _, _, rfl, (fun _ => J), (kp f0), (kp f1), (kp f2), (kp f3), (kp f4), (kp f5), (kp f6), (kp f7), (kp f8), (fun h _ => f9 (upd_ne h (by decide)) hL12), (fun _ => rfl), (fun h => ⟨(f11 (upd_ne h (by decide))).1, upd_mono (f11 (upd_ne h (by decide))).2⟩), (fun h => absurd ((f12 (upd_ne h (by decide))).1 10 (by omega)) (by rw [hL]; decide))⟩
          · obtain rfl := Option.some.inj ho
            have g10 := f10 (hd ⟨10, .data⟩ (by simp) rfl)
            subst g10
            have hL12 : L 12 = false := by
              cases e : L 12
              · rfl
              · exact absurd ((f12 e).1 11 (by omega)) (by rw [hL]; decide)
            have J := I0 hL12
            refine wpOp_step rfl (fun K' hK => ?_)
            go_simp
            refine hK _ _ ?_
            exact ⟨_, _, _, _, _, _, _, _, _, _, _, _, rfl, (fun _ => J), (kp f0), (kp f1), (kp f2), (kp f3), (kp f4), (kp f5), (kp f6), (kp f7), (kp f8), (fun h _ => f9 (upd_ne h (by decide)) hL12), (kp f10), (fun _ => ⟨rfl, upd_mono (hd ⟨10, .data⟩ (by simp) rfl)⟩), (fun h => absurd ((f12 (upd_ne h (by decide))).1 11 (by omega)) (by rw [hL]; decide))⟩
          · obtain rfl := Option.some.inj ho
            have g9 := f9 (hd ⟨9, .data⟩ (by simp) rfl)
            have g11 := f11 (hd ⟨11, .data⟩ (by simp) rfl)
            have l11 := Lib.hid (hd ⟨11, .data⟩ (by simp) rfl)
            have l10 := Lib.hid g11.2
            obtain ⟨g11, -⟩ := g11
            subst g11
            have J := I0 hL
            have o9 := g9 hL
            have hfz : ww.frozen? ⟨g, k * 3 + 2, none⟩ = false := (World.frozen?_of_block (J.block g hg2)).trans fzg
            have hcl : ww.cell? ⟨g, k * 3 + 2, none⟩ = some (.slice A1 m1 c1) := (J.cell (p := ⟨g, k * 3 + 2, none⟩) hg2).trans x2
            obtain ⟨A2, c2, rfl⟩ := row_form o9
            refine wpOp_step rfl (fun K' hK => ?_)
            go_simp
            refine hK _ _ ?_
            exact ⟨_, _, _, _, _, _, _, _, _, _, _, _, rfl, (fun h => absurd h (by rw [upd_self]; decide)), (kp f0), (kp f1), (kp f2), (kp f3), (kp f4), (kp f5), (kp f6), (kp f7), (kp f8), (fun _ h => absurd h (by rw [upd_self]; decide)), (kp f10), (fun h => ⟨(f11 (upd_ne h (by decide))).1, upd_mono (f11 (upd_ne h (by decide))).2⟩), (fun _ => ⟨fun q hq => by
              obtain rfl | rfl | rfl | rfl | rfl | rfl | rfl | rfl | rfl | rfl | rfl | rfl : q = 0 ∨ q = 1 ∨ q = 2 ∨ q = 3 ∨ q = 4 ∨ q = 5 ∨ q = 6 ∨ q = 7 ∨ q = 8 ∨ q = 9 ∨ q = 10 ∨ q = 11 := by omega
              all_goals first | exact upd_mono l10.out | exact upd_mono l11.out | exact upd_mono (hd ⟨_, .phase⟩ (by simp) rfl), ww, J, o9, rfl⟩)⟩
        case hdone =>
          rintro L ac ww hall ⟨t18, t19, t20, t21, t22, t23, t24, t25, t26, t27, t28, t29, rfl, I0, f0, f1, f2, f3, f4, f5, f6, f7, f8, f9, f10, f11, f12⟩
          have e0 := f0 (hall 0 (by decide))
          have e1 := f1 (hall 1 (by decide))
          have e2 := f2 (hall 2 (by decide))
          have e3 := f3 (hall 3 (by decide))
          have e4 := f4 (hall 4 (by decide))
          have e5 := f5 (hall 5 (by decide))
          have e6 := f6 (hall 6 (by decide))
          have e7 := f7 (hall 7 (by decide))
          have e8 := f8 (hall 8 (by decide))
          have e9 := f9 (hall 9 (by decide))
          have e10 := f10 (hall 10 (by decide))
          have e11 := f11 (hall 11 (by decide))
          have e12 := f12 (hall 12 (by decide))
          clear f0 f1 f2 f3 f4 f5 f6 f7 f8 f9 f10 f11 f12
          obtain ⟨-, w5, b5, o5, rfl⟩ := e12
          have hb1 : (⟨g, k * 3 + 2, none⟩ : Addr).block = g := rfl
          have hI : Below w2.heap.size w2 (w5.setCell ⟨g, k * 3 + 2, none⟩ t27) := (IW.trans (b5.mono IW.size)).setCell (p := ⟨g, k * 3 + 2, none⟩) hg1 _
          have hnew : ∀ u : Value, (∀ q, u.ownBlock = some q → q < wr.heap.size) → t27.ownBlock = none ∨ t27.ownBlock ≠ u.ownBlock := fun u hu => by
            cases e : t27.ownBlock with
            | none => exact .inl rfl
            | some q =>
              right
              intro e2
              have a1 := (World.ownsRow.lt o5 q e).1
              have a2 := hu q e2.symm
              omega
          have hS := (SS.out.below b5 (Nat.le_refl _)).next HLC.out HCK.out (o5.base (by have := IW.size; omega)) (fun u hu => hnew u (fun q hq => (SS.out.blocks hu hq).2))
          have hg3g : g3 ≠ g := fun e => by
            rcases AA.out _ (List.mem_cons_self ..) with h1 | h1
            · cases h1
            · exact h1 (by rw [e]; rfl)
          have hAP : Apart (some g3) (Value.slice (some ⟨g, 0, none⟩) n c7 :: Value.slice A9 h.rt.length d9 :: (ovs ++ [t27])) := by
            intro u hu
            rw [List.mem_cons, List.mem_cons, List.mem_append, List.mem_singleton] at hu
            rcases hu with rfl | rfl | hu | rfl
            · exact AA.out _ (by simp)
            · exact AA.out _ (by simp)
            · exact AA.out _ (by simp [hu])
            · cases e : u.ownBlock with
              | none => exact .inl rfl
              | some q =>
                right
                intro e2
                have a1 := (World.ownsRow.lt o5 q e).1
                have a2 := Option.some.inj e2
                omega
          have hBX : Rw (w5.setCell ⟨g, k * 3 + 2, none⟩ t27) g3 26 #[.slice (some ⟨g, 0, none⟩) n c7, .slice A9 h.rt.length d9] := (BB.out.keep b5 hbx).other hg3g t27
          obtain ⟨e11, -⟩ := e11
          clear e0 e1 e2 e3 e4 e5 e6 e7 e8 e9 e10 e11 hall I0 IW bw SS AA BB hnew b5 o5 hb1
          go_wp2_with fail
          go_roundw
          case rel => exact ⟨k + 1, ovs ++ [t27], by omega, by go_num, hS, hAP, hBX, hI⟩
          case measure => simp [intOf]; omega
      · obtain rfl : k = n := by omega
        have own := S.done HLC.out.symm
        have x0 := BX.cell 0
        have x1 := BX.cell 1
        simp only [List.getElem?_toArray, List.getElem?_cons_zero, List.getElem?_cons_succ] at x0 x1
        have q3 := Q2.keep IW hz
        have r2 : wr.frozen? ⟨w.heap.size + 1, 0, none⟩ = false := q3.frozen 0
        have r3 : wr.frozen? ⟨w.heap.size + 1, 1, none⟩ = false := q3.frozen 1
        have r4 : wr.cell? ⟨w.heap.size + 1, 0, none⟩ = some (.slice none 0 0) := q3.cell 0
        have r5 : wr.cell? ⟨w.heap.size + 1, 1, none⟩ = some (.slice none 0 0) := q3.cell 1
        have r6 : ((wr.setCell ⟨w.heap.size + 1, 0, none⟩ (.slice A7 k c7)).setCell ⟨w.heap.size + 1, 1, none⟩ (.slice A9 h.rt.length d9)).cell? ⟨w.heap.size + 1, 0, none⟩ = some (.slice A7 k c7) := ((q3.put 0 (.slice A7 k c7)).put 1 (.slice A9 h.rt.length d9)).cell 0
        have r7 : ((wr.setCell ⟨w.heap.size + 1, 0, none⟩ (.slice A7 k c7)).setCell ⟨w.heap.size + 1, 1, none⟩ (.slice A9 h.rt.length d9)).cell? ⟨w.heap.size + 1, 1, none⟩ = some (.slice A9 h.rt.length d9) := ((q3.put 0 (.slice A7 k c7)).put 1 (.slice A9 h.rt.length d9)).cell 1
        have D := Lib.hid (OwnH.out (w := w) (g := w.heap.size + 1) ⟨ovs, own⟩ (by omega) bw (by omega))
        clear own S AP BX q3 bw IW B2 Q1 Q2
        go_wp2_with fail
        exact bodyPost_ret (v := .agg #[.slice A7 k c7, .slice A9 h.rt.length d9]) (by simp [results, Tryd.results92, go_sem, *]) rfl ⟨_, _, rfl, D.out.1, D.out.2⟩
end Go.Proofs.YthmddmddcdofaaaDoor

namespace Go.Proofs.YthmddmddcdofaaaDoor
open Go.RowKit
set_option maxRecDepth 100000
end Go.Proofs.YthmddmddcdofaaaDoor

namespace Go.Proofs.YthmddmddcdofaaaDoor
open Go.RowKit
set_option maxRecDepth 100000
end Go.Proofs.YthmddmddcdofaaaDoor

namespace Go.Proofs.YthmddmddcdofaaaDoor
open Go.RowKit
set_option maxRecDepth 100000
end Go.Proofs.YthmddmddcdofaaaDoor

namespace Go.Proofs.YthmddmddcdofaaaDoor
open Go.RowKit
set_option maxRecDepth 100000
/-- a heap of the call's own, and what a pointer v leads to lies apart, once l -/
def OwnF (w : World) (base : Nat) (v : Value) (l : Bool) (vc vr : Value) (h : Hp) : Prop := ∃ rvs, OwnHx w base vc vr rvs h ∧ ∀ g, l = true → v = .pointer (some ⟨g, 0, none⟩) → Apart (some g) (vc :: vr :: rvs)
section
variable {w w' : World} {base : Nat} {v vc vr : Value} {l l' : Bool} {h : Hp}
theorem OwnF.own (ho : OwnF w base v l vc vr h) : OwnH w base vc vr h := by
  obtain ⟨rvs, o, _⟩ := ho
  exact ⟨rvs, o⟩
theorem OwnF.below (ho : OwnF w base v l vc vr h) (hb : Below w.heap.size w w') : OwnF w' base v l vc vr h := by
  obtain ⟨rvs, o, a⟩ := ho
  exact ⟨rvs, o.below hb (Nat.le_refl _), a⟩
theorem OwnF.alloc (ho : OwnF w base v l vc vr h) (ob : Obj) : OwnF (w.alloc ob) base (.pointer (some ⟨w.heap.size, 0, none⟩)) l' vc vr h := by
  obtain ⟨rvs, o, a⟩ := ho
  refine ⟨rvs, o.below ((Below.refl _ _).alloc (Nat.le_refl _) _) (Nat.le_refl _), fun g _ e => ?_⟩
  injection e with e
  injection e with e
  injection e with e
  subst e
  exact o.apart_new (Nat.le_refl _)
theorem OwnF.new (ho : OwnH w base vc vr h) (hv : ∀ g, l = true → v = .pointer (some ⟨g, 0, none⟩) → g < base) : OwnF w base v l vc vr h := by
  obtain ⟨rvs, o⟩ := ho
  exact ⟨rvs, o, fun g hl e => o.apart_below (hv g hl e)⟩
theorem OwnF.put {g : Nat} (ho : OwnF w base (.pointer (some ⟨g, 0, none⟩)) l vc vr h) (hl : l = true) (u u' : Value) : OwnF ((w.setCell ⟨g, 0, none⟩ u).setCell ⟨g, 1, none⟩ u') base (.pointer (some ⟨g, 0, none⟩)) l vc vr h := by
  obtain ⟨rvs, o, a⟩ := ho
  exact ⟨rvs, (o.far (put_any w g 0 u) (a g hl rfl)).far (put_any _ g 1 u') (a g hl rfl), a⟩
end
/-- while a program runs: the heap so far in the box b -/
structure RunSt (w wr : World) (b : Nat) (vc vr : Value) (h : Hp) : Prop where
  own : ∃ rvs, OwnHx wr (w.heap.size + 1) vc vr rvs h ∧ Apart (some b) (vc :: vr :: rvs)
  box : Rw wr b 26 #[vc, vr]
  res : Rw wr w.heap.size 26 #[.slice none 0 0, .slice none 0 0]
  bel : Below w.heap.size w wr
  lo : w.heap.size + 1 ≤ b
theorem RunSt.next {w wr w5 : World} {b : Nat} {vc vr vc' vr' : Value} {h h' : Hp} (S : RunSt w wr b vc vr h) (B : Below wr.heap.size wr w5) (o : OwnH w5 wr.heap.size vc' vr' h') :
    RunSt w ((w5.setCell ⟨b, 0, none⟩ vc').setCell ⟨b, 1, none⟩ vr') b vc' vr' h' := by
  have hb := S.box.lt
  have hlo := S.lo
  obtain ⟨rvs, own⟩ := o
  have ap : Apart (some b) (vc' :: vr' :: rvs) := own.apart_below hb
  have x1 := S.box.keep B hb
  have x2 := S.res.keep B S.res.lt
  refine ⟨⟨rvs, ((own.far (put_any w5 b 0 vc') ap).far (put_any _ b 1 vr') ap).base (by omega), ap⟩, (x1.put 0 vc').put 1 vr', (x2.other (by omega) _).other (by omega) _, ?_, hlo⟩
  exact ((S.bel.trans (B.mono S.bel.size)).setCell (p := ⟨b, 0, none⟩) (by show w.heap.size ≤ b; omega) _).setCell (p := ⟨b, 1, none⟩) (by show w.heap.size ≤ b; omega) _
end Go.Proofs.YthmddmddcdofaaaDoor

namespace Go.Proofs.YthmddmddcdofaaaDoor
open Go.RowKit
set_option maxRecDepth 100000
/-- a heap of the call's own in the box b; what was there before the world w0 is as it was -/
structure BoxSt (w0 wr : World) (b : Nat) (vc vr : Value) (rvs : List Value) (h : Hp) : Prop where
  own : OwnHx wr w0.heap.size vc vr rvs h
  apart : Apart (some b) (vc :: vr :: rvs)
  box : Rw wr b 26 #[vc, vr]
  low : Below w0.heap.size w0 wr
  lo : w0.heap.size ≤ b
section
variable {w0 wr w1 : World} {b g c d i k : Nat} {vc vr : Value} {rvs : List Value} {h : Hp} {cl : Cl}
theorem BoxSt.up (S : BoxSt w0 wr b vc vr rvs h) (hw : Below wr.heap.size wr w1) : BoxSt w0 w1 b vc vr rvs h :=
  ⟨S.own.below hw (Nat.le_refl _), S.apart, S.box.keep hw S.box.lt, S.low.trans (hw.mono S.low.size), S.lo⟩
theorem BoxSt.drew (S : BoxSt w0 wr b vc vr rvs h) : BoxSt w0 wr.drew b vc vr rvs h := S.up (Below.refl _ _).drew
theorem BoxSt.into (S : BoxSt w0 wr b vc vr rvs h) {v : Value} (hv : v ∈ vc :: vr :: rvs) (hg : v.ownBlock = some g) {rvs' : List Value} {h' : Hp} (u : Value)
    (ho : OwnHx (wr.setCell ⟨g, i, none⟩ u) w0.heap.size vc vr rvs' h') (ha : ∀ v ∈ rvs', v.ownBlock = none ∨ v.ownBlock ≠ some b) : BoxSt w0 (wr.setCell ⟨g, i, none⟩ u) b vc vr rvs' h' := by
  have h1 := S.own.blocks hv hg
  have h2 : b ≠ g := by
    rcases S.apart v hv with e | e
    · rw [hg] at e; cases e
    · intro e'; rw [hg] at e; exact e (by rw [e'])
  refine ⟨ho, ?_, S.box.other h2 u, S.low.setCell (p := ⟨g, i, none⟩) (by show w0.heap.size ≤ g; omega) u, S.lo⟩
  intro x hx
  simp only [List.mem_cons] at hx
  rcases hx with rfl | rfl | hx
  · exact S.apart x (by simp)
  · exact S.apart x (by simp)
  · exact ha x hx
theorem BoxSt.root {m : Nat} (S : BoxSt w0 wr b vc (.slice (some ⟨g, 0, none⟩) m d) rvs h) (hm : h.rt.length = m) (x : Int) : BoxSt w0 (wr.setCell ⟨g, i, none⟩ (.int .i64 x)) b vc (.slice (some ⟨g, 0, none⟩) m d) rvs ⟨h.cs, h.rt.set i x⟩ := by
  subst hm
  exact S.into (v := .slice (some ⟨g, 0, none⟩) h.rt.length d) (by simp) rfl _ (S.own.root x) fun v hv => S.apart v (by simp [hv])
theorem BoxSt.data {n : Nat} (S : BoxSt w0 wr b (.slice (some ⟨g, 0, none⟩) n d) vr rvs h) (hn : h.cs.length = n) (hc : h.cs[k]? = some cl) (x : Int) : BoxSt w0 (wr.setCell ⟨g, k * 3 + 1, none⟩ (.int .i64 x)) b (.slice (some ⟨g, 0, none⟩) n d) vr rvs ⟨h.cs.set k ⟨cl.u, x, cl.r⟩, h.rt⟩ := by
  subst hn
  exact S.into (v := .slice (some ⟨g, 0, none⟩) h.cs.length d) (by simp) rfl _ (S.own.data hc x) fun v hv => S.apart v (by simp [hv])
theorem BoxSt.snoc {v9 v8 : Value} (S : BoxSt w0 wr b vc vr rvs h) (hG : wr.grownBy w1 vc.ownBlock)
    (o9 : w1.ownsRow w0.heap.size 40 3 v9 (h.cs.length + 1) (flatC h.cs rvs ++ [.bool cl.u, .int .i64 cl.d, v8])) (q : v9.ownBlock = vc.ownBlock ∨ v9.ownBlock = some wr.heap.size)
    (o8 : OwnI wr w0.heap.size v8 cl.r) (hap : ∀ v ∈ vc :: vr :: rvs, v8.ownBlock = none ∨ v8.ownBlock ≠ v.ownBlock) (h8b : v8.ownBlock ≠ some b) :
    BoxSt w0 (w1.setCell ⟨b, 0, none⟩ v9) b v9 vr (rvs ++ [v8]) ⟨h.cs ++ [cl], h.rt⟩ := by
  have hn := S.own.snoc hG o9 q o8 hap
  have hlo := S.lo
  have hbl := S.box.lt
  have hvcb : some b ≠ vc.ownBlock := by
    rcases S.apart vc (by simp) with e | e
    · rw [e]; simp
    · exact fun h => e h.symm
  have ap : Apart (some b) (v9 :: vr :: (rvs ++ [v8])) := by
    intro v hv
    simp only [List.mem_cons, List.mem_append, List.not_mem_nil, or_false] at hv
    rcases hv with rfl | rfl | hv | rfl
    · right
      rcases q with e | e
      · rw [e]; exact fun h => hvcb h.symm
      · rw [e]; intro e'; injection e' with e'; omega
    · exact S.apart v (by simp)
    · exact S.apart v (by simp [hv])
    · exact .inr h8b
  refine ⟨hn.far (put_any w1 b 0 v9) ap, ap, (Rw.far S.box hG hvcb).put 0 v9, ?_, hlo⟩
  exact (S.low.grown hG S.low.size (fun kk hk => (S.own.blocks (v := vc) (by simp) hk).1)).setCell (p := ⟨b, 0, none⟩) (by show w0.heap.size ≤ b; omega) _
theorem BoxSt.cell {n : Nat} {rv : Value} {old : Cl} (S : BoxSt w0 wr b (.slice (some ⟨g, 0, none⟩) n c) vr rvs h) (hn : h.cs.length = n) (hc : h.cs[k]? = some old) (o : OwnI wr w0.heap.size rv cl.r) (hap : ∀ v ∈ (Value.slice (some ⟨g, 0, none⟩) n c) :: vr :: rvs, rv.ownBlock = none ∨ rv.ownBlock ≠ v.ownBlock) (h8b : rv.ownBlock = none ∨ rv.ownBlock ≠ some b) :
    BoxSt w0 (((wr.setCell ⟨g, k * 3, none⟩ (.bool cl.u)).setCell ⟨g, k * 3 + 1, none⟩ (.int .i64 cl.d)).setCell ⟨g, k * 3 + 2, none⟩ rv) b (.slice (some ⟨g, 0, none⟩) n c) vr (rvs.set k rv) ⟨h.cs.set k cl, h.rt⟩ := by
  subst hn
  have hm : (Value.slice (some ⟨g, 0, none⟩) h.cs.length c) ∈ (Value.slice (some ⟨g, 0, none⟩) h.cs.length c) :: vr :: rvs := by simp
  have h1 : w0.heap.size ≤ g ∧ g < wr.heap.size := S.own.blocks hm rfl
  have h2 : b ≠ g := by
    rcases S.apart _ hm with e | e
    · cases e
    · intro e'; exact e (by rw [e']; rfl)
  refine ⟨S.own.cell hc o hap, ?_, ((S.box.other h2 _).other h2 _).other h2 _, ?_, S.lo⟩
  · intro x hx
    simp only [List.mem_cons] at hx
    rcases hx with rfl | rfl | hx
    · exact S.apart _ (by simp)
    · exact S.apart x (by simp)
    · rcases List.mem_or_eq_of_mem_set hx with hx | rfl
      · exact S.apart x (by simp [hx])
      · exact h8b
  · exact ((S.low.setCell (p := ⟨g, k * 3, none⟩) (by show w0.heap.size ≤ g; omega) _).setCell (p := ⟨g, k * 3 + 1, none⟩) (by show w0.heap.size ≤ g; omega) _).setCell (p := ⟨g, k * 3 + 2, none⟩) (by show w0.heap.size ≤ g; omega) _
theorem BoxSt.ownH (S : BoxSt w0 wr b vc vr rvs h) : OwnH wr w0.heap.size vc vr h := ⟨rvs, S.own⟩
theorem BoxSt.of {w1 : World} (o : OwnH w1 w0.heap.size vc vr h) (hb : Below w0.heap.size w0 w1) : ∃ rvs, BoxSt w0 (w1.alloc (.cells #[vc, vr] 26)) w1.heap.size vc vr rvs h := by
  obtain ⟨rvs, own⟩ := o
  exact ⟨rvs, own.below ((Below.refl _ _).alloc (Nat.le_refl _) _) (Nat.le_refl _), own.apart_new (Nat.le_refl _), Rw.new _ _ _, hb.alloc hb.size _, hb.size⟩
end
set_option maxHeartbeats 4000000 in
theorem l11Drop_any (A R D : Option Addr) (n c m d e : Nat) (h : Hp) (bs : List Bool) (w : World) (hs : HS w w.heap.size A n R m h) (ho : OS w w.heap.size D n bs) (hn : n ≤ 1000000) (hm : m ≤ 1000000) (h3 : ∀ cl ∈ h.cs, cl.r.length ≤ 1000000) :
    Calls Tryd.prog 77 #[heapV A n c R m d, .slice D n e] w (GaveH w (Hps.dropH h bs)) := by
  have hlc := hs.cells.1
  have hlr := hs.roots.1
  have hlb := ho.1
  have b2 : Below w.heap.size w ((w.alloc (.cells #[.slice A n c, .slice R m d] 26)).alloc (.cells #[.slice none 0 0, .slice none 0 0] 26)) := ((Below.refl w.heap.size w).alloc (Nat.le_refl _) _).alloc (by simp) _
  have s2 := hs.up b2
  have q2 := Rw.new (w.alloc (.cells #[.slice A n c, .slice R m d] 26)) 26 #[.slice none 0 0, .slice none 0 0]
  simp only [World.size_alloc] at q2
  have q1 := (Rw.new w 26 #[.slice A n c, .slice R m d]).alloc (.cells #[.slice none 0 0, .slice none 0 0] 26)
  have hz : ((w.alloc (.cells #[.slice A n c, .slice R m d] 26)).alloc (.cells #[.slice none 0 0, .slice none 0 0] 26)).heap.size = w.heap.size + 1 + 1 := by simp
  go_enter Tryd.func77, Tryd.ntmps77
  go_upto_region 1 with fail
  generalize (w.alloc (.cells #[.slice A n c, .slice R m d] 26)).alloc (.cells #[.slice none 0 0, .slice none 0 0] 26) = w0 at b2 s2 q1 q2 hz ⊢
  have HZ := Lib.hid hz
  clear hz
  have y0 : w0.cell? ⟨w.heap.size, 0, none⟩ = some (.slice A n c) := q1.cell 0
  have y1 : w0.cell? ⟨w.heap.size, 1, none⟩ = some (.slice R m d) := q1.cell 1
  go_wp2_with fail
  clear y0 y1 q1
  refine (l7Copy_any _ _ _ _ _ _ h _ s2 hn hm h3).mono ?_
  rintro e w1 ⟨vc, vr, rfl, oh, b1⟩
  obtain ⟨rvs, S0⟩ := BoxSt.of oh b1
  obtain ⟨Ac, cc, Rc, dc, rfl, rfl, -⟩ := oh.form
  rw [hlc, hlr] at S0 ⊢
  clear oh b1 s2 h3
  go_upto_region 2 with fail
  generalize w1.alloc (.cells #[.slice Ac n cc, .slice Rc m dc] 26) = w3 at S0 ⊢
  generalize w1.heap.size = b at S0 ⊢
  clear w1
  have HLC := Lib.hid hlc
  have HLB := Lib.hid hlb
  clear hlc hlb hlr
  go_wp2_with fail
  go_loopw [6] (fun i wr => ∃ (k : Nat) (rvs : List Value), k ≤ n ∧ i = .int .i64 k ∧ BoxSt w0 wr b (.slice Ac n cc) (.slice Rc m dc) rvs ⟨Hps.dropL h.cs (bs.take k), h.rt⟩) (fun i _ => n - (intOf i).toNat)
  case atStart => exact ⟨0, rvs, by omega, rfl, by rw [List.take_zero, Hps.dropL_nil]; exact S0⟩
  case round =>
    clear S0 rvs
    obtain ⟨k, rvs, hk, rfl, S⟩ := hrel
    have bw := b2.trans (S.low.mono b2.size)
    have x0 : wr.cell? ⟨b, 0, none⟩ = some (.slice Ac n cc) := S.box.cell 0
    have x1 : wr.cell? ⟨b, 1, none⟩ = some (.slice Rc m dc) := S.box.cell 1
    by_cases hlt : k < n
    · obtain ⟨g, o, bl, rfl, hg, hbl, c1⟩ := (ho.below bw).at_ hlt
      have hlt' : (k : Int) < n := by omega
      have hkl : k < h.cs.length := by rw [HLC.out]; exact hlt
      have HS := Lib.hid (Hps.dropL_succ hbl hkl)
      cases bl
      · clear hbl hkl
        have HS' := HS.out
        rw [if_neg (by simp)] at HS'
        have HS2 := Lib.hid HS'
        clear HS' HS
        go_wp2_with fail
        go_roundw
        case rel => exact ⟨k + 1, rvs, by omega, by go_num, by rw [HS2.out]; exact S⟩
        case measure => simp [intOf]; omega
      · have HS' := HS.out
        rw [if_pos rfl] at HS'
        have HS2 := Lib.hid HS'
        have hdl : (Hps.dropL h.cs (bs.take k)).length = n := by rw [Hps.dropL_len]; exact HLC.out
        obtain ⟨old, hold⟩ : ∃ old, (Hps.dropL h.cs (bs.take k))[k]? = some old := ⟨_, List.getElem?_eq_getElem (show k < _ by rw [hdl]; exact hlt)⟩
        obtain ⟨gc, v, e4, hgc1, hgc2, -, -, y0, y1, y2, fz⟩ := S.own.cell_at hold
        subst e4
        have f0 := fz (k * 3)
        have f1 := fz (k * 3 + 1)
        have f2 := fz (k * 3 + 2)
        have SN := S.cell (cl := Hps.zeroCl) (rv := .slice none 0 0) hdl hold (World.ownsRow_nil _ _ _ _) (fun _ _ => .inl rfl) (.inl rfl)
        rw [← HS2.out] at SN
        have SH := Lib.hid SN
        clear hbl hkl hold hdl S SN HS HS' HS2 fz
        go_wp2_with fail
        go_roundw
        case rel => exact ⟨k + 1, _, by omega, by go_num, SH.out⟩
        case measure => simp [intOf]; omega
    · obtain rfl : k = n := by omega
      have HE := Lib.hid (show Hps.dropL h.cs (bs.take k) = Hps.dropL h.cs bs by rw [List.take_of_length_le (by rw [HLB.out]; omega)])
      have q3 := q2.keep S.low q2.lt
      have r2 : wr.frozen? ⟨w.heap.size + 1, 0, none⟩ = false := q3.frozen 0
      have r3 : wr.frozen? ⟨w.heap.size + 1, 1, none⟩ = false := q3.frozen 1
      have r4 : wr.cell? ⟨w.heap.size + 1, 0, none⟩ = some (.slice none 0 0) := q3.cell 0
      have r5 : wr.cell? ⟨w.heap.size + 1, 1, none⟩ = some (.slice none 0 0) := q3.cell 1
      have r6 : ((wr.setCell ⟨w.heap.size + 1, 0, none⟩ (.slice Ac k cc)).setCell ⟨w.heap.size + 1, 1, none⟩ (.slice Rc m dc)).cell? ⟨w.heap.size + 1, 0, none⟩ = some (.slice Ac k cc) := ((q3.put 0 (.slice Ac k cc)).put 1 (.slice Rc m dc)).cell 0
      have r7 : ((wr.setCell ⟨w.heap.size + 1, 0, none⟩ (.slice Ac k cc)).setCell ⟨w.heap.size + 1, 1, none⟩ (.slice Rc m dc)).cell? ⟨w.heap.size + 1, 1, none⟩ = some (.slice Rc m dc) := ((q3.put 0 (.slice Ac k cc)).put 1 (.slice Rc m dc)).cell 1
      have D := Lib.hid (S.ownH.out (w := w) (g := w.heap.size + 1) q2.lt bw (by omega))
      clear S q2 q3
      go_wp2_with fail
      exact bodyPost_ret (v := .agg #[.slice Ac k cc, .slice Rc m dc]) (by simp [results, Tryd.results77, go_sem, *]) rfl ⟨_, _, rfl, by rw [Hps.dropH, ← HE.out]; exact D.out.1, D.out.2⟩
end Go.Proofs.YthmddmddcdofaaaDoor
namespace Go.Proofs.YthmddmddcdofaaaDoor
open Go.RowKit
set_option maxRecDepth 100000
/-- a heap of the call's own, and a number -/
def GaveHN (w : World) (h : Hp) (k : Int) (e : Ending) (w' : World) : Prop := ∃ vc vr, e = .returned (.tuple #[.agg #[vc, vr], .int .i64 k]) ∧ OwnH w' w.heap.size vc vr h ∧ Below w.heap.size w w'
namespace Hps
theorem sweepH_no {h : Hp} {bs : List Bool} (e : validH h = false ∨ bs.length ≠ h.cs.length) : sweepH h bs = (zeroH, -1) := by
  unfold sweepH
  rcases e with e | e <;> simp [e]
theorem sweepH_bad {h : Hp} {bs : List Bool} (h1 : validH h = true) (h2 : bs.length = h.cs.length) (h3 : validH (dropH h (bs.map (!·))) = false) : sweepH h bs = (zeroH, -1) := by simp [sweepH, h1, h2, h3]
theorem sweepH_ok {h : Hp} {bs : List Bool} (h1 : validH h = true) (h2 : bs.length = h.cs.length) (h3 : validH (dropH h (bs.map (!·))) = true) : sweepH h bs = (dropH h (bs.map (!·)), (freedTo h.cs bs h.cs.length : Int)) := by simp [sweepH, h1, h2, h3]
theorem freedTo_kept {cs : List Cl} {bs : List Bool} {k : Nat} (h : bs[k]? = some true) : freedTo cs bs (k + 1) = freedTo cs bs k := by simp [freedTo, h]
theorem freedTo_free {cs : List Cl} {bs : List Bool} {k : Nat} {c : Cl} (h : bs[k]? = some false) (hc : cs[k]? = some c) : freedTo cs bs (k + 1) = freedTo cs bs k + (if c.u = true then 1 else 0) := by
  have : usedAt cs k = c.u := by simp [usedAt, hc]
  simp [freedTo, h, this]
theorem not_succ {bs : List Bool} {k : Nat} {b : Bool} (h : bs[k]? = some b) : (bs.take (k + 1)).map (!·) = (bs.take k).map (!·) ++ [!b] := by
  rw [List.take_add_one, h]
  simp
end Hps
set_option maxHeartbeats 4000000 in
theorem mSweepCells_any (A R D : Option Addr) (n c m d q e : Nat) (h : Hp) (bs : List Bool) (w : World) (hs : HS w w.heap.size A n R m h) (ho : OS w w.heap.size D q bs) (hn : n ≤ 1099511627776) (hm : m ≤ 1099511627776) (hq : q ≤ 1099511627776) :
    Calls Tryd.prog 27 #[heapV A n c R m d, .slice D q e] w (GaveHN w (Hps.sweepH h bs).1 (Hps.sweepH h bs).2) := by
  have hlc := hs.cells.1
  have hlr := hs.roots.1
  have hlb := ho.1
  have b2 : Below w.heap.size w ((w.alloc (.cells #[.slice A n c, .slice R m d] 26)).alloc (.cells #[.slice none 0 0, .slice none 0 0] 26)) := ((Below.refl w.heap.size w).alloc (Nat.le_refl _) _).alloc (by simp) _
  have s2 := hs.up b2
  have q3 := Rw.new (w.alloc (.cells #[.slice A n c, .slice R m d] 26)) 26 #[.slice none 0 0, .slice none 0 0]
  simp only [World.size_alloc] at q3
  have q1 := (Rw.new w 26 #[.slice A n c, .slice R m d]).alloc (.cells #[.slice none 0 0, .slice none 0 0] 26)
  go_enter Tryd.func27, Tryd.ntmps27
  go_wp2_with fail
  refine (mHeapValid_any _ _ _ _ _ _ h _ s2 hn hm).mono ?_
  rintro e w1 ⟨rfl, b1⟩
  replace q1 := q1.keep b1 q1.lt
  replace q3 := q3.keep b1 q3.lt
  replace b2 := b2.trans (b1.mono b2.size)
  have hG : w.heap.size + 1 < w1.heap.size := q3.lt
  clear b1 s2
  cases hv : Hps.validH h
  · have HF := Lib.hid (Hps.sweepH_no (bs := bs) (.inl hv))
    have r2 : (w1).frozen? ⟨w.heap.size + 1, 0, none⟩ = false := q3.frozen 0
    have r3 : (w1).frozen? ⟨w.heap.size + 1, 1, none⟩ = false := q3.frozen 1
    have r4 : (w1).cell? ⟨w.heap.size + 1, 0, none⟩ = some (.slice none 0 0) := q3.cell 0
    have r5 : (w1).cell? ⟨w.heap.size + 1, 1, none⟩ = some (.slice none 0 0) := q3.cell 1
    have r6 : (((w1).setCell ⟨w.heap.size + 1, 0, none⟩ (.slice none 0 0)).setCell ⟨w.heap.size + 1, 1, none⟩ (.slice none 0 0)).cell? ⟨w.heap.size + 1, 0, none⟩ = some (.slice none 0 0) := ((q3.put 0 (.slice none 0 0)).put 1 (.slice none 0 0)).cell 0
    have r7 : (((w1).setCell ⟨w.heap.size + 1, 0, none⟩ (.slice none 0 0)).setCell ⟨w.heap.size + 1, 1, none⟩ (.slice none 0 0)).cell? ⟨w.heap.size + 1, 1, none⟩ = some (.slice none 0 0) := ((q3.put 0 (.slice none 0 0)).put 1 (.slice none 0 0)).cell 1
    have D := Lib.hid ((own_zeroH (w1) (w1).heap.size (Nat.le_refl _)).out (w := w) (g := w.heap.size + 1) q3.lt b2 (by omega))
    clear q1 q3 b2 hv
    go_wp2_with fail
    exact bodyPost_ret (v := .tuple #[.agg #[.slice none 0 0, .slice none 0 0], .int .i64 (-1)]) (by simp [results, Tryd.results27, go_sem, *]) rfl ⟨_, _, by rw [HF.out], by rw [HF.out]; exact D.out.1, D.out.2⟩
  have x0 : w1.cell? ⟨w.heap.size, 0, none⟩ = some (.slice A n c) := q1.cell 0
  have x1 : w1.cell? ⟨w.heap.size, 1, none⟩ = some (.slice R m d) := q1.cell 1
  by_cases hqn : q = n
  case neg =>
    have HF := Lib.hid (Hps.sweepH_no (h := h) (bs := bs) (.inr (by rw [hlb, hlc]; exact hqn)))
    have hne : ((q : Int) != n) = true := by rw [bne_iff_ne]; omega
    have r2 : (w1).frozen? ⟨w.heap.size + 1, 0, none⟩ = false := q3.frozen 0
    have r3 : (w1).frozen? ⟨w.heap.size + 1, 1, none⟩ = false := q3.frozen 1
    have r4 : (w1).cell? ⟨w.heap.size + 1, 0, none⟩ = some (.slice none 0 0) := q3.cell 0
    have r5 : (w1).cell? ⟨w.heap.size + 1, 1, none⟩ = some (.slice none 0 0) := q3.cell 1
    have r6 : (((w1).setCell ⟨w.heap.size + 1, 0, none⟩ (.slice none 0 0)).setCell ⟨w.heap.size + 1, 1, none⟩ (.slice none 0 0)).cell? ⟨w.heap.size + 1, 0, none⟩ = some (.slice none 0 0) := ((q3.put 0 (.slice none 0 0)).put 1 (.slice none 0 0)).cell 0
    have r7 : (((w1).setCell ⟨w.heap.size + 1, 0, none⟩ (.slice none 0 0)).setCell ⟨w.heap.size + 1, 1, none⟩ (.slice none 0 0)).cell? ⟨w.heap.size + 1, 1, none⟩ = some (.slice none 0 0) := ((q3.put 0 (.slice none 0 0)).put 1 (.slice none 0 0)).cell 1
    have D := Lib.hid ((own_zeroH (w1) (w1).heap.size (Nat.le_refl _)).out (w := w) (g := w.heap.size + 1) q3.lt b2 (by omega))
    clear q1 q3 b2 hv hqn
    go_wp2_with fail
    exact bodyPost_ret (v := .tuple #[.agg #[.slice none 0 0, .slice none 0 0], .int .i64 (-1)]) (by simp [results, Tryd.results27, go_sem, *]) rfl ⟨_, _, by rw [HF.out], by rw [HF.out]; exact D.out.1, D.out.2⟩
  subst hqn
  have hn40 : q ≤ 40 := by rw [← hlc]; exact (Hps.valid_iff.1 hv).2.1
  have hm4 : m = 4 := by rw [← hlr]; exact (Hps.valid_iff.1 hv).2.2.1
  have H3 := Lib.hid (fun cl (hcl : cl ∈ h.cs) => show cl.r.length ≤ 1000000 by have := (Hps.okCell_iff.1 ((Hps.valid_iff.1 hv).1 cl hcl)).2.2.1; omega)
  have HLB := Lib.hid (show bs.length = h.cs.length by rw [hlb, hlc])
  have HLC := Lib.hid hlc
  have HB := Lib.hid hlb
  have HV := Lib.hid hv
  have HM := Lib.hid hm4
  have o0 := own_noneO w1 w1.heap.size (Nat.le_refl _)
  have e0 : Below w1.heap.size w1 (w1.alloc (.cells #[] 4)) := (Below.refl _ _).alloc (Nat.le_refl _) _
  clear hlb hlc hlr hv hm4
  go_wp2_with fail
  go_loopw [6, 7, 8] (fun v f i wr => ∃ k : Nat, k ≤ q ∧ i = .int .i64 k ∧ f = .int .i64 (Hps.freedTo h.cs bs k) ∧ OwnO wr w1.heap.size v ((bs.take k).map (!·)) ∧ Below w1.heap.size w1 wr) (fun _ _ i _ => q - (intOf i).toNat)
  case atStart => exact ⟨0, by omega, rfl, rfl, by rw [List.take_zero]; exact o0, e0⟩
  case round =>
    clear o0 e0
    obtain ⟨k, hk, rfl, rfl, ow, bb⟩ := hrel
    have bw := b2.trans (bb.mono b2.size)
    have x0' : wr.cell? ⟨w.heap.size, 0, none⟩ = some (.slice A q c) := (q1.keep bb q1.lt).cell 0
    have x1' : wr.cell? ⟨w.heap.size, 1, none⟩ = some (.slice R m d) := (q1.keep bb q1.lt).cell 1
    obtain ⟨Av, cv, e1, -⟩ := ow.form
    have hlen : ((bs.take k).map (!·)).length = k := by rw [List.length_map, List.length_take, HB.out]; omega
    rw [hlen] at e1
    subst e1
    have hfl := Hps.freedTo_le h.cs bs k
    by_cases hlt : k < q
    · obtain ⟨g, o, bl, rfl, hg, hbl, c1⟩ := (ho.below bw).at_ hlt
      obtain ⟨g2, o2, cl, A', m', cc, rfl, hg2, hcl, d1, d2, d3, -, -⟩ := (hs.cells.below bw).at_ hlt
      have hlt' : (k : Int) < q := by omega
      have HN := Lib.hid (Hps.not_succ hbl)
      have ow2 := World.ownsRow.alloc ow (.cells #[.bool (!bl)] 4)
      have rr : OS (wr.alloc (.cells #[.bool (!bl)] 4)) (wr.alloc (.cells #[.bool (!bl)] 4)).heap.size (some ⟨wr.heap.size, 0, none⟩) 1 [!bl] := (own_oneO wr (!bl) 0 (Nat.zero_le _)).reads
      have bsz := bb.size
      have WB := Lib.hid (fun (w5 : World) (g5 : (wr.alloc (.cells #[.bool (!bl)] 4)).grownBy w5 (Value.slice Av k cv).ownBlock) => show Below w1.heap.size w1 w5 from (bb.alloc bb.size _).grown g5 (by simp; omega) (fun kk hk => (World.ownsRow.lt ow kk hk).1))
      have hgw := Nat.lt_of_lt_of_le hg (b2.size)
      have hgw2 := Nat.lt_of_lt_of_le hg2 (b2.size)
      have hq1 := q1.lt
      cases bl
      · have HFR := Lib.hid (Hps.freedTo_free hbl hcl)
        have y1 : w1.cell? ⟨g, o + k, none⟩ = some (.bool false) := (bb.cell (p := ⟨g, o + k, none⟩) hgw).symm.trans c1
        have y2 : w1.cell? ⟨g2, o2 + k * 3, none⟩ = some (.bool cl.u) := (bb.cell (p := ⟨g2, o2 + k * 3, none⟩) hgw2).symm.trans d1
        clear hbl hcl d2 d3 ow
        simp only [Bool.not_false] at ow2 rr WB HN
        cases hu : cl.u
        · rw [hu] at HFR d1 y2
          simp only [Bool.false_eq_true, if_false, Nat.add_zero] at HFR
          go_wp2_with (at_builtin; refine wpList_appendO rfl (.tmp 29) (.tmp 35) rfl w1.heap.size _ ((bs.take k).map (!·)) rfl ow2 (some ⟨wr.heap.size, 0, none⟩) 1 1 _ [true] rfl rr (by rw [hlen]; omega) (by simp; omega) ?_; intro v5 w5 o5 g5 s5; have BN := WB.out w5 g5; have c5 := (BN.cell (p := ⟨g, o + k, none⟩) hgw).trans y1; have y5 := (BN.cell (p := ⟨w.heap.size, 0, none⟩) (by show w.heap.size < w1.heap.size; omega)).trans x0; have e5 := (BN.cell (p := ⟨g2, o2 + k * 3, none⟩) hgw2).trans y2)
          go_roundw
          case rel => exact ⟨k + 1, by omega, by go_num, by rw [HFR.out], by rw [HN.out]; exact o5, BN⟩
          case measure => simp [intOf]; omega
        · rw [hu] at HFR d1 y2
          simp only [if_true] at HFR
          go_wp2_with (at_builtin; refine wpList_appendO rfl (.tmp 29) (.tmp 35) rfl w1.heap.size _ ((bs.take k).map (!·)) rfl ow2 (some ⟨wr.heap.size, 0, none⟩) 1 1 _ [true] rfl rr (by rw [hlen]; omega) (by simp; omega) ?_; intro v5 w5 o5 g5 s5; have BN := WB.out w5 g5; have c5 := (BN.cell (p := ⟨g, o + k, none⟩) hgw).trans y1; have y5 := (BN.cell (p := ⟨w.heap.size, 0, none⟩) (by show w.heap.size < w1.heap.size; omega)).trans x0; have e5 := (BN.cell (p := ⟨g2, o2 + k * 3, none⟩) hgw2).trans y2)
          go_roundw
          case rel => exact ⟨k + 1, by omega, by go_num, by rw [HFR.out]; go_num, by rw [HN.out]; exact o5, BN⟩
          case measure => simp [intOf]; omega
      · have HFR := Lib.hid (Hps.freedTo_kept (cs := h.cs) hbl)
        have y1 : w1.cell? ⟨g, o + k, none⟩ = some (.bool true) := (bb.cell (p := ⟨g, o + k, none⟩) hgw).symm.trans c1
        have y2 : w1.cell? ⟨g2, o2 + k * 3, none⟩ = some (.bool cl.u) := (bb.cell (p := ⟨g2, o2 + k * 3, none⟩) hgw2).symm.trans d1
        clear hbl hcl d2 d3 ow
        simp only [Bool.not_true] at ow2 rr WB HN
        go_wp2_with (at_builtin; refine wpList_appendO rfl (.tmp 29) (.tmp 35) rfl w1.heap.size _ ((bs.take k).map (!·)) rfl ow2 (some ⟨wr.heap.size, 0, none⟩) 1 1 _ [false] rfl rr (by rw [hlen]; omega) (by simp; omega) ?_; intro v5 w5 o5 g5 s5; have BN := WB.out w5 g5; have c5 := (BN.cell (p := ⟨g, o + k, none⟩) hgw).trans y1; have y5 := (BN.cell (p := ⟨w.heap.size, 0, none⟩) (by show w.heap.size < w1.heap.size; omega)).trans x0; have e5 := (BN.cell (p := ⟨g2, o2 + k * 3, none⟩) hgw2).trans y2)
        go_roundw
        case rel => exact ⟨k + 1, by omega, by go_num, by rw [HFR.out], by rw [HN.out]; exact o5, BN⟩
        case measure => simp [intOf]; omega
    · obtain rfl : k = q := by omega
      have ow' : OwnO wr w1.heap.size (.slice Av k cv) (bs.map (!·)) := by
        rw [List.take_of_length_le (by rw [HB.out]; omega)] at ow
        exact ow
      have rd := ow'.reads
      have hsr := hs.up bw
      clear ow hlen x0 x1
      go_wp2_with fail
      refine (l11Drop_any _ _ _ _ _ _ _ _ h (bs.map (!·)) _ hsr rd (by omega) (by have := HM.out; omega) H3.out).mono ?_
      rintro e w5 ⟨vc, vr, rfl, oh, b5⟩
      have b6 := bw.trans (b5.mono bw.size)
      have q3 := (q3.keep bb q3.lt).keep b5 (q3.keep bb q3.lt).lt
      obtain ⟨rvs, S⟩ := BoxSt.of oh b5
      obtain ⟨Ac, cc, Rc, dc, rfl, rfl, -⟩ := oh.form
      have hlx : (Hps.dropH h (bs.map (!·))).cs.length = k := by rw [Hps.dropH, Hps.dropL_len]; exact HLC.out
      have hrx : (Hps.dropH h (bs.map (!·))).rt.length = m := hsr.roots.1
      rw [hlx, hrx] at oh S ⊢
      have b7 : Below w.heap.size w (w5.alloc (.cells #[.slice Ac k cc, .slice Rc m dc] 26)) := b6.alloc b6.size _
      replace q3 := q3.alloc (.cells #[.slice Ac k cc, .slice Rc m dc] 26)
      clear oh b5 b6 hsr x0' x1' rd ow'
      go_upto_region 12 with fail
      generalize w5.alloc (.cells #[.slice Ac k cc, .slice Rc m dc] 26) = w6 at S b7 q3 ⊢
      generalize w5.heap.size = b at S ⊢
      have z0 : w6.cell? ⟨b, 0, none⟩ = some (.slice Ac k cc) := S.box.cell 0
      have z1 : w6.cell? ⟨b, 1, none⟩ = some (.slice Rc m dc) := S.box.cell 1
      have hsx := S.own.reads
      go_wp2_with fail
      refine (mHeapValid_any _ _ _ _ _ _ _ _ hsx (by omega) (by have := HM.out; omega)).mono ?_
      rintro e w7 ⟨rfl, b8⟩
      replace q3 := q3.keep b8 q3.lt
      replace S := S.up b8
      replace b7 := b7.trans (b8.mono b7.size)
      clear hsx b8 z0 z1
      cases hv2 : Hps.validH (Hps.dropH h (bs.map (!·)))
      · have HF := Lib.hid (Hps.sweepH_bad HV.out HLB.out hv2)
        have r2 : (w7).frozen? ⟨w.heap.size + 1, 0, none⟩ = false := q3.frozen 0
        have r3 : (w7).frozen? ⟨w.heap.size + 1, 1, none⟩ = false := q3.frozen 1
        have r4 : (w7).cell? ⟨w.heap.size + 1, 0, none⟩ = some (.slice none 0 0) := q3.cell 0
        have r5 : (w7).cell? ⟨w.heap.size + 1, 1, none⟩ = some (.slice none 0 0) := q3.cell 1
        have r6 : (((w7).setCell ⟨w.heap.size + 1, 0, none⟩ (.slice none 0 0)).setCell ⟨w.heap.size + 1, 1, none⟩ (.slice none 0 0)).cell? ⟨w.heap.size + 1, 0, none⟩ = some (.slice none 0 0) := ((q3.put 0 (.slice none 0 0)).put 1 (.slice none 0 0)).cell 0
        have r7 : (((w7).setCell ⟨w.heap.size + 1, 0, none⟩ (.slice none 0 0)).setCell ⟨w.heap.size + 1, 1, none⟩ (.slice none 0 0)).cell? ⟨w.heap.size + 1, 1, none⟩ = some (.slice none 0 0) := ((q3.put 0 (.slice none 0 0)).put 1 (.slice none 0 0)).cell 1
        have D := Lib.hid ((own_zeroH (w7) (w7).heap.size (Nat.le_refl _)).out (w := w) (g := w.heap.size + 1) q3.lt b7 (by omega))
        clear S q3 b7 hv2 q1 b2 bb bw hfl
        go_wp2_with fail
        exact bodyPost_ret (v := .tuple #[.agg #[.slice none 0 0, .slice none 0 0], .int .i64 (-1)]) (by simp [results, Tryd.results27, go_sem, *]) rfl ⟨_, _, by rw [HF.out], by rw [HF.out]; exact D.out.1, D.out.2⟩
      · have HF := Lib.hid (Hps.sweepH_ok HV.out HLB.out hv2)
        rw [HLC.out] at HF
        have z0 : w7.cell? ⟨b, 0, none⟩ = some (.slice Ac k cc) := S.box.cell 0
        have z1 : w7.cell? ⟨b, 1, none⟩ = some (.slice Rc m dc) := S.box.cell 1
        have r2 : (w7).frozen? ⟨w.heap.size + 1, 0, none⟩ = false := q3.frozen 0
        have r3 : (w7).frozen? ⟨w.heap.size + 1, 1, none⟩ = false := q3.frozen 1
        have r4 : (w7).cell? ⟨w.heap.size + 1, 0, none⟩ = some (.slice none 0 0) := q3.cell 0
        have r5 : (w7).cell? ⟨w.heap.size + 1, 1, none⟩ = some (.slice none 0 0) := q3.cell 1
        have r6 : (((w7).setCell ⟨w.heap.size + 1, 0, none⟩ (.slice Ac k cc)).setCell ⟨w.heap.size + 1, 1, none⟩ (.slice Rc m dc)).cell? ⟨w.heap.size + 1, 0, none⟩ = some (.slice Ac k cc) := ((q3.put 0 (.slice Ac k cc)).put 1 (.slice Rc m dc)).cell 0
        have r7 : (((w7).setCell ⟨w.heap.size + 1, 0, none⟩ (.slice Ac k cc)).setCell ⟨w.heap.size + 1, 1, none⟩ (.slice Rc m dc)).cell? ⟨w.heap.size + 1, 1, none⟩ = some (.slice Rc m dc) := ((q3.put 0 (.slice Ac k cc)).put 1 (.slice Rc m dc)).cell 1
        have D := Lib.hid (S.ownH.out (w := w) (g := w.heap.size + 1) (by have := bb.size; omega) b7 (by omega))
        clear S q3 b7 hv2 q1 b2 bb bw hfl
        go_wp2_with fail
        exact bodyPost_ret (v := .tuple #[.agg #[.slice Ac k cc, .slice Rc m dc], .int .i64 (Hps.freedTo h.cs bs k : Int)]) (by simp [results, Tryd.results27, go_sem, *]) rfl ⟨_, _, by rw [HF.out], by rw [HF.out]; exact D.out.1, D.out.2⟩
end Go.Proofs.YthmddmddcdofaaaDoor
namespace Go.Proofs.YthmddmddcdofaaaDoor
open Go.RowKit
set_option maxRecDepth 100000
theorem OwnO.slices {w : World} {base : Nat} {v : Value} {xs : List Bool} (h : OwnO w base v xs) : ∃ A n c, v = .slice A n c := by
  obtain ⟨A, c, e, -⟩ := h.form
  exact ⟨A, _, c, e⟩
theorem OwnH.put {w : World} {base g : Nat} {vc vr : Value} {h : Hp} (ho : OwnH w base vc vr h) (hg : g < base) (u u' : Value) : OwnH ((w.setCell ⟨g, 0, none⟩ u).setCell ⟨g, 1, none⟩ u') base vc vr h := by
  obtain ⟨rvs, own⟩ := ho
  have ap : Apart (some g) (vc :: vr :: rvs) := own.apart_below hg
  exact ⟨rvs, (own.far (put_any w g 0 u) ap).far (put_any _ g 1 u') ap⟩
theorem OwnO.put2 {w : World} {base g : Nat} {v : Value} {xs : List Bool} (h : OwnO w base v xs) (hg : g < base) (u u' : Value) : OwnO ((w.setCell ⟨g, 0, none⟩ u).setCell ⟨g, 1, none⟩ u') base v xs := by
  have ne : v.ownBlock = none ∨ v.ownBlock ≠ some g := by
    cases e : v.ownBlock with
    | none => exact .inl rfl
    | some k => right; intro e'; injection e' with e'; have := (World.ownsRow.lt h k e).1; omega
  exact (h.far (put_any w g 0 u) ne).far (put_any _ g 1 u') ne
set_option maxRecDepth 100000 in
set_option maxHeartbeats 4000000 in
theorem mCollectSweep_any (A R : Option Addr) (n c m d : Nat) (h : Hp) (w : World) (hs : HS w w.heap.size A n R m h) (hn : n ≤ 1099511627776) (hm : m ≤ 1099511627776) :
    Calls Tryd.prog 32 #[heapV A n c R m d] w (GaveHN w (Hps.collectH h).1 (Hps.collectH h).2) := by
  have b2 : Below w.heap.size w ((w.alloc (.cells #[.slice A n c, .slice R m d] 26)).alloc (.cells #[.slice none 0 0, .slice none 0 0] 26)) := ((Below.refl w.heap.size w).alloc (Nat.le_refl _) _).alloc (by simp) _
  have q3 := Rw.new (w.alloc (.cells #[.slice A n c, .slice R m d] 26)) 26 #[.slice none 0 0, .slice none 0 0]
  simp only [World.size_alloc] at q3
  have q1 := (Rw.new w 26 #[.slice A n c, .slice R m d]).alloc (.cells #[.slice none 0 0, .slice none 0 0] 26)
  have hz : w.heap.size + 1 + 1 ≤ ((w.alloc (.cells #[.slice A n c, .slice R m d] 26)).alloc (.cells #[.slice none 0 0, .slice none 0 0] 26)).heap.size := by simp
  obtain ⟨rm, hrm⟩ : ∃ rm, Hps.reachH h = rm := ⟨_, rfl⟩
  obtain ⟨h2, hh2⟩ : ∃ h2, (Hps.collectH h).1 = h2 := ⟨_, rfl⟩
  obtain ⟨kk, hkk⟩ : ∃ kk, (Hps.collectH h).2 = kk := ⟨_, rfl⟩
  have hrl : rm.length ≤ 1099511627776 := by
    rw [← hrm, Hps.reachH]
    split
    · rw [Hps.reachL_len, hs.cells.1]; exact hn
    · simp
  have C1 := Lib.hid (fun (ww : World) (hh : HS ww ww.heap.size A n R m h) => by
    have := mReachable_any A R n c m d h ww hh hn hm
    rw [hrm] at this
    exact this)
  have C2 := Lib.hid (fun (ww : World) (Av : Option Addr) (nv cv : Nat) (hh : HS ww ww.heap.size A n R m h) (oo : OS ww ww.heap.size Av nv rm) => by
    have := mSweepCells_any A R Av n c m d nv cv h rm ww hh oo hn hm (by rw [← oo.1]; exact hrl)
    rw [show Hps.sweepH h rm = Hps.collectH h by rw [Hps.collectH, hrm], hh2, hkk] at this
    exact this)
  rw [hh2, hkk]
  clear hrm hh2 hkk hrl
  go_enter Tryd.func32, Tryd.ntmps32
  go_upto_region 1 with fail
  generalize (w.alloc (.cells #[.slice A n c, .slice R m d] 26)).alloc (.cells #[.slice none 0 0, .slice none 0 0] 26) = w0 at b2 q1 q3 hz ⊢
  refine wp_region_inv (by kernel_rfl) (by kernel_rfl) (fun L ac ww => ∃ t3 t4 t5 t6 t7 t8 t9 : Value, ac = { tmps := #[heapV A n c R m d, Value.pointer (some { block := w.heap.size, off := 0 }), Value.pointer (some { block := w.heap.size + 1, off := 0 }), t3, t4, t5, t6, t7, t8, t9], defers := [] } ∧ (Below (w.heap.size + 1) w0 ww) ∧ (∃ z0 z1 : Value, Rw ww (w.heap.size + 1) 26 #[z0, z1]) ∧ (L 4 = true → L 3 = true) ∧ (L 0 = true → t4 = .agg #[.slice A n c, .slice R m d]) ∧ (L 1 = true → t5 = .agg #[.slice A n c, .slice R m d]) ∧ (L 2 = true → ∃ (Av : Option Addr) (nv cv : Nat), t6 = .slice Av nv cv ∧ OwnO ww w0.heap.size (.slice Av nv cv) rm) ∧ (L 3 = true → ∃ (A5 : Option Addr) (n5 c5 : Nat) (R5 : Option Addr) (m5 d5 : Nat), t7 = .tuple #[.agg #[.slice A5 n5 c5, .slice R5 m5 d5], .int .i64 kk] ∧ OwnH ww w0.heap.size (.slice A5 n5 c5) (.slice R5 m5 d5) h2) ∧ (L 4 = true → ∃ (A5 : Option Addr) (n5 c5 : Nat) (R5 : Option Addr) (m5 d5 : Nat), t7 = .tuple #[.agg #[.slice A5 n5 c5, .slice R5 m5 d5], .int .i64 kk] ∧ t8 = .agg #[.slice A5 n5 c5, .slice R5 m5 d5]) ∧ (L 5 = true → t9 = .int .i64 kk) ∧ (L 6 = true → ∃ (A5 : Option Addr) (n5 c5 : Nat) (R5 : Option Addr) (m5 d5 : Nat), Rw ww (w.heap.size + 1) 26 #[.slice A5 n5 c5, .slice R5 m5 d5] ∧ OwnH ww w0.heap.size (.slice A5 n5 c5) (.slice R5 m5 d5) h2) ∧ (L 7 = true → t3 = .int .i64 kk)) ?h0 ?hstep ?hdone
  case h0 => exact ⟨_, _, _, _, _, _, _, rfl, (Below.refl _ _).drew, ⟨_, _, q3⟩, fun h => absurd h Bool.false_ne_true, (fun h => absurd h Bool.false_ne_true), (fun h => absurd h Bool.false_ne_true), (fun h => absurd h Bool.false_ne_true), (fun h => absurd h Bool.false_ne_true), (fun h => absurd h Bool.false_ne_true), (fun h => absurd h Bool.false_ne_true), (fun h => absurd h Bool.false_ne_true), (fun h => absurd h Bool.false_ne_true)⟩
  case hstep =>
    rintro L ac ww i o ho hL hd ⟨t3, t4, t5, t6, t7, t8, t9, rfl, I0, I1, I2, f0, f1, f2, f3, f4, f5, f6, f7⟩
    have hi : i < 8 := (Array.getElem?_eq_some_iff.1 ho).1
    obtain rfl | rfl | rfl | rfl | rfl | rfl | rfl | rfl : i = 0 ∨ i = 1 ∨ i = 2 ∨ i = 3 ∨ i = 4 ∨ i = 5 ∨ i = 6 ∨ i = 7 := by omega
    · obtain rfl := Option.some.inj ho
      have y0 : ww.cell? ⟨w.heap.size, 0, none⟩ = some (.slice A n c) := (I0.cell (p := ⟨w.heap.size, 0, none⟩) (Nat.lt_succ_self _)).trans (q1.cell 0)
      have y1 : ww.cell? ⟨w.heap.size, 1, none⟩ = some (.slice R m d) := (I0.cell (p := ⟨w.heap.size, 1, none⟩) (Nat.lt_succ_self _)).trans (q1.cell 1)
      refine wpOp_step rfl (fun K' hK => ?_)
      go_simp
      refine hK _ _ ?_
      exact ⟨_, _, _, _, _, _, _, rfl, (I0), (I1), (fun h => upd_mono (I2 (upd_ne h (by decide)))), (fun _ => rfl), (kp f1), (kp f2), (kp f3), (kp f4), (kp f5), (kp f6), (kp f7)⟩
    · obtain rfl := Option.some.inj ho
      have y0 : ww.cell? ⟨w.heap.size, 0, none⟩ = some (.slice A n c) := (I0.cell (p := ⟨w.heap.size, 0, none⟩) (Nat.lt_succ_self _)).trans (q1.cell 0)
      have y1 : ww.cell? ⟨w.heap.size, 1, none⟩ = some (.slice R m d) := (I0.cell (p := ⟨w.heap.size, 1, none⟩) (Nat.lt_succ_self _)).trans (q1.cell 1)
      refine wpOp_step rfl (fun K' hK => ?_)
      go_simp
      refine hK _ _ ?_
      exact ⟨_, _, _, _, _, _, _, rfl, (I0), (I1), (fun h => upd_mono (I2 (upd_ne h (by decide)))), (kp f0), (fun _ => rfl), (kp f2), (kp f3), (kp f4), (kp f5), (kp f6), (kp f7)⟩
    · obtain rfl := Option.some.inj ho
      have g1 := f1 (hd ⟨1, .data⟩ (by simp) rfl)
      subst g1
      refine wpOp_step rfl (fun K' hK => ?_)
      go_simp
      have hsw : HS ww ww.heap.size A n R m h := hs.up (b2.trans (I0.mono (Nat.le_succ _)))
      refine (C1.out ww hsw).mono ?_
      rintro e w' ⟨v1, rfl, oo, b5⟩
      obtain ⟨Av, nv, cv, rfl⟩ := oo.slices
      have hsz := I0.size
      obtain ⟨z0, z1, hz1⟩ := I1
      refine hK _ _ ?_
      exact ⟨_, _, _, _, _, _, _, rfl, (I0.trans (b5.mono (Nat.le_trans (by omega) hsz))), (⟨z0, z1, hz1.keep b5 hz1.lt⟩), (fun h => upd_mono (I2 (upd_ne h (by decide)))), (kp f0), (kp f1), (fun _ => ⟨_, _, _, rfl, oo.base hsz⟩), (fun h => by
        obtain ⟨A5, n5, c5, R5, m5, d5, r5, o5⟩ := f3 (upd_ne h (by decide))
        exact ⟨A5, n5, c5, R5, m5, d5, r5, o5.below b5 (Nat.le_refl _)⟩), (kp f4), (kp f5), (fun h => by
        obtain ⟨A5, n5, c5, R5, m5, d5, r5, o5⟩ := f6 (upd_ne h (by decide))
        exact ⟨A5, n5, c5, R5, m5, d5, r5.keep b5 r5.lt, o5.below b5 (Nat.le_refl _)⟩), (kp f7)⟩
    · obtain rfl := Option.some.inj ho
      have g0 := f0 (hd ⟨0, .data⟩ (by simp) rfl)
      have g2 := f2 (hd ⟨2, .data⟩ (by simp) rfl)
      subst g0
      obtain ⟨Av, nv, cv, rfl, o2⟩ := g2
      refine wpOp_step rfl (fun K' hK => ?_)
      go_simp
      have hsw : HS ww ww.heap.size A n R m h := hs.up (b2.trans (I0.mono (Nat.le_succ _)))
      refine (C2.out ww Av nv cv hsw o2.reads).mono ?_
      rintro e w' ⟨v1, v2, rfl, oh, b5⟩
      obtain ⟨A5, n5, c5, R5, m5, d5, rfl, rfl⟩ := oh.slices
      have hsz := I0.size
      obtain ⟨z0, z1, hz1⟩ := I1
      refine hK _ _ ?_
      exact ⟨_, _, _, _, _, _, _, rfl, (I0.trans (b5.mono (Nat.le_trans (by omega) hsz))), (⟨z0, z1, hz1.keep b5 hz1.lt⟩), (fun h => upd_mono (I2 (upd_ne h (by decide)))), (kp f0), (kp f1), (fun h => ⟨Av, nv, cv, rfl, o2.below b5 (Nat.le_refl _)⟩), (fun _ => ⟨_, _, _, _, _, _, rfl, oh.base hsz⟩), (fun h => absurd (I2 (upd_ne h (by decide))) (by rw [hL]; simp)), (kp f5), (fun h => by
        obtain ⟨A5, n5, c5, R5, m5, d5, r5, o5⟩ := f6 (upd_ne h (by decide))
        exact ⟨A5, n5, c5, R5, m5, d5, r5.keep b5 r5.lt, o5.below b5 (Nat.le_refl _)⟩), (kp f7)⟩
    · obtain rfl := Option.some.inj ho
      have g3 := f3 (hd ⟨3, .data⟩ (by simp) rfl)
      obtain ⟨A5, n5, c5, R5, m5, d5, rfl, o3⟩ := g3
      refine wpOp_step rfl (fun K' hK => ?_)
      go_simp
      refine hK _ _ ?_
      exact ⟨_, _, _, _, _, _, _, rfl, (I0), (I1), (fun _ => upd_mono (hd ⟨3, .data⟩ (by simp) rfl)), (kp f0), (kp f1), (kp f2), (fun _ => ⟨_, _, _, _, _, _, rfl, o3⟩), (fun _ => ⟨_, _, _, _, _, _, rfl, rfl⟩), (kp f5), (kp f6), (kp f7)⟩
    · obtain rfl := Option.some.inj ho
      have g3 := f3 (hd ⟨3, .data⟩ (by simp) rfl)
      obtain ⟨A5, n5, c5, R5, m5, d5, rfl, o3⟩ := g3
      refine wpOp_step rfl (fun K' hK => ?_)
      go_simp
      refine hK _ _ ?_
      exact ⟨_, _, _, _, _, _, _, rfl, (I0), (I1), (fun h => upd_mono (I2 (upd_ne h (by decide)))), (kp f0), (kp f1), (kp f2), (fun _ => ⟨_, _, _, _, _, _, rfl, o3⟩), (kp f4), (fun _ => rfl), (kp f6), (kp f7)⟩
    · obtain rfl := Option.some.inj ho
      have g4 := f4 (hd ⟨4, .data⟩ (by simp) rfl)
      have g3 := f3 (hd ⟨3, .chain⟩ (by simp) rfl)
      obtain ⟨A5, n5, c5, R5, m5, d5, rfl, rfl⟩ := g4
      obtain ⟨A6, n6, c6, R6, m6, d6, e6, oo⟩ := g3
      injection e6 with e6
      simp at e6
      obtain ⟨⟨rfl, rfl, rfl⟩, rfl, rfl, rfl⟩ := e6
      obtain ⟨z0, z1, hz1⟩ := I1
      have u0 := hz1.cell 0
      have u1 := hz1.cell 1
      have u2 := hz1.frozen 0
      have u3 := hz1.frozen 1
      simp at u0 u1
      refine wpOp_step rfl (fun K' hK => ?_)
      go_simp
      refine hK _ _ ?_
      exact ⟨_, _, _, _, _, _, _, rfl, ((I0.setCell (p := ⟨w.heap.size + 1, 0, none⟩) (Nat.le_refl _) _).setCell (p := ⟨w.heap.size + 1, 1, none⟩) (Nat.le_refl _) _), (⟨_, _, (hz1.put 0 _).put 1 _⟩), (fun h => upd_mono (I2 (upd_ne h (by decide)))), (kp f0), (kp f1), (fun h => by
        obtain ⟨Av, nv, cv, e, o2⟩ := f2 (upd_ne h (by decide))
        exact ⟨Av, nv, cv, e, o2.put2 (by omega) _ _⟩), (fun h => ⟨_, _, _, _, _, _, rfl, oo.put (by omega) _ _⟩), (kp f4), (kp f5), (fun _ => ⟨_, _, _, _, _, _, (hz1.put 0 _).put 1 _, oo.put (by omega) _ _⟩), (kp f7)⟩
    · obtain rfl := Option.some.inj ho
      have g5 := f5 (hd ⟨5, .data⟩ (by simp) rfl)
      subst g5
      refine wpOp_step rfl (fun K' hK => ?_)
      go_simp
      refine hK _ _ ?_
      exact ⟨_, _, _, _, _, _, _, rfl, (I0), (I1), (fun h => upd_mono (I2 (upd_ne h (by decide)))), (kp f0), (kp f1), (kp f2), (kp f3), (kp f4), (kp f5), (kp f6), (fun _ => rfl)⟩
  case hdone =>
    rintro L ac ww hall ⟨t3, t4, t5, t6, t7, t8, t9, rfl, I0, I1, I2, f0, f1, f2, f3, f4, f5, f6, f7⟩
    have e0 := f0 (hall 0 (by decide))
    have e1 := f1 (hall 1 (by decide))
    have e2 := f2 (hall 2 (by decide))
    have e3 := f3 (hall 3 (by decide))
    have e4 := f4 (hall 4 (by decide))
    have e5 := f5 (hall 5 (by decide))
    have e6 := f6 (hall 6 (by decide))
    have e7 := f7 (hall 7 (by decide))
    clear f0 f1 f2 f3 f4 f5 f6 f7
    obtain ⟨A5, n5, c5, R5, m5, d5, r5, o5⟩ := e6
    have r6 := r5.cell 0
    have r7 := r5.cell 1
    simp at r6 r7
    have bf : Below w.heap.size w ww := b2.trans (I0.mono (Nat.le_succ _))
    have of := o5.base (base' := w.heap.size) (by omega)
    clear e0 e1 e2 e3 e4 e5 I1 I2 C1 C2 q1 q3 hs o5 r5
    go_wp2_with fail
    exact bodyPost_ret (v := .tuple #[.agg #[.slice A5 n5 c5, .slice R5 m5 d5], .int .i64 kk]) (by simp [results, Tryd.results32, go_sem, *]) rfl ⟨_, _, rfl, of, bf⟩
end Go.Proofs.YthmddmddcdofaaaDoor

namespace Go.Proofs.YthmddmddcdofaaaDoor
open Go.RowKit
set_option maxRecDepth 100000
/-- the value v owns the numbers xs: a row that begins somewhere in a block, from block 'base' on -/
def OwnQ (w : World) (base : Nat) (v : Value) (xs : List Int) : Prop :=
  (v = .slice none 0 0 ∧ xs = []) ∨ ∃ g o cap cur, v = .slice (some ⟨g, o, none⟩) xs.length cap ∧ base ≤ g ∧ w.heap[g]? = some (.cells cur 3 (0, 0)) ∧ xs.length ≤ cap ∧ o + cap ≤ cur.size ∧ cap ≤ 9223372036854775807 ∧ ∀ (k : Nat) (u : Int), xs[k]? = some u → cur[o + k]? = some (.int .i64 u)
section
variable {w w' : World} {bs bs' B : Nat} {v : Value} {xs ys : List Int}
theorem OwnI.queue (h : OwnI w bs v xs) : OwnQ w bs v xs := by
  rcases h.2 with ⟨rfl, h0⟩ | ⟨g, cap, cur, rfl, hb, hh, hnc, hcap, hsz, hx⟩
  · exact .inl ⟨rfl, List.eq_nil_of_length_eq_zero h0⟩
  · refine .inr ⟨g, 0, cap, cur, rfl, hb, hh, hnc, by omega, by unfold maxLen at hcap; omega, fun k u hk => ?_⟩
    have h1 : (xs.map (Value.int .i64))[k]? = some (.int .i64 u) := by rw [List.getElem?_map, hk]; rfl
    rw [← hx, List.getElem?_take] at h1
    split at h1
    · rw [Nat.zero_add]; simpa using h1
    · cases h1
theorem OwnQ.lt (h : OwnQ w bs v xs) : ∀ k, v.ownBlock = some k → bs ≤ k ∧ k < w.heap.size := by
  intro k hk
  rcases h with ⟨rfl, _⟩ | ⟨g, o, cap, cur, rfl, hb, hh, _⟩
  · cases hk
  · obtain rfl : g = k := Option.some.inj hk
    exact ⟨hb, (Array.getElem?_eq_some_iff.1 hh).1⟩
theorem OwnQ.kept {row : Option Nat} (h : OwnQ w bs v xs) (hg : w.grownBy w' row) (hne : v.ownBlock = none ∨ v.ownBlock ≠ row) : OwnQ w' bs v xs := by
  rcases h with h0 | ⟨g, o, cap, cur, rfl, hb, hh, hr⟩
  · exact .inl h0
  · refine .inr ⟨g, o, cap, cur, rfl, hb, (hg.block g (Array.getElem?_eq_some_iff.1 hh).1 fun e => ?_).trans hh, hr⟩
    rcases hne with h1 | h1
    · cases h1
    · exact h1 e
theorem OwnQ.below (h : OwnQ w bs v xs) (hb : Below B w w') (hB : w.heap.size ≤ B) : OwnQ w' bs v xs := by
  rcases h with h0 | ⟨g, o, cap, cur, e, hb', hh, hr⟩
  · exact .inl h0
  · exact .inr ⟨g, o, cap, cur, e, hb', (hb.block g (Nat.lt_of_lt_of_le (Array.getElem?_eq_some_iff.1 hh).1 hB)).trans hh, hr⟩
theorem OwnQ.base (h : OwnQ w bs v xs) (hb : bs' ≤ bs) : OwnQ w bs' v xs := by
  rcases h with h0 | ⟨g, o, cap, cur, e, hb', hr⟩
  · exact .inl h0
  · exact .inr ⟨g, o, cap, cur, e, by omega, hr⟩
theorem OwnQ.form (h : OwnQ w bs v xs) : ∃ A c, v = .slice A xs.length c := by
  rcases h with ⟨rfl, rfl⟩ | ⟨g, o, cap, cur, rfl, _⟩
  · exact ⟨none, 0, rfl⟩
  · exact ⟨_, _, rfl⟩
end
end Go.Proofs.YthmddmddcdofaaaDoor

namespace Go.Proofs.YthmddmddcdofaaaDoor
open Go.RowKit
set_option maxRecDepth 100000
/-- what lies beside a heap in its box: nothing, or a row of numbers of the call's own, and blocks that stay as they are -/
abbrev Beside := Option (Value × List Int × List (Nat × TypeId × Array Value))
def Beside.cells (K : Beside) (vc vr : Value) : Array Value := match K with
  | none => #[vc, vr]
  | some p => #[vc, vr, p.1]
/-- a block is one of those -/
def Beside.Has (K : Beside) (g : Nat) : Prop := ∃ p, K = some p ∧ (p.1.ownBlock = some g ∨ ∃ e ∈ p.2.2, e.1 = g)
structure Beside.Ok (K : Beside) (w0 wr : World) (b : Nat) (vs : List Value) : Prop where
  row : ∀ p, K = some p → OwnQ wr w0.heap.size p.1 p.2.1
  kept : ∀ p, K = some p → ∀ e ∈ p.2.2, Rw wr e.1 e.2.1 e.2.2 ∧ p.1.ownBlock ≠ some e.1
  apart : ∀ g, K.Has g → g ≠ b ∧ ∀ v ∈ vs, v.ownBlock ≠ some g
theorem Beside.ok_none (w0 wr : World) (b : Nat) (vs : List Value) : Beside.Ok none w0 wr b vs := ⟨fun _ e => (nomatch e), fun _ e => (nomatch e), fun _ ⟨_, e, _⟩ => (nomatch e)⟩
/-- a heap of the call's own in the box b, a block of type T -/
structure BoxX (T : TypeId) (K : Beside) (w0 wr : World) (b : Nat) (vc vr : Value) (rvs : List Value) (h : Hp) : Prop where
  own : OwnHx wr w0.heap.size vc vr rvs h
  apart : Apart (some b) (vc :: vr :: rvs)
  box : Rw wr b T (K.cells vc vr)
  low : Below w0.heap.size w0 wr
  lo : w0.heap.size ≤ b
  side : K.Ok w0 wr b (vc :: vr :: rvs)
section
variable {T : TypeId} {K : Beside} {w0 wr w1 : World} {b g c d i k : Nat} {vc vr : Value} {rvs : List Value} {h : Hp} {cl : Cl}
theorem Beside.Ok.lt {vs : List Value} (S : K.Ok w0 wr b vs) (hg : K.Has g) : g < wr.heap.size := by
  obtain ⟨p, e, h1 | ⟨x, hx, rfl⟩⟩ := hg
  · exact ((S.row p e).lt g h1).2
  · exact (S.kept p e x hx).1.lt
theorem Beside.Ok.up {vs : List Value} (S : K.Ok w0 wr b vs) (hw : Below wr.heap.size wr w1) : K.Ok w0 w1 b vs :=
  ⟨fun p e => (S.row p e).below hw (Nat.le_refl _), fun p e x hx => ⟨(S.kept p e x hx).1.keep hw (S.kept p e x hx).1.lt, (S.kept p e x hx).2⟩, S.apart⟩
theorem Beside.Ok.far {vs : List Value} {row : Option Nat} (S : K.Ok w0 wr b vs) (hG : wr.grownBy w1 row) (hne : ∀ g, K.Has g → row ≠ some g) : K.Ok w0 w1 b vs :=
  ⟨fun p e => (S.row p e).kept hG (by
      cases e1 : p.1.ownBlock with
      | none => exact .inl rfl
      | some g => exact .inr fun e2 => hne g ⟨p, e, .inl e1⟩ e2.symm),
    fun p e x hx => ⟨Rw.far (S.kept p e x hx).1 hG (fun e2 => hne x.1 ⟨p, e, .inr ⟨x, hx, rfl⟩⟩ e2.symm), (S.kept p e x hx).2⟩, S.apart⟩
theorem Beside.Ok.rows {vs vs' : List Value} (S : K.Ok w0 wr b vs) (hs : ∀ v ∈ vs', v ∈ vs ∨ ∀ g, K.Has g → v.ownBlock ≠ some g) : K.Ok w0 wr b vs' :=
  ⟨S.row, S.kept, fun g hg => ⟨(S.apart g hg).1, fun v hv => by
    rcases hs v hv with h1 | h1
    · exact (S.apart g hg).2 v h1
    · exact h1 g hg⟩⟩
theorem BoxSt.toX (S : BoxSt w0 wr b vc vr rvs h) : BoxX 26 none w0 wr b vc vr rvs h := ⟨S.own, S.apart, S.box, S.low, S.lo, Beside.ok_none _ _ _ _⟩
theorem BoxX.c0 (S : BoxX T K w0 wr b vc vr rvs h) : wr.cell? ⟨b, 0, none⟩ = some vc := (S.box.cell 0).trans (by cases K <;> rfl)
theorem BoxX.c1 (S : BoxX T K w0 wr b vc vr rvs h) : wr.cell? ⟨b, 1, none⟩ = some vr := (S.box.cell 1).trans (by cases K <;> rfl)
theorem BoxX.up (S : BoxX T K w0 wr b vc vr rvs h) (hw : Below wr.heap.size wr w1) : BoxX T K w0 w1 b vc vr rvs h :=
  ⟨S.own.below hw (Nat.le_refl _), S.apart, S.box.keep hw S.box.lt, S.low.trans (hw.mono S.low.size), S.lo, S.side.up hw⟩
theorem BoxX.drew (S : BoxX T K w0 wr b vc vr rvs h) : BoxX T K w0 wr.drew b vc vr rvs h := S.up (Below.refl _ _).drew
theorem BoxX.form (S : BoxX T K w0 wr b vc vr rvs h) (hl : 0 < h.rt.length) : ∃ A c gr d, vc = .slice A h.cs.length c ∧ vr = .slice (some ⟨gr, 0, none⟩) h.rt.length d ∧ (0 < h.cs.length → ∃ g, A = some ⟨g, 0, none⟩) := by
  obtain ⟨A, c, R, d, e1, e2, _, _, fA, fR⟩ := S.own.form
  obtain ⟨gr, rfl, _, _⟩ := fR hl
  exact ⟨A, c, gr, d, e1, e2, fun h => by obtain ⟨g, e, _⟩ := fA h; exact ⟨g, e⟩⟩
theorem BoxSt.form (S : BoxSt w0 wr b vc vr rvs h) (hl : 0 < h.rt.length) : ∃ A c gr d, vc = .slice A h.cs.length c ∧ vr = .slice (some ⟨gr, 0, none⟩) h.rt.length d ∧ (0 < h.cs.length → ∃ g, A = some ⟨g, 0, none⟩) := S.toX.form hl
/-- a block of the heap is none of those beside it, nor the box -/
theorem BoxX.beside (S : BoxX T K w0 wr b vc vr rvs h) {v : Value} (hv : v ∈ vc :: vr :: rvs) (hg : v.ownBlock = some g) (g' : Nat) (hk : K.Has g') : some g ≠ some g' := fun e => (S.side.apart g' hk).2 v hv (hg.trans e)
theorem BoxX.boxNe (S : BoxX T K w0 wr b vc vr rvs h) {v : Value} (hv : v ∈ vc :: vr :: rvs) (hg : v.ownBlock = some g) : b ≠ g := by
  rcases S.apart v hv with e | e
  · rw [hg] at e; cases e
  · intro e'; rw [hg] at e; exact e (by rw [e'])
theorem BoxX.into (S : BoxX T K w0 wr b vc vr rvs h) {v : Value} (hv : v ∈ vc :: vr :: rvs) (hg : v.ownBlock = some g) {h' : Hp} (u : Value)
    (ho : OwnHx (wr.setCell ⟨g, i, none⟩ u) w0.heap.size vc vr rvs h') : BoxX T K w0 (wr.setCell ⟨g, i, none⟩ u) b vc vr rvs h' := by
  have h1 := S.own.blocks hv hg
  exact ⟨ho, S.apart, S.box.other (S.boxNe hv hg) u, S.low.setCell (p := ⟨g, i, none⟩) (by show w0.heap.size ≤ g; omega) u, S.lo, S.side.far (put_any wr g i u) (S.beside hv hg)⟩
theorem BoxX.root {m : Nat} (S : BoxX T K w0 wr b vc (.slice (some ⟨g, 0, none⟩) m d) rvs h) (hm : h.rt.length = m) (x : Int) : BoxX T K w0 (wr.setCell ⟨g, i, none⟩ (.int .i64 x)) b vc (.slice (some ⟨g, 0, none⟩) m d) rvs ⟨h.cs, h.rt.set i x⟩ := by
  subst hm
  exact S.into (v := .slice (some ⟨g, 0, none⟩) h.rt.length d) (by simp) rfl _ (S.own.root x)
theorem BoxX.data {n : Nat} (S : BoxX T K w0 wr b (.slice (some ⟨g, 0, none⟩) n d) vr rvs h) (hn : h.cs.length = n) (hc : h.cs[k]? = some cl) (x : Int) : BoxX T K w0 (wr.setCell ⟨g, k * 3 + 1, none⟩ (.int .i64 x)) b (.slice (some ⟨g, 0, none⟩) n d) vr rvs ⟨h.cs.set k ⟨cl.u, x, cl.r⟩, h.rt⟩ := by
  subst hn
  exact S.into (v := .slice (some ⟨g, 0, none⟩) h.cs.length d) (by simp) rfl _ (S.own.data hc x)
theorem BoxX.snoc {v9 v8 : Value} (S : BoxX T K w0 wr b vc vr rvs h) (hG : wr.grownBy w1 vc.ownBlock)
    (o9 : w1.ownsRow w0.heap.size 40 3 v9 (h.cs.length + 1) (flatC h.cs rvs ++ [.bool cl.u, .int .i64 cl.d, v8])) (q : v9.ownBlock = vc.ownBlock ∨ v9.ownBlock = some wr.heap.size)
    (o8 : OwnI wr w0.heap.size v8 cl.r) (hap : ∀ v ∈ vc :: vr :: rvs, v8.ownBlock = none ∨ v8.ownBlock ≠ v.ownBlock) (h8b : v8.ownBlock ≠ some b) (h8k : ∀ g, K.Has g → v8.ownBlock ≠ some g) :
    BoxX T K w0 (w1.setCell ⟨b, 0, none⟩ v9) b v9 vr (rvs ++ [v8]) ⟨h.cs ++ [cl], h.rt⟩ := by
  have hn := S.own.snoc hG o9 q o8 hap
  have hlo := S.lo
  have hbl := S.box.lt
  have hvcb : some b ≠ vc.ownBlock := by
    rcases S.apart vc (by simp) with e | e
    · rw [e]; simp
    · exact fun h => e h.symm
  have ap : Apart (some b) (v9 :: vr :: (rvs ++ [v8])) := by
    intro v hv
    simp only [List.mem_cons, List.mem_append, List.not_mem_nil, or_false] at hv
    rcases hv with rfl | rfl | hv | rfl
    · right
      rcases q with e | e
      · rw [e]; exact fun h => hvcb h.symm
      · rw [e]; intro e'; injection e' with e'; omega
    · exact S.apart v (by simp)
    · exact S.apart v (by simp [hv])
    · exact .inr h8b
  have sd : K.Ok w0 wr b (v9 :: vr :: (rvs ++ [v8])) := S.side.rows fun v hv => by
    simp only [List.mem_cons, List.mem_append, List.not_mem_nil, or_false] at hv
    rcases hv with rfl | rfl | hv | rfl
    · right
      intro g hg
      rcases q with e9 | e9
      · rw [e9]
        exact (S.side.apart g hg).2 vc (by simp)
      · rw [e9]
        intro e'
        injection e' with e'
        have := S.side.lt hg
        omega
    · exact .inl (by simp)
    · exact .inl (by simp [hv])
    · exact .inr h8k
  refine ⟨hn.far (put_any w1 b 0 v9) ap, ap, ?_, ?_, hlo, (sd.far hG fun g hg => (S.side.apart g hg).2 vc (by simp)).far (put_any w1 b 0 v9) fun g hg e => (S.side.apart g hg).1 (Option.some.inj e).symm⟩
  · have := (Rw.far S.box hG hvcb).put 0 v9
    cases K with
    | none => exact this
    | some p => exact this
  · exact (S.low.grown hG S.low.size (fun kk hk => (S.own.blocks (v := vc) (by simp) hk).1)).setCell (p := ⟨b, 0, none⟩) (by show w0.heap.size ≤ b; omega) _
theorem BoxX.cell {n : Nat} {rv : Value} {old : Cl} (S : BoxX T K w0 wr b (.slice (some ⟨g, 0, none⟩) n c) vr rvs h) (hn : h.cs.length = n) (hc : h.cs[k]? = some old) (o : OwnI wr w0.heap.size rv cl.r) (hap : ∀ v ∈ (Value.slice (some ⟨g, 0, none⟩) n c) :: vr :: rvs, rv.ownBlock = none ∨ rv.ownBlock ≠ v.ownBlock) (h8b : rv.ownBlock = none ∨ rv.ownBlock ≠ some b) (h8k : ∀ g, K.Has g → rv.ownBlock ≠ some g) :
    BoxX T K w0 (((wr.setCell ⟨g, k * 3, none⟩ (.bool cl.u)).setCell ⟨g, k * 3 + 1, none⟩ (.int .i64 cl.d)).setCell ⟨g, k * 3 + 2, none⟩ rv) b (.slice (some ⟨g, 0, none⟩) n c) vr (rvs.set k rv) ⟨h.cs.set k cl, h.rt⟩ := by
  subst hn
  have hm : (Value.slice (some ⟨g, 0, none⟩) h.cs.length c) ∈ (Value.slice (some ⟨g, 0, none⟩) h.cs.length c) :: vr :: rvs := by simp
  have h1 : w0.heap.size ≤ g ∧ g < wr.heap.size := S.own.blocks hm rfl
  have h2 : b ≠ g := S.boxNe hm rfl
  have sn := S.beside hm rfl
  refine ⟨S.own.cell hc o hap, ?_, ((S.box.other h2 _).other h2 _).other h2 _, ?_, S.lo, (((S.side.far (put_any wr g _ _) sn).far (put_any _ g _ _) sn).far (put_any _ g _ _) sn).rows fun x hx => ?_⟩
  · intro x hx
    simp only [List.mem_cons] at hx
    rcases hx with rfl | rfl | hx
    · exact S.apart _ (by simp)
    · exact S.apart x (by simp)
    · rcases List.mem_or_eq_of_mem_set hx with hx | rfl
      · exact S.apart x (by simp [hx])
      · exact h8b
  · exact ((S.low.setCell (p := ⟨g, k * 3, none⟩) (by show w0.heap.size ≤ g; omega) _).setCell (p := ⟨g, k * 3 + 1, none⟩) (by show w0.heap.size ≤ g; omega) _).setCell (p := ⟨g, k * 3 + 2, none⟩) (by show w0.heap.size ≤ g; omega) _
  · simp only [List.mem_cons] at hx
    rcases hx with rfl | rfl | hx
    · exact .inl (by simp)
    · exact .inl (by simp)
    · rcases List.mem_or_eq_of_mem_set hx with hx | rfl
      · exact .inl (by simp [hx])
      · exact .inr h8k
/-- another row beside the heap -/
theorem BoxX.beside3 {v : Value} {xs fs : List Int} {ve : Value} {E : List (Nat × TypeId × Array Value)} (S : BoxX T (some (ve, fs, E)) w0 wr b vc vr rvs h) (hq : OwnQ wr w0.heap.size v xs) (ha : ∀ u ∈ vc :: vr :: rvs, u.ownBlock = none ∨ u.ownBlock ≠ v.ownBlock) (hb : v.ownBlock ≠ some b) (hE : ∀ e ∈ E, v.ownBlock ≠ some e.1) : BoxX T (some (v, xs, E)) w0 (wr.setCell ⟨b, 2, none⟩ v) b vc vr rvs h := by
  have hk : ∀ e ∈ E, e.1 ≠ b ∧ ∀ u ∈ vc :: vr :: rvs, u.ownBlock ≠ some e.1 := fun e he => S.side.apart e.1 ⟨_, rfl, .inr ⟨e, he, rfl⟩⟩
  refine ⟨S.own.far (put_any wr b 2 v) S.apart, S.apart, S.box.put 2 v, S.low.setCell (p := ⟨b, 2, none⟩) S.lo _, S.lo, ⟨fun p e => ?_, fun p e x hx => ?_, fun g' hg => ?_⟩⟩
  · cases e
    exact hq.kept (put_any wr b 2 v) (.inr hb)
  · cases e
    exact ⟨Rw.far (S.side.kept _ rfl x hx).1 (put_any wr b 2 v) (fun e => (hk x hx).1 (Option.some.inj e)), hE x hx⟩
  · obtain ⟨p, e, h1 | ⟨x, hx, rfl⟩⟩ := hg
    · cases e
      simp only at h1
      refine ⟨fun e => hb (by rw [h1, e]), fun u hu e => ?_⟩
      rcases ha u hu with h2 | h2
      · rw [e] at h2; cases h2
      · exact h2 (by rw [e, h1])
    · cases e
      exact hk x hx
/-- a further block that stays -/
theorem BoxX.more {ve : Value} {fs : List Int} {E : List (Nat × TypeId × Array Value)} {t : TypeId} {cs : Array Value} (S : BoxX T (some (ve, fs, E)) w0 wr b vc vr rvs h) (hr : Rw wr g t cs) (hb : g ≠ b) (hv : ∀ u ∈ vc :: vr :: rvs, u.ownBlock ≠ some g) (he : ve.ownBlock ≠ some g) : BoxX T (some (ve, fs, (g, t, cs) :: E)) w0 wr b vc vr rvs h := by
  refine ⟨S.own, S.apart, S.box, S.low, S.lo, ⟨fun p e => ?_, fun p e x hx => ?_, fun g' hg => ?_⟩⟩
  · cases e
    exact S.side.row (ve, fs, E) rfl
  · cases e
    rcases List.mem_cons.1 hx with rfl | hx
    · exact ⟨hr, he⟩
    · exact S.side.kept _ rfl x hx
  · obtain ⟨p, e, h1 | ⟨x, hx, rfl⟩⟩ := hg
    · cases e
      exact S.side.apart g' ⟨_, rfl, .inl h1⟩
    · cases e
      rcases List.mem_cons.1 hx with rfl | hx
      · exact ⟨hb, hv⟩
      · exact S.side.apart _ ⟨_, rfl, .inr ⟨x, hx, rfl⟩⟩
theorem BoxX.ownH (S : BoxX T K w0 wr b vc vr rvs h) : OwnH wr w0.heap.size vc vr h := ⟨rvs, S.own⟩
end
end Go.Proofs.YthmddmddcdofaaaDoor

namespace Go.Proofs.YthmddmddcdofaaaDoor
open Go.RowKit
set_option maxRecDepth 100000
end Go.Proofs.YthmddmddcdofaaaDoor

namespace Go.Proofs.YthmddmddcdofaaaDoor
open Go.RowKit
set_option maxRecDepth 100000
/-- k times -1, then 0 up to N -/
def repN (N k : Nat) : List Value := List.replicate k (.int .i64 (-1)) ++ List.replicate (N - k) (.int .i64 0)
def RowN (w : World) (g N k : Nat) : Prop := w.heap[g]? = some (.cells (repN N k).toArray 3 (0, 0))
theorem RowN.cell {w : World} {g N k j : Nat} (h : RowN w g N k) (hj : j < k) : w.cell? ⟨g, j, none⟩ = some (.int .i64 (-1)) := by
  have : (repN N k)[j]? = some (.int .i64 (-1)) := by
    unfold repN
    rw [List.getElem?_append_left (by simpa using hj)]
    simp [hj]
  have e : w.cell? ⟨g, j, none⟩ = (repN N k).toArray[j]? := Rw.cell (cs := (repN N k).toArray) h j
  rw [e]
  simpa using this
theorem RowN.put {w : World} {g N k : Nat} (h : RowN w g N k) (j : Nat) : RowN (w.setRow g (repN N j).toArray) g N j := setRow_heap w g _ _ _ _ h
end Go.Proofs.YthmddmddcdofaaaDoor

namespace Go.Proofs.YthmddmddcdofaaaDoor
open Go.RowKit
set_option maxRecDepth 100000
end Go.Proofs.YthmddmddcdofaaaDoor

namespace Go.Proofs.YthmddmddcdofaaaDoor
open Go.RowKit
set_option maxRecDepth 100000
end Go.Proofs.YthmddmddcdofaaaDoor

namespace Go.Proofs.YthmddmddcdofaaaDoor
open Go.RowKit
set_option maxRecDepth 100000
/-- k times -1, then 0 -/
def rep4 (k : Nat) : List Value := List.replicate k (.int .i64 (-1)) ++ List.replicate (4 - k) (.int .i64 0)
def RowK (w : World) (g k : Nat) : Prop := w.heap[g]? = some (.cells (rep4 k).toArray 3 (0, 0))
theorem RowK.cell {w : World} {g k j : Nat} (h : RowK w g k) (hj : j < k) : w.cell? ⟨g, j, none⟩ = some (.int .i64 (-1)) := by
  have : (rep4 k)[j]? = some (.int .i64 (-1)) := by
    unfold rep4
    rw [List.getElem?_append_left (by simpa using hj)]
    simp [hj]
  have e : w.cell? ⟨g, j, none⟩ = (rep4 k).toArray[j]? := Rw.cell (cs := (rep4 k).toArray) h j
  rw [e]
  simpa using this
theorem RowK.put {w : World} {g k : Nat} (h : RowK w g k) (j : Nat) : RowK (w.setRow g (rep4 j).toArray) g j := setRow_heap w g _ _ _ _ h
end Go.Proofs.YthmddmddcdofaaaDoor

namespace Go.Proofs.YthmddmddcdofaaaDoor
open Go.RowKit
set_option maxRecDepth 100000
end Go.Proofs.YthmddmddcdofaaaDoor

namespace Go.Proofs.YthmddmddcdofaaaDoor
open Go.ChangeShapes Go.WideShapes Go.ChangeAt Go.RowKit Go.Deep
theorem own : ownKnob Tryd.prog.godebug = none := by kernel_rfl
theorem laidOut : laidOutB Tryd.prog = true := by kernel_rfl
section
variable {H : Type} {enc : TypeId × Value → H} {P : Program} {W W' : World}
/-- all arguments read as they did -/
theorem stay_all (hl : laidOutB P = true) (hb : Below W.heap.size W W') : ∀ {ts : List TypeId} {vs : List Value} {ds : List (DataW H)} {p : List MemPlace},
    (∀ t ∈ ts, P.readableRec t = true ∧ t < P.types.size) → DataW.TrodAll enc P W 0 (fun _ => true) true ts vs ds p → (∀ x ∈ p, x.block < W.heap.size) →
    DataW.TrodAll enc P W' 0 (fun b => decide (b < W.heap.size)) true ts vs ds p
  | [], _, _, _, _, h, _ => by
    obtain ⟨rfl, rfl, rfl⟩ := trodAll_nil h
    exact trodAll_mk0
  | t :: ts, _, _, _, hts, h, hlt => by
    obtain ⟨v, vs, d, ds, p, q, rfl, rfl, rfl, h0, hr⟩ := trodAll_cons h
    have ht := hts t (by simp)
    exact trodAll_cons_mk (Below.trod hl ht.1 ht.2 h0 hb (fun x hx => hlt x (by simp [hx])))
      (stay_all hl hb (fun t' h' => hts t' (by simp [h'])) hr (fun x hx => hlt x (by simp [hx])))
/-- a law that returned true and left old memory alone has met its row -/
theorem law_post {f : Func} {s : ChangeSpec} {args : Array Value} {ds gs : List (DataW H)} {before : List MemPlace} {tb : TypeId}
    (hl : laidOutB P = true) (hts : ∀ t ∈ f.params.toList, P.readableRec t = true ∧ t < P.types.size) (hrt : f.resultTypes = #[tb]) (htb : P.underlying tb = some .bool)
    (hvars : s.vars = []) (hfn : s.fn H ds = { results := [.lit (.bool true)], args := ds })
    (hW : DataW.Whole enc P f.params.toList s.vars false W args.toList ds gs before) (hb : Below W.heap.size W W') :
    s.post enc P f false true false false W args (.bool true) W' := by
  have hW' := hW
  obtain ⟨p, q, hA, hV, rfl, hfz, hnd⟩ := hW
  rw [hvars] at hV
  obtain ⟨rfl, rfl⟩ := trodVars_none hV
  have hlt : ∀ x ∈ p, x.block < W.heap.size := fun x hx => by simpa using hW'.lt x (by simp [hx])
  refine ⟨ds, [], p ++ [], [], p, [], hW', ?_, ?_, ?_, ?_, fun h => by cases h⟩
  · rw [List.append_nil, hfn, hrt]
    exact trodAll_mk1 (shut_bool htb true)
  · rw [List.append_nil, hfn]
    exact stay_all hl hb hts hA hlt
  · rw [List.append_nil, hfn, hvars]
    rfl
  · exact hb.frame _
/-- an address at which a cell lies has no spot -/
theorem addr_of_cell {w : World} {a : Addr} {v : Value} (h : w.cell? a = some v) : a = ⟨a.block, a.off, none⟩ := by
  obtain ⟨b, o, sp⟩ := a
  cases sp with
  | none => rfl
  | some s =>
    unfold World.cell? at h
    simp only [] at h
    split at h <;> simp at h
theorem add_none (b o n : Nat) : (⟨b, o, none⟩ : Addr).add n = ⟨b, o + n, none⟩ := by
  unfold Addr.add
  split
  · next h => subst h; rfl
  · rfl
theorem i64_of_wf {n : Int} (h : (Lit.int .i64 n).wf = true) : I64 n := by
  simpa [Lit.wf, IntKind.min, IntKind.max, IntKind.signed, IntKind.bits, I64] using h
end
end Go.Proofs.YthmddmddcdofaaaDoor

namespace Go.Proofs.YthmddmddcdofaaaDoor
open Go.ChangeShapes Go.WideShapes Go.ChangeAt Go.RowKit Go.Deep
theorem set_takeI {xs : List Int} {n k : Nat} {y : Int} (hl : xs.length = n) (hk : k < n) (hy : xs[k]? = some y) : (xs.take k ++ List.replicate (n - k) (0 : Int)).set k y = xs.take (k + 1) ++ List.replicate (n - (k + 1)) (0 : Int) := by
  have h1 : (xs.take k).length = k := by rw [List.length_take]; omega
  rw [List.set_append_right _ _ (by omega), h1, Nat.sub_self, show n - k = (n - (k + 1)) + 1 by omega, List.replicate_succ, List.set_cons_zero, List.take_add_one, hy]
  simp
set_option maxHeartbeats 1000000 in
theorem toIntS_any (A : Option Addr) (n c : Nat) (xs : List Int) (w : World) (h : IS w w.heap.size A n xs) (hn : n ≤ 1099511627776) :
    Calls Tryd.prog 101 #[.slice A n c] w fun e w' => e = .returned (.slice (some ⟨w.heap.size, 0, none⟩) n n) ∧ OwnI w' w.heap.size (.slice (some ⟨w.heap.size, 0, none⟩) n n) xs ∧ Below w.heap.size w w' := by
  have hl := h.1
  have hmk := makeI w n hn
  have o2 := own_madeI w n hn
  have b2 : Below w.heap.size w (w.alloc (.cells (Array.replicate n (.int .i64 0)) 3)) := (Below.refl _ _).alloc (Nat.le_refl _) _
  obtain ⟨w2, hw2⟩ : ∃ w2, w.alloc (.cells (Array.replicate n (.int .i64 0)) 3) = w2 := ⟨_, rfl⟩
  rw [hw2] at hmk o2 b2
  have o2 : OwnI w2 w.heap.size (.slice (some ⟨w.heap.size, 0, none⟩) n n) (xs.take 0 ++ List.replicate (n - 0) (0 : Int)) := by simpa using o2
  clear hw2
  go_enter Tryd.func101, Tryd.ntmps101
  go_wp2
  clear hmk
  go_loopw [4] (fun i wr => ∃ k : Nat, k ≤ n ∧ i = .int .i64 k ∧ OwnI wr w.heap.size (.slice (some ⟨w.heap.size, 0, none⟩) n n) (xs.take k ++ List.replicate (n - k) (0 : Int)) ∧ Below w.heap.size w wr) (fun i _ => n - (intOf i).toNat)
  case atStart => exact ⟨0, Nat.zero_le _, rfl, o2, b2⟩
  case round =>
    clear o2 b2
    obtain ⟨k, hk, rfl, ho, hb⟩ := hrel
    have hlen : (xs.take k ++ List.replicate (n - k) (0 : Int)).length = n := by simp; omega
    by_cases hlt : k < n
    · obtain ⟨g', o', x, e', _, _, c1⟩ := ho.reads.at_ (k := k) (by omega)
      injection e' with e'
      injection e' with e1 e2
      subst e1 e2
      rw [Nat.zero_add] at c1
      obtain ⟨g, o, y, rfl, hg, hy, c2⟩ := (h.below hb).at_ hlt
      have fz : wr.frozen? ⟨w.heap.size, k, none⟩ = false := ho.frozen hlen k
      have t1 : (k : Int) < n := by omega
      have on := OwnI.cast (set_takeI hl hlt hy) (ho.put' (j := k) hlen y)
      have bn := hb.setCell (p := ⟨w.heap.size, k, none⟩) (Nat.le_refl _) (.int .i64 y)
      clear ho hlen hy
      go_wp2_with fail
      go_roundw
      case rel => exact ⟨k + 1, by omega, by go_num, on, bn⟩
      case measure => simp [intOf]; omega
    · obtain rfl : k = n := by omega
      rw [List.take_of_length_le (by omega), Nat.sub_self] at ho
      have ho : OwnI wr w.heap.size (.slice (some ⟨w.heap.size, 0, none⟩) k k) xs := by simpa using ho
      clear hlen
      go_wp2_with fail
      go_ret
      exact ⟨rfl, ho, hb⟩
theorem eqIntS_any (A B : Option Addr) (n m c d : Nat) (xs ys : List Int) (w : World) (h : IS w w.heap.size A n xs) (h' : IS w w.heap.size B m ys) (hn : n ≤ 1099511627776) (hm : m ≤ 1099511627776) :
    Calls Tryd.prog 103 #[.slice A n c, .slice B m d] w fun e w' => e = .returned (.bool (decide (xs = ys))) ∧ Below w.heap.size w w' := by
  have HL := Lib.hid h.1
  have HL' := Lib.hid h'.1
  by_cases hnm : n = m
  · subst hnm
    go_enter Tryd.func103, Tryd.ntmps103
    go_wp2
    go_loopw [5] (fun i wr => ∃ (k : Nat), k ≤ n ∧ i = .int .i64 k ∧ Hid (xs.take k = ys.take k) ∧ Below w.heap.size w wr) (fun i _ => n - (intOf i).toNat)
    case atStart => exact ⟨0, Nat.zero_le _, rfl, by simp [Hid], Below.refl _ _⟩
    case round =>
      obtain ⟨k, hk, rfl, hpre, hb⟩ := hrel
      by_cases hlt : k < n
      · obtain ⟨g, o, x, rfl, hg, hx, c1⟩ := (h.below hb).at_ hlt
        obtain ⟨g', o', y, rfl, hg', hx', c1'⟩ := (h'.below hb).at_ hlt
        have HX := Lib.hid hx
        have HX' := Lib.hid hx'
        have hlt' : (k : Int) < n := by omega
        clear hx hx'
        by_cases hxy : x = y
        · subst hxy
          go_wp2_with fail
          go_quiet (fail)
          go_wp2
          go_roundw
          case rel => exact ⟨k + 1, by omega, by go_num, Lib.hid (take_eq_succI hpre.out HX.out HX'.out), below_drewN hb _⟩
          case measure => simp [intOf]; omega
        · have hne : (x == y) = false := by rw [beq_eq_false_iff_ne]; exact hxy
          have hne2 : (x != y) = true := by rw [bne_iff_ne]; exact hxy
          have HNE := Lib.hid (show xs ≠ ys from fun e => hxy (by
            have a := HX.out
            have b := HX'.out
            rw [e, b] at a
            exact (Option.some.inj a).symm))
          clear hxy
          go_wp2_with fail
          go_quiet (fail)
          go_wp2
          go_ret
          exact ⟨ret_bool (decide_eq_false HNE.out).symm, below_drewN hb _⟩
      · have hkn : k = n := by omega
        have HK := Lib.hid hkn
        clear hkn
        go_wp2
        go_ret
        refine ⟨ret_bool ?_, hb⟩
        have hp := hpre.out
        rw [HK.out, List.take_of_length_le (by rw [HL.out]; omega), List.take_of_length_le (by rw [HL'.out]; omega)] at hp
        simp [hp]
  · have hne : ((n : Int) != m) = true := by rw [bne_iff_ne]; omega
    have HN := Lib.hid hnm
    clear hnm
    go_enter Tryd.func103, Tryd.ntmps103
    go_wp2
    go_ret
    refine ⟨ret_bool ?_, Below.refl _ _⟩
    simp
    rintro rfl
    exact HN.out (HL.out.symm.trans HL'.out)
/-- the marks that are laid into a slice of numbers -/
def marksI (k : Int) (n : Nat) : List Int := (List.range n).map fun (i : Nat) => k + (i : Int)
theorem marksI_len (k : Int) (n : Nat) : (marksI k n).length = n := by simp [marksI]
theorem marksI_at (k : Int) {n i : Nat} (h : i < n) : (marksI k n)[i]? = some (k + i) := by
  simp [marksI, h]
theorem set_marksI (k : Int) (xs : List Int) {i : Nat} (h : i < xs.length) : (marksI k i ++ xs.drop i).set i (k + i) = marksI k (i + 1) ++ xs.drop (i + 1) := by
  rw [List.set_append_right _ _ (by rw [marksI_len]; omega), marksI_len, Nat.sub_self]
  rw [List.drop_eq_getElem_cons h, List.set_cons_zero]
  simp [marksI, List.range_succ]
set_option maxHeartbeats 1000000 in
theorem markIntS_any (v : Value) (xs : List Int) (k : Int) (base : Nat) (w : World) (h : OwnI w base v xs) (hk : 0 ≤ k) (hk2 : k ≤ 1099511627776) (hn : xs.length ≤ 1099511627776) :
    Calls Tryd.prog 105 #[v, .int .i64 k] w fun e w' => e = .returned (.int .i64 (k + xs.length)) ∧ OwnI w' base v (marksI k xs.length) ∧ w.grownBy w' v.ownBlock := by
  obtain ⟨A, c, rfl, hA⟩ := h.form
  obtain ⟨n, hn'⟩ : ∃ n, xs.length = n := ⟨_, rfl⟩
  rw [hn'] at h hn hA ⊢
  go_enter Tryd.func105, Tryd.ntmps105
  go_wp2
  go_loopw [1, 5] (fun q a wr => ∃ i : Nat, i ≤ n ∧ a = .int .i64 i ∧ q = .int .i64 (k + i) ∧ OwnI wr base (.slice A n c) (marksI k i ++ xs.drop i) ∧ w.grownBy wr (Value.slice A n c).ownBlock) (fun _ a _ => n - (intOf a).toNat)
  case atStart => exact ⟨0, Nat.zero_le _, rfl, by simp, by simpa [marksI] using h, World.grownBy.refl _ _⟩
  case round =>
    clear h
    obtain ⟨i, hi, rfl, rfl, ho, hg⟩ := hrel
    have hl : (marksI k i ++ xs.drop i).length = n := by simp [marksI]; omega
    by_cases hlt : i < n
    · obtain ⟨g, rfl, hbg, hgl⟩ := hA (by omega)
      obtain ⟨g', o', x, e', _, _, c1⟩ := ho.reads.at_ (k := i) (by omega)
      injection e' with e'
      injection e' with e1 e2
      subst e1 e2
      rw [Nat.zero_add] at c1
      have fz : wr.frozen? ⟨g, i, none⟩ = false := ho.frozen hl i
      have t1 : (i : Int) < n := by omega
      have on := OwnI.cast (set_marksI k xs (show i < xs.length by omega)) (ho.put' (j := i) hl (k + i))
      have gn := only_put hg i (.int .i64 (k + i))
      clear ho hl hA
      go_wp2
      go_roundw
      case rel => exact ⟨i + 1, by omega, by go_num, int_eq (by omega), on, gn⟩
      case measure => simp [intOf]; omega
    · obtain rfl : i = n := by omega
      have ho : OwnI wr base (.slice A i c) (marksI k i) := by
        rw [List.drop_of_length_le (by omega), List.append_nil] at ho
        exact ho
      clear hl hA
      go_wp2
      go_ret
      exact ⟨rfl, ho, hg⟩
theorem heldIntS_any (A : Option Addr) (n c : Nat) (k : Int) (w : World) (h : IS w w.heap.size A n (marksI k n)) (hk : 0 ≤ k) (hk2 : k ≤ 1099511627776) (hn : n ≤ 1099511627776) :
    Calls Tryd.prog 107 #[.slice A n c, .int .i64 k] w fun e w' => e = .returned (.int .i64 (k + n)) ∧ w = w' := by
  go_enter Tryd.func107, Tryd.ntmps107
  go_wp2
  go_loop [1, 5] (fun q a => ∃ i : Nat, i ≤ n ∧ a = .int .i64 i ∧ q = .int .i64 (k + i)) (fun _ a => n - (intOf a).toNat)
  case atStart => exact ⟨0, Nat.zero_le _, rfl, by simp⟩
  case round =>
    obtain ⟨i, hi, rfl, rfl⟩ := hrel
    by_cases hlt : i < n
    · obtain ⟨g, o, x, rfl, hg, hx, c1⟩ := h.at_ hlt
      rw [marksI_at k hlt] at hx
      injection hx with hx
      subst hx
      go_wp2
      go_round
      case rel => exact ⟨i + 1, by omega, by go_num, int_eq (by omega)⟩
      case measure => simp [intOf]; omega
    · have hin : i = n := by omega
      have HI := Lib.hid hin
      clear hin
      go_wp2
      go_ret
      exact ⟨by rw [← HI.out]; rfl, rfl⟩
theorem szIntS_any (A : Option Addr) (n c : Nat) (l : Int) (w : World) (h0 : 0 ≤ l) (h1 : l ≤ 1099511627776) (hn : n ≤ 9223372036854775807) :
    Calls Tryd.prog 99 #[.slice A n c, .int .i64 l] w fun e w' => e = .returned (.int .i64 (if n ≤ l then l - n else -1)) ∧ w = w' := by
  by_cases h : (n : Int) ≤ l
  · have h' : decide (l - (n : Int) < 0) = false := decide_eq_false (by omega)
    rw [if_pos h]
    go_enter Tryd.func99, Tryd.ntmps99
    go_wp2
    go_ret
    exact ⟨rfl, rfl⟩
  · have h' : l - (n : Int) < 0 := by omega
    rw [if_neg h]
    go_enter Tryd.func99, Tryd.ntmps99
    go_wp2
    go_ret
    exact ⟨rfl, rfl⟩
section
variable {H : Type} {enc : TypeId × Value → H} {P : Program} {W W' : World}
end
end Go.Proofs.YthmddmddcdofaaaDoor
namespace Go.Proofs.YthmddmddcdofaaaDoor
open Go.RowKit
set_option maxHeartbeats 1000000 in
theorem toCell_any (cl : Cl) (A : Option Addr) (m cc : Nat) (w : World) (hi : IS w w.heap.size A m cl.r) (hm : m ≤ 1099511627776) :
    Calls Tryd.prog 136 #[.agg #[.bool cl.u, .int .i64 cl.d, .slice A m cc]] w fun e w' => ∃ g, e = .returned (.agg #[.bool cl.u, .int .i64 cl.d, .slice (some ⟨g, 0, none⟩) m m]) ∧ OwnI w' w.heap.size (.slice (some ⟨g, 0, none⟩) m m) cl.r ∧ Below w.heap.size w w' := by
  have b3 : Below w.heap.size w (((w.alloc (.cells #[.bool cl.u, .int .i64 cl.d, .slice A m cc] 161)).alloc (.cells #[.bool false, .int .i64 0, .slice none 0 0] 40)).alloc (.cells #[.bool cl.u, .int .i64 cl.d, .slice none 0 0] 40)) := (((Below.refl w.heap.size w).alloc (Nat.le_refl _) _).alloc (by simp) _).alloc (by simp; omega) _
  have i3 := hi.up b3
  have r1 := (Rw.new (w.alloc (.cells #[.bool cl.u, .int .i64 cl.d, .slice A m cc] 161)) 40 #[.bool false, .int .i64 0, .slice none 0 0]).alloc (.cells #[.bool cl.u, .int .i64 cl.d, .slice none 0 0] 40)
  have r2 := Rw.new ((w.alloc (.cells #[.bool cl.u, .int .i64 cl.d, .slice A m cc] 161)).alloc (.cells #[.bool false, .int .i64 0, .slice none 0 0] 40)) 40 #[.bool cl.u, .int .i64 cl.d, .slice none 0 0]
  have hsz : (((w.alloc (.cells #[.bool cl.u, .int .i64 cl.d, .slice A m cc] 161)).alloc (.cells #[.bool false, .int .i64 0, .slice none 0 0] 40)).alloc (.cells #[.bool cl.u, .int .i64 cl.d, .slice none 0 0] 40)).heap.size = w.heap.size + 3 := by simp
  simp only [World.size_alloc] at r1 r2
  go_enter Tryd.func136, Tryd.ntmps136
  go_wp2_with fail
  refine (toIntS_any _ _ _ cl.r _ i3 hm).mono ?_
  rw [hsz]
  rintro e w1 ⟨rfl, o1, b1⟩
  have c1 := r1.keep b1 (by omega)
  have c2 := r2.keep b1 (by omega)
  have bb1 := b3.trans (b1.mono (by omega))
  have x0 : w1.cell? ⟨w.heap.size + 1 + 1, 0, none⟩ = some (.bool cl.u) := c2.cell 0
  have x1 : w1.cell? ⟨w.heap.size + 1 + 1, 1, none⟩ = some (.int .i64 cl.d) := c2.cell 1
  have x2 : w1.cell? ⟨w.heap.size + 1 + 1, 2, none⟩ = some (.slice none 0 0) := c2.cell 2
  have x3 := c2.frozen 2
  have c3 := c2.put 2 (.slice (some ⟨w.heap.size + 3, 0, none⟩) m m)
  have d1 := Rw.other (w := w1) c1 (show w.heap.size + 1 ≠ w.heap.size + 1 + 1 by omega) (i := 2) (.slice (some ⟨w.heap.size + 3, 0, none⟩) m m)
  have o2 := o1.far (only_put (g := w.heap.size + 1 + 1) (World.grownBy.refl _ _) 2 (.slice (some ⟨w.heap.size + 3, 0, none⟩) m m)) (.inr (by simp [Value.ownBlock]))
  have bb2 := bb1.setCell (p := ⟨w.heap.size + 1 + 1, 2, none⟩) (by simp; omega) (.slice (some ⟨w.heap.size + 3, 0, none⟩) m m)
  obtain ⟨w2, hw2⟩ : ∃ w2, w1.setCell ⟨w.heap.size + 1 + 1, 2, none⟩ (.slice (some ⟨w.heap.size + 3, 0, none⟩) m m) = w2 := ⟨_, rfl⟩
  rw [hw2] at c3 d1 o2 bb2
  have y0 : w2.cell? ⟨w.heap.size + 1 + 1, 0, none⟩ = some (.bool cl.u) := c3.cell 0
  have y1 : w2.cell? ⟨w.heap.size + 1 + 1, 1, none⟩ = some (.int .i64 cl.d) := c3.cell 1
  have y2 : w2.cell? ⟨w.heap.size + 1 + 1, 2, none⟩ = some (.slice (some ⟨w.heap.size + 3, 0, none⟩) m m) := c3.cell 2
  have u0 : w2.cell? ⟨w.heap.size + 1, 0, none⟩ = some (.bool false) := d1.cell 0
  have u1 : w2.cell? ⟨w.heap.size + 1, 1, none⟩ = some (.int .i64 0) := d1.cell 1
  have u2 : w2.cell? ⟨w.heap.size + 1, 2, none⟩ = some (.slice none 0 0) := d1.cell 2
  have f0 := d1.frozen 0
  have f1 := d1.frozen 1
  have f2 := d1.frozen 2
  have d2 := ((d1.put 0 (.bool cl.u)).put 1 (.int .i64 cl.d)).put 2 (.slice (some ⟨w.heap.size + 3, 0, none⟩) m m)
  have q0 := d2.cell 0
  have q1 := d2.cell 1
  have q2 := d2.cell 2
  have bb3 := ((bb2.setCell (p := ⟨w.heap.size + 1, 0, none⟩) (by simp) (.bool cl.u)).setCell (p := ⟨w.heap.size + 1, 1, none⟩) (by simp) (.int .i64 cl.d)).setCell (p := ⟨w.heap.size + 1, 2, none⟩) (by simp) (.slice (some ⟨w.heap.size + 3, 0, none⟩) m m)
  have hne : ((Value.slice (some ⟨w.heap.size + 3, 0, none⟩) m m).ownBlock = none ∨ (Value.slice (some ⟨w.heap.size + 3, 0, none⟩) m m).ownBlock ≠ some (w.heap.size + 1)) := .inr (by simp [Value.ownBlock])
  have o3 := ((o2.far (only_put (g := w.heap.size + 1) (World.grownBy.refl _ _) 0 (.bool cl.u)) hne).far (only_put (g := w.heap.size + 1) (World.grownBy.refl _ _) 1 (.int .i64 cl.d)) hne).far (only_put (g := w.heap.size + 1) (World.grownBy.refl _ _) 2 (.slice (some ⟨w.heap.size + 3, 0, none⟩) m m)) hne
  simp at q0 q1 q2
  clear c1 c2 c3 d1 d2 o1 o2 b1 b3 bb1 bb2 r1 r2 i3 hsz hne
  go_wp2_with fail
  exact bodyPost_ret (v := .agg #[.bool cl.u, .int .i64 cl.d, .slice (some ⟨w.heap.size + 3, 0, none⟩) m m]) (by simp [results, Tryd.results136, go_sem, *]) rfl ⟨_, rfl, o3.base (by omega), bb3⟩
/-- a cell that is not used -/
def noCl : Cl := ⟨false, 0, []⟩
theorem madeC_list (n : Nat) : (madeCells (Value.agg #[.bool false, .int .i64 0, .slice none 0 0]).cells (n * 3)).toList = flatC (List.replicate n noCl) (List.replicate n (.slice none 0 0)) := by
  have hl := flatC_length (List.replicate n noCl) (List.replicate n (.slice none 0 0)) (by simp)
  rw [List.length_replicate] at hl
  apply List.ext_getElem?
  intro j
  rcases Nat.lt_or_ge j (n * 3) with hj | hj
  · have hk : j / 3 < n := by omega
    obtain ⟨f1, f2, f3⟩ := flatC_at (List.replicate n noCl) (List.replicate n (.slice none 0 0)) (j / 3) noCl (.slice none 0 0) (by simp [hk]) (by simp [hk])
    have hm : (madeCells (Value.agg #[.bool false, .int .i64 0, .slice none 0 0]).cells (n * 3)).toList[j]? = some ((Value.agg #[.bool false, .int .i64 0, .slice none 0 0]).cells[j % 3]!) := by
      simp [madeCells, hj, Value.cells]
    rw [hm]
    have h3 : j % 3 = 0 ∨ j % 3 = 1 ∨ j % 3 = 2 := by omega
    rcases h3 with e | e | e
    · rw [e]
      rw [show j = j / 3 * 3 by omega, f1]
      rfl
    · rw [e]
      rw [show j = j / 3 * 3 + 1 by omega, f2]
      rfl
    · rw [e]
      rw [show j = j / 3 * 3 + 2 by omega, f3]
      rfl
  · rw [List.getElem?_eq_none (by simp [madeCells]; omega), List.getElem?_eq_none (by omega)]
theorem makeC (W : World) (n : Nat) (hn : n ≤ 1099511627776) : (Instr.makeSlice 23 (.int .i64 n) (.int .i64 n)).run Tryd.prog W = .ok (.slice (some ⟨W.heap.size, 0, none⟩) n n) (W.alloc (.cells (flatC (List.replicate n noCl) (List.replicate n (.slice none 0 0))).toArray 40)) := by
  obtain ⟨i0, hi0, hz0, hz1, hz2⟩ := info_parts info_cell
  have := run_make (P := Tryd.prog) W 23 40 i0 _ Tryd.underlying23 hi0 hz0 .i64 .i64 n n (by omega) (by omega) (by rw [hz2]; omega) (by omega)
  rw [hz1] at this
  rw [← madeC_list]
  simpa using this
theorem own_madeC (w : World) (n : Nat) (hn : n ≤ 1099511627776) : OwnHx (w.alloc (.cells (flatC (List.replicate n noCl) (List.replicate n (.slice none 0 0))).toArray 40)) w.heap.size (.slice (some ⟨w.heap.size, 0, none⟩) n n) (.slice none 0 0) (List.replicate n (.slice none 0 0)) ⟨List.replicate n noCl, []⟩ := by
  have hl := flatC_length (List.replicate n noCl) (List.replicate n (.slice none 0 0)) (by simp)
  rw [List.length_replicate] at hl
  refine ⟨by simp, ?_, fun k c v hc hv => ?_, World.ownsRow_nil _ _ _ _, ?_⟩
  · have := World.ownsRow_lit (base := w.heap.size) (e := 40) (size := 3) w (flatC (List.replicate n noCl) (List.replicate n (.slice none 0 0))).toArray n (Nat.le_refl _) (by unfold maxLen; omega) (by simp [hl])
    simpa using this
  · rw [List.getElem?_replicate] at hc hv
    split at hc
    · injection hc with hc
      rename_i hk
      rw [if_pos hk] at hv
      injection hv with hv
      subst hc hv
      exact World.ownsRow_nil _ _ _ _
    · cases hc
  · unfold Sep
    rw [List.pairwise_cons, List.pairwise_cons]
    refine ⟨fun v hv => ?_, fun v hv => .inl rfl, ?_⟩
    · simp only [List.mem_cons, List.mem_replicate] at hv
      rcases hv with rfl | ⟨_, rfl⟩ <;> exact .inr (by simp [Value.ownBlock])
    · rw [List.pairwise_replicate]
      exact .inr (.inl rfl)
theorem set_takeC {cs : List Cl} {n k : Nat} {y : Cl} (hl : cs.length = n) (hk : k < n) (hy : cs[k]? = some y) : (cs.take k ++ List.replicate (n - k) noCl).set k y = cs.take (k + 1) ++ List.replicate (n - (k + 1)) noCl := by
  have h1 : (cs.take k).length = k := by rw [List.length_take]; omega
  rw [List.set_append_right _ _ (by omega), h1, Nat.sub_self, show n - k = (n - (k + 1)) + 1 by omega, List.replicate_succ, List.set_cons_zero, List.take_add_one, hy]
  simp
set_option maxHeartbeats 2000000 in
theorem toCellS_any (A : Option Addr) (n c : Nat) (cs : List Cl) (w : World) (h : CS w w.heap.size A n cs) (hn : n ≤ 1099511627776) (hb : ∀ cl ∈ cs, cl.r.length ≤ 1099511627776) :
    Calls Tryd.prog 100 #[.slice A n c] w fun e w' => ∃ rvs, e = .returned (.slice (some ⟨w.heap.size, 0, none⟩) n n) ∧ OwnHx w' w.heap.size (.slice (some ⟨w.heap.size, 0, none⟩) n n) (.slice none 0 0) rvs ⟨cs, []⟩ ∧ Below w.heap.size w w' := by
  have hl := h.1
  have HB := Lib.hid hb
  clear hb
  have hmk := makeC w n hn
  have o2 := own_madeC w n hn
  have b2 : Below w.heap.size w (w.alloc (.cells (flatC (List.replicate n noCl) (List.replicate n (.slice none 0 0))).toArray 40)) := (Below.refl _ _).alloc (Nat.le_refl _) _
  have s2 : w.heap.size < (w.alloc (.cells (flatC (List.replicate n noCl) (List.replicate n (.slice none 0 0))).toArray 40)).heap.size := by simp
  obtain ⟨w2, hw2⟩ : ∃ w2, w.alloc (.cells (flatC (List.replicate n noCl) (List.replicate n (.slice none 0 0))).toArray 40) = w2 := ⟨_, rfl⟩
  rw [hw2] at hmk o2 b2 s2
  clear hw2
  go_enter Tryd.func100, Tryd.ntmps100
  go_wp2
  clear hmk
  go_loopw [4] (fun i wr => ∃ (k : Nat) (rvs : List Value), k ≤ n ∧ i = .int .i64 k ∧ OwnHx wr w.heap.size (.slice (some ⟨w.heap.size, 0, none⟩) n n) (.slice none 0 0) rvs ⟨cs.take k ++ List.replicate (n - k) noCl, []⟩ ∧ Below w.heap.size w wr ∧ w.heap.size < wr.heap.size) (fun i _ => n - (intOf i).toNat)
  case atStart => exact ⟨0, _, Nat.zero_le _, rfl, by simpa using o2, b2, s2⟩
  case round =>
    clear o2 b2 s2
    obtain ⟨k, rvs, hk, rfl, S, bb, hsz⟩ := hrel
    have hlen : (cs.take k ++ List.replicate (n - k) noCl).length = n := by simp; omega
    by_cases hlt : k < n
    · obtain ⟨g, o, cl, A', m', cc, e1, hg, hcl, d1, d2, d3, hmc, hi⟩ := (h.below bb).at_ hlt
      subst e1
      have hlt' : (k : Int) < n := by omega
      have hl3 := hi.1
      have hm3 : m' ≤ 1099511627776 := by have := HB.out cl (List.mem_of_getElem? hcl); omega
      have HST := Lib.hid (set_takeC hl hlt hcl)
      have hold : (cs.take k ++ List.replicate (n - k) noCl)[k]? = some noCl := by
        rw [List.getElem?_append_right (by rw [List.length_take]; omega), List.length_take, Nat.min_eq_left (by omega), Nat.sub_self, List.getElem?_replicate, if_pos (by omega)]
      have hi' := hi.more bb.size
      clear hcl
      go_wp2_with fail
      refine (toCell_any cl _ _ _ _ hi' hm3).mono ?_
      rintro e w1 ⟨g1, rfl, o1, b1⟩
      have S1 := S.below b1 (Nat.le_refl _)
      have bb1 := bb.trans (b1.mono bb.size)
      have hg1 := (World.ownsRow.lt o1 g1 (by simp [Value.ownBlock]))
      have ST : OwnHx w1 w.heap.size (.slice (some ⟨w.heap.size, 0, none⟩) (Hp.mk (cs.take k ++ List.replicate (n - k) noCl) []).cs.length n) (.slice none 0 0) rvs ⟨cs.take k ++ List.replicate (n - k) noCl, []⟩ := by
        show OwnHx w1 w.heap.size (.slice (some ⟨w.heap.size, 0, none⟩) (cs.take k ++ List.replicate (n - k) noCl).length n) (.slice none 0 0) rvs ⟨cs.take k ++ List.replicate (n - k) noCl, []⟩
        rw [hlen]
        exact S1
      have N := ST.cell (k := k) (cl := cl) (old := noCl) hold (o1.base bb.size) (fun v hv => .inr fun e => by
        have hb := (S.blocks (v := v) (by simpa only [hlen] using hv) (k := g1) (by rw [← e]; simp [Value.ownBlock])).2
        omega)
      simp only [hlen] at N
      rw [HST.out] at N
      have row := S1.row
      simp only [hlen] at row
      obtain ⟨v0, hv0⟩ : ∃ v0, rvs[k]? = some v0 := ⟨_, List.getElem?_eq_getElem (by rw [S1.len]; simp only [hlen]; exact hlt)⟩
      obtain ⟨f1, f2, f3⟩ := flatC_at _ _ _ _ _ hold hv0
      have q1 := (World.ownsRow.cellAt row (k * 3) (by omega)).trans f1
      have q2 := (World.ownsRow.cellAt row (k * 3 + 1) (by omega)).trans f2
      have q3 := (World.ownsRow.cellAt row (k * 3 + 2) (by omega)).trans f3
      have z1 := World.ownsRow.frozenAt row (k * 3)
      have z2 := World.ownsRow.frozenAt row (k * 3 + 1)
      have z3 := World.ownsRow.frozenAt row (k * 3 + 2)
      have bn := ((bb1.setCell (p := ⟨w.heap.size, k * 3, none⟩) (Nat.le_refl _) (.bool cl.u)).setCell (p := ⟨w.heap.size, k * 3 + 1, none⟩) (Nat.le_refl _) (.int .i64 cl.d)).setCell (p := ⟨w.heap.size, k * 3 + 2, none⟩) (Nat.le_refl _) (.slice (some ⟨g1, 0, none⟩) m' m')
      have hsz1 := b1.size
      have NN := Lib.hid N
      clear N ST S S1 row f1 f2 f3 hold o1 b1 d1 d2 d3 hi hi' bb1
      go_wp2_with fail
      go_roundw
      case rel => exact ⟨k + 1, _, by omega, by go_num, NN.out, bn, by simp; omega⟩
      case measure => simp [intOf]; omega
    · obtain rfl : k = n := by omega
      have e : cs.take k ++ List.replicate (k - k) noCl = cs := by rw [List.take_of_length_le (by omega)]; simp
      rw [e] at S
      clear hlen e
      go_wp2_with fail
      go_ret
      exact ⟨rvs, rfl, S, bb⟩
end Go.Proofs.YthmddmddcdofaaaDoor
namespace Go.Proofs.YthmddmddcdofaaaDoor
open Go.RowKit
theorem OwnHx.withRoots {w : World} {base base2 : Nat} {vc vr : Value} {rvs : List Value} {cs : List Cl} {rt : List Int} (S : OwnHx w base vc (.slice none 0 0) rvs ⟨cs, []⟩) (o : OwnI w base2 vr rt) (hb : base ≤ base2) (hf : ∀ v ∈ vc :: rvs, ∀ k, v.ownBlock = some k → k < base2) : OwnHx w base vc vr rvs ⟨cs, rt⟩ := by
  have hs := S.sep
  unfold Sep at hs
  rw [List.pairwise_cons, List.pairwise_cons] at hs
  have hne : ∀ v ∈ vc :: rvs, v.ownBlock = none ∨ v.ownBlock ≠ vr.ownBlock := fun v hv => by
    cases e : v.ownBlock with
    | none => exact .inl rfl
    | some k =>
      right
      intro e'
      have h1 := hf v hv k e
      have h2 := (World.ownsRow.lt o k e'.symm).1
      omega
  refine ⟨S.len, S.row, S.refs, o.base hb, ?_⟩
  unfold Sep
  rw [List.pairwise_cons, List.pairwise_cons]
  refine ⟨fun v hv => ?_, fun v hv => sep_back (hne v (by simp [hv])), hs.2.2⟩
  rcases List.mem_cons.1 hv with rfl | hv
  · exact hne vc (by simp)
  · exact hs.1 v (by simp [hv])
set_option maxHeartbeats 2000000 in
theorem toHeap_any (A R : Option Addr) (n c m d : Nat) (h : Hp) (w : World) (hs : HS w w.heap.size A n R m h) (hn : n ≤ 1099511627776) (hm : m ≤ 1099511627776) (hb : ∀ cl ∈ h.cs, cl.r.length ≤ 1099511627776) :
    Calls Tryd.prog 42 #[heapV A n c R m d] w fun e w' => ∃ g1 g2, e = .returned (heapV (some ⟨g1, 0, none⟩) n n (some ⟨g2, 0, none⟩) m m) ∧ OwnH w' w.heap.size (.slice (some ⟨g1, 0, none⟩) n n) (.slice (some ⟨g2, 0, none⟩) m m) h ∧ Below w.heap.size w w' := by
  have b3 : Below w.heap.size w (((w.alloc (.cells #[.slice A n c, .slice R m d] 60)).alloc (.cells #[.slice none 0 0, .slice none 0 0] 26)).alloc (.cells #[.slice none 0 0, .slice none 0 0] 26)) := (((Below.refl w.heap.size w).alloc (Nat.le_refl _) _).alloc (by simp) _).alloc (by simp; omega) _
  have i3 := hs.up b3
  have r0 := ((Rw.new w 60 #[.slice A n c, .slice R m d]).alloc (.cells #[.slice none 0 0, .slice none 0 0] 26)).alloc (.cells #[.slice none 0 0, .slice none 0 0] 26)
  have r1 := (Rw.new (w.alloc (.cells #[.slice A n c, .slice R m d] 60)) 26 #[.slice none 0 0, .slice none 0 0]).alloc (.cells #[.slice none 0 0, .slice none 0 0] 26)
  have r2 := Rw.new ((w.alloc (.cells #[.slice A n c, .slice R m d] 60)).alloc (.cells #[.slice none 0 0, .slice none 0 0] 26)) 26 #[.slice none 0 0, .slice none 0 0]
  have hsz : (((w.alloc (.cells #[.slice A n c, .slice R m d] 60)).alloc (.cells #[.slice none 0 0, .slice none 0 0] 26)).alloc (.cells #[.slice none 0 0, .slice none 0 0] 26)).heap.size = w.heap.size + 3 := by simp
  simp only [World.size_alloc] at r1 r2
  have HB := Lib.hid hb
  clear hb
  go_enter Tryd.func42, Tryd.ntmps42
  go_wp2_with fail
  refine (toCellS_any _ _ _ h.cs _ i3.cells hn HB.out).mono ?_
  rw [hsz]
  rintro e w1 ⟨rvs, rfl, S, b1⟩
  have c0 := r0.keep b1 (by omega)
  have c1 := r1.keep b1 (by omega)
  have c2 := r2.keep b1 (by omega)
  have bb1 := b3.trans (b1.mono (by omega))
  have x0 : w1.cell? ⟨w.heap.size + 1 + 1, 0, none⟩ = some (.slice none 0 0) := c2.cell 0
  have x1 : w1.cell? ⟨w.heap.size + 1 + 1, 1, none⟩ = some (.slice none 0 0) := c2.cell 1
  have x3 := c2.frozen 0
  -- the cells are put into the box
  have S2 := S.far (put_any w1 (w.heap.size + 1 + 1) 0 (.slice (some ⟨w.heap.size + 3, 0, none⟩) n n)) (S.apart_below (by omega))
  have e0 := Rw.other (w := w1) c0 (show w.heap.size ≠ w.heap.size + 1 + 1 by omega) (i := 0) (.slice (some ⟨w.heap.size + 3, 0, none⟩) n n)
  have e1 := Rw.other (w := w1) c1 (show w.heap.size + 1 ≠ w.heap.size + 1 + 1 by omega) (i := 0) (.slice (some ⟨w.heap.size + 3, 0, none⟩) n n)
  have e2 := c2.put 0 (.slice (some ⟨w.heap.size + 3, 0, none⟩) n n)
  have bb2 := bb1.setCell (p := ⟨w.heap.size + 1 + 1, 0, none⟩) (by simp; omega) (.slice (some ⟨w.heap.size + 3, 0, none⟩) n n)
  have hsz1 := b1.size
  have hsz2 : (w1.setCell ⟨w.heap.size + 1 + 1, 0, none⟩ (.slice (some ⟨w.heap.size + 3, 0, none⟩) n n)).heap.size = w1.heap.size := by simp
  obtain ⟨w2, hw2⟩ : ∃ w2, w1.setCell ⟨w.heap.size + 1 + 1, 0, none⟩ (.slice (some ⟨w.heap.size + 3, 0, none⟩) n n) = w2 := ⟨_, rfl⟩
  rw [hw2] at S2 e0 e1 e2 bb2 hsz2
  have hs2 := (hs.below bb2).more bb2.size
  have z1 : w2.cell? ⟨w.heap.size, 1, none⟩ = some (.slice R m d) := e0.cell 1
  have e2' : Rw w2 (w.heap.size + 1 + 1) 26 #[.slice (some ⟨w.heap.size + 3, 0, none⟩) n n, .slice none 0 0] := e2
  clear c0 c1 c2 S b1 b3 bb1 r0 r1 r2 i3 e0 e2
  go_wp2_with fail
  refine (toIntS_any _ _ _ h.rt _ hs2.roots hm).mono ?_
  rintro e w3 ⟨rfl, o3, b3⟩
  have S3 := S2.below b3 (Nat.le_refl _)
  have f1 := e1.keep b3 e1.lt
  have f2 := e2'.keep b3 e2'.lt
  have bb3 := bb2.trans (b3.mono bb2.size)
  have H3 := S3.withRoots o3 (by omega) (fun v hv k hk => (S2.blocks (v := v) (by simp only [List.mem_cons] at hv ⊢; rcases hv with h | h <;> simp [h]) hk).2)
  have hge : w.heap.size + 3 ≤ w2.heap.size := by omega
  obtain ⟨g2, hg2⟩ : ∃ g2, w2.heap.size = g2 := ⟨_, rfl⟩
  rw [hg2] at H3 hge
  rw [hg2]
  have y0 : w3.cell? ⟨w.heap.size + 1 + 1, 0, none⟩ = some (.slice (some ⟨w.heap.size + 3, 0, none⟩) n n) := f2.cell 0
  have y1 : w3.cell? ⟨w.heap.size + 1 + 1, 1, none⟩ = some (.slice none 0 0) := f2.cell 1
  have y2 := f2.frozen 1
  -- the roots are put into the box
  have H4 := H3.far (put_any w3 (w.heap.size + 1 + 1) 1 (.slice (some ⟨g2, 0, none⟩) m m)) (H3.apart_below (by omega))
  have k1 := Rw.other (w := w3) f1 (show w.heap.size + 1 ≠ w.heap.size + 1 + 1 by omega) (i := 1) (.slice (some ⟨g2, 0, none⟩) m m)
  have k2 : Rw (w3.setCell ⟨w.heap.size + 1 + 1, 1, none⟩ (.slice (some ⟨g2, 0, none⟩) m m)) (w.heap.size + 1 + 1) 26 #[.slice (some ⟨w.heap.size + 3, 0, none⟩) n n, .slice (some ⟨g2, 0, none⟩) m m] := f2.put 1 _
  have bb4 := bb3.setCell (p := ⟨w.heap.size + 1 + 1, 1, none⟩) (by simp; omega) (.slice (some ⟨g2, 0, none⟩) m m)
  obtain ⟨w4, hw4⟩ : ∃ w4, w3.setCell ⟨w.heap.size + 1 + 1, 1, none⟩ (.slice (some ⟨g2, 0, none⟩) m m) = w4 := ⟨_, rfl⟩
  rw [hw4] at H4 k1 k2 bb4
  have u0 : w4.cell? ⟨w.heap.size + 1 + 1, 0, none⟩ = some (.slice (some ⟨w.heap.size + 3, 0, none⟩) n n) := k2.cell 0
  have u1 : w4.cell? ⟨w.heap.size + 1 + 1, 1, none⟩ = some (.slice (some ⟨g2, 0, none⟩) m m) := k2.cell 1
  have v0 : w4.cell? ⟨w.heap.size + 1, 0, none⟩ = some (.slice none 0 0) := k1.cell 0
  have v1 : w4.cell? ⟨w.heap.size + 1, 1, none⟩ = some (.slice none 0 0) := k1.cell 1
  have v2 := k1.frozen 0
  have v3 := k1.frozen 1
  have k3 := (k1.put 0 (.slice (some ⟨w.heap.size + 3, 0, none⟩) n n)).put 1 (.slice (some ⟨g2, 0, none⟩) m m)
  have q0 := k3.cell 0
  have q1 := k3.cell 1
  have bb5 := (bb4.setCell (p := ⟨w.heap.size + 1, 0, none⟩) (by simp) (.slice (some ⟨w.heap.size + 3, 0, none⟩) n n)).setCell (p := ⟨w.heap.size + 1, 1, none⟩) (by simp) (.slice (some ⟨g2, 0, none⟩) m m)
  have ap := H4.apart_below (b := w.heap.size + 1) (by omega)
  have H5 := ((H4.far (put_any w4 (w.heap.size + 1) 0 (.slice (some ⟨w.heap.size + 3, 0, none⟩) n n)) ap).far (put_any _ (w.heap.size + 1) 1 (.slice (some ⟨g2, 0, none⟩) m m)) ap).base (show w.heap.size ≤ w.heap.size + 3 by omega)
  simp at q0 q1
  have OH := Lib.hid H5
  clear S2 S3 H3 H4 H5 e1 e2' f1 f2 k1 k2 k3 o3 b3 bb2 bb3 bb4 ap hs2
  go_wp2_with fail
  exact bodyPost_ret (v := heapV (some ⟨w.heap.size + 3, 0, none⟩) n n (some ⟨g2, 0, none⟩) m m) (by simp [results, Tryd.results42, go_sem, *]) rfl ⟨_, _, rfl, ⟨_, OH.out⟩, bb5⟩
end Go.Proofs.YthmddmddcdofaaaDoor
namespace Go.Proofs.YthmddmddcdofaaaDoor
open Go.RowKit
set_option maxRecDepth 100000
set_option maxHeartbeats 1000000 in
theorem eqCell_any (x y : Cl) (A B : Option Addr) (m q c d : Nat) (w : World) (hx : IS w w.heap.size A m x.r) (hy : IS w w.heap.size B q y.r) (hm : m ≤ 1099511627776) (hq : q ≤ 1099511627776) :
    Calls Tryd.prog 137 #[.agg #[.bool x.u, .int .i64 x.d, .slice A m c], .agg #[.bool y.u, .int .i64 y.d, .slice B q d]] w fun e w' => e = .returned (.bool (decide (x = y))) ∧ Below w.heap.size w w' := by
  have b2 : Below w.heap.size w ((w.alloc (.cells #[.bool x.u, .int .i64 x.d, .slice A m c] 40)).alloc (.cells #[.bool y.u, .int .i64 y.d, .slice B q d] 40)) := ((Below.refl w.heap.size w).alloc (Nat.le_refl _) _).alloc (by simp) _
  have x2 := hx.up b2
  have y2 := hy.up b2
  by_cases hu : x.u = y.u
  · have hu' : (!x.u == y.u) = false := by simp [hu]
    have HU := Lib.hid hu
    clear hu
    by_cases hd : x.d = y.d
    · have hd' : (x.d != y.d) = false := by rw [bne_eq_false_iff_eq]; exact hd
      have HD := Lib.hid hd
      clear hd
      cases hr : decide (x.r = y.r)
      · have HR := Lib.hid (show decide (x = y) = false by
          have hne := of_decide_eq_false hr
          apply decide_eq_false
          rintro rfl
          exact hne rfl)
        have HRR := Lib.hid hr
        clear hr
        go_enter Tryd.func137, Tryd.ntmps137
        go_wp2_with fail
        refine (eqIntS_any _ _ _ _ _ _ x.r y.r _ x2 y2 hm hq).mono ?_
        rw [HRR.out]
        rintro e w1 ⟨rfl, b1⟩
        go_wp2_with fail
        go_ret
        exact ⟨by rw [HR.out]; rfl, b2.trans (b1.mono b2.size)⟩
      · have HR := Lib.hid (show decide (x = y) = true by
          have hrr := of_decide_eq_true hr
          apply decide_eq_true
          have h1 := HU.out
          have h2 := HD.out
          cases x
          cases y
          simp_all)
        have HRR := Lib.hid hr
        clear hr
        go_enter Tryd.func137, Tryd.ntmps137
        go_wp2_with fail
        refine (eqIntS_any _ _ _ _ _ _ x.r y.r _ x2 y2 hm hq).mono ?_
        rw [HRR.out]
        rintro e w1 ⟨rfl, b1⟩
        go_wp2_with fail
        go_ret
        exact ⟨by rw [HR.out]; rfl, b2.trans (b1.mono b2.size)⟩
    · have hd' : (x.d != y.d) = true := by rw [bne_iff_ne]; exact hd
      have HR := Lib.hid (show decide (x = y) = false by apply decide_eq_false; rintro rfl; exact hd rfl)
      clear hd
      go_enter Tryd.func137, Tryd.ntmps137
      go_wp2_with fail
      go_ret
      exact ⟨by rw [HR.out]; rfl, b2⟩
  · have hu' : (!x.u == y.u) = true := by simp [hu]
    have HR := Lib.hid (show decide (x = y) = false by apply decide_eq_false; rintro rfl; exact hu rfl)
    clear hu
    go_enter Tryd.func137, Tryd.ntmps137
    go_wp2_with fail
    go_ret
    exact ⟨by rw [HR.out]; rfl, b2⟩
theorem take_eq_succC {xs ys : List Cl} {k : Nat} {x y : Cl} (h : xs.take k = ys.take k) (hx : xs[k]? = some x) (hy : ys[k]? = some y) (he : decide (x = y) = true) : xs.take (k + 1) = ys.take (k + 1) := by
  rw [List.take_add_one, List.take_add_one, h, hx, hy, of_decide_eq_true he]
theorem ne_of_atC {xs ys : List Cl} {k : Nat} {x y : Cl} (hx : xs[k]? = some x) (hy : ys[k]? = some y) (he : decide (x = y) = false) : decide (xs = ys) = false := by
  apply decide_eq_false
  rintro rfl
  rw [hx] at hy
  injection hy with hy
  exact of_decide_eq_false he hy
set_option maxHeartbeats 1000000 in
theorem eqCellS_any (A B : Option Addr) (n m c d : Nat) (xs ys : List Cl) (w : World) (h : CS w w.heap.size A n xs) (h' : CS w w.heap.size B m ys) (hn : n ≤ 1099511627776) (hm : m ≤ 1099511627776) (hb : ∀ cl ∈ xs, cl.r.length ≤ 1099511627776) (hb' : ∀ cl ∈ ys, cl.r.length ≤ 1099511627776) :
    Calls Tryd.prog 102 #[.slice A n c, .slice B m d] w fun e w' => e = .returned (.bool (decide (xs = ys))) ∧ Below w.heap.size w w' := by
  have HL := Lib.hid h.1
  have HL' := Lib.hid h'.1
  have HB := Lib.hid hb
  have HB' := Lib.hid hb'
  clear hb hb'
  by_cases hnm : n = m
  · subst hnm
    go_enter Tryd.func102, Tryd.ntmps102
    go_wp2
    go_loopw [5] (fun i wr => ∃ (k : Nat), k ≤ n ∧ i = .int .i64 k ∧ Hid (xs.take k = ys.take k) ∧ Below w.heap.size w wr) (fun i _ => n - (intOf i).toNat)
    case atStart => exact ⟨0, Nat.zero_le _, rfl, by simp [Hid], Below.refl _ _⟩
    case round =>
      obtain ⟨k, hk, rfl, hpre, hb⟩ := hrel
      by_cases hlt : k < n
      · obtain ⟨g, o, x, A1, m1, c1, rfl, hg, hx, p1, p2, p3, _, hi⟩ := (h.below hb).at_ hlt
        obtain ⟨g', o', y, B1, q1, d1, rfl, hg', hx', r1, r2, r3, _, hi'⟩ := (h'.below hb).at_ hlt
        have HX := Lib.hid hx
        have HX' := Lib.hid hx'
        have hm1 : m1 ≤ 1099511627776 := by have := HB.out x (List.mem_of_getElem? hx); have := hi.1; omega
        have hq1 : q1 ≤ 1099511627776 := by have := HB'.out y (List.mem_of_getElem? hx'); have := hi'.1; omega
        have hi2 : IS wr.drew wr.drew.heap.size A1 m1 x.r := hi.more hb.size
        have hi2' : IS wr.drew wr.drew.heap.size B1 q1 y.r := hi'.more hb.size
        clear hx hx' hi hi'
        go_wp2
        go_still_tail 8, (by kernel_rfl)
        change wpList _ _ _ _ _ wr.drew
        have hbd : Below w.heap.size w wr.drew := hb.drew
        generalize wr.drew = w2 at hbd hi2 hi2'
        cases he : decide (x = y)
        all_goals
          have HE := Lib.hid he
          clear he
          go_wp2_with (go_at_call 137; refine (eqCell_any x y _ _ _ _ _ _ _ hi2 hi2' hm1 hq1).mono ?_; rw [HE.out]; rintro e w1 ⟨rfl, hb1⟩)
        · go_ret
          exact ⟨ret_bool (ne_of_atC HX.out HX'.out HE.out).symm, hbd.trans (hb1.mono hbd.size)⟩
        · go_roundw
          case rel => exact ⟨k + 1, by omega, by go_num, Lib.hid (take_eq_succC hpre.out HX.out HX'.out HE.out), hbd.trans (hb1.mono hbd.size)⟩
          case measure => simp [intOf]; omega
      · have hkn : k = n := by omega
        have HK := Lib.hid hkn
        clear hkn
        go_wp2
        go_ret
        refine ⟨ret_bool ?_, hb⟩
        have hp := hpre.out
        rw [HK.out, List.take_of_length_le (by rw [HL.out]; omega), List.take_of_length_le (by rw [HL'.out]; omega)] at hp
        simp [hp]
  · have hne : ((n : Int) != m) = true := by rw [bne_iff_ne]; omega
    have HN := Lib.hid hnm
    clear hnm
    go_enter Tryd.func102, Tryd.ntmps102
    go_wp2
    go_ret
    refine ⟨ret_bool ?_, Below.refl _ _⟩
    simp
    rintro rfl
    exact HN.out (HL.out.symm.trans HL'.out)
set_option maxHeartbeats 1000000 in
theorem eqHeap_any (A R A' R' : Option Addr) (n c m d n' c' m' d' : Nat) (x y : Hp) (w : World) (hx : HS w w.heap.size A n R m x) (hy : HS w w.heap.size A' n' R' m' y) (hn : n ≤ 1099511627776) (hm : m ≤ 1099511627776) (hn' : n' ≤ 1099511627776) (hm' : m' ≤ 1099511627776) (hb : ∀ cl ∈ x.cs, cl.r.length ≤ 1099511627776) (hb' : ∀ cl ∈ y.cs, cl.r.length ≤ 1099511627776) :
    Calls Tryd.prog 44 #[heapV A n c R m d, heapV A' n' c' R' m' d'] w fun e w' => e = .returned (.bool (decide (x = y))) ∧ Below w.heap.size w w' := by
  have b2 : Below w.heap.size w ((w.alloc (.cells #[.slice A n c, .slice R m d] 26)).alloc (.cells #[.slice A' n' c', .slice R' m' d'] 26)) := ((Below.refl w.heap.size w).alloc (Nat.le_refl _) _).alloc (by simp) _
  have x2 := hx.up b2
  have y2 := hy.up b2
  have r0 := (Rw.new w 26 #[.slice A n c, .slice R m d]).alloc (.cells #[.slice A' n' c', .slice R' m' d'] 26)
  have r1 := Rw.new (w.alloc (.cells #[.slice A n c, .slice R m d] 26)) 26 #[.slice A' n' c', .slice R' m' d']
  simp only [World.size_alloc] at r1
  cases hc : decide (x.cs = y.cs)
  · have HC := Lib.hid hc
    have HR := Lib.hid (show decide (x = y) = false by
      have hne := of_decide_eq_false hc
      apply decide_eq_false
      rintro rfl
      exact hne rfl)
    clear hc
    go_enter Tryd.func44, Tryd.ntmps44
    go_wp2_with fail
    refine (eqCellS_any _ _ _ _ _ _ x.cs y.cs _ x2.cells y2.cells hn hn' hb hb').mono ?_
    rw [HC.out]
    rintro e w1 ⟨rfl, b1⟩
    go_wp2_with fail
    go_ret
    exact ⟨by rw [HR.out]; rfl, b2.trans (b1.mono b2.size)⟩
  · have HC := Lib.hid hc
    clear hc
    cases hr : decide (x.rt = y.rt)
    all_goals
      have HRT := Lib.hid hr
      have HR := Lib.hid (show decide (x = y) = decide (x.rt = y.rt) by
        have e1 := of_decide_eq_true HC.out
        rw [decide_eq_decide]
        cases x
        cases y
        simp_all)
      clear hr
      go_enter Tryd.func44, Tryd.ntmps44
      go_wp2_with fail
      refine (eqCellS_any _ _ _ _ _ _ x.cs y.cs _ x2.cells y2.cells hn hn' hb hb').mono ?_
      rw [HC.out]
      rintro e w1 ⟨rfl, b1⟩
      have bb1 := b2.trans (b1.mono b2.size)
      have c0 := r0.keep b1 (by simp; omega)
      have c1 := r1.keep b1 (by simp)
      have x3 := x2.up b1
      have y3 := y2.up b1
      have z0 : w1.cell? ⟨w.heap.size, 1, none⟩ = some (.slice R m d) := c0.cell 1
      have z1 : w1.cell? ⟨w.heap.size + 1, 1, none⟩ = some (.slice R' m' d') := c1.cell 1
      clear c0 c1 r0 r1 x2 y2
      go_wp2_with fail
      refine (eqIntS_any _ _ _ _ _ _ x.rt y.rt _ x3.roots y3.roots hm hm').mono ?_
      rw [HRT.out]
      rintro e w2 ⟨rfl, b2'⟩
      go_wp2_with fail
      go_ret
      exact ⟨by rw [HR.out, HRT.out]; rfl, bb1.trans (b2'.mono bb1.size)⟩
end Go.Proofs.YthmddmddcdofaaaDoor
namespace Go.Proofs.YthmddmddcdofaaaDoor
open Go.ChangeShapes Go.WideShapes Go.ChangeAt Go.RowKit Go.Deep
set_option maxRecDepth 100000
/-- how many references the first k cells have -/
def refN (cs : List Cl) (k : Nat) : Nat := ((cs.take k).map (·.r.length)).sum
theorem refN_succ {cs : List Cl} {k : Nat} {c : Cl} (h : cs[k]? = some c) : refN cs (k + 1) = refN cs k + c.r.length := by
  simp [refN, List.take_add_one, h]
theorem refN_mono (cs : List Cl) : ∀ {j k : Nat}, j ≤ k → refN cs j ≤ refN cs k := by
  intro j k hjk
  induction hjk with
  | refl => exact Nat.le_refl _
  | step _ ih =>
    refine Nat.le_trans ih ?_
    rename_i k _
    cases h : cs[k]? with
    | none => simp [refN, List.take_add_one, h]
    | some c => rw [refN_succ h]; omega
theorem refN_mem {cs : List Cl} {c : Cl} (hc : c ∈ cs) : c.r.length ≤ refN cs cs.length := by
  obtain ⟨k, hk⟩ := List.mem_iff_getElem?.1 hc
  have h1 := refN_succ hk
  have h2 := refN_mono cs (j := k + 1) (k := cs.length) (List.getElem?_eq_some_iff.1 hk).1
  omega
/-- what is left of l -/
def leftOf (l : Int) (n : Nat) : Int := if (n : Int) ≤ l then l - n else -1
set_option maxHeartbeats 1000000 in
theorem szCell_any (cl : Cl) (A : Option Addr) (m cc : Nat) (l : Int) (w : World) (h0 : 0 ≤ l) (h1 : l ≤ 1099511627776) (hm : m ≤ 9223372036854775807) :
    Calls Tryd.prog 135 #[.agg #[.bool cl.u, .int .i64 cl.d, .slice A m cc], .int .i64 l] w fun e w' => e = .returned (.int .i64 (leftOf l m)) ∧ Below w.heap.size w w' := by
  have b1 : Below w.heap.size w (w.alloc (.cells #[.bool cl.u, .int .i64 cl.d, .slice A m cc] 161)) := (Below.refl _ _).alloc (Nat.le_refl _) _
  unfold leftOf
  by_cases h : (m : Int) ≤ l
  · have HI := Lib.hid (show (if (m : Int) ≤ l then l - m else -1) = l - m from if_pos h)
    have h' : decide (l - (m : Int) < 0) = false := decide_eq_false (by omega)
    go_enter Tryd.func135, Tryd.ntmps135
    go_wp2_with fail
    refine (szIntS_any _ _ _ _ _ h0 h1 hm).mono ?_
    rw [HI.out]
    rintro e w' ⟨rfl, rfl⟩
    go_wp2_with fail
    go_ret
    exact ⟨rfl, b1⟩
  · have HI := Lib.hid (show (if (m : Int) ≤ l then l - m else -1) = -1 from if_neg h)
    go_enter Tryd.func135, Tryd.ntmps135
    go_wp2_with fail
    refine (szIntS_any _ _ _ _ _ h0 h1 hm).mono ?_
    rw [HI.out]
    rintro e w' ⟨rfl, rfl⟩
    go_wp2_with fail
    go_ret
    exact ⟨rfl, b1⟩
set_option maxHeartbeats 2000000 in
theorem szCellS_any (A : Option Addr) (n c : Nat) (cs : List Cl) (l : Int) (w : World) (h : CS w w.heap.size A n cs) (h0 : 0 ≤ l) (h1 : l ≤ 1099511627776) (hn : n ≤ 9223372036854775807) (hb : ∀ cl ∈ cs, cl.r.length ≤ 9223372036854775807) :
    Calls Tryd.prog 98 #[.slice A n c, .int .i64 l] w fun e w' => e = .returned (.int .i64 (leftOf l (n + refN cs n))) ∧ Below w.heap.size w w' := by
  have HB := Lib.hid hb
  clear hb
  by_cases hl : (n : Int) ≤ l
  · have hl' : decide (l - (n : Int) < 0) = false := decide_eq_false (by omega)
    go_enter Tryd.func98, Tryd.ntmps98
    go_wp2_with fail
    go_loopw [1, 5] (fun q i wr => ∃ k : Nat, k ≤ n ∧ i = .int .i64 k ∧ q = .int .i64 (l - n - refN cs k) ∧ (0 : Int) ≤ l - n - refN cs k ∧ Below w.heap.size w wr) (fun _ i _ => n - (intOf i).toNat)
    case atStart => exact ⟨0, Nat.zero_le _, rfl, by simp [refN], by simp [refN]; omega, Below.refl _ _⟩
    case round =>
      obtain ⟨k, hk, rfl, rfl, hnn, bb⟩ := hrel
      by_cases hlt : k < n
      · obtain ⟨g, o, cl, A', m', cc, e1, hg, hcl, d1, d2, d3, hmc, hi⟩ := (h.below bb).at_ hlt
        subst e1
        have hlt' : (k : Int) < n := by omega
        have hm3 : m' ≤ 9223372036854775807 := by have := HB.out cl (List.mem_of_getElem? hcl); have := hi.1; omega
        have hs := refN_succ hcl
        rw [hi.1] at hs
        have hle := refN_mono cs (j := k + 1) (k := n) (by omega)
        obtain ⟨r, hr⟩ : ∃ r, refN cs k = r := ⟨_, rfl⟩
        rw [hr] at hs hnn ⊢
        have HS := Lib.hid hs
        have HLE := Lib.hid hle
        clear hcl hs hle hr
        by_cases hfit : (m' : Int) ≤ l - n - r
        · have HF := Lib.hid (show leftOf (l - n - r) m' = l - n - r - m' from if_pos hfit)
          have hq0 : decide (l - (n : Int) - (r : Int) - (m' : Int) < 0) = false := decide_eq_false (by omega)
          go_wp2_with fail
          refine (szCell_any cl _ _ _ _ _ hnn (by omega) hm3).mono ?_
          rw [HF.out]
          rintro e w1 ⟨rfl, b1⟩
          go_wp2_with fail
          go_roundw
          case rel => exact ⟨k + 1, by omega, by go_num, int_eq (by rw [HS.out]; omega), by rw [HS.out]; omega, bb.trans (b1.mono bb.size)⟩
          case measure => simp [intOf]; omega
        · have HF := Lib.hid (show leftOf (l - n - r) m' = -1 from if_neg hfit)
          have HR := Lib.hid (show leftOf l (n + refN cs n) = -1 from if_neg (by have := HS.out; have := HLE.out; omega))
          go_wp2_with fail
          refine (szCell_any cl _ _ _ _ _ hnn (by omega) hm3).mono ?_
          rw [HF.out]
          rintro e w1 ⟨rfl, b1⟩
          go_wp2_with fail
          go_ret
          exact ⟨by rw [HR.out]; rfl, bb.trans (b1.mono bb.size)⟩
      · obtain rfl : k = n := by omega
        have HR := Lib.hid (show leftOf l (k + refN cs k) = l - k - refN cs k by rw [leftOf, if_pos (by omega)]; omega)
        go_wp2_with fail
        go_ret
        exact ⟨by rw [HR.out]; rfl, bb⟩
  · have hl' : l - (n : Int) < 0 := by omega
    have HR := Lib.hid (show leftOf l (n + refN cs n) = -1 from if_neg (by omega))
    go_enter Tryd.func98, Tryd.ntmps98
    go_wp2_with fail
    go_ret
    exact ⟨by rw [HR.out]; rfl, Below.refl _ _⟩
/-- all that a heap has: cells, references and roots -/
def sizeH (h : Hp) : Nat := h.cs.length + refN h.cs h.cs.length + h.rt.length
set_option maxHeartbeats 1000000 in
theorem szHeap_any (A R : Option Addr) (n c m d : Nat) (h : Hp) (l : Int) (w : World) (hs : HS w w.heap.size A n R m h) (h0 : 0 ≤ l) (h1 : l ≤ 1099511627776) (hn : n ≤ 9223372036854775807) (hm : m ≤ 9223372036854775807) (hb : ∀ cl ∈ h.cs, cl.r.length ≤ 9223372036854775807) :
    Calls Tryd.prog 41 #[heapV A n c R m d, .int .i64 l] w fun e w' => e = .returned (.int .i64 (leftOf l (sizeH h))) ∧ Below w.heap.size w w' := by
  have b1 : Below w.heap.size w (w.alloc (.cells #[.slice A n c, .slice R m d] 60)) := (Below.refl _ _).alloc (Nat.le_refl _) _
  have s1 := hs.up b1
  have r0 := Rw.new w 60 #[.slice A n c, .slice R m d]
  have hsz : sizeH h = n + refN h.cs n + m := by rw [sizeH, hs.cells.1, hs.roots.1]
  by_cases hf : ((n + refN h.cs n : Nat) : Int) ≤ l
  · have HF := Lib.hid (show leftOf l (n + refN h.cs n) = l - (n + refN h.cs n : Nat) from if_pos hf)
    have hq : decide (l - ((n + refN h.cs n : Nat) : Int) < 0) = false := decide_eq_false (by omega)
    obtain ⟨q, hq'⟩ : ∃ q : Int, l - ((n + refN h.cs n : Nat) : Int) = q := ⟨_, rfl⟩
    rw [hq'] at HF hq
    have hq0 : 0 ≤ q := by omega
    have hq1 : q ≤ 1099511627776 := by omega
    have HL := Lib.hid (show leftOf l (sizeH h) = leftOf q m by
      unfold leftOf
      rw [hsz]
      by_cases e : (m : Int) ≤ q
      · rw [if_pos e, if_pos (by omega)]; omega
      · rw [if_neg e, if_neg (by omega)])
    clear hq' hf
    by_cases e : (m : Int) ≤ q
    · have HE := Lib.hid (show (if (m : Int) ≤ q then q - m else -1) = q - m from if_pos e)
      have he : decide (q - (m : Int) < 0) = false := decide_eq_false (by omega)
      go_enter Tryd.func41, Tryd.ntmps41
      go_wp2_with fail
      refine (szCellS_any _ _ _ h.cs _ _ s1.cells h0 h1 hn hb).mono ?_
      rw [HF.out]
      rintro e' w1 ⟨rfl, b2⟩
      have z1 : w1.cell? ⟨w.heap.size, 1, none⟩ = some (.slice R m d) := (r0.keep b2 (by simp)).cell 1
      go_wp2_with fail
      refine (szIntS_any _ _ _ _ _ hq0 hq1 hm).mono ?_
      rw [HE.out]
      rintro e' w2 ⟨rfl, rfl⟩
      go_wp2_with fail
      go_ret
      exact ⟨by rw [HL.out, leftOf, HE.out]; rfl, b1.trans (b2.mono b1.size)⟩
    · have HE := Lib.hid (show (if (m : Int) ≤ q then q - m else -1) = -1 from if_neg e)
      go_enter Tryd.func41, Tryd.ntmps41
      go_wp2_with fail
      refine (szCellS_any _ _ _ h.cs _ _ s1.cells h0 h1 hn hb).mono ?_
      rw [HF.out]
      rintro e' w1 ⟨rfl, b2⟩
      have z1 : w1.cell? ⟨w.heap.size, 1, none⟩ = some (.slice R m d) := (r0.keep b2 (by simp)).cell 1
      go_wp2_with fail
      refine (szIntS_any _ _ _ _ _ hq0 hq1 hm).mono ?_
      rw [HE.out]
      rintro e' w2 ⟨rfl, rfl⟩
      go_wp2_with fail
      go_ret
      exact ⟨by rw [HL.out, leftOf, HE.out]; rfl, b1.trans (b2.mono b1.size)⟩
  · have HF := Lib.hid (show leftOf l (n + refN h.cs n) = -1 from if_neg hf)
    have HL := Lib.hid (show leftOf l (sizeH h) = -1 from if_neg (by rw [hsz]; omega))
    go_enter Tryd.func41, Tryd.ntmps41
    go_wp2_with fail
    refine (szCellS_any _ _ _ h.cs _ _ s1.cells h0 h1 hn hb).mono ?_
    rw [HF.out]
    rintro e' w1 ⟨rfl, b2⟩
    go_wp2_with fail
    go_ret
    exact ⟨by rw [HL.out]; rfl, b1.trans (b2.mono b1.size)⟩
end Go.Proofs.YthmddmddcdofaaaDoor
namespace Go.Proofs.YthmddmddcdofaaaDoor
open Go.RowKit
set_option maxRecDepth 100000
/-- only blocks of the values l have been written -/
structure Touched (w w' : World) (l : List Value) : Prop where
  os : w'.os = w.os
  tape : w'.tape = w.tape
  output : w'.output = w.output
  size : w.heap.size ≤ w'.heap.size
  block : ∀ j, j < w.heap.size → (∀ v ∈ l, v.ownBlock ≠ some j) → w'.heap[j]? = w.heap[j]?
theorem Touched.refl (w : World) (l : List Value) : Touched w w l := ⟨rfl, rfl, rfl, Nat.le_refl _, fun _ _ _ => rfl⟩
theorem Touched.grown {w w1 w2 : World} {l : List Value} {v : Value} (h : Touched w w1 l) (hg : w1.grownBy w2 v.ownBlock) (hv : v ∈ l) : Touched w w2 l :=
  ⟨hg.os.trans h.os, hg.tape.trans h.tape, hg.output.trans h.output, Nat.le_trans h.size hg.size, fun j hj hn => (hg.block j (Nat.lt_of_lt_of_le hj h.size) (fun e => hn v hv e.symm)).trans (h.block j hj hn)⟩
theorem Touched.put {w w1 : World} {l : List Value} {g : Nat} {v : Value} (h : Touched w w1 l) (hv : v ∈ l) (hg : v.ownBlock = some g) (i : Nat) (u : Value) : Touched w (w1.setCell ⟨g, i, none⟩ u) l :=
  h.grown (v := v) (by rw [hg]; exact put_any w1 g i u) hv
theorem Touched.below {w0 w w' : World} {B : Nat} {l : List Value} (h : Touched w w' l) (hb : Below B w0 w) (hB : B ≤ w.heap.size) (hl : ∀ v ∈ l, ∀ k, v.ownBlock = some k → B ≤ k) : Below B w0 w' :=
  ⟨h.os.trans hb.os, h.tape.trans hb.tape, h.output.trans hb.output, Nat.le_trans hb.size h.size, fun j hj => (h.block j (by omega) (fun v hv e => by have := hl v hv j e; omega)).trans (hb.block j hj)⟩
theorem Touched.first {w w' : World} {o : Obj} {l : List Value} (h : Touched (w.alloc o) w' l) : Touched w w' l :=
  ⟨h.os, h.tape, h.output, Nat.le_trans (by simp) h.size, fun j hj hn => (h.block j (by simp; omega) hn).trans (Below.heap_alloc w o j hj)⟩
theorem Touched.more {w w' : World} {l l' : List Value} (h : Touched w w' l) (hl : ∀ v ∈ l, v ∈ l') : Touched w w' l' :=
  ⟨h.os, h.tape, h.output, h.size, fun j hj hn => h.block j hj fun v hv => hn v (hl v hv)⟩
theorem Rw.touched {w w' : World} {g : Nat} {t : TypeId} {cs : Array Value} {l : List Value} (h : Rw w g t cs) (ht : Touched w w' l) (hn : ∀ v ∈ l, v.ownBlock ≠ some g) : Rw w' g t cs := (ht.block g h.lt hn).trans h
theorem row_touched {w w' : World} {base n s : Nat} {e : TypeId} {v : Value} {xs : List Value} {l : List Value} (h : w.ownsRow base e s v n xs) (ht : Touched w w' l) (hne : ∀ u ∈ l, v.ownBlock = none ∨ v.ownBlock ≠ u.ownBlock) : w'.ownsRow base e s v n xs := by
  refine ⟨h.1, ?_⟩
  rcases h.2 with h0 | ⟨g, cap, cur, e, hb', hh, hr⟩
  · exact .inl h0
  · refine .inr ⟨g, cap, cur, e, hb', (ht.block g (Array.getElem?_eq_some_iff.1 hh).1 (fun u hu eu => ?_)).trans hh, hr⟩
    rcases hne u hu with h1 | h1
    · rw [e] at h1; simp [Value.ownBlock] at h1
    · apply h1; rw [e, eu]; simp [Value.ownBlock]
/-- whether a cell is used is written -/
theorem OwnHx.used {w : World} {base g c k : Nat} {vr : Value} {rvs : List Value} {h : Hp} {cl : Cl} (S : OwnHx w base (.slice (some ⟨g, 0, none⟩) h.cs.length c) vr rvs h) (hc : h.cs[k]? = some cl) (b : Bool) :
    OwnHx (w.setCell ⟨g, k * 3, none⟩ (.bool b)) base (.slice (some ⟨g, 0, none⟩) h.cs.length c) vr rvs ⟨h.cs.set k ⟨b, cl.d, cl.r⟩, h.rt⟩ := by
  have ap : ∀ v ∈ vr :: rvs, v.ownBlock = none ∨ v.ownBlock ≠ some g := S.apart_cells
  refine ⟨by simp [S.len], ?_, fun j c' v hc' hv => ?_, S.roots.far (put_any w g _ _) (ap vr (by simp)), S.sep⟩
  · have := (World.ownsRow.stored S.row (k * 3) (.bool b)).1
    rw [flatC_set_u _ _ _ _ _ S.len hc] at this
    simpa using this
  · rw [List.getElem?_set] at hc'
    have hmem := List.mem_of_getElem? hv
    by_cases hj : k = j
    · subst hj
      rw [if_pos rfl, if_pos (List.getElem?_eq_some_iff.1 hc).1] at hc'
      injection hc' with hc'
      subst hc'
      exact (S.refs k cl v hc hv).far (put_any w g _ _) (ap v (by simp [hmem]))
    · rw [if_neg hj] at hc'
      exact (S.refs j c' v hc' hv).far (put_any w g _ _) (ap v (by simp [hmem]))
/-- all references of a cell are written -/
theorem OwnHx.refAll {w w' : World} {base k : Nat} {vc vr v : Value} {rvs : List Value} {h : Hp} {cl : Cl} {xs : List Int} (S : OwnHx w base vc vr rvs h) (hc : h.cs[k]? = some cl) (hv : rvs[k]? = some v) (o : OwnI w' base v xs) (hg : w.grownBy w' v.ownBlock) :
    OwnHx w' base vc vr rvs ⟨h.cs.set k ⟨cl.u, cl.d, xs⟩, h.rt⟩ := by
  have hmem := List.mem_of_getElem? hv
  have hvc : vc.ownBlock = none ∨ vc.ownBlock ≠ v.ownBlock := sep_back (S.apart_cells v (List.mem_cons_of_mem _ hmem))
  have hvr : vr.ownBlock = none ∨ vr.ownBlock ≠ v.ownBlock := sep_back (S.apart_roots v (List.mem_cons_of_mem _ hmem))
  have hgt : ∀ (j : Nat) (u : Value), j ≠ k → rvs[j]? = some u → u.ownBlock = none ∨ u.ownBlock ≠ v.ownBlock := fun j u hj hvj => by
    have hs := S.sep
    unfold Sep at hs
    rw [List.pairwise_cons, List.pairwise_cons] at hs
    rcases Nat.lt_or_ge j k with h1 | h1
    · exact Sep.get hs.2.2 hvj hv h1
    · exact sep_back (Sep.get hs.2.2 hv hvj (by omega))
  refine ⟨by simp [S.len], ?_, fun j c' u hc' hvj => ?_, S.roots.far hg hvr, S.sep⟩
  · have := World.ownsRow.kept S.row hg hvc
    rw [List.length_set, flatC_refs _ _ _ _ _ hc]
    exact this
  · rw [List.getElem?_set] at hc'
    by_cases hj : k = j
    · subst hj
      rw [if_pos rfl, if_pos (List.getElem?_eq_some_iff.1 hc).1] at hc'
      injection hc' with hc'
      subst hc'
      rw [hv] at hvj
      injection hvj with hvj
      subst hvj
      exact o
    · rw [if_neg hj] at hc'
      exact (S.refs j c' u hc' hvj).far hg (hgt j u (by omega) hvj)
/-- the mark before cell i -/
def mkK (k : Int) (cs : List Cl) (i : Nat) : Int := k + 2 * i + refN cs i
def mkCl (k : Int) (c : Cl) : Cl := ⟨k % 3 == 0, k + 1, marksI (k + 1 + 1) c.r.length⟩
/-- the first i cells marked -/
def mkTo (k : Int) (cs : List Cl) : Nat → List Cl
  | 0 => cs
  | i + 1 => match cs[i]? with
    | some c => (mkTo k cs i).set i (mkCl (mkK k cs i) c)
    | none => mkTo k cs i
theorem mkTo_len (k : Int) (cs : List Cl) : ∀ i, (mkTo k cs i).length = cs.length
  | 0 => rfl
  | i + 1 => by
    simp only [mkTo]
    split
    · rw [List.length_set, mkTo_len k cs i]
    · exact mkTo_len k cs i
theorem mkTo_succ {k : Int} {cs : List Cl} {i : Nat} {c : Cl} (h : cs[i]? = some c) : mkTo k cs (i + 1) = (mkTo k cs i).set i (mkCl (mkK k cs i) c) := by simp [mkTo, h]
theorem mkTo_later {k : Int} {cs : List Cl} : ∀ {i j : Nat}, i ≤ j → (mkTo k cs i)[j]? = cs[j]?
  | 0, _, _ => rfl
  | i + 1, j, h => by
    simp only [mkTo]
    split
    · rw [List.getElem?_set, if_neg (by omega), mkTo_later (by omega)]
    · exact mkTo_later (by omega)
theorem mkTo_done {k : Int} {cs : List Cl} {j : Nat} {c : Cl} (hc : cs[j]? = some c) : ∀ {i : Nat}, j < i → (mkTo k cs i)[j]? = some (mkCl (mkK k cs j) c)
  | 0, h => by omega
  | i + 1, h => by
    have hj := (List.getElem?_eq_some_iff.1 hc).1
    rcases Nat.eq_or_lt_of_le (show j ≤ i by omega) with e | e
    · subst e
      rw [mkTo_succ hc, List.getElem?_set, if_pos rfl, if_pos (by rw [mkTo_len]; exact hj)]
    · have ih := mkTo_done (k := k) hc e
      simp only [mkTo]
      split
      · rw [List.getElem?_set, if_neg (by omega)]
        exact ih
      · exact ih
theorem mkK_succ {k : Int} {cs : List Cl} {i : Nat} {c : Cl} (h : cs[i]? = some c) : mkK k cs (i + 1) = mkK k cs i + 1 + 1 + c.r.length := by
  simp only [mkK]
  rw [refN_succ h]
  omega
set_option maxHeartbeats 2000000 in
theorem markCellS_any (vc vr : Value) (rvs : List Value) (h : Hp) (k : Int) (base : Nat) (w : World) (S : OwnHx w base vc vr rvs h) (hk : 0 ≤ k) (hk2 : k ≤ 1000000000) (hn : sizeH h ≤ 1000000000) :
    Calls Tryd.prog 104 #[vc, .int .i64 k] w fun e w' => e = .returned (.int .i64 (mkK k h.cs h.cs.length)) ∧ OwnHx w' base vc vr rvs ⟨mkTo k h.cs h.cs.length, h.rt⟩ ∧ Touched w w' (vc :: rvs) := by
  obtain ⟨A, c, R, d, rfl, rfl, _, _, fA, _⟩ := S.form
  obtain ⟨n, hn'⟩ : ∃ n, h.cs.length = n := ⟨_, rfl⟩
  have hsz : n + refN h.cs n ≤ 1000000000 := by unfold sizeH at hn; rw [hn'] at hn; omega
  obtain ⟨v0, hv0⟩ : ∃ v0, Value.slice R h.rt.length d = v0 := ⟨_, rfl⟩
  rw [hv0] at S ⊢
  rw [hn'] at S fA ⊢
  clear hv0 hn
  go_enter Tryd.func104, Tryd.ntmps104
  go_wp2_with fail
  go_loopw [1, 5] (fun q a wr => ∃ i : Nat, i ≤ n ∧ a = .int .i64 i ∧ q = .int .i64 (mkK k h.cs i) ∧ OwnHx wr base (.slice A n c) v0 rvs ⟨mkTo k h.cs i, h.rt⟩ ∧ Touched w wr (.slice A n c :: rvs)) (fun _ a _ => n - (intOf a).toNat)
  case atStart => exact ⟨0, Nat.zero_le _, rfl, by simp [mkK, refN], S, Touched.refl _ _⟩
  case round =>
    clear S
    obtain ⟨i, hi, rfl, rfl, S, T⟩ := hrel
    have hml := mkTo_len k h.cs i
    rw [hn'] at hml
    by_cases hlt : i < n
    · obtain ⟨g, rfl, hbg, hgl⟩ := fA (by omega)
      have hlt' : (i : Int) < n := by omega
      obtain ⟨cl, hcl⟩ : ∃ cl, h.cs[i]? = some cl := ⟨_, List.getElem?_eq_getElem (by omega)⟩
      have hcm : (mkTo k h.cs i)[i]? = some cl := by rw [mkTo_later (Nat.le_refl _)]; exact hcl
      obtain ⟨rv, hrv, hro⟩ := S.ref (k := i) (c := cl) hcm
      obtain ⟨A8, c8, e8, f8⟩ := hro.form
      subst e8
      have hrs := refN_succ hcl
      have hrm := refN_mono h.cs (j := i + 1) (k := n) (by omega)
      have hri := refN_mono h.cs (j := i) (k := i + 1) (by omega)
      obtain ⟨q, hq⟩ : ∃ q, mkK k h.cs i = q := ⟨_, rfl⟩
      have hq0 : 0 ≤ q := by rw [← hq]; simp only [mkK]; omega
      have hq1 : q + cl.r.length + 2 ≤ 4000000100 := by rw [← hq]; simp only [mkK]; omega
      have HQS := Lib.hid (mkK_succ (k := k) hcl)
      have HTS := Lib.hid (mkTo_succ (k := k) hcl)
      rw [hq] at HQS HTS ⊢
      -- the two numbers of the cell
      have ST : OwnHx wr base (.slice (some ⟨g, 0, none⟩) (Hp.mk (mkTo k h.cs i) h.rt).cs.length c) v0 rvs ⟨mkTo k h.cs i, h.rt⟩ := by
        show OwnHx wr base (.slice (some ⟨g, 0, none⟩) (mkTo k h.cs i).length c) v0 rvs ⟨mkTo k h.cs i, h.rt⟩
        rw [hml]
        exact S
      have S1 := ST.used hcm (q % 3 == 0)
      have hc1 : ((mkTo k h.cs i).set i ⟨q % 3 == 0, cl.d, cl.r⟩)[i]? = some ⟨q % 3 == 0, cl.d, cl.r⟩ := by simp [hml, hlt]
      have S1' : OwnHx (wr.setCell ⟨g, i * 3, none⟩ (.bool (q % 3 == 0))) base (.slice (some ⟨g, 0, none⟩) (Hp.mk ((mkTo k h.cs i).set i ⟨q % 3 == 0, cl.d, cl.r⟩) h.rt).cs.length c) v0 rvs ⟨(mkTo k h.cs i).set i ⟨q % 3 == 0, cl.d, cl.r⟩, h.rt⟩ := by
        simpa using S1
      have S2 := S1'.data hc1 (q + 1)
      have row := S.row
      simp only [hml] at row
      obtain ⟨p1, p2, p3⟩ := flatC_at _ _ _ _ _ hcm hrv
      have x1 := (World.ownsRow.cellAt row (i * 3) (by omega)).trans p1
      have x2 := (World.ownsRow.cellAt row (i * 3 + 1) (by omega)).trans p2
      have z1 := World.ownsRow.frozenAt row (i * 3)
      have row2 := S2.row
      have hl2 : (Hp.mk (((mkTo k h.cs i).set i ⟨q % 3 == 0, cl.d, cl.r⟩).set i ⟨q % 3 == 0, q + 1, cl.r⟩) h.rt).cs.length = n := by simp [hml]
      have T2 := (T.put (v := .slice (some ⟨g, 0, none⟩) n c) (by simp) rfl (i * 3) (.bool (q % 3 == 0))).put (v := .slice (some ⟨g, 0, none⟩) n c) (by simp) rfl (i * 3 + 1) (.int .i64 (q + 1))
      have hro2 := S2.refs i ⟨q % 3 == 0, q + 1, cl.r⟩ (.slice A8 cl.r.length c8) (by simp [hml, hlt]) hrv
      have hl1 : (Hp.mk ((mkTo k h.cs i).set i ⟨q % 3 == 0, cl.d, cl.r⟩) h.rt).cs.length = n := by simp [hml]
      have row1 := S1'.row
      simp only [hl1] at row1
      obtain ⟨_, p2', _⟩ := flatC_at _ _ _ _ _ hc1 hrv
      have y2 := (World.ownsRow.cellAt row1 (i * 3 + 1) (by omega)).trans p2'
      have z2 := World.ownsRow.frozenAt row1 (i * 3 + 1)
      simp only [hl1, hl2] at row2
      have hc2 : (((mkTo k h.cs i).set i ⟨q % 3 == 0, cl.d, cl.r⟩).set i ⟨q % 3 == 0, q + 1, cl.r⟩)[i]? = some ⟨q % 3 == 0, q + 1, cl.r⟩ := by simp [hml, hlt]
      obtain ⟨_, _, p3'⟩ := flatC_at _ _ _ _ _ hc2 hrv
      have y3 := (World.ownsRow.cellAt row2 (i * 3 + 2) (by omega)).trans p3'
      simp only [hl1] at S2
      have FIN := Lib.hid (fun w' (o : OwnI w' base (.slice A8 cl.r.length c8) (marksI (q + 1 + 1) cl.r.length)) hg => S2.refAll (w' := w') hc2 hrv o hg)
      have HRO := Lib.hid hro2
      have hwr : ∀ W : World, W = W := fun _ => rfl
      clear ST S S1 S1' S2 row row1 row2 hc1 hc2 p1 p2 p3 p2' p3' hro hro2 f8 hcm hcl hrs hrm hri hq hwr
      go_wp2_with fail
      refine (markIntS_any _ cl.r _ _ _ HRO.out (by omega) (by omega) (by omega)).mono ?_
      rintro e w3 ⟨rfl, o3, g3⟩
      have T3 := T2.grown g3 (List.mem_cons_of_mem _ (List.mem_of_getElem? hrv))
      have F := FIN.out w3 o3 g3
      simp only [List.set_set] at F
      have NN := Lib.hid F
      clear F FIN HRO
      go_wp2_with fail
      go_roundw
      case rel => exact ⟨i + 1, by omega, by go_num, int_eq (by rw [HQS.out]), by rw [HTS.out]; exact NN.out, T3⟩
      case measure => simp [intOf]; omega
    · obtain rfl : i = n := by omega
      clear hml
      go_wp2_with fail
      go_ret
      exact ⟨rfl, S, T⟩
/-- a heap, marked; the mark behind it -/
def markH (k : Int) (h : Hp) : Hp := ⟨mkTo k h.cs h.cs.length, marksI (mkK k h.cs h.cs.length) h.rt.length⟩
def markKH (k : Int) (h : Hp) : Int := mkK k h.cs h.cs.length + h.rt.length
set_option maxHeartbeats 1000000 in
theorem markHeap_any (vc vr : Value) (rvs : List Value) (h : Hp) (k : Int) (base : Nat) (w : World) (S : OwnHx w base vc vr rvs h) (hk : 0 ≤ k) (hk2 : k ≤ 1000000000) (hn : sizeH h ≤ 1000000000) :
    Calls Tryd.prog 46 #[.agg #[vc, vr], .int .i64 k] w fun e w' => e = .returned (.int .i64 (markKH k h)) ∧ OwnHx w' base vc vr rvs (markH k h) ∧ Touched w w' (vc :: vr :: rvs) := by
  have b1 : Below w.heap.size w (w.alloc (.cells #[vc, vr] 26)) := (Below.refl _ _).alloc (Nat.le_refl _) _
  have S1 := S.below b1 (Nat.le_refl _)
  have r1 := Rw.new w 26 #[vc, vr]
  have hfar : ∀ v ∈ vc :: vr :: rvs, v.ownBlock ≠ some w.heap.size := fun v hv e => by have := (S.blocks hv e).2; omega
  have hs1 : h.cs.length + refN h.cs h.cs.length + h.rt.length ≤ 1000000000 := hn
  have hk0 : 0 ≤ mkK k h.cs h.cs.length := by simp only [mkK]; omega
  have hk1 : mkK k h.cs h.cs.length ≤ 1099511627776 := by simp only [mkK]; omega
  obtain ⟨q, hq⟩ : ∃ q, mkK k h.cs h.cs.length = q := ⟨_, rfl⟩
  have HQ := Lib.hid hq
  have HKH := Lib.hid (show markKH k h = q + h.rt.length by rw [markKH, hq])
  have HMH := Lib.hid (show markH k h = ⟨mkTo k h.cs h.cs.length, marksI q h.rt.length⟩ by rw [markH, hq])
  rw [hq] at hk0 hk1
  clear hq
  go_enter Tryd.func46, Tryd.ntmps46
  go_wp2_with fail
  refine (markCellS_any vc vr rvs h k base _ S1 hk hk2 hn).mono ?_
  rw [HQ.out]
  rintro e w2 ⟨rfl, S2, T2⟩
  have z1 : w2.cell? ⟨w.heap.size, 1, none⟩ = some vr := (Rw.touched r1 T2 (fun v hv => hfar v (by simp only [List.mem_cons] at hv ⊢; rcases hv with e | e <;> simp [e]))).cell 1
  have T2' : Touched w w2 (vc :: vr :: rvs) := T2.first.more (fun v hv => by simp only [List.mem_cons] at hv ⊢; rcases hv with e | e <;> simp [e])
  have hro : OwnI w2 base vr h.rt := S2.roots
  go_wp2_with fail
  refine (markIntS_any vr h.rt q base _ hro hk0 hk1 (by omega)).mono ?_
  rintro e w3 ⟨rfl, o3, g3⟩
  have T3 := T2'.grown g3 (by simp)
  have hapr := S2.apart_roots
  have S3 : OwnHx w3 base vc vr rvs (markH k h) := by
    rw [HMH.out]
    exact ⟨S2.len, World.ownsRow.kept S2.row g3 (hapr vc (by simp)), fun j c v hc hv => (S2.refs j c v hc hv).far g3 (hapr v (by simp [List.mem_of_getElem? hv])), o3, S2.sep⟩
  clear S2 T2 T2' hro hapr o3 g3
  go_wp2_with fail
  go_ret
  exact ⟨by rw [HKH.out]; rfl, S3, T3⟩
end Go.Proofs.YthmddmddcdofaaaDoor
namespace Go.Proofs.YthmddmddcdofaaaDoor
open Go.RowKit
set_option maxRecDepth 100000
set_option maxHeartbeats 2000000 in
theorem heldCellS_any (A : Option Addr) (n c : Nat) (cs : List Cl) (k : Int) (w : World) (h : CS w w.heap.size A n (mkTo k cs cs.length)) (hl : cs.length = n) (hk : 0 ≤ k) (hk2 : k ≤ 1000000000) (hn : n + refN cs n ≤ 1000000000) :
    Calls Tryd.prog 106 #[.slice A n c, .int .i64 k] w fun e w' => e = .returned (.int .i64 (mkK k cs n)) ∧ w = w' := by
  go_enter Tryd.func106, Tryd.ntmps106
  go_wp2_with fail
  go_loopw [1, 5] (fun q a wr => ∃ i : Nat, i ≤ n ∧ a = .int .i64 i ∧ q = .int .i64 (mkK k cs i) ∧ wr = w) (fun _ a _ => n - (intOf a).toNat)
  case atStart => exact ⟨0, Nat.zero_le _, rfl, by simp [mkK, refN], rfl⟩
  case round =>
    obtain ⟨i, hi, rfl, rfl, rfl⟩ := hrel
    by_cases hlt : i < n
    · have hlt' : (i : Int) < n := by omega
      obtain ⟨cl, hcl⟩ : ∃ cl, cs[i]? = some cl := ⟨_, List.getElem?_eq_getElem (by omega)⟩
      obtain ⟨g, o, mc, A', m', cc, e1, hg, hmc, d1, d2, d3, _, hir⟩ := h.at_ hlt
      subst e1
      rw [mkTo_done hcl (by omega)] at hmc
      injection hmc with hmc
      subst hmc
      have hm' := hir.1
      have hrs := refN_succ hcl
      have hrm := refN_mono cs (j := i + 1) (k := n) (by omega)
      obtain ⟨q, hq⟩ : ∃ q, mkK k cs i = q := ⟨_, rfl⟩
      have hq0 : 0 ≤ q := by rw [← hq]; simp only [mkK]; omega
      have hq1 : q + cl.r.length + 2 ≤ 4000000100 := by rw [← hq]; simp only [mkK]; omega
      have HQS := Lib.hid (mkK_succ (k := k) hcl)
      rw [hq] at HQS d1 d2 hir hm' ⊢
      simp only [mkCl] at d1 d2 hir hm'
      rw [marksI_len] at hm'
      subst hm'
      have hk0 : decide (q + 1 + 1 + (cl.r.length : Int) < 0) = false := decide_eq_false (by omega)
      clear hcl hrs hrm hq
      go_wp2_with fail
      refine (heldIntS_any _ _ _ _ _ hir (by omega) (by omega) (by omega)).mono ?_
      rintro e w' ⟨rfl, rfl⟩
      go_wp2_with fail
      go_roundw
      case rel => exact ⟨i + 1, by omega, by go_num, int_eq (by rw [HQS.out]), trivial⟩
      case measure => simp [intOf]; omega
    · obtain rfl : i = n := by omega
      go_wp2_with fail
      go_ret
      exact ⟨rfl, rfl⟩
set_option maxHeartbeats 1000000 in
theorem heldHeap_any (A R : Option Addr) (n c m d : Nat) (h : Hp) (k : Int) (w : World) (hs : HS w w.heap.size A n R m (markH k h)) (hl : h.cs.length = n) (hr : h.rt.length = m) (hk : 0 ≤ k) (hk2 : k ≤ 1000000000) (hn : sizeH h ≤ 1000000000) :
    Calls Tryd.prog 48 #[heapV A n c R m d, .int .i64 k] w fun e w' => e = .returned (.int .i64 (markKH k h)) ∧ Below w.heap.size w w' := by
  have b1 : Below w.heap.size w (w.alloc (.cells #[.slice A n c, .slice R m d] 26)) := (Below.refl _ _).alloc (Nat.le_refl _) _
  have s1 := hs.up b1
  have r1 := Rw.new w 26 #[.slice A n c, .slice R m d]
  have z1 : (w.alloc (.cells #[.slice A n c, .slice R m d] 26)).cell? ⟨w.heap.size, 1, none⟩ = some (.slice R m d) := r1.cell 1
  have hs1 : h.cs.length + refN h.cs h.cs.length + h.rt.length ≤ 1000000000 := hn
  have hk0 : 0 ≤ mkK k h.cs n := by simp only [mkK]; omega
  have hk1 : mkK k h.cs n ≤ 1099511627776 := by simp only [mkK]; rw [hl] at hs1; omega
  obtain ⟨q, hq⟩ : ∃ q, mkK k h.cs n = q := ⟨_, rfl⟩
  have HQ := Lib.hid hq
  have HKH := Lib.hid (show markKH k h = q + m by rw [markKH, hl, hr, hq])
  have c1 : CS (w.alloc (.cells #[.slice A n c, .slice R m d] 26)) (w.alloc (.cells #[.slice A n c, .slice R m d] 26)).heap.size A n (mkTo k h.cs h.cs.length) := s1.cells
  have i1 : IS (w.alloc (.cells #[.slice A n c, .slice R m d] 26)) (w.alloc (.cells #[.slice A n c, .slice R m d] 26)).heap.size R m (marksI q m) := by
    have := s1.roots
    simp only [markH] at this
    rw [hl, hq, hr] at this
    exact this
  rw [hq] at hk0 hk1
  have hq0 : decide (q < 0) = false := decide_eq_false (by omega)
  have hq1 : decide (q + (m : Int) < 0) = false := decide_eq_false (by omega)
  clear hq
  go_enter Tryd.func48, Tryd.ntmps48
  go_wp2_with fail
  refine (heldCellS_any _ _ _ h.cs _ _ c1 hl hk hk2 (by rw [hl] at hs1; omega)).mono ?_
  rw [HQ.out]
  rintro e w' ⟨rfl, rfl⟩
  go_wp2_with fail
  refine (heldIntS_any _ _ _ _ _ i1 hk0 hk1 (by omega)).mono ?_
  rintro e w' ⟨rfl, rfl⟩
  go_wp2_with fail
  go_ret
  exact ⟨by rw [HKH.out]; rfl, b1⟩
end Go.Proofs.YthmddmddcdofaaaDoor

namespace Go.Proofs.YthmddmddcdofaaaDoor
open Go.RowKit
set_option maxRecDepth 100000
theorem OwnHx.touched' {w w' : World} {base : Nat} {vc vr : Value} {rvs l : List Value} {h : Hp} (o : OwnHx w base vc vr rvs h) (ht : Touched w w' l) (hne : ∀ v ∈ vc :: vr :: rvs, ∀ u ∈ l, v.ownBlock = none ∨ v.ownBlock ≠ u.ownBlock) : OwnHx w' base vc vr rvs h :=
  ⟨o.len, row_touched o.row ht (hne vc (by simp)), fun k c v hc hv => row_touched (o.refs k c v hc hv) ht (hne v (by simp [List.mem_of_getElem? hv])), row_touched o.roots ht (hne vr (by simp)), o.sep⟩
theorem refN_le {cs : List Cl} {m : Nat} (h : ∀ cl ∈ cs, cl.r.length ≤ m) : ∀ k, k ≤ cs.length → refN cs k ≤ m * k
  | 0, _ => by simp [refN]
  | k + 1, hk => by
    have ih := refN_le h k (by omega)
    have hc := List.getElem?_eq_getElem (show k < cs.length by omega)
    have := h _ (List.mem_of_getElem? hc)
    rw [refN_succ hc, Nat.mul_add]
    omega
/-- what runs from an empty heap is small -/
def Tiny (h : Hp) : Prop := h.cs.length ≤ 40 ∧ h.rt.length ≤ 4 ∧ ∀ cl ∈ h.cs, cl.r.length ≤ 3
theorem Tiny.size {h : Hp} (t : Tiny h) : sizeH h ≤ 1000000000 := by
  have := refN_le t.2.2 _ (Nat.le_refl _)
  have h1 := t.1
  have h2 := t.2.1
  unfold sizeH
  omega
end Go.Proofs.YthmddmddcdofaaaDoor

namespace Go.Proofs.YthmddmddcdofaaaDoor
namespace Hps
/-- the numbers ns are met, in order: those that are none, or are there, are passed over -/
def meet1 (l : List Int) (n : Int) : List Int := if 0 ≤ n ∧ n ∉ l then l ++ [n] else l
def meet (l : List Int) (ns : List Int) : List Int := ns.foldl meet1 l
theorem meet_cons (l : List Int) (n : Int) (ns : List Int) : meet l (n :: ns) = meet (meet1 l n) ns := rfl
theorem meet1_prefix (l : List Int) (n : Int) : l <+: meet1 l n := by
  unfold meet1
  split
  · exact List.prefix_append _ _
  · exact List.prefix_refl _
theorem meet_prefix (ns : List Int) : ∀ l : List Int, l <+: meet l ns := by
  induction ns with
  | nil => intro l; exact List.prefix_refl _
  | cons n ns ih => intro l; rw [meet_cons]; exact (meet1_prefix l n).trans (ih _)
theorem mem_meet1 {l : List Int} {n m : Int} : m ∈ meet1 l n ↔ m ∈ l ∨ (0 ≤ n ∧ m = n) := by
  unfold meet1
  split
  · next h => simp; constructor
              · rintro (h1 | rfl)
                · exact .inl h1
                · exact .inr ⟨h.1, rfl⟩
              · rintro (h1 | ⟨_, h1⟩)
                · exact .inl h1
                · exact .inr h1
  · next h =>
    constructor
    · exact .inl
    · rintro (h1 | ⟨h0, rfl⟩)
      · exact h1
      · by_cases hm : m ∈ l
        · exact hm
        · exact absurd ⟨h0, hm⟩ h
theorem mem_meet {m : Int} (ns : List Int) : ∀ {l : List Int}, m ∈ meet l ns ↔ m ∈ l ∨ (0 ≤ m ∧ m ∈ ns) := by
  induction ns with
  | nil => intro l; simp [meet]
  | cons n ns ih =>
    intro l
    rw [meet_cons, ih, mem_meet1]
    constructor
    · rintro ((h | ⟨h0, rfl⟩) | ⟨h0, h⟩)
      · exact .inl h
      · exact .inr ⟨h0, by simp⟩
      · exact .inr ⟨h0, by simp [h]⟩
    · rintro (h | ⟨h0, h⟩)
      · exact .inl (.inl h)
      · rcases List.mem_cons.1 h with rfl | h
        · exact .inl (.inr ⟨h0, rfl⟩)
        · exact .inr ⟨h0, h⟩
theorem meet1_nodup {l : List Int} (h : l.Nodup) (n : Int) : (meet1 l n).Nodup := by
  unfold meet1
  split
  · next hn =>
    rw [List.nodup_append]
    refine ⟨h, by simp, fun a ha b hb => ?_⟩
    rw [List.mem_singleton] at hb
    rintro rfl
    exact hn.2 (hb ▸ ha)
  · exact h
theorem meet_nodup (ns : List Int) : ∀ {l : List Int}, l.Nodup → (meet l ns).Nodup := by
  induction ns with
  | nil => intro l h; exact h
  | cons n ns ih => intro l h; exact ih (meet1_nodup h n)
/-- the references of the cell with a number -/
def refsAt (cs : List Cl) (n : Int) : List Int := match cs[n.toNat]? with
  | some c => c.r
  | none => []
/-- the list from its place k on is worked off -/
def bfs (cs : List Cl) : Nat → Nat → List Int → List Int
  | 0, _, l => l
  | f + 1, k, l => match l[k]? with
    | none => l
    | some n => bfs cs f (k + 1) (meet l (refsAt cs n))
def orderL (cs : List Cl) (rt : List Int) : List Int := bfs cs (cs.length + 1) 0 (meet [] rt)
def orderH (h : Hp) : List Int := if validH h = true then orderL h.cs h.rt else []
/-- all that is on the list are numbers of cells -/
def InB (cs : List Cl) (l : List Int) : Prop := ∀ n ∈ l, ∃ k : Nat, n = k ∧ k < cs.length
theorem few_numbers : ∀ (n : Nat) (l : List Int), l.Nodup → (∀ x ∈ l, ∃ k : Nat, x = k ∧ k < n) → l.length ≤ n
  | 0, l, _, h => by
    cases l with
    | nil => exact Nat.le_refl _
    | cons x l =>
      obtain ⟨k, _, hk⟩ := h x (by simp)
      omega
  | n + 1, l, hd, h => by
    have h1 := few_numbers n (l.erase (n : Int)) (hd.erase _) (fun x hx => by
      rw [hd.mem_erase_iff] at hx
      obtain ⟨k, e, hk⟩ := h x hx.2
      exact ⟨k, e, by have := hx.1; omega⟩)
    by_cases hm : (n : Int) ∈ l
    · rw [List.length_erase_of_mem hm] at h1
      omega
    · rw [List.erase_of_not_mem hm] at h1
      omega
theorem InB.le {cs : List Cl} {l : List Int} (h : InB cs l) (hd : l.Nodup) : l.length ≤ cs.length := few_numbers _ l hd h
theorem prefix_back {l l' : List Int} (h : l <+: l') {i : Nat} {x : Int} (hi : i < l.length) (hx : l'[i]? = some x) : l[i]? = some x := by
  have := List.prefix_iff_getElem?.1 h i hi
  rw [this] at hx
  rw [List.getElem?_eq_getElem hi]
  exact hx
theorem InB.meet {cs : List Cl} {l ns : List Int} (h : InB cs l) (hn : okRefs cs ns = true) : InB cs (meet l ns) := by
  intro m hm
  rcases (mem_meet ns).1 hm with h1 | ⟨h0, h1⟩
  · exact h m h1
  · obtain ⟨k, e, hk, _⟩ := okRef_nat (okRefs_iff.1 hn m h1) h0
    exact ⟨k, e, hk⟩
theorem refsAt_ok {cs : List Cl} (hc : ∀ c ∈ cs, okRefs cs c.r = true) (n : Int) : okRefs cs (refsAt cs n) = true := by
  unfold refsAt
  cases e : cs[n.toNat]? with
  | none => simp [okRefs]
  | some c => exact hc c (List.mem_of_getElem? e)
/-- what holds while the list is worked off -/
structure Bf (cs : List Cl) (rt : List Int) (k : Nat) (l : List Int) : Prop where
  nodup : l.Nodup
  inb : InB cs l
  rch : ∀ n ∈ l, Rch cs rt n.toNat
  roots : ∀ n ∈ rt, 0 ≤ n → n ∈ l
  done : ∀ (i : Nat) (n : Int), i < k → l[i]? = some n → ∀ m ∈ refsAt cs n, 0 ≤ m → m ∈ l
theorem Bf.start {cs : List Cl} {rt : List Int} (hr : okRefs cs rt = true) : Bf cs rt 0 (meet [] rt) := by
  refine ⟨meet_nodup rt (by simp), InB.meet (fun n hn => by simp at hn) hr, fun n hn => ?_, fun n hn h0 => (mem_meet rt).2 (.inr ⟨h0, hn⟩), fun i n hi => by omega⟩
  rcases (mem_meet rt).1 hn with h1 | ⟨h0, h1⟩
  · simp at h1
  · exact .root (by rwa [Int.toNat_of_nonneg h0])
theorem Bf.next {cs : List Cl} {rt : List Int} {k : Nat} {l : List Int} (h : Bf cs rt k l) (hc : ∀ c ∈ cs, okRefs cs c.r = true) {n : Int} (hn : l[k]? = some n) : Bf cs rt (k + 1) (meet l (refsAt cs n)) := by
  have hp := meet_prefix (refsAt cs n) l
  have hlk := (List.getElem?_eq_some_iff.1 hn).1
  refine ⟨meet_nodup _ h.nodup, h.inb.meet (refsAt_ok hc n), fun m hm => ?_, fun m hm h0 => hp.subset (h.roots m hm h0), fun i m hi hm x hx h0 => ?_⟩
  · rcases (mem_meet _).1 hm with h1 | ⟨h0, h1⟩
    · exact h.rch m h1
    · unfold refsAt at h1
      cases e : cs[n.toNat]? with
      | none => rw [e] at h1; simp at h1
      | some c =>
        rw [e] at h1
        exact .step (h.rch n (List.mem_of_getElem? hn)) e (by rwa [Int.toNat_of_nonneg h0])
  · rcases Nat.lt_or_ge i k with h1 | h1
    · have hm' : l[i]? = some m := prefix_back hp (by omega) hm
      exact hp.subset (h.done i m h1 hm' x hx h0)
    · have hik : i = k := by omega
      subst hik
      have hm' : l[i]? = some m := prefix_back hp hlk hm
      rw [hn] at hm'
      obtain rfl := Option.some.inj hm'
      exact (mem_meet _).2 (.inr ⟨h0, hx⟩)
theorem bfs_fin {cs : List Cl} {rt : List Int} (hc : ∀ c ∈ cs, okRefs cs c.r = true) : ∀ (f k : Nat) (l : List Int), Bf cs rt k l → k ≤ l.length → cs.length + 1 ≤ f + k → ∃ k', Bf cs rt k' (bfs cs f k l) ∧ k' = (bfs cs f k l).length
  | 0, k, l, h, hk, hf => by
    have := h.inb.le h.nodup
    omega
  | f + 1, k, l, h, hk, hf => by
    unfold bfs
    cases e : l[k]? with
    | none =>
      have : l.length ≤ k := by simpa using e
      exact ⟨k, h, by simp; omega⟩
    | some n =>
      have hlk := (List.getElem?_eq_some_iff.1 e).1
      have hp := (meet_prefix (refsAt cs n) l).length_le
      exact bfs_fin hc f (k + 1) _ (h.next hc e) (by omega) (by omega)
theorem orderL_fin {cs : List Cl} {rt : List Int} (hc : ∀ c ∈ cs, okRefs cs c.r = true) (hr : okRefs cs rt = true) : Bf cs rt (orderL cs rt).length (orderL cs rt) := by
  obtain ⟨k, h, e⟩ := bfs_fin hc (cs.length + 1) 0 (meet [] rt) (.start hr) (Nat.zero_le _) (by omega)
  rw [← orderL] at h e
  rw [← e]
  exact h
theorem order_valid {h : Hp} (hv : validH h = true) : orderH h = orderL h.cs h.rt := by rw [orderH, if_pos hv]
theorem orderH_fin {h : Hp} (hv : validH h = true) : Bf h.cs h.rt (orderH h).length (orderH h) := by
  rw [order_valid hv]
  exact orderL_fin (valid_refs hv) (valid_iff.1 hv).2.2.2
theorem order_nodup (h : Hp) : (orderH h).Nodup := by
  cases hv : validH h
  · rw [orderH, if_neg (by rw [hv]; decide)]
    simp
  · exact (orderH_fin hv).nodup
theorem mem_order {h : Hp} (hv : validH h = true) {k : Nat} : (k : Int) ∈ orderH h ↔ Rch h.cs h.rt k := by
  have B := orderH_fin hv
  constructor
  · intro hk
    exact B.rch _ hk
  · intro hr
    refine Rch.inside (S := fun k : Nat => (k : Int) ∈ orderH h) (fun k hk => B.roots _ hk (by omega)) (fun k m c hk hc hm => ?_) hr
    obtain ⟨i, hi⟩ := List.mem_iff_getElem?.1 hk
    exact B.done i _ (List.getElem?_eq_some_iff.1 hi).1 hi m (by unfold refsAt; rw [Int.toNat_natCast, hc]; exact hm) (by omega)
theorem order_nat {h : Hp} {n : Int} (hn : n ∈ orderH h) : ∃ k : Nat, n = k ∧ k < h.cs.length := by
  cases hv : validH h
  · rw [orderH, if_neg (by rw [hv]; decide)] at hn
    simp at hn
  · exact (orderH_fin hv).inb n hn
/-- the place of a number on a list, or -1 -/
def nameL (l : List Int) (n : Int) : Int := if n ∈ l then (l.idxOf n : Int) else -1
theorem nameL_at {l : List Int} {n : Int} {i : Nat} (hd : l.Nodup) (h : l[i]? = some n) : nameL l n = i := by
  obtain ⟨h1, h2⟩ := List.getElem?_eq_some_iff.1 h
  rw [nameL, if_pos (List.mem_of_getElem? h), ← h2, hd.idxOf_getElem i h1]
theorem nameL_none {l : List Int} {n : Int} (h : n ∉ l) : nameL l n = -1 := by rw [nameL, if_neg h]
theorem nameL_neg {l : List Int} {n : Int} (h : nameL l n = -1) : n ∉ l := by
  intro hm
  rw [nameL, if_pos hm] at h
  omega
theorem nameL_get {l : List Int} {n : Int} {i : Nat} (h : nameL l n = i) : l[i]? = some n := by
  by_cases hm : n ∈ l
  · rw [nameL, if_pos hm] at h
    have e : l.idxOf n = i := by omega
    have hlt := List.idxOf_lt_length_of_mem hm
    rw [List.getElem?_eq_some_iff]
    refine ⟨by omega, ?_⟩
    subst e
    exact List.getElem_idxOf hlt
  · rw [nameL_none hm] at h
    omega
/-- what is seen of one cell -/
def cellV (l : List Int) (c : Cl) : List Int := c.d :: (c.r.length : Int) :: c.r.map (nameL l)
def cellAt (cs : List Cl) (n : Int) : Cl := (cs[n.toNat]?).getD ⟨false, 0, []⟩
def viewH (h : Hp) : List Int := if validH h = true then h.rt.map (nameL (orderH h)) ++ ((orderH h).map fun n => cellV (orderH h) (cellAt h.cs n)).flatten else []
theorem view_valid {h : Hp} (hv : validH h = true) : viewH h = h.rt.map (nameL (orderH h)) ++ ((orderH h).map fun n => cellV (orderH h) (cellAt h.cs n)).flatten := by rw [viewH, if_pos hv]
theorem view_not {h : Hp} (hv : validH h = false) : viewH h = [] := by rw [viewH, if_neg (by rw [hv]; decide)]
theorem view_len {h : Hp} (hv : validH h = true) : 4 ≤ (viewH h).length := by
  rw [view_valid hv, List.length_append, List.length_map, (valid_iff.1 hv).2.2.1]
  omega
theorem view_nil {h : Hp} : viewH h = [] ↔ validH h = false := by
  constructor
  · intro e
    cases hv : validH h
    · rfl
    · have := view_len hv
      rw [e] at this
      simp at this
  · exact view_not
def sameV (a b : Hp) : Bool := validH a && decide (viewH a = viewH b)
theorem sameV_iff {a b : Hp} : sameV a b = true ↔ validH a = true ∧ validH b = true ∧ viewH a = viewH b := by
  unfold sameV
  rw [Bool.and_eq_true, decide_eq_true_eq]
  constructor
  · rintro ⟨h1, h2⟩
    refine ⟨h1, ?_, h2⟩
    cases hv : validH b
    · rw [view_not hv, view_nil] at h2
      rw [h1] at h2
      cases h2
    · rfl
  · rintro ⟨h1, _, h2⟩
    exact ⟨h1, h2⟩
theorem sameV_comm (a b : Hp) : sameV a b = sameV b a := by
  rw [Bool.eq_iff_iff, sameV_iff, sameV_iff]
  constructor <;> (rintro ⟨h1, h2, h3⟩; exact ⟨h2, h1, h3.symm⟩)
end Hps
end Go.Proofs.YthmddmddcdofaaaDoor
namespace Go.Proofs.YthmddmddcdofaaaDoor
namespace Hps
/-- references that are related: none of both, or related cells -/
def RR (R : Nat → Nat → Prop) (n m : Int) : Prop := (n = -1 ∧ m = -1) ∨ ∃ k x : Nat, n = k ∧ m = x ∧ R k x
theorem RR.mono {R R' : Nat → Nat → Prop} (h : ∀ k x, R k x → R' k x) {n m : Int} (hr : RR R n m) : RR R' n m := by
  rcases hr with h1 | ⟨k, x, e1, e2, h1⟩
  · exact .inl h1
  · exact .inr ⟨k, x, e1, e2, h _ _ h1⟩
/-- lists of related references -/
def LR (R : Nat → Nat → Prop) (la lb : List Int) : Prop := la.length = lb.length ∧ ∀ (i : Nat) (n m : Int), la[i]? = some n → lb[i]? = some m → RR R n m
theorem LR.nil (R : Nat → Nat → Prop) : LR R [] [] := ⟨rfl, fun i n m h => by simp at h⟩
theorem LR.mono {R R' : Nat → Nat → Prop} (h : ∀ k x, R k x → R' k x) {la lb : List Int} (hr : LR R la lb) : LR R' la lb := ⟨hr.1, fun i n m h1 h2 => (hr.2 i n m h1 h2).mono h⟩
theorem LR.set {R : Nat → Nat → Prop} {la lb : List Int} (h : LR R la lb) (i : Nat) {n m : Int} (hr : RR R n m) : LR R (la.set i n) (lb.set i m) := by
  refine ⟨by simp [h.1], fun j x y h1 h2 => ?_⟩
  rw [List.getElem?_set] at h1 h2
  by_cases e : i = j
  · subst e
    rw [if_pos rfl] at h1 h2
    split at h1
    · split at h2
      · rw [← Option.some.inj h1, ← Option.some.inj h2]
        exact hr
      · cases h2
    · cases h1
  · rw [if_neg e] at h1 h2
    exact h.2 j x y h1 h2
theorem LR.cons {R : Nat → Nat → Prop} {n m : Int} {la lb : List Int} (h : LR R (n :: la) (m :: lb)) : RR R n m ∧ LR R la lb := by
  refine ⟨h.2 0 n m rfl rfl, by simpa using h.1, fun i x y h1 h2 => h.2 (i + 1) x y (by simpa using h1) (by simpa using h2)⟩
theorem LR.get {R : Nat → Nat → Prop} {la lb : List Int} (h : LR R la lb) (i : Nat) : RR R ((la[i]?).getD (-1)) ((lb[i]?).getD (-1)) := by
  rcases Nat.lt_or_ge i la.length with h1 | h1
  · have a1 := List.getElem?_eq_getElem h1
    have a2 := List.getElem?_eq_getElem (show i < lb.length by rw [← h.1]; exact h1)
    rw [a1, a2]
    exact h.2 i _ _ a1 a2
  · rw [List.getElem?_eq_none h1, List.getElem?_eq_none (by rw [← h.1]; exact h1)]
    exact .inl ⟨rfl, rfl⟩
/-- cells of two heaps that are related by turns: what a program sees of them is the same -/
structure Sim (a b : Hp) (R : Nat → Nat → Prop) : Prop where
  one : ∀ k x y : Nat, R k x → R k y → x = y
  back : ∀ k m x : Nat, R k x → R m x → k = m
  roots : LR R a.rt b.rt
  cell : ∀ {k x : Nat}, R k x → ∃ c c', a.cs[k]? = some c ∧ b.cs[x]? = some c' ∧ c.d = c'.d ∧ LR R c.r c'.r
section
variable {a b : Hp} {R : Nat → Nat → Prop}
/-- lists of related cells -/
def CR (R : Nat → Nat → Prop) (la lb : List Int) : Prop := la.length = lb.length ∧ ∀ (i : Nat) (n m : Int), la[i]? = some n → lb[i]? = some m → ∃ k x : Nat, n = k ∧ m = x ∧ R k x
theorem CR.mem (one : ∀ k x y : Nat, R k x → R k y → x = y) {la lb : List Int} (h : CR R la lb) {k x : Nat} (hr : R k x) (hm : (k : Int) ∈ la) : (x : Int) ∈ lb := by
  obtain ⟨i, hi⟩ := List.mem_iff_getElem?.1 hm
  have hl := (List.getElem?_eq_some_iff.1 hi).1
  have hb := List.getElem?_eq_getElem (show i < lb.length by rw [← h.1]; exact hl)
  obtain ⟨k', x', e1, e2, hr'⟩ := h.2 i _ _ hi hb
  have e1 : k = k' := by omega
  subst e1
  have := one _ _ _ hr hr'
  subst this
  rw [← e2]
  exact List.getElem_mem _
theorem CR.mem' (back : ∀ k m x : Nat, R k x → R m x → k = m) {la lb : List Int} (h : CR R la lb) {k x : Nat} (hr : R k x) (hm : (x : Int) ∈ lb) : (k : Int) ∈ la := by
  obtain ⟨i, hi⟩ := List.mem_iff_getElem?.1 hm
  have hl := (List.getElem?_eq_some_iff.1 hi).1
  have hb := List.getElem?_eq_getElem (show i < la.length by rw [h.1]; exact hl)
  obtain ⟨k', x', e1, e2, hr'⟩ := h.2 i _ _ hb hi
  have e2 : x = x' := by omega
  subst e2
  have := back _ _ _ hr hr'
  subst this
  rw [← e1]
  exact List.getElem_mem _
theorem CR.snoc {la lb : List Int} (h : CR R la lb) {k x : Nat} (hr : R k x) : CR R (la ++ [(k : Int)]) (lb ++ [(x : Int)]) := by
  refine ⟨by simp [h.1], fun i n m h1 h2 => ?_⟩
  rcases Nat.lt_or_ge i la.length with hi | hi
  · rw [List.getElem?_append_left hi] at h1
    rw [List.getElem?_append_left (by rw [← h.1]; exact hi)] at h2
    exact h.2 i n m h1 h2
  · rw [List.getElem?_append_right hi] at h1
    rw [List.getElem?_append_right (by rw [← h.1]; exact hi), ← h.1] at h2
    have hz : i - la.length = 0 := by
      have := (List.getElem?_eq_some_iff.1 h1).1
      simp at this
      omega
    rw [hz] at h1 h2
    exact ⟨k, x, by simpa using h1.symm, by simpa using h2.symm, hr⟩
theorem Sim.meet1 (S : Sim a b R) {la lb : List Int} (h : CR R la lb) {n m : Int} (hr : RR R n m) : CR R (meet1 la n) (meet1 lb m) := by
  unfold Hps.meet1
  rcases hr with ⟨rfl, rfl⟩ | ⟨k, x, rfl, rfl, hr⟩
  · rw [if_neg (by omega), if_neg (by omega)]
    exact h
  · by_cases hm : (k : Int) ∈ la
    · have hm' := h.mem S.one hr hm
      rw [if_neg (fun q => q.2 hm), if_neg (fun q => q.2 hm')]
      exact h
    · have hm' : (x : Int) ∉ lb := fun q => hm (h.mem' S.back hr q)
      rw [if_pos ⟨by omega, hm⟩, if_pos ⟨by omega, hm'⟩]
      exact h.snoc hr
theorem Sim.meet (S : Sim a b R) : ∀ (ns ms : List Int) {la lb : List Int}, CR R la lb → LR R ns ms → CR R (meet la ns) (meet lb ms)
  | [], [], la, lb, h, _ => h
  | [], _ :: _, _, _, _, h => by have := h.1; simp at this
  | _ :: _, [], _, _, _, h => by have := h.1; simp at this
  | n :: ns, m :: ms, la, lb, h, hl => by
    obtain ⟨h1, h2⟩ := hl.cons
    rw [meet_cons, meet_cons]
    exact S.meet ns ms (S.meet1 h h1) h2
theorem Sim.bfs (S : Sim a b R) : ∀ (f k : Nat) {la lb : List Int}, CR R la lb → CR R (bfs a.cs f k la) (bfs b.cs f k lb)
  | 0, _, _, _, h => h
  | f + 1, k, la, lb, h => by
    unfold Hps.bfs
    rcases Nat.lt_or_ge k la.length with h1 | h1
    · have a1 := List.getElem?_eq_getElem h1
      have a2 := List.getElem?_eq_getElem (show k < lb.length by rw [← h.1]; exact h1)
      obtain ⟨q, x, e1, e2, hr⟩ := h.2 k _ _ a1 a2
      rw [a1, a2]
      simp only
      obtain ⟨c, c', hc, hc', _, hl⟩ := S.cell hr
      have r1 : refsAt a.cs la[k] = c.r := by rw [e1, refsAt, Int.toNat_natCast, hc]
      have r2 : refsAt b.cs (lb[k]'(by rw [← h.1]; exact h1)) = c'.r := by rw [e2, refsAt, Int.toNat_natCast, hc']
      rw [r1, r2]
      exact S.bfs f (k + 1) (S.meet _ _ h hl)
    · rw [List.getElem?_eq_none h1, List.getElem?_eq_none (by rw [← h.1]; exact h1)]
      exact h
end
/-- more fuel than enough changes nothing -/
theorem bfs_more {cs : List Cl} {rt : List Int} (hc : ∀ c ∈ cs, okRefs cs c.r = true) : ∀ (f k : Nat) (l : List Int), Bf cs rt k l → cs.length + 1 ≤ f + k → bfs cs (f + 1) k l = bfs cs f k l
  | 0, k, l, h, hf => by
    have hl := h.inb.le h.nodup
    unfold bfs
    rw [List.getElem?_eq_none (by omega)]
  | f + 1, k, l, h, hf => by
    rw [bfs, bfs]
    cases e : l[k]? with
    | none => rfl
    | some n => exact bfs_more hc f (k + 1) _ (h.next hc e) (by omega)
theorem bfs_enough {cs : List Cl} {rt : List Int} (hc : ∀ c ∈ cs, okRefs cs c.r = true) (hr : okRefs cs rt = true) : ∀ g, bfs cs (cs.length + 1 + g) 0 (meet [] rt) = orderL cs rt
  | 0 => rfl
  | g + 1 => by
    rw [← Nat.add_assoc, bfs_more hc _ 0 _ (.start hr) (by omega)]
    exact bfs_enough hc hr g
theorem order_fuel {h : Hp} (hv : validH h = true) : orderH h = bfs h.cs 41 0 (meet [] h.rt) := by
  have hl := (valid_iff.1 hv).2.1
  rw [order_valid hv, ← bfs_enough (valid_refs hv) (valid_iff.1 hv).2.2.2 (40 - h.cs.length)]
  congr 1
  omega
theorem Sim.order {a b : Hp} {R : Nat → Nat → Prop} (S : Sim a b R) (ha : validH a = true) (hb : validH b = true) : CR R (orderH a) (orderH b) := by
  rw [order_fuel ha, order_fuel hb]
  exact S.bfs 41 0 (S.meet _ _ ⟨rfl, fun i n m h => by simp at h⟩ S.roots)
theorem Sim.name {a b : Hp} {R : Nat → Nat → Prop} (S : Sim a b R) (ha : validH a = true) (hb : validH b = true) {n m : Int} (hr : RR R n m) : nameL (orderH a) n = nameL (orderH b) m := by
  have C := S.order ha hb
  have neg : ∀ h : Hp, (-1 : Int) ∉ orderH h := fun h hm => by
    obtain ⟨k, e, _⟩ := order_nat hm
    omega
  rcases hr with ⟨rfl, rfl⟩ | ⟨k, x, rfl, rfl, hr⟩
  · rw [nameL_none (neg a), nameL_none (neg b)]
  · by_cases hm : (k : Int) ∈ orderH a
    · obtain ⟨i, hi⟩ := List.mem_iff_getElem?.1 hm
      have hl := (List.getElem?_eq_some_iff.1 hi).1
      have hb' := List.getElem?_eq_getElem (show i < (orderH b).length by rw [← C.1]; exact hl)
      obtain ⟨k', x', e1, e2, hr'⟩ := C.2 i _ _ hi hb'
      have e1 : k = k' := by omega
      subst e1
      have := S.one _ _ _ hr hr'
      subst this
      rw [nameL_at (order_nodup a) hi, nameL_at (order_nodup b) (hb'.trans (by rw [e2]))]
    · rw [nameL_none hm, nameL_none (fun q => hm (C.mem' S.back hr q))]
theorem Sim.names {a b : Hp} {R : Nat → Nat → Prop} (S : Sim a b R) (ha : validH a = true) (hb : validH b = true) {ns ms : List Int} (h : LR R ns ms) : ns.map (nameL (orderH a)) = ms.map (nameL (orderH b)) := by
  apply List.ext_getElem?
  intro i
  rw [List.getElem?_map, List.getElem?_map]
  rcases Nat.lt_or_ge i ns.length with h1 | h1
  · have a1 := List.getElem?_eq_getElem h1
    have a2 := List.getElem?_eq_getElem (show i < ms.length by rw [← h.1]; exact h1)
    rw [a1, a2, Option.map_some, Option.map_some, S.name ha hb (h.2 i _ _ a1 a2)]
  · rw [List.getElem?_eq_none h1, List.getElem?_eq_none (by rw [← h.1]; exact h1)]
    rfl
/-- related heaps: a program sees the same -/
theorem Sim.view {a b : Hp} {R : Nat → Nat → Prop} (S : Sim a b R) (ha : validH a = true) (hb : validH b = true) : viewH a = viewH b := by
  rw [view_valid ha, view_valid hb, S.names ha hb S.roots]
  congr 2
  have C := S.order ha hb
  apply List.ext_getElem?
  intro i
  rw [List.getElem?_map, List.getElem?_map]
  rcases Nat.lt_or_ge i (orderH a).length with h1 | h1
  · have a1 := List.getElem?_eq_getElem h1
    have a2 := List.getElem?_eq_getElem (show i < (orderH b).length by rw [← C.1]; exact h1)
    obtain ⟨k, x, e1, e2, hr⟩ := C.2 i _ _ a1 a2
    obtain ⟨c, c', hc, hc', hd, hl⟩ := S.cell hr
    rw [a1, a2, Option.map_some, Option.map_some, e1, e2, cellAt, cellAt, Int.toNat_natCast, Int.toNat_natCast, hc, hc', Option.getD_some, Option.getD_some, cellV, cellV, hd, hl.1, S.names ha hb hl]
  · rw [List.getElem?_eq_none h1, List.getElem?_eq_none (by rw [← C.1]; exact h1)]
    rfl
/-- a part of a view: it tells its length -/
def SegOK (s : List Int) : Prop := ∃ (d : Int) (xs : List Int), s = d :: (xs.length : Int) :: xs
theorem segs_eq : ∀ (ss ts : List (List Int)), (∀ s ∈ ss, SegOK s) → (∀ t ∈ ts, SegOK t) → ss.flatten = ts.flatten → ss = ts
  | [], [], _, _, _ => rfl
  | [], t :: ts, _, h2, h => by
    obtain ⟨d, xs, rfl⟩ := h2 t (by simp)
    simp at h
  | s :: ss, [], h1, _, h => by
    obtain ⟨d, xs, rfl⟩ := h1 s (by simp)
    simp at h
  | s :: ss, t :: ts, h1, h2, h => by
    obtain ⟨d, xs, rfl⟩ := h1 s (by simp)
    obtain ⟨e, ys, rfl⟩ := h2 t (by simp)
    simp only [List.flatten_cons, List.cons_append, List.cons.injEq] at h
    obtain ⟨q1, q2, q3⟩ := h
    have q2 : xs.length = ys.length := by omega
    obtain ⟨q4, q5⟩ := List.append_inj q3 q2
    rw [q1, q4, segs_eq ss ts (fun x hx => h1 x (by simp [hx])) (fun x hx => h2 x (by simp [hx])) q5]
theorem seg_cell (l : List Int) (c : Cl) : SegOK (cellV l c) := ⟨c.d, c.r.map (nameL l), by simp [cellV]⟩
theorem segs_cells (l : List Int) (f : Int → Cl) (o : List Int) : ∀ s ∈ o.map (fun n => cellV l (f n)), SegOK s := by
  intro s hs
  obtain ⟨n, _, rfl⟩ := List.mem_map.1 hs
  exact seg_cell _ _
/-- cells at the same place of the orders -/
def SameAt (a b : Hp) (k x : Nat) : Prop := ∃ i : Nat, (orderH a)[i]? = some (k : Int) ∧ (orderH b)[i]? = some (x : Int)
/-- references with the same name lead to cells at the same place -/
theorem same_name {a b : Hp} {n m : Int} (ho : nameL (orderH a) n = nameL (orderH b) m) (hn : n = -1 ∨ (0 ≤ n ∧ n ∈ orderH a)) (hm : m = -1 ∨ (0 ≤ m ∧ m ∈ orderH b)) : RR (SameAt a b) n m := by
  have neg : ∀ h : Hp, (-1 : Int) ∉ orderH h := fun h hm => by
    obtain ⟨k, e, _⟩ := order_nat hm
    omega
  rcases hn with rfl | ⟨n0, hn⟩
  · rcases hm with rfl | ⟨m0, hm⟩
    · exact .inl ⟨rfl, rfl⟩
    · rw [nameL_none (neg a)] at ho
      exact absurd hm (nameL_neg ho.symm)
  · obtain ⟨i, hi⟩ := List.mem_iff_getElem?.1 hn
    rw [nameL_at (order_nodup a) hi] at ho
    have hj := nameL_get ho.symm
    obtain ⟨k, rfl, _⟩ := order_nat (List.mem_of_getElem? hi)
    obtain ⟨x, rfl, _⟩ := order_nat (List.mem_of_getElem? hj)
    exact .inr ⟨k, x, rfl, rfl, i, hi, hj⟩
theorem ref_met {h : Hp} (hv : validH h = true) {k : Nat} {c : Cl} (hk : (k : Int) ∈ orderH h) (hc : h.cs[k]? = some c) {n : Int} (hn : n ∈ c.r) : n = -1 ∨ (0 ≤ n ∧ n ∈ orderH h) := by
  have ok := okRefs_iff.1 (valid_refs hv c (List.mem_of_getElem? hc)) n hn
  by_cases h0 : 0 ≤ n
  · obtain ⟨m, rfl, _⟩ := okRef_nat ok h0
    exact .inr ⟨h0, (mem_order hv).2 (.step ((mem_order hv).1 hk) hc hn)⟩
  · rcases okRef_iff.1 ok with e | ⟨e, _⟩
    · exact .inl e
    · omega
theorem root_met {h : Hp} (hv : validH h = true) {n : Int} (hn : n ∈ h.rt) : n = -1 ∨ (0 ≤ n ∧ n ∈ orderH h) := by
  have ok := okRefs_iff.1 (valid_iff.1 hv).2.2.2 n hn
  by_cases h0 : 0 ≤ n
  · obtain ⟨m, rfl, _⟩ := okRef_nat ok h0
    exact .inr ⟨h0, (mem_order hv).2 (.root hn)⟩
  · rcases okRef_iff.1 ok with e | ⟨e, _⟩
    · exact .inl e
    · omega
theorem names_same {a b : Hp} {ns ms : List Int} (he : ns.map (nameL (orderH a)) = ms.map (nameL (orderH b))) (hn : ∀ n ∈ ns, n = -1 ∨ (0 ≤ n ∧ n ∈ orderH a)) (hm : ∀ m ∈ ms, m = -1 ∨ (0 ≤ m ∧ m ∈ orderH b)) : LR (SameAt a b) ns ms := by
  have hl : ns.length = ms.length := by simpa using congrArg List.length he
  refine ⟨hl, fun i n m h1 h2 => same_name ?_ (hn n (List.mem_of_getElem? h1)) (hm m (List.mem_of_getElem? h2))⟩
  have := congrArg (fun l => l[i]?) he
  simp only [List.getElem?_map, h1, h2, Option.map_some, Option.some.injEq] at this
  exact this
/-- heaps of which a program sees the same are related -/
theorem sim_of_view {a b : Hp} (ha : validH a = true) (hb : validH b = true) (he : viewH a = viewH b) : Sim a b (SameAt a b) := by
  rw [view_valid ha, view_valid hb] at he
  obtain ⟨e1, e2⟩ := List.append_inj he (by simp [(valid_iff.1 ha).2.2.1, (valid_iff.1 hb).2.2.1])
  have e3 := segs_eq _ _ (segs_cells _ _ _) (segs_cells _ _ _) e2
  refine ⟨?_, ?_, names_same e1 (fun n hn => root_met ha hn) (fun n hn => root_met hb hn), ?_⟩
  · rintro k x y ⟨i, h1, h2⟩ ⟨j, h3, h4⟩
    have e := nameL_at (order_nodup a) h1
    rw [nameL_at (order_nodup a) h3] at e
    have e : j = i := by omega
    subst e
    rw [h2] at h4
    have := Option.some.inj h4
    omega
  · rintro k m x ⟨i, h1, h2⟩ ⟨j, h3, h4⟩
    have e := nameL_at (order_nodup b) h2
    rw [nameL_at (order_nodup b) h4] at e
    have e : j = i := by omega
    subst e
    rw [h1] at h3
    have := Option.some.inj h3
    omega
  · rintro k x ⟨i, h1, h2⟩
    obtain ⟨k', ek, hk⟩ := order_nat (List.mem_of_getElem? h1)
    obtain ⟨x', ex, hx⟩ := order_nat (List.mem_of_getElem? h2)
    have ek : k = k' := by omega
    have ex : x = x' := by omega
    subst ek ex
    have hc := List.getElem?_eq_getElem hk
    have hc' := List.getElem?_eq_getElem hx
    have := congrArg (fun l => l[i]?) e3
    simp only [List.getElem?_map, h1, h2, Option.map_some, Option.some.injEq, cellAt, Int.toNat_natCast, hc, hc', Option.getD_some, cellV, List.cons.injEq] at this
    exact ⟨_, _, hc, hc', this.1, names_same this.2.2 (fun n hn => ref_met ha (List.mem_of_getElem? h1) hc hn) (fun n hn => ref_met hb (List.mem_of_getElem? h2) hc' hn)⟩
theorem Sim.lt {a b : Hp} {R : Nat → Nat → Prop} (S : Sim a b R) {k x : Nat} (h : R k x) : k < a.cs.length ∧ x < b.cs.length := by
  obtain ⟨c, c', h1, h2, _⟩ := S.cell h
  exact ⟨(List.getElem?_eq_some_iff.1 h1).1, (List.getElem?_eq_some_iff.1 h2).1⟩
/-! what an instruction does to related heaps -/
section
variable {a b : Hp} {R : Nat → Nat → Prop}
theorem Sim.setRoot (S : Sim a b R) (i : Nat) {n m : Int} (hr : RR R n m) : Sim ⟨a.cs, a.rt.set i n⟩ ⟨b.cs, b.rt.set i m⟩ R := ⟨S.one, S.back, S.roots.set i hr, S.cell⟩
theorem Sim.setCell (S : Sim a b R) {k x : Nat} (hr : R k x) {c c' : Cl} (hd : c.d = c'.d) (hl : LR R c.r c'.r) : Sim ⟨a.cs.set k c, a.rt⟩ ⟨b.cs.set x c', b.rt⟩ R := by
  refine ⟨S.one, S.back, S.roots, fun {m y} hm => ?_⟩
  obtain ⟨h1, h2⟩ := S.lt hr
  by_cases e : k = m
  · subst e
    have := S.one _ _ _ hr hm
    subst this
    exact ⟨c, c', by simp [h1], by simp [h2], hd, hl⟩
  · have e' : x ≠ y := fun q => e (S.back _ _ _ hr (q ▸ hm))
    obtain ⟨q, q', g1, g2, g3⟩ := S.cell hm
    exact ⟨q, q', by simp [e, g1], by simp [e', g2], g3⟩
theorem Sim.snoc (S : Sim a b R) {c c' : Cl} (hd : c.d = c'.d) (hl : LR (fun _ _ => False) c.r c'.r) (i : Nat) :
    Sim ⟨a.cs ++ [c], a.rt.set i (a.cs.length : Int)⟩ ⟨b.cs ++ [c'], b.rt.set i (b.cs.length : Int)⟩ (fun k x => R k x ∨ (k = a.cs.length ∧ x = b.cs.length)) := by
  refine ⟨?_, ?_, ?_, ?_⟩
  · rintro k x y (h1 | ⟨rfl, rfl⟩) (h2 | ⟨e, e2⟩)
    · exact S.one _ _ _ h1 h2
    · have := (S.lt h1).1; omega
    · have := (S.lt h2).1; omega
    · omega
  · rintro k m x (h1 | ⟨rfl, rfl⟩) (h2 | ⟨e, e2⟩)
    · exact S.back _ _ _ h1 h2
    · have := (S.lt h1).2; omega
    · have := (S.lt h2).2; omega
    · omega
  · exact (S.roots.mono (fun _ _ h => .inl h)).set i (.inr ⟨_, _, rfl, rfl, .inr ⟨rfl, rfl⟩⟩)
  · rintro k x (h1 | ⟨rfl, rfl⟩)
    · obtain ⟨q, q', g1, g2, g3, g4⟩ := S.cell h1
      obtain ⟨l1, l2⟩ := S.lt h1
      exact ⟨q, q', by rw [List.getElem?_append_left l1]; exact g1, by rw [List.getElem?_append_left l2]; exact g2, g3, g4.mono (fun _ _ h => .inl h)⟩
    · exact ⟨c, c', by simp, by simp, hd, hl.mono (fun _ _ h => h.elim)⟩
theorem Sim.rootAt (S : Sim a b R) (i : Int) : RR R (rootAt a i) (rootAt b i) := S.roots.get i.toNat
theorem Sim.place (S : Sim a b R) {n m : Int} (hr : RR R n m) (p : Int) : placeH a.cs n p = placeH b.cs m p := by
  rcases hr with ⟨rfl, rfl⟩ | ⟨k, x, rfl, rfl, hr⟩
  · rfl
  · obtain ⟨c, c', h1, h2, _, hl⟩ := S.cell hr
    simp [placeH, h1, h2, hl.1]
theorem Sim.refAt (S : Sim a b R) {n m : Int} (hr : RR R n m) (hn : 0 ≤ n) (p : Int) : RR R (refAt a.cs n p) (refAt b.cs m p) := by
  rcases hr with ⟨rfl, rfl⟩ | ⟨k, x, rfl, rfl, hr⟩
  · omega
  · obtain ⟨c, c', h1, h2, _, hl⟩ := S.cell hr
    simp only [Hps.refAt, Int.toNat_natCast, h1, h2]
    exact hl.get _
theorem Sim.can (S : Sim a b R) (ha : validH a = true) (hb : validH b = true) (o : Cm) : canH a o = canH b o := by
  unfold canH
  rw [ha, hb, S.place (S.rootAt o.b), S.place (S.rootAt o.a)]
  have : decide (0 ≤ Hps.rootAt a o.a) = decide (0 ≤ Hps.rootAt b o.a) := by
    rw [decide_eq_decide]
    rcases S.rootAt o.a with ⟨e1, e2⟩ | ⟨k, x, e1, e2, _⟩ <;> omega
  rw [this]
theorem Sim.does (S : Sim a b R) {o : Cm} (hc : canH a o = true) : ∃ R', Sim (doH a o a.cs.length) (doH b o b.cs.length) R' := by
  obtain ⟨⟨hv, ho⟩, hc⟩ : (validH a = true ∧ okCm o = true) ∧ _ := by
    unfold canH at hc
    rw [Bool.and_eq_true, Bool.and_eq_true] at hc
    exact hc
  unfold doH
  by_cases h1 : o.op = 1
  · rw [if_pos h1, if_pos h1, putCl, if_pos rfl, putCl, if_pos rfl]
    refine ⟨_, S.snoc (c := newCl o) (c' := newCl o) rfl ⟨rfl, fun i n m h1 h2 => .inl ?_⟩ _⟩
    have e1 := List.mem_of_getElem? h1
    have e2 := List.mem_of_getElem? h2
    simp only [newCl, List.mem_replicate] at e1 e2
    exact ⟨e1.2, e2.2⟩
  rw [if_neg h1, if_neg h1]
  by_cases h2 : o.op = 2
  · rw [if_pos h2, if_pos h2]
    rw [if_pos h2] at hc
    obtain ⟨k, c, e, _⟩ := placeH_iff.1 hc
    exact ⟨R, S.setRoot _ (S.refAt (S.rootAt o.b) (by omega) _)⟩
  rw [if_neg h2, if_neg h2]
  by_cases h3 : o.op = 3
  · rw [if_pos h3, if_pos h3]
    rw [if_neg h2, if_pos h3] at hc
    obtain ⟨k, c, e, hk, _⟩ := placeH_iff.1 hc
    rcases S.rootAt o.a with ⟨e1, e2⟩ | ⟨k', x, e1, e2, hr⟩
    · omega
    · obtain ⟨c1, c2, g1, g2, g3, g4⟩ := S.cell hr
      rw [e1, e2, Int.toNat_natCast, Int.toNat_natCast, setRef, setRef, g1, g2]
      exact ⟨R, S.setCell hr (c := ⟨c1.u, c1.d, _⟩) (c' := ⟨c2.u, c2.d, _⟩) g3 (g4.set _ (S.rootAt o.b))⟩
  rw [if_neg h3, if_neg h3]
  by_cases h4 : o.op = 4
  · rw [if_pos h4, if_pos h4]
    exact ⟨R, S.setRoot _ (S.rootAt o.b)⟩
  rw [if_neg h4, if_neg h4]
  by_cases h5 : o.op = 5
  · rw [if_pos h5, if_pos h5]
    exact ⟨R, S.setRoot _ (.inl ⟨rfl, rfl⟩)⟩
  rw [if_neg h5, if_neg h5]
  by_cases h6 : o.op = 6
  · rw [if_pos h6, if_pos h6]
    rw [if_neg h2, if_neg h3, if_pos h6] at hc
    have hc := of_decide_eq_true hc
    rcases S.rootAt o.a with ⟨e1, e2⟩ | ⟨k', x, e1, e2, hr⟩
    · omega
    · obtain ⟨c1, c2, g1, g2, g3, g4⟩ := S.cell hr
      rw [e1, e2, Int.toNat_natCast, Int.toNat_natCast, setDat, setDat, g1, g2]
      exact ⟨R, S.setCell hr (c := ⟨c1.u, o.b, _⟩) (c' := ⟨c2.u, o.b, _⟩) rfl g4⟩
  rw [if_neg h6, if_neg h6]
  exact ⟨R, S⟩
theorem Sim.step (S : Sim a b R) (ha : validH a = true) (hb : validH b = true) {o : Cm} (ho : okCm o = true) (la : a.cs.length ≠ 40) (lb : b.cs.length ≠ 40) : ∃ R', Sim (stepH a o).1 (stepH b o).1 R' := by
  have hcan := S.can ha hb o
  cases hc : canH a o
  · rw [hc] at hcan
    have e1 : stepH a o = (a, false) := by simp [stepH, ha, ho, hc]
    have e2 : stepH b o = (b, false) := by simp [stepH, hb, ho, ← hcan]
    rw [e1, e2]
    exact ⟨R, S⟩
  · rw [hc] at hcan
    have e1 : stepH a o = (doH a o a.cs.length, true) := by simp [stepH, ha, ho, hc, la]
    have e2 : stepH b o = (doH b o b.cs.length, true) := by simp [stepH, hb, ho, ← hcan, lb]
    rw [e1, e2]
    exact S.does hc
end
/-- equal views go on equally -/
theorem same_step {a b : Hp} {o : Cm} (h : sameV a b = true) (ho : okCm o = true) (la : a.cs.length ≠ 40) (lb : b.cs.length ≠ 40) : sameV (stepH a o).1 (stepH b o).1 = true := by
  obtain ⟨ha, hb, he⟩ := sameV_iff.1 h
  obtain ⟨R, S⟩ := (sim_of_view ha hb he).step ha hb ho la lb
  have va := stepH_valid ha ho
  have vb := stepH_valid hb ho
  exact sameV_iff.2 ⟨va, vb, S.view va vb⟩
end Hps
end Go.Proofs.YthmddmddcdofaaaDoor
namespace Go.Proofs.YthmddmddcdofaaaDoor
namespace Hps
end Hps
end Go.Proofs.YthmddmddcdofaaaDoor
namespace Go.Proofs.YthmddmddcdofaaaDoor
open Go.RowKit
set_option maxRecDepth 100000
/-- the list of the cells that were met, the marks in a block of their own, the heap's box -/
structure RO (w wr : World) (box : Array Value) (n : Nat) (lv : Value) (cs : List Cl) (outs : List Bool) (l : List Int) : Prop where
  own : OwnO wr w.heap.size (.slice (some ⟨w.heap.size + 2, 0, none⟩) n n) outs
  lst : OwnI wr (w.heap.size + 1) lv l
  ne : lv.ownBlock = none ∨ lv.ownBlock ≠ some (w.heap.size + 2)
  box : Rw wr w.heap.size 26 box
  bel : Below w.heap.size w wr
  len : outs.length = n
  mem : ∀ k : Nat, outs[k]? = some true ↔ (k : Int) ∈ l
  nodup : l.Nodup
  inb : Hps.InB cs l
  cells : cs.length = n
  big : w.heap.size + 3 ≤ wr.heap.size
section
variable {w wr w5 : World} {box : Array Value} {n y : Nat} {lv v5 : Value} {cs : List Cl} {outs : List Bool} {l : List Int}
theorem RO.draws (h : RO w wr box n lv cs outs l) (k : Nat) : RO w (wr.drewN k) box n lv cs outs l :=
  ⟨h.own, h.lst, h.ne, h.box, below_drewN h.bel k, h.len, h.mem, h.nodup, h.inb, h.cells, h.big⟩
theorem RO.le (h : RO w wr box n lv cs outs l) : l.length ≤ n := by
  rw [← h.cells]
  exact h.inb.le h.nodup
theorem RO.pre (h : RO w wr box n lv cs outs l) (y : Nat) : OwnI ((wr.setCell ⟨w.heap.size + 2, y, none⟩ (.bool true)).alloc (.cells #[.int .i64 y] 3)) (w.heap.size + 1) lv l :=
  World.ownsRow.alloc (h.lst.far (only_put (World.grownBy.refl _ _) y (.bool true)) h.ne) _
/-- one more is met -/
theorem RO.mark (h : RO w wr box n lv cs outs l) (hy : outs[y]? = some false) (ho : OwnI w5 (w.heap.size + 1) v5 (l ++ [(y : Int)])) (hg : ((wr.setCell ⟨w.heap.size + 2, y, none⟩ (.bool true)).alloc (.cells #[.int .i64 y] 3)).grownBy w5 lv.ownBlock)
    (hs : v5.ownBlock = lv.ownBlock ∨ v5.ownBlock = some ((wr.setCell ⟨w.heap.size + 2, y, none⟩ (.bool true)).alloc (.cells #[.int .i64 y] 3)).heap.size) : RO w w5 box n v5 cs (outs.set y true) (Hps.meet1 l (y : Int)) := by
  have hlv : ∀ k, lv.ownBlock = some k → w.heap.size + 1 ≤ k := fun k hk => (World.ownsRow.lt h.lst k hk).1
  obtain ⟨hyl, hye⟩ := List.getElem?_eq_some_iff.1 hy
  have hyn : (y : Int) ∉ l := fun hm => by
    have := (h.mem y).2 hm
    rw [hy] at this
    cases this
  have hm1 : Hps.meet1 l (y : Int) = l ++ [(y : Int)] := by rw [Hps.meet1, if_pos ⟨by omega, hyn⟩]
  have o1 := h.own.put' (j := y) h.len true
  have o2 := World.ownsRow.alloc o1 (.cells #[.int .i64 y] 3)
  have o3 : OwnO w5 w.heap.size (.slice (some ⟨w.heap.size + 2, 0, none⟩) n n) (outs.set y true) := World.ownsRow.kept o2 hg (by
    right
    intro e
    rcases h.ne with e' | e'
    · rw [e'] at e; cases e
    · exact e' e.symm)
  have b1 := (h.bel.setCell (p := ⟨w.heap.size + 2, y, none⟩) (by simp) (.bool true)).alloc (by simp; have := h.bel.size; omega) (.cells #[.int .i64 y] 3)
  have hbig := h.big
  refine ⟨o3, by rw [hm1]; exact ho, ?_, ?_, b1.grown hg (by simp; have := h.bel.size; omega) (fun k hk => by have := hlv k hk; omega), by simp [h.len], fun k => ?_, Hps.meet1_nodup h.nodup _, fun x hx => ?_, h.cells, ?_⟩
  · rcases hs with e | e
    · rw [e]; exact h.ne
    · right
      rw [e]
      intro e'
      have := Option.some.inj e'
      simp at this
      omega
  · exact Rw.far ((Rw.other (w := wr) h.box (by omega) _).alloc _) hg (fun e => by have := hlv w.heap.size e.symm; omega)
  · rw [Hps.mem_meet1, ← h.mem, List.getElem?_set]
    by_cases e : y = k
    · subst e
      simp [hyl]
    · rw [if_neg e]
      constructor
      · exact .inl
      · rintro (h1 | ⟨_, h1⟩)
        · exact h1
        · omega
  · rcases Hps.mem_meet1.1 hx with h1 | ⟨_, rfl⟩
    · exact h.inb x h1
    · exact ⟨y, rfl, by rw [h.cells, ← h.len]; exact hyl⟩
  · have := hg.size
    simp at *
    omega
/-- a number that is none, or has been met -/
theorem RO.same (_h : RO w wr box n lv cs outs l) {x : Int} (hx : ¬ 0 ≤ x ∨ x ∈ l) : Hps.meet1 l x = l := by
  rw [Hps.meet1, if_neg]
  rintro ⟨h0, h1⟩
  rcases hx with h2 | h2
  · exact h2 h0
  · exact h1 h2
end
namespace Hps
end Hps
end Go.Proofs.YthmddmddcdofaaaDoor
namespace Go.Proofs.YthmddmddcdofaaaDoor
open Go.RowKit
set_option maxRecDepth 100000
/-- the view so far, the order, the heap's box -/
structure VS (w wr : World) (box : Array Value) (ov : Value) (o : List Int) (lv : Value) (l : List Int) : Prop where
  lst : OwnI wr (w.heap.size + 1) lv l
  ord : OwnI wr (w.heap.size + 1) ov o
  sep : lv.ownBlock = none ∨ lv.ownBlock ≠ ov.ownBlock
  box : Rw wr w.heap.size 26 box
  bel : Below w.heap.size w wr
section
variable {w wr w1 : World} {box : Array Value} {ov lv v5 : Value} {o l xs : List Int}
theorem VS.up (S : VS w wr box ov o lv l) (hb : Below wr.heap.size wr w1) : VS w w1 box ov o lv l :=
  ⟨S.lst.below hb (Nat.le_refl _), S.ord.below hb (Nat.le_refl _), S.sep, S.box.keep hb S.box.lt, S.bel.trans (hb.mono S.bel.size)⟩
end
namespace Hps
end Hps
namespace Hps
end Hps
end Go.Proofs.YthmddmddcdofaaaDoor

namespace Go.Proofs.YthmddmddcdofaaaDoor
namespace Hps
/-- nothing is left of a cell -/
def freeCl : Cl := ⟨false, 0, []⟩
def freeK (h : Hp) (k : Nat) : Hp := ⟨h.cs.set k freeCl, h.rt⟩
/-- used cells to each of which a root or one of them leads -/
def Sup (h : Hp) (K : Nat → Prop) : Prop := ∀ k, K k → usedAt h.cs k = true ∧ ((k : Int) ∈ h.rt ∨ ∃ (m : Nat) (c : Cl), K m ∧ h.cs[m]? = some c ∧ (k : Int) ∈ c.r)
/-- a cell that is never freed -/
def Kept (h : Hp) (k : Nat) : Prop := ∃ K : Nat → Prop, Sup h K ∧ K k
open Classical in
/-- what is left when everything is freed to which nothing leads -/
noncomputable def freeH (h : Hp) : Hp := ⟨(List.range h.cs.length).map fun k => if Kept h k then (h.cs[k]?).getD freeCl else freeCl, h.rt⟩
theorem mem_refsOf {h : Hp} {n : Int} : n ∈ refsOf h ↔ n ∈ h.rt ∨ ∃ (m : Nat) (c : Cl), h.cs[m]? = some c ∧ n ∈ c.r := by
  unfold refsOf
  rw [List.mem_append, List.mem_flatten]
  constructor
  · rintro (h1 | ⟨l, hl, hn⟩)
    · exact .inl h1
    · obtain ⟨c, hc, rfl⟩ := List.mem_map.1 hl
      obtain ⟨m, hm⟩ := List.mem_iff_getElem?.1 hc
      exact .inr ⟨m, c, hm, hn⟩
  · rintro (h1 | ⟨m, c, hm, hn⟩)
    · exact .inl h1
    · exact .inr ⟨c.r, List.mem_map.2 ⟨c, List.mem_of_getElem? hm, rfl⟩, hn⟩
theorem Kept.used {h : Hp} {k : Nat} (hk : Kept h k) : usedAt h.cs k = true := by
  obtain ⟨K, hs, hk⟩ := hk
  exact (hs k hk).1
theorem freeH_len (h : Hp) : (freeH h).cs.length = h.cs.length := by simp [freeH]
theorem freeH_cell {h : Hp} {k : Nat} (hk : Kept h k) : (freeH h).cs[k]? = h.cs[k]? := by
  obtain ⟨c, hc, _⟩ := usedAt_iff.1 hk.used
  have hl := (List.getElem?_eq_some_iff.1 hc).1
  simp [freeH, hl, hk]
theorem freeH_gone {h : Hp} {k : Nat} (hk : ¬ Kept h k) (hl : k < h.cs.length) : (freeH h).cs[k]? = some freeCl := by simp [freeH, hl, hk]
/-- while cells are freed: x is what h has become -/
structure Frees (h x : Hp) : Prop where
  rt : x.rt = h.rt
  len : x.cs.length = h.cs.length
  cell : ∀ k, x.cs[k]? = h.cs[k]? ∨ (x.cs[k]? = some freeCl ∧ ¬ Kept h k)
theorem Frees.refl (h : Hp) : Frees h h := ⟨rfl, rfl, fun _ => .inl rfl⟩
theorem Frees.kept {h x : Hp} (F : Frees h x) {k : Nat} (hk : Kept h k) : x.cs[k]? = h.cs[k]? := by
  rcases F.cell k with e | ⟨_, e⟩
  · exact e
  · exact absurd hk e
theorem Frees.free {h x : Hp} (F : Frees h x) {k : Nat} (hlt : k < x.cs.length) (hn : (k : Int) ∉ refsOf x) : Frees h (freeK x k) := by
  refine ⟨F.rt, by simp [freeK, F.len], fun j => ?_⟩
  by_cases e : k = j
  · subst e
    refine .inr ⟨by simp [freeK, hlt], fun hk => ?_⟩
    obtain ⟨K, hs, hkk⟩ := hk
    obtain ⟨_, h1 | ⟨m, c, hm, hc, hr⟩⟩ := hs k hkk
    · exact hn (mem_refsOf.2 (.inl (by rw [F.rt]; exact h1)))
    · exact hn (mem_refsOf.2 (.inr ⟨m, c, by rw [F.kept ⟨K, hs, hm⟩]; exact hc, hr⟩))
  · rw [freeK, List.getElem?_set_ne e]
    exact F.cell j
theorem valid_unused {h : Hp} (hv : validH h = true) {k : Nat} {c : Cl} (hc : h.cs[k]? = some c) (hu : c.u = false) : c = freeCl := by
  have := okCell_iff.1 (valid_cell hv hc)
  obtain ⟨u, d, r⟩ := c
  simp only at hu this
  subst hu
  rcases this.1 with e | ⟨e1, e2⟩
  · cases e
  · rw [freeCl, e1, e2]
theorem Frees.used {h x : Hp} (F : Frees h x) (hv : validH h = true) {k : Nat} {c : Cl} (hc : x.cs[k]? = some c) (hr : c.r ≠ []) : h.cs[k]? = some c ∧ c.u = true := by
  rcases F.cell k with e | ⟨e, _⟩
  · rw [e] at hc
    refine ⟨hc, ?_⟩
    cases hu : c.u
    · rw [valid_unused hv hc hu] at hr
      exact absurd rfl hr
    · rfl
  · rw [hc] at e
    rw [Option.some.inj e] at hr
    exact absurd rfl hr
/-- when nothing is left that could be freed, it is what is kept -/
theorem Frees.fin {h x : Hp} (F : Frees h x) (hv : validH h = true) (hd : ∀ k, usedAt x.cs k = true → (k : Int) ∈ refsOf x) : x = freeH h := by
  have hs : Sup h (fun k => usedAt x.cs k = true) := fun k hk => by
    obtain ⟨c, hc, hu⟩ := usedAt_iff.1 hk
    refine ⟨?_, ?_⟩
    · rcases F.cell k with e | ⟨e, _⟩
      · exact usedAt_iff.2 ⟨c, by rw [← e]; exact hc, hu⟩
      · rw [hc] at e
        rw [Option.some.inj e] at hu
        cases hu
    · rcases mem_refsOf.1 (hd k hk) with h1 | ⟨m, c', hm, hn⟩
      · exact .inl (by rw [← F.rt]; exact h1)
      · obtain ⟨h1, h2⟩ := F.used hv hm (List.ne_nil_of_mem hn)
        exact .inr ⟨m, c', usedAt_iff.2 ⟨c', hm, h2⟩, h1, hn⟩
  have hcs : x.cs = (freeH h).cs := by
    apply List.ext_getElem?
    intro k
    rcases Nat.lt_or_ge k h.cs.length with hk | hk
    · obtain ⟨c, hc⟩ : ∃ c, h.cs[k]? = some c := ⟨_, List.getElem?_eq_getElem hk⟩
      by_cases q : Kept h k
      · rw [freeH_cell q, F.kept q]
      · rw [freeH_gone q hk]
        rcases F.cell k with e | ⟨e, _⟩
        · rw [e, hc]
          congr 1
          refine valid_unused hv hc ?_
          cases hu : c.u
          · rfl
          · exact absurd ⟨_, hs, usedAt_iff.2 ⟨c, by rw [e]; exact hc, hu⟩⟩ q
        · exact e
    · rw [List.getElem?_eq_none (by rw [F.len]; exact hk), List.getElem?_eq_none (by simp [freeH]; exact hk)]
  obtain ⟨xc, xr⟩ := x
  have := F.rt
  simp only at this hcs
  rw [this, hcs]
  rfl
theorem freeK_valid {x : Hp} (hv : validH x = true) {k : Nat} (hn : (k : Int) ∉ refsOf x) : validH (freeK x k) = true := by
  obtain ⟨v1, v2, v3, v4⟩ := valid_iff.1 hv
  have hu : ∀ n : Int, okRef x.cs n = true → n ≠ (k : Int) → okRef (x.cs.set k freeCl) n = true := fun n ho hne => by
    rcases okRef_iff.1 ho with e | ⟨e, hu⟩
    · exact okRef_iff.2 (.inl e)
    · refine okRef_iff.2 (.inr ⟨e, ?_⟩)
      obtain ⟨c, hc, hcu⟩ := usedAt_iff.1 hu
      exact usedAt_iff.2 ⟨c, by rw [List.getElem?_set_ne (by omega)]; exact hc, hcu⟩
  refine valid_iff.2 ⟨fun c hc => ?_, by simpa [freeK] using v2, v3, okRefs_iff.2 fun n h1 => hu n (okRefs_iff.1 v4 n h1) fun e => hn (mem_refsOf.2 (.inl (e ▸ h1)))⟩
  rcases List.mem_or_eq_of_mem_set hc with h1 | rfl
  · obtain ⟨m, hm⟩ := List.mem_iff_getElem?.1 h1
    obtain ⟨w1, w2, w3, w4⟩ := okCell_iff.1 (v1 c h1)
    exact okCell_iff.2 ⟨w1, w2, w3, okRefs_iff.2 fun n h2 => hu n (okRefs_iff.1 w4 n h2) fun e => hn (mem_refsOf.2 (.inr ⟨m, c, hm, e ▸ h2⟩))⟩
  · exact okCell_iff.2 ⟨.inr ⟨rfl, rfl⟩, by decide, by decide, rfl⟩
/-- a used cell to which nothing leads, the last one below n; -1 if there is none -/
def idleTo (h : Hp) : Nat → Int
  | 0 => -1
  | n + 1 => if usedAt h.cs n = true ∧ (n : Int) ∉ refsOf h then (n : Int) else idleTo h n
theorem idleTo_cases (h : Hp) : ∀ n, (idleTo h n = -1 ∧ ∀ k, k < n → usedAt h.cs k = true → (k : Int) ∈ refsOf h) ∨ ∃ k : Nat, idleTo h n = k ∧ k < n ∧ usedAt h.cs k = true ∧ (k : Int) ∉ refsOf h
  | 0 => .inl ⟨rfl, fun k hk => by omega⟩
  | n + 1 => by
    rw [idleTo]
    by_cases e : usedAt h.cs n = true ∧ (n : Int) ∉ refsOf h
    · rw [if_pos e]
      exact .inr ⟨n, rfl, by omega, e⟩
    · rw [if_neg e]
      rcases idleTo_cases h n with ⟨h1, h2⟩ | ⟨k, h1, h2, h3⟩
      · refine .inl ⟨h1, fun k hk hu => ?_⟩
        rcases Nat.lt_or_ge k n with h3 | h3
        · exact h2 k h3 hu
        · obtain rfl : k = n := by omega
          exact Classical.byContradiction fun q => e ⟨hu, q⟩
      · exact .inr ⟨k, h1, by omega, h3⟩
def usedN (h : Hp) : Nat := usedTo h.cs h.cs.length
theorem usedN_eq (h : Hp) : usedN h = h.cs.countP (·.u) := by simp [usedN, usedTo]
theorem usedN_free {x : Hp} {k : Nat} (hu : usedAt x.cs k = true) : usedN (freeK x k) + 1 = usedN x := by
  rw [usedN_eq, usedN_eq, freeK]
  obtain ⟨c, hc, hcu⟩ := usedAt_iff.1 hu
  have key : ∀ (cs : List Cl) (k : Nat), cs[k]? = some c → (cs.set k freeCl).countP (·.u) + 1 = cs.countP (·.u) := by
    intro cs
    induction cs with
    | nil => intro k h; simp at h
    | cons a l ih =>
      intro k h
      cases k with
      | zero =>
        simp only [List.getElem?_cons_zero, Option.some.injEq] at h
        subst h
        simp [hcu, freeCl]
      | succ k =>
        have := ih k (by simpa using h)
        rw [List.set_cons_succ, List.countP_cons, List.countP_cons]
        omega
  exact key x.cs k hc
def freeF : Nat → Hp → Hp
  | 0, x => x
  | f + 1, x => if idleTo x x.cs.length < 0 then x else freeF f (freeK x (idleTo x x.cs.length).toNat)
theorem freeF_frees {h : Hp} (hv : validH h = true) : ∀ (f : Nat) (x : Hp), Frees h x → validH x = true → usedN x < f → freeF f x = freeH h ∧ validH (freeH h) = true
  | 0, x, _, _, hu => by omega
  | f + 1, x, F, vx, hu => by
    rw [freeF]
    rcases idleTo_cases x x.cs.length with ⟨h1, h2⟩ | ⟨k, h1, h2, h3, h4⟩
    · rw [if_pos (by omega)]
      have := F.fin hv fun k hk => h2 k (usedAt_lt hk) hk
      exact ⟨this, this ▸ vx⟩
    · rw [if_neg (by omega), h1, Int.toNat_natCast]
      exact freeF_frees hv f _ (F.free h2 h4) (freeK_valid vx h4) (by have := usedN_free h3; omega)
theorem usedN_lt (h : Hp) : usedN h < h.cs.length + 1 := by have := usedTo_le h.cs h.cs.length; unfold usedN; omega
theorem freeH_valid {h : Hp} (hv : validH h = true) : validH (freeH h) = true := (freeF_frees hv _ h (Frees.refl h) hv (usedN_lt h)).2
/-- what is left is led to -/
theorem freeH_led {h : Hp} {k : Nat} (hu : usedAt (freeH h).cs k = true) : (k : Int) ∈ refsOf (freeH h) := by
  have hl := usedAt_lt hu
  rw [freeH_len] at hl
  have hk : Kept h k := by
    refine Classical.byContradiction fun q => ?_
    obtain ⟨c, hc, hcu⟩ := usedAt_iff.1 hu
    rw [freeH_gone q hl] at hc
    rw [← Option.some.inj hc] at hcu
    cases hcu
  obtain ⟨K, hs, hkk⟩ := hk
  obtain ⟨_, h1 | ⟨m, c, hm, hc, hr⟩⟩ := hs k hkk
  · exact mem_refsOf.2 (.inl h1)
  · exact mem_refsOf.2 (.inr ⟨m, c, by rw [freeH_cell ⟨K, hs, hm⟩]; exact hc, hr⟩)
theorem reached_kept {h : Hp} (hv : validH h = true) {k : Nat} (hr : Rch h.cs h.rt k) : Kept h k := by
  refine ⟨fun k => Rch h.cs h.rt k, fun k hk => ⟨hk.live hv, ?_⟩, hr⟩
  cases hk with
  | root h1 => exact .inl h1
  | step h1 h2 h3 => exact .inr ⟨_, _, h1, h2, h3⟩
/-- a program sees the same -/
theorem freeH_sim {h : Hp} (hv : validH h = true) : Sim h (freeH h) (fun k x => k = x ∧ Rch h.cs h.rt k) := by
  refine ⟨fun k x y h1 h2 => by omega, fun k m x h1 h2 => by omega, ⟨rfl, fun i n m h1 h2 => ?_⟩, ?_⟩
  · have e : n = m := by
      rw [show (freeH h).rt = h.rt from rfl, h1] at h2
      exact Option.some.inj h2
    subst e
    rcases okRef_iff.1 (valid_root hv h1) with e | ⟨e, _⟩
    · exact .inl ⟨e, e⟩
    · exact .inr ⟨n.toNat, n.toNat, by omega, by omega, rfl, .root (by rw [Int.toNat_of_nonneg e]; exact List.mem_of_getElem? h1)⟩
  · rintro k x ⟨rfl, hr⟩
    obtain ⟨c, hc, _⟩ := usedAt_iff.1 (hr.live hv)
    refine ⟨c, c, hc, by rw [freeH_cell (reached_kept hv hr)]; exact hc, rfl, rfl, fun i n m h1 h2 => ?_⟩
    have e : n = m := by
      rw [h1] at h2
      exact Option.some.inj h2
    subst e
    rcases okRef_iff.1 (valid_ref hv hc h1) with e | ⟨e, _⟩
    · exact .inl ⟨e, e⟩
    · exact .inr ⟨n.toNat, n.toNat, by omega, by omega, rfl, .step hr hc (by rw [Int.toNat_of_nonneg e]; exact List.mem_of_getElem? h1)⟩
theorem freeH_same {h : Hp} (hv : validH h = true) : sameV (freeH h) h = true := by
  rw [sameV_comm]
  exact sameV_iff.2 ⟨hv, freeH_valid hv, (freeH_sim hv).view hv (freeH_valid hv)⟩
/-- the first cell that is not used, or the place behind the last one -/
def gapTo (cs : List Cl) (n : Nat) : Nat := ((List.range n).find? fun k => !usedAt cs k).getD n
def gapH (h : Hp) : Nat := gapTo h.cs h.cs.length
theorem gapH_cases (h : Hp) : (gapH h = h.cs.length ∧ ∀ k, k < h.cs.length → usedAt h.cs k = true) ∨ (gapH h < h.cs.length ∧ usedAt h.cs (gapH h) = false ∧ ∀ k, k < gapH h → usedAt h.cs k = true) := by
  unfold gapH gapTo
  cases e : (List.range h.cs.length).find? fun k => !usedAt h.cs k with
  | none =>
    refine .inl ⟨rfl, fun k hk => ?_⟩
    have := List.find?_eq_none.1 e k (List.mem_range.2 hk)
    simpa using this
  | some k =>
    refine .inr ⟨?_, ?_, ?_⟩
    · exact List.mem_range.1 (List.mem_of_find?_eq_some e)
    · simpa using List.find?_some e
    · intro j hj
      simp only [Option.getD_some] at hj
      obtain ⟨_, l1, l2, e1, e2⟩ := List.find?_eq_some_iff_append.1 e
      have hk := List.mem_range.1 (List.mem_of_find?_eq_some e)
      have hm : j ∈ l1 := by
        have hj1 : j ∈ List.range h.cs.length := List.mem_range.2 (by omega)
        rw [e1, List.mem_append, List.mem_cons] at hj1
        rcases hj1 with h1 | h1 | h1
        · exact h1
        · omega
        · have hs : (l1 ++ k :: l2).Pairwise (· < ·) := by rw [← e1]; exact List.pairwise_lt_range
          rw [List.pairwise_append, List.pairwise_cons] at hs
          have := hs.2.1.1 j h1
          omega
      simpa using e2 j hm
theorem gapH_le (h : Hp) : gapH h ≤ h.cs.length := by rcases gapH_cases h with ⟨e, _⟩ | ⟨e, _⟩ <;> omega
/-- counts are those of RefCounts -/
def okCt (h : Hp) (l : List Int) : Bool := validH h && decide (l = countsL h)
theorem okCt_iff {h : Hp} {l : List Int} : okCt h l = true ↔ validH h = true ∧ l = countsL h := by simp [okCt]
/-- a step with counts -/
noncomputable def stepCt (h : Hp) (l : List Int) (o : Cm) : (Hp × List Int) × Bool :=
  if okCt h l && okCm o then
    (if !canH h o || (decide (o.op = 1) && decide (gapH h = 40)) then ((h, l), false) else ((freeH (doH h o (gapH h)), countsL (freeH (doH h o (gapH h)))), true))
  else ((zeroH, []), false)
theorem stepCt_no {h : Hp} {l : List Int} {o : Cm} (e : okCt h l = false ∨ okCm o = false) : stepCt h l o = ((zeroH, []), false) := by
  rw [stepCt, if_neg]
  rw [Bool.and_eq_true]
  rintro ⟨h1, h2⟩
  rcases e with e | e
  · rw [e] at h1; cases h1
  · rw [e] at h2; cases h2
theorem stepCt_cannot {h : Hp} {l : List Int} {o : Cm} (h1 : okCt h l = true) (h2 : okCm o = true) (h3 : canH h o = false ∨ (o.op = 1 ∧ gapH h = 40)) : stepCt h l o = ((h, l), false) := by
  rw [stepCt, if_pos (by rw [h1, h2]; rfl), if_pos]
  rcases h3 with e | ⟨e1, e2⟩
  · simp [e]
  · simp [e1, e2]
theorem stepCt_does {h : Hp} {l : List Int} {o : Cm} (h1 : okCt h l = true) (h2 : okCm o = true) (h3 : canH h o = true) (h4 : ¬ (o.op = 1 ∧ gapH h = 40)) : stepCt h l o = ((freeH (doH h o (gapH h)), countsL (freeH (doH h o (gapH h)))), true) := by
  rw [stepCt, if_pos (by rw [h1, h2]; rfl), if_neg]
  simp only [h3, Bool.not_true, Bool.false_or, Bool.and_eq_true, decide_eq_true_eq]
  exact h4
theorem gap_room {h : Hp} (hv : validH h = true) {o : Cm} (h4 : ¬ (o.op = 1 ∧ gapH h = 40)) : o.op = 1 → gapH h ≤ h.cs.length ∧ gapH h < 40 := fun h1 => by
  have := gapH_le h
  have := (valid_iff.1 hv).2.1
  exact ⟨gapH_le h, by omega⟩
theorem stepCt_ok {h : Hp} {l : List Int} {o : Cm} (h1 : okCt h l = true) (h2 : okCm o = true) : okCt (stepCt h l o).1.1 (stepCt h l o).1.2 = true := by
  by_cases h3 : canH h o = false ∨ (o.op = 1 ∧ gapH h = 40)
  · rw [stepCt_cannot h1 h2 h3]
    exact h1
  · rw [not_or] at h3
    have h3' : canH h o = true := by simpa using h3.1
    rw [stepCt_does h1 h2 h3' h3.2]
    exact okCt_iff.2 ⟨freeH_valid (doH_valid h3' (gap_room (okCt_iff.1 h1).1 h3.2)), rfl⟩
/-! a new cell at a gap and a new cell behind the last one -/
theorem new_sim {h : Hp} (hv : validH h = true) {p : Nat} (hp : p < h.cs.length) (hu : usedAt h.cs p = false) (c : Cl) (hc : ∀ n ∈ c.r, n = -1) (i : Nat) :
    Sim ⟨h.cs.set p c, h.rt.set i (p : Int)⟩ ⟨h.cs ++ [c], h.rt.set i (h.cs.length : Int)⟩ (fun k x => (k = x ∧ usedAt h.cs k = true) ∨ (k = p ∧ x = h.cs.length)) := by
  have hlt : ∀ k, usedAt h.cs k = true → k < h.cs.length := fun k hk => usedAt_lt hk
  have hne : ∀ k, usedAt h.cs k = true → k ≠ p := fun k hk e => by rw [e, hu] at hk; cases hk
  have hrr : ∀ n : Int, okRef h.cs n = true → RR (fun k x => (k = x ∧ usedAt h.cs k = true) ∨ (k = p ∧ x = h.cs.length)) n n := fun n ho => by
    rcases okRef_iff.1 ho with e | ⟨e, hu⟩
    · exact .inl ⟨e, e⟩
    · exact .inr ⟨n.toNat, n.toNat, by omega, by omega, .inl ⟨rfl, hu⟩⟩
  refine ⟨?_, ?_, ?_, ?_⟩
  · rintro k x y (⟨rfl, h1⟩ | ⟨rfl, rfl⟩) (⟨rfl, h2⟩ | ⟨e, rfl⟩)
    · rfl
    · exact absurd e (hne _ h1)
    · exact absurd rfl (hne _ h2)
    · rfl
  · rintro k m x (⟨rfl, h1⟩ | ⟨rfl, rfl⟩) (⟨rfl, h2⟩ | ⟨rfl, e⟩)
    · rfl
    · have := hlt _ h1; omega
    · have := hlt _ h2; omega
    · rfl
  · refine LR.set (R := fun k x => (k = x ∧ usedAt h.cs k = true) ∨ (k = p ∧ x = h.cs.length)) ⟨rfl, fun j n m h1 h2 => ?_⟩ i (.inr ⟨_, _, rfl, rfl, .inr ⟨rfl, rfl⟩⟩)
    rw [h1] at h2
    rw [← Option.some.inj h2]
    exact hrr n (valid_root hv h1)
  · rintro k x (⟨rfl, h1⟩ | ⟨rfl, rfl⟩)
    · obtain ⟨q, hq, _⟩ := usedAt_iff.1 h1
      refine ⟨q, q, by rw [List.getElem?_set_ne (fun e => hne k h1 e.symm)]; exact hq, by rw [List.getElem?_append_left (hlt k h1)]; exact hq, rfl, rfl, fun j n m h1 h2 => ?_⟩
      rw [h1] at h2
      rw [← Option.some.inj h2]
      exact hrr n (valid_ref hv hq h1)
    · refine ⟨c, c, by simp [hp], by simp, rfl, rfl, fun j n m h1 h2 => ?_⟩
      rw [h1] at h2
      have e := hc n (List.mem_of_getElem? h1)
      exact .inl ⟨e, by rw [← Option.some.inj h2]; exact e⟩
theorem gap_same {h : Hp} {o : Cm} (hv : validH h = true) (hc : canH h o = true) (h4 : ¬ (o.op = 1 ∧ gapH h = 40)) (hl : o.op = 1 → h.cs.length < 40) : sameV (doH h o (gapH h)) (doH h o h.cs.length) = true := by
  have v1 : validH (doH h o (gapH h)) = true := doH_valid hc (gap_room hv h4)
  have v2 : validH (doH h o h.cs.length) = true := doH_valid hc (fun h1 => ⟨Nat.le_refl _, hl h1⟩)
  by_cases h1 : o.op = 1
  · rcases gapH_cases h with ⟨e, _⟩ | ⟨e1, e2, _⟩
    · rw [e] at v1 ⊢
      exact sameV_iff.2 ⟨v1, v1, rfl⟩
    · have S := new_sim hv e1 e2 (newCl o) (fun n hn => by simp only [newCl, List.mem_replicate] at hn; exact hn.2) o.a.toNat
      have d1 : doH h o (gapH h) = ⟨h.cs.set (gapH h) (newCl o), h.rt.set o.a.toNat (gapH h : Int)⟩ := by rw [doH, if_pos h1, putCl, if_neg (by omega)]
      have d2 : doH h o h.cs.length = ⟨h.cs ++ [newCl o], h.rt.set o.a.toNat (h.cs.length : Int)⟩ := by rw [doH, if_pos h1, putCl, if_pos rfl]
      rw [← d1, ← d2] at S
      exact sameV_iff.2 ⟨v1, v2, S.view v1 v2⟩
  · have : doH h o (gapH h) = doH h o h.cs.length := by
      unfold doH
      rw [if_neg h1, if_neg h1]
    rw [this]
    exact sameV_iff.2 ⟨v2, v2, rfl⟩
theorem sameV_trans {a b c : Hp} (h1 : sameV a b = true) (h2 : sameV b c = true) : sameV a c = true := by
  obtain ⟨a1, _, a3⟩ := sameV_iff.1 h1
  obtain ⟨_, b2, b3⟩ := sameV_iff.1 h2
  exact sameV_iff.2 ⟨a1, b2, a3.trans b3⟩
/-- P56: with room, a program sees what StepHeap shows -/
theorem stepCt_same {h : Hp} {l : List Int} {o : Cm} (hd : (stepCt h l o).2 = true) (hr : (stepH h o).2 = true) : sameV (stepCt h l o).1.1 (stepH h o).1 = true := by
  have h1 : okCt h l = true := by
    cases e : okCt h l
    · rw [stepCt_no (.inl e)] at hd; cases hd
    · rfl
  have h2 : okCm o = true := by
    cases e : okCm o
    · rw [stepCt_no (.inr e)] at hd; cases hd
    · rfl
  have hv := (okCt_iff.1 h1).1
  by_cases h3 : canH h o = false ∨ (o.op = 1 ∧ gapH h = 40)
  · rw [stepCt_cannot h1 h2 h3] at hd
    cases hd
  rw [not_or] at h3
  have h3' : canH h o = true := by simpa using h3.1
  have h5 : ¬ (o.op = 1 ∧ h.cs.length = 40) := by
    rintro ⟨e1, e2⟩
    simp [stepH, hv, h2, e1, e2] at hr
  have e : stepH h o = (doH h o h.cs.length, true) := by
    unfold stepH
    rw [hv, h2, h3']
    simp only [Bool.and_self, if_true, Bool.not_true, Bool.false_or]
    rw [if_neg]
    simpa using h5
  rw [stepCt_does h1 h2 h3' h3.2, e]
  exact sameV_trans (freeH_same (doH_valid h3' (gap_room hv h3.2))) (gap_same hv h3' h3.2 (fun q => by have := (valid_iff.1 hv).2.1; omega))
theorem empty_ok : okCt emptyH [] = true := by decide
/-- while a program runs with counts: at most as many cells as steps; a program sees what it sees without freeing; everything used has a count -/
structure RunsCt (x : Hp × List Int) (y : Hp) (n : Nat) : Prop where
  ok : okCt x.1 x.2 = true
  same : sameV x.1 y = true
  few : x.1.cs.length ≤ n ∧ y.cs.length ≤ n
  led : ∀ k, usedAt x.1.cs k = true → (k : Int) ∈ refsOf x.1
theorem RunsCt.start : RunsCt (emptyH, []) emptyH 0 := ⟨empty_ok, by rw [sameV_iff]; exact ⟨empty_valid, empty_valid, rfl⟩, by decide, fun k hk => by simp [emptyH, usedAt] at hk⟩
theorem doH_len {h : Hp} {o : Cm} {p : Nat} : (doH h o p).cs.length ≤ h.cs.length + 1 := by
  have h1 : ∀ c, (putCl h.cs p c).length ≤ h.cs.length + 1 := fun c => by unfold putCl; split <;> simp
  have h2 : ∀ k i x, (setRef h.cs k i x).length = h.cs.length := fun k i x => by unfold setRef; split <;> simp
  have h3 : ∀ k x, (setDat h.cs k x).length = h.cs.length := fun k x => by unfold setDat; split <;> simp
  unfold doH
  split
  · exact h1 _
  split
  · simp
  split
  · rw [h2]; omega
  split
  · simp
  split
  · simp
  split
  · rw [h3]; omega
  · omega
theorem stepH_len {h : Hp} {o : Cm} : (stepH h o).1.cs.length ≤ h.cs.length + 1 := by
  unfold stepH
  split
  · split
    · simp
    · exact doH_len
  · simp [zeroH]
theorem stepCt_len {h : Hp} {l : List Int} {o : Cm} : (stepCt h l o).1.1.cs.length ≤ h.cs.length + 1 := by
  unfold stepCt
  split
  · split
    · simp
    · simp only [freeH_len]; exact doH_len
  · simp [zeroH]
theorem RunsCt.step {x : Hp × List Int} {y : Hp} {n : Nat} (S : RunsCt x y n) {o : Cm} (ho : okCm o = true) (hn : n < 40) : RunsCt (stepCt x.1 x.2 o).1 (stepH y o).1 (n + 1) := by
  have hv := (okCt_iff.1 S.ok).1
  obtain ⟨_, hy, he⟩ := sameV_iff.1 S.same
  have hcan := (sim_of_view hv hy he).can hv hy o
  have hg := gapH_le x.1
  have hf := S.few
  refine ⟨stepCt_ok S.ok ho, ?_, ⟨Nat.le_trans stepCt_len (by omega), Nat.le_trans stepH_len (by omega)⟩, ?_⟩
  · cases hc : canH x.1 o
    · rw [stepCt_cannot S.ok ho (.inl hc)]
      have : stepH y o = (y, false) := by simp [stepH, hy, ho, ← hcan, hc]
      rw [this]
      exact S.same
    · have h4 : ¬ (o.op = 1 ∧ gapH x.1 = 40) := by omega
      refine sameV_trans (stepCt_same (by rw [stepCt_does S.ok ho hc h4]) ?_) (same_step S.same ho (by omega) (by omega))
      have h5 : ¬ (o.op = 1 ∧ x.1.cs.length = 40) := by omega
      unfold stepH
      rw [hv, ho, hc]
      simp only [Bool.and_self, if_true, Bool.not_true, Bool.false_or]
      rw [if_neg (by simpa using h5)]
  · by_cases h3 : canH x.1 o = false ∨ (o.op = 1 ∧ gapH x.1 = 40)
    · rw [stepCt_cannot S.ok ho h3]
      exact S.led
    · rw [not_or] at h3
      rw [stepCt_does S.ok ho (by simpa using h3.1) h3.2]
      exact fun k hk => freeH_led hk
open Classical in
/-- the used cells that cannot be reached, ascending -/
noncomputable def leakL (h : Hp) : List Int := ((List.range h.cs.length).filter fun k => usedAt h.cs k && !decide (Rch h.cs h.rt k)).map fun (k : Nat) => (k : Int)
open Classical in
noncomputable def leakTo (h : Hp) (n : Nat) : List Int := ((List.range n).filter fun k => usedAt h.cs k && !decide (Rch h.cs h.rt k)).map fun (k : Nat) => (k : Int)
theorem leakTo_all (h : Hp) : leakTo h h.cs.length = leakL h := rfl
theorem leakTo_yes {h : Hp} {k : Nat} (hu : usedAt h.cs k = true) (hr : ¬ Rch h.cs h.rt k) : leakTo h (k + 1) = leakTo h k ++ [(k : Int)] := by
  simp [leakTo, List.range_succ, List.filter_append, hu, hr]
theorem leakTo_no {h : Hp} {k : Nat} (hu : usedAt h.cs k = false ∨ Rch h.cs h.rt k) : leakTo h (k + 1) = leakTo h k := by
  rcases hu with e | e
  · simp [leakTo, List.range_succ, List.filter_append, e]
  · simp [leakTo, List.range_succ, List.filter_append, e]
end Hps
end Go.Proofs.YthmddmddcdofaaaDoor

