/- Cells copied whole by an append (their references are shared), and heaps that are invalid beside a valid one. No conditions. -/
import Derived.Test.YtakdjiojahlnmaaHh
namespace Go.Proofs.Ytakdjiojahlnmaa
open Go.RowKit
set_option maxRecDepth 100000

namespace Hps
theorem bad_root {h : Hp} (hl : ∃ n : Nat, h.cs.length = n ∧ h.rt[0]? = some (n : Int)) : validH h = false := by
  obtain ⟨n, h1, h2⟩ := hl
  cases hv : validH h
  · rfl
  · have := okRef_lo (valid_root hv h2)
    omega
theorem bad_cell {cs : List Cl} {rt : List Int} {n : Nat} (hl : cs.length = n) : validH ⟨cs ++ [⟨true, 0, [(n : Int) + 1]⟩], rt⟩ = false := by
  cases hv : validH ⟨cs ++ [⟨true, 0, [(n : Int) + 1]⟩], rt⟩
  · rfl
  · have hc : (cs ++ [⟨true, 0, [(n : Int) + 1]⟩] : List Cl)[n]? = some ⟨true, 0, [(n : Int) + 1]⟩ := by
      rw [List.getElem?_append_right (by omega), hl]
      simp
    have := okRef_lo (valid_ref (h := ⟨cs ++ [⟨true, 0, [(n : Int) + 1]⟩], rt⟩) hv hc (j := 0) rfl)
    simp [hl] at this
theorem good_roots {h : Hp} (hv : validH h = true) : validH ⟨h.cs, [-1, -1, -1, -1]⟩ = true := by
  obtain ⟨h1, h2, h3, h4⟩ := valid_iff.1 hv
  refine valid_iff.2 ⟨h1, h2, rfl, ?_⟩
  rw [okRefs_iff]
  intro x hx
  rw [okRef_iff]
  left
  simpa using hx
end Hps

theorem flatC_get {cs : List Cl} {vs : List Value} (hl : vs.length = cs.length) {j : Nat} {u : Value} (h : (flatC cs vs)[j]? = some u) : ∃ k c v, j / 3 = k ∧ cs[k]? = some c ∧ vs[k]? = some v ∧ ((j = k * 3 ∧ u = .bool c.u) ∨ (j = k * 3 + 1 ∧ u = .int .i64 c.d) ∨ (j = k * 3 + 2 ∧ u = v)) := by
  have hj := (List.getElem?_eq_some_iff.1 h).1
  rw [flatC_length _ _ hl] at hj
  have hk : j / 3 < cs.length := by omega
  have hc := List.getElem?_eq_getElem hk
  have hv := List.getElem?_eq_getElem (show j / 3 < vs.length by omega)
  obtain ⟨f1, f2, f3⟩ := flatC_at _ _ _ _ _ hc hv
  refine ⟨j / 3, _, _, rfl, hc, hv, ?_⟩
  rcases (show j = j / 3 * 3 ∨ j = j / 3 * 3 + 1 ∨ j = j / 3 * 3 + 2 by omega) with e | e | e
  · rw [← e, h] at f1
    exact .inl ⟨e, Option.some.inj f1⟩
  · rw [← e, h] at f2
    exact .inr (.inl ⟨e, Option.some.inj f2⟩)
  · rw [← e, h] at f3
    exact .inr (.inr ⟨e, Option.some.inj f3⟩)

/-- what the slices of the references are, where cells are read -/
def RefsAt (w : World) (B : Nat) (cs : List Cl) (rvs : List Value) : Prop := rvs.length = cs.length ∧ ∀ (k : Nat) (c : Cl) (v : Value), cs[k]? = some c → rvs[k]? = some v → ∃ A' m cc, v = .slice A' m cc ∧ m ≤ cc ∧ IS w B A' m c.r
theorem RefsAt.below {w w' : World} {B : Nat} {cs : List Cl} {rvs : List Value} (h : RefsAt w B cs rvs) (hb : Below B w w') : RefsAt w' B cs rvs :=
  ⟨h.1, fun k c v hc hv => by
    obtain ⟨A', m, cc, e, hm, hi⟩ := h.2 k c v hc hv
    exact ⟨A', m, cc, e, hm, hi.below hb⟩⟩
theorem RefsAt.one {w : World} {B : Nat} {cs : List Cl} {rvs : List Value} (h : RefsAt w B cs rvs) : ∀ u ∈ flatC cs rvs, u.oneCell' = true := fun u hu => by
  obtain ⟨j, hj⟩ := List.mem_iff_getElem?.1 hu
  obtain ⟨k, c, v, _, hc, hv, hx⟩ := flatC_get h.1 hj
  rcases hx with ⟨_, rfl⟩ | ⟨_, rfl⟩ | ⟨_, rfl⟩
  · rfl
  · rfl
  · obtain ⟨A', m, cc, rfl, _⟩ := h.2 k c u hc hv
    rfl
theorem CS.refs {w : World} {B n : Nat} {A : Option Addr} {cs : List Cl} (h : CS w B A n cs) : ∃ rvs, RefsAt w B cs rvs ∧ (0 < n → ∃ g o, A = some ⟨g, o, none⟩ ∧ g < B ∧ ∀ (j : Nat) (u : Value), (flatC cs rvs)[j]? = some u → w.cell? ⟨g, o + j, none⟩ = some u) := by
  rcases Nat.eq_zero_or_pos n with h0 | h0
  · have : cs = [] := List.eq_nil_of_length_eq_zero (h.1.trans h0)
    subst this
    exact ⟨[], ⟨rfl, fun k c v hc => by simp at hc⟩, fun hh => by omega⟩
  · obtain ⟨g, o, rfl, hgB, hc⟩ := h.2 h0
    have hl : ((List.range n).map fun k => (w.cell? ⟨g, o + k * 3 + 2, none⟩).getD undef).length = cs.length := by simp [h.1]
    have hrv : ∀ (k : Nat) (c : Cl) (v : Value), cs[k]? = some c → ((List.range n).map fun k => (w.cell? ⟨g, o + k * 3 + 2, none⟩).getD undef)[k]? = some v → w.cell? ⟨g, o + k * 3 + 2, none⟩ = some v ∧ ∃ A' m cc, v = .slice A' m cc ∧ m ≤ cc ∧ IS w B A' m c.r := fun k c v h1 h2 => by
      have hk : k < n := by have := (List.getElem?_eq_some_iff.1 h1).1; have := h.1; omega
      rw [List.getElem?_map, List.getElem?_range hk] at h2
      obtain ⟨_, _, A', m, cc, c3, hm, hi⟩ := hc k c h1
      rw [Option.map_some, c3] at h2
      have h2 := Option.some.inj h2
      exact ⟨by rw [c3, ← h2]; rfl, A', m, cc, by rw [← h2]; rfl, hm, hi⟩
    refine ⟨_, ⟨hl, fun k c v h1 h2 => (hrv k c v h1 h2).2⟩, fun _ => ⟨g, o, rfl, hgB, fun j u hj => ?_⟩⟩
    obtain ⟨k, c, v, _, h1, h2, hx⟩ := flatC_get hl hj
    rcases hx with ⟨rfl, rfl⟩ | ⟨rfl, rfl⟩ | ⟨rfl, rfl⟩
    · exact (hc k c h1).1
    · rw [← Nat.add_assoc]
      exact (hc k c h1).2.1
    · rw [← Nat.add_assoc]
      exact (hrv k c u h1 h2).1

theorem run_appendCs (w : World) (base : Nat) (v : Value) (n : Nat) (vs : List Value) (hown : w.ownsRow base 45 3 v n vs) (A : Option Addr) (m c : Nat) (ys : List Value) (hl : ys.length = m * 3)
    (hA : 0 < m → ∃ ad, A = some ad ∧ ∀ j u, ys[j]? = some u → w.cell? (ad.add j) = some u) (h1 : ∀ u ∈ ys, u.oneCell' = true) (hn : n + m ≤ 1099511627776) (hbase : base ≤ w.heap.size) (ty : TypeId) :
    ∃ v' w', (Builtin.append_ #[23, 23] ty #[v, .slice A m c]).run Try.prog w = .ok v' w' ∧ w'.ownsRow base 45 3 v' (n + m) (vs ++ ys) ∧ w.grownBy w' v.ownBlock ∧ (v'.ownBlock = v.ownBlock ∨ v'.ownBlock = some w.heap.size) := by
  obtain ⟨i0, hi0, hz0, hz1, hz2⟩ := info_parts info_cell
  rcases A with _ | ad
  · have h0 : m = 0 := by
      rcases Nat.eq_zero_or_pos m with h0 | h0
      · exact h0
      · obtain ⟨ad, e, _⟩ := hA h0
        cases e
    subst h0
    have : ys = [] := List.eq_nil_of_length_eq_zero (by omega)
    subst this
    refine ⟨v, w, ?_, by simpa using hown, World.grownBy.refl _ _, .inl rfl⟩
    rcases hown.2 with ⟨rfl, _⟩ | ⟨g, cap, cur, rfl, _, _, hnc, _⟩
    · simp [Builtin.append_, run_underlying Try.underlying23, sizeOf, typeInfo, hi0, Builtin.lenOf, Builtin.firstCells]
    · simp [Builtin.append_, run_underlying Try.underlying23, sizeOf, typeInfo, hi0, Builtin.lenOf, Builtin.firstCells, hnc, storeCells]
  · have hcells : ∀ j u, ys[j]? = some u → w.cell? (ad.add j) = some u := fun j u hj => by
      have hp : 0 < m := by have := (List.getElem?_eq_some_iff.1 hj).1; omega
      obtain ⟨ad', e, hc⟩ := hA hp
      have e := Option.some.inj e
      rw [e]
      exact hc j u hj
    obtain ⟨v', w', hrun, h2, h3, _, h5⟩ := run_append_own_at (P := Try.prog) w base 23 ty 45 i0 _ 3 40 Try.underlying23 hi0 hz0 hz1 hz2 rfl (by omega) v n vs hown ad m c ys
      (by omega) hcells h1 (by unfold maxLen; omega) (by omega) hbase
    exact ⟨v', w', hrun, h2, h3, h5⟩
/-- all cells of a slice are appended onto the call's own row -/
theorem app_stepCs {w : World} {o : Oper} {a : Act} {K : Act → World → Prop} {Q : Exit → Act → World → Prop} (_hgd : o.guard = none) (s x : Operand)
    (ho : o.op = .call { callee := .builtin .append, args := #[s, x], argTypes := #[23, 23] })
    (base : Nat) (v : Value) (n : Nat) (vs : List Value) (hs : a.eval s = v) (hown : w.ownsRow base 45 3 v n vs) (A : Option Addr) (m c : Nat) (ys : List Value) (hx : a.eval x = .slice A m c) (hl : ys.length = m * 3)
    (hA : 0 < m → ∃ ad, A = some ad ∧ ∀ j u, ys[j]? = some u → w.cell? (ad.add j) = some u) (h1 : ∀ u ∈ ys, u.oneCell' = true) (hn : n + m ≤ 1099511627776) (hbase : base ≤ w.heap.size)
    (h : ∀ v' w', w'.ownsRow base 45 3 v' (n + m) (vs ++ ys) → w.grownBy w' v.ownBlock → (v'.ownBlock = v.ownBlock ∨ v'.ownBlock = some w.heap.size) → K (a.put o.dst v') w') : Oper.wp Try.prog o a w K Q := by
  obtain ⟨v', w', hrun, h2, h3, h4⟩ := run_appendCs w base v n vs hown A m c ys hl hA h1 hn hbase o.type
  unfold Oper.wp execOp
  simp only [ho, resolve, invoke, builtin, Sem.run_bind, Sem.run_pure, Result.andThen_ok, List.map_toArray, List.map_cons, List.map_nil, hs, hx, hrun]
  exact h v' w' h2 h3 h4

/-- an object of another type is not the row's -/
theorem row_type {w : World} {base s n g : Nat} {e t : TypeId} {v : Value} {xs : List Value} {cs : Array Value} (h : w.ownsRow base e s v n xs) (hr : Rw w g t cs) (hne : t ≠ e) : some g ≠ v.ownBlock := fun hg => by
  rcases h.2 with ⟨rfl, _⟩ | ⟨g', cap, cur, rfl, _, hh, _⟩
  · cases hg
  · have : g = g' := Option.some.inj hg
    subst this
    have hr' : w.heap[g]? = some (.cells cs t (0, 0)) := hr
    rw [hr'] at hh
    injection hh with hh
    injection hh with h1 h2
    exact hne h2
theorem rw_type {w : World} {g g' : Nat} {t t' : TypeId} {cs cs' : Array Value} (h : Rw w g t cs) (h' : Rw w g' t' cs') (hne : t ≠ t') : g ≠ g' := fun e => by
  subst e
  have a : w.heap[g]? = some (.cells cs t (0, 0)) := h
  have b : w.heap[g]? = some (.cells cs' t' (0, 0)) := h'
  rw [a] at b
  injection b with b
  injection b with h1 h2
  exact hne h2
theorem rw_size {w : World} {g g' : Nat} {t t' : TypeId} {cs cs' : Array Value} (h : Rw w g t cs) (h' : Rw w g' t' cs') (hne : cs.size ≠ cs'.size) : g ≠ g' := fun e => by
  subst e
  have a : w.heap[g]? = some (.cells cs t (0, 0)) := h
  have b : w.heap[g]? = some (.cells cs' t' (0, 0)) := h'
  rw [a] at b
  injection b with b
  injection b with h1 h2
  exact hne (by rw [h1])
/-- the row of copied cells and one new cell, read -/
theorem grown_reads {w : World} {base n c9 g8 : Nat} {A9 : Option Addr} {cs : List Cl} {rvs : List Value} {x : Int} (hlc : cs.length = n)
    (hrow : w.ownsRow base 45 3 (.slice A9 (n + 1) c9) (n + 1) (flatC cs rvs ++ [.bool true, .int .i64 0, .slice (some ⟨g8, 0, none⟩) 1 1]))
    (h8 : Rw w g8 3 #[.int .i64 x]) (hr : RefsAt w w.heap.size cs rvs) : CS w w.heap.size A9 (n + 1) (cs ++ [⟨true, 0, [x]⟩]) ∧ n + 1 ≤ c9 := by
  have e : flatC cs rvs ++ [.bool true, .int .i64 0, .slice (some ⟨g8, 0, none⟩) 1 1] = flatC (cs ++ [⟨true, 0, [x]⟩]) (rvs ++ [.slice (some ⟨g8, 0, none⟩) 1 1]) := by
    rw [flatC_append _ _ _ _ hr.1]
    rfl
  rw [e] at hrow
  have i8 : IS w w.heap.size (some ⟨g8, 0, none⟩) 1 [x] := ⟨rfl, fun _ => ⟨g8, 0, rfl, h8.lt, fun k b hk => by
    match k, hk with
    | 0, hk =>
      have hk : x = b := by simpa using hk
      rw [← hk]
      exact h8.cell 0⟩⟩
  have hlen : (cs ++ [(⟨true, 0, [x]⟩ : Cl)]).length = n + 1 := by simp [hlc]
  have hrl : (rvs ++ [Value.slice (some ⟨g8, 0, none⟩) 1 1]).length = (cs ++ [(⟨true, 0, [x]⟩ : Cl)]).length := by simp [hr.1]
  rcases hrow.2 with ⟨_, h0⟩ | ⟨g, cap, cur, e1, hb, hh, hcap, _⟩
  · omega
  · injection e1 with e1 e2 e3
    subst e1 e3
    refine ⟨⟨hlen, fun _ => ⟨g, 0, rfl, (Array.getElem?_eq_some_iff.1 hh).1, fun k c hc => ?_⟩⟩, hcap⟩
    have hk : k < n + 1 := by have := (List.getElem?_eq_some_iff.1 hc).1; omega
    have hv := List.getElem?_eq_getElem (show k < (rvs ++ [Value.slice (some ⟨g8, 0, none⟩) 1 1]).length by rw [hrl, hlen]; exact hk)
    obtain ⟨f1, f2, f3⟩ := flatC_at _ _ _ _ _ hc hv
    have hsl : ∃ A' m cc, (rvs ++ [Value.slice (some ⟨g8, 0, none⟩) 1 1])[k]? = some (.slice A' m cc) ∧ m ≤ cc ∧ IS w w.heap.size A' m c.r := by
      rcases Nat.lt_or_ge k n with h1 | h1
      · rw [List.getElem?_append_left (by omega)] at hc
        have hv' := List.getElem?_eq_getElem (show k < rvs.length by rw [hr.1]; omega)
        obtain ⟨A', m, cc, e5, hm, hi⟩ := hr.2 k c _ hc hv'
        exact ⟨A', m, cc, by rw [List.getElem?_append_left (by rw [hr.1]; omega), hv', e5], hm, hi⟩
      · have hkn : k = n := by omega
        rw [List.getElem?_append_right (by omega), hkn, hlc] at hc
        have hc : (⟨true, 0, [x]⟩ : Cl) = c := by simpa using hc
        refine ⟨some ⟨g8, 0, none⟩, 1, 1, ?_, Nat.le_refl _, by rw [← hc]; exact i8⟩
        rw [List.getElem?_append_right (by rw [hr.1]; omega), hkn, hr.1, hlc]
        simp
    obtain ⟨A', m, cc, e5, hm, hi⟩ := hsl
    rw [hv] at e5
    rw [Option.some.inj e5] at f3
    rw [Nat.zero_add]
    exact ⟨(World.ownsRow.cellAt hrow _ (by omega)).trans f1, (World.ownsRow.cellAt hrow _ (by omega)).trans f2, A', m, cc, (World.ownsRow.cellAt hrow _ (by omega)).trans f3, hm, hi⟩
end Go.Proofs.Ytakdjiojahlnmaa
