/- Appending blocks to a slice of a call's own, and cutting slices of blocks. No conditions. -/
import Derived.Test.YtkdoolilggkjpaaWf
import Derived.Maps.AppendAt
import Derived.RegionTactic
namespace Go.Proofs.Ytkdoolilggkjpaa
open Go.RowKit

theorem BS.cells {w : World} {B g o n : Nat} {ys : List Bl} (h : BS w B (some ⟨g, o, none⟩) n ys) (j : Nat) (u : Value) (hj : (flat ys)[j]? = some u) : w.cell? ⟨g, o + j, none⟩ = some u := by
  have hl : j < (flat ys).length := (List.getElem?_eq_some_iff.1 hj).1
  rw [flat_length] at hl
  have hk : j / 3 < ys.length := by omega
  have hx : ys[j / 3]? = some ys[j / 3] := List.getElem?_eq_getElem hk
  obtain ⟨f1, f2, f3⟩ := flat_at ys (j / 3) _ hx
  have hn := h.1
  obtain ⟨g', o', e, _, hc⟩ := h.2.2 (by omega)
  injection e with e
  injection e with e1 e2
  subst e1 e2
  obtain ⟨c1, c2, c3⟩ := hc (j / 3) _ hx
  have hm : j % 3 = 0 ∨ j % 3 = 1 ∨ j % 3 = 2 := by omega
  rcases hm with hm | hm | hm
  · have e : j = j / 3 * 3 := by omega
    rw [e] at hj ⊢
    rw [f1] at hj
    replace hj := Option.some.inj hj
    rw [← hj]
    exact c1
  · have e : j = j / 3 * 3 + 1 := by omega
    rw [e] at hj ⊢
    rw [f2] at hj
    replace hj := Option.some.inj hj
    rw [← hj]
    exact c2
  · have e : j = j / 3 * 3 + 2 := by omega
    rw [e] at hj ⊢
    rw [f3] at hj
    replace hj := Option.some.inj hj
    rw [← hj]
    exact c3

theorem add_lit (g o j : Nat) : (⟨g, o, none⟩ : Addr).add j = ⟨g, o + j, none⟩ := by
  unfold Addr.add
  split
  · next h => subst h; rfl
  · rfl

theorem run_appendB (w : World) (base : Nat) (v : Value) (xs : List Bl) (hown : OwnB w base v xs) (A : Option Addr) (m c B : Nat) (ys : List Bl) (hr : BS w B A m ys) (hn : xs.length + m ≤ 1099511627776) (hbase : base ≤ w.heap.size) (ty : TypeId) :
    ∃ v' w', (Builtin.append_ #[64, 64] ty #[v, .slice A m c]).run Try.prog w = .ok v' w' ∧ OwnB w' base v' (xs ++ ys) ∧ w.grownBy w' v.ownBlock ∧ (v'.ownBlock = v.ownBlock ∨ v'.ownBlock = some w.heap.size) := by
  obtain ⟨i0, hi0, hz0, hz1, hz2⟩ := info_parts info_block
  have hm := hr.1
  rcases A with _ | ad
  · have h0 : m = 0 := by
      rcases Nat.eq_zero_or_pos m with h0 | h0
      · exact h0
      · obtain ⟨g, o, e, _⟩ := hr.2.2 h0
        cases e
    subst h0
    have : ys = [] := List.eq_nil_of_length_eq_zero hm
    subst this
    refine ⟨v, w, ?_, by simpa using hown, World.grownBy.refl _ _, .inl rfl⟩
    rcases hown.2 with ⟨rfl, _⟩ | ⟨g, cap, cur, rfl, _, _, hnc, _⟩
    · simp [Builtin.append_, run_underlying Try.underlying64, sizeOf, typeInfo, hi0, Builtin.lenOf, Builtin.firstCells]
    · simp [Builtin.append_, run_underlying Try.underlying64, sizeOf, typeInfo, hi0, Builtin.lenOf, Builtin.firstCells, hnc, storeCells]
  · have hcells : ∀ j u, (flat ys)[j]? = some u → w.cell? (ad.add j) = some u := by
      intro j u hj
      rcases Nat.eq_zero_or_pos m with h0 | h0
      · subst h0
        have : ys = [] := List.eq_nil_of_length_eq_zero hm
        subst this
        simp [flat] at hj
      · obtain ⟨g, o, e, _⟩ := hr.2.2 h0
        replace e := Option.some.inj e
        subst e
        rw [add_lit]
        exact hr.cells j u hj
    obtain ⟨v', w', hrun, h2, h3, _, h5⟩ := run_append_own_at (P := Try.prog) w base 64 ty 63 i0 _ 3 24 Try.underlying64 hi0 hz0 hz1 hz2 rfl (by omega) v xs.length (flat xs) hown ad m c (flat ys)
      (by rw [flat_length, hm]) hcells (flat_oneCell ys) (by unfold maxLen; omega) (by omega) hbase
    refine ⟨v', w', hrun, ?_, h3, h5⟩
    unfold OwnB
    rw [flat_append, List.length_append, hm]
    exact h2

theorem wpList_appendB {w : World} {ops : Array Oper} {rest : List Oper} {o : Oper} {a : Act} {Q : Exit → Act → World → Prop} (hgd : o.guard = none) (s x : Operand)
    (ho : o.op = .call { callee := .builtin .append, args := #[s, x], argTypes := #[64, 64] })
    (base : Nat) (v : Value) (xs : List Bl) (hs : a.eval s = v) (hown : OwnB w base v xs) (A : Option Addr) (m c B : Nat) (ys : List Bl) (hx : a.eval x = .slice A m c) (hr : BS w B A m ys)
    (hn : xs.length + m ≤ 1099511627776) (hbase : base ≤ w.heap.size)
    (h : ∀ v' w', OwnB w' base v' (xs ++ ys) → w.grownBy w' v.ownBlock → (v'.ownBlock = v.ownBlock ∨ v'.ownBlock = some w.heap.size) → wpList Try.prog ops Q rest (a.put o.dst v') w') : wpList Try.prog ops Q (o :: rest) a w :=
  wpList_plain hgd fun _ hK => by
    obtain ⟨v', w', hrun, h2, h3, h4⟩ := run_appendB w base v xs hown A m c B ys hr hn hbase o.type
    unfold Oper.wp execOp
    simp only [ho, resolve, invoke, builtin, Sem.run_bind, Sem.run_pure, Result.andThen_ok, List.map_toArray, List.map_cons, List.map_nil, hs, hx, hrun]
    exact hK _ _ (h v' w' h2 h3 h4)

theorem AllI.append {xs ys : List Bl} (h : AllI xs) (h' : AllI ys) : AllI (xs ++ ys) := by
  intro k x hx
  rcases Nat.lt_or_ge k xs.length with hk | hk
  · rw [List.getElem?_append_left hk] at hx
    exact h k x hx
  · rw [List.getElem?_append_right hk] at hx
    exact h' _ x hx

/-- the first k blocks -/
theorem BS.take {w : World} {B n k : Nat} {A : Option Addr} {xs : List Bl} (h : BS w B A n xs) (hk : k ≤ n) : BS w B A k (xs.take k) := by
  have hl := h.1
  refine ⟨by rw [List.length_take]; omega, fun j x hx => ?_, fun h0 => ?_⟩
  · rw [List.getElem?_take] at hx
    split at hx
    · exact h.2.1 j x hx
    · cases hx
  · obtain ⟨g, o, e, hb, hc⟩ := h.2.2 (by omega)
    refine ⟨g, o, e, hb, fun j x hx => ?_⟩
    rw [List.getElem?_take] at hx
    split at hx
    · exact hc j x hx
    · cases hx

/-- the blocks from the k-th on -/
theorem BS.drop {w : World} {B n k g o : Nat} {xs : List Bl} (h : BS w B (some ⟨g, o, none⟩) n xs) (hk : k ≤ n) : BS w B (some ⟨g, o + k * 3, none⟩) (n - k) (xs.drop k) := by
  have hl := h.1
  refine ⟨by rw [List.length_drop]; omega, fun j x hx => ?_, fun h0 => ?_⟩
  · rw [List.getElem?_drop] at hx
    exact h.2.1 _ x hx
  · obtain ⟨g', o', e, hb, hc⟩ := h.2.2 (by omega)
    injection e with e
    injection e with e1 e2
    subst e1 e2
    refine ⟨g, o + k * 3, rfl, hb, fun j x hx => ?_⟩
    rw [List.getElem?_drop] at hx
    have := hc (k + j) x hx
    rw [show o + k * 3 + j * 3 = o + (k + j) * 3 by omega]
    exact this

/-- a slice without blocks reads as none, wherever it lies -/
theorem BS.none_ (w : World) (B : Nat) (A : Option Addr) : BS w B A 0 [] := ⟨rfl, fun k x hx => by simp at hx, fun h => absurd h (by omega)⟩

theorem OwnB.cap {w : World} {base n c : Nat} {A : Option Addr} {xs : List Bl} (h : OwnB w base (.slice A n c) xs) : n = xs.length ∧ n ≤ c := by
  rcases h.2 with ⟨e, h0⟩ | ⟨g, cap, cur, e, _, _, hc, _⟩
  · injection e with e1 e2 e3
    omega
  · injection e with e1 e2 e3
    omega
end Go.Proofs.Ytkdoolilggkjpaa
