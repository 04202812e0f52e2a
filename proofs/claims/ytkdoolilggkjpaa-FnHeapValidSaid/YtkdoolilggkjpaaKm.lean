/- Rows of instructions: how they lie in memory, rows of a call's own, appending. No conditions. -/
import Derived.Test.YtkdoolilggkjpaaAppend
import Derived.Test.YtkdoolilggkjpaaWg
import Derived.Maps.AppendAt
import Derived.Test.YtkdoolilggkjpaaKb
namespace Go.Proofs.Ytkdoolilggkjpaa
open Go.RowKit

/-- the values of instructions in a row -/
def flatM : List Cm → List Value
  | [] => []
  | o :: l => .int .i64 o.op :: .int .i64 o.a :: .int .i64 o.b :: .int .i64 o.c :: flatM l
theorem flatM_length : ∀ l : List Cm, (flatM l).length = l.length * 4
  | [] => rfl
  | _ :: l => by simp [flatM, flatM_length l]; omega
theorem flatM_at : ∀ (l : List Cm) (k : Nat) (o : Cm), l[k]? = some o → (flatM l)[k * 4]? = some (.int .i64 o.op) ∧ (flatM l)[k * 4 + 1]? = some (.int .i64 o.a) ∧ (flatM l)[k * 4 + 2]? = some (.int .i64 o.b) ∧ (flatM l)[k * 4 + 3]? = some (.int .i64 o.c)
  | [], k, o, h => by simp at h
  | x :: l, 0, o, h => by
    simp at h
    subst h
    simp [flatM]
  | x :: l, k + 1, o, h => by
    have := flatM_at l k o (by simpa using h)
    rw [show (k + 1) * 4 = k * 4 + 4 by omega]
    simpa [flatM] using this
theorem flatM_append : ∀ (l m : List Cm), flatM (l ++ m) = flatM l ++ flatM m
  | [], m => rfl
  | x :: l, m => by simp [flatM, flatM_append l m]
theorem flatM_oneCell : ∀ (l : List Cm), ∀ u ∈ flatM l, u.oneCell' = true
  | [], u, h => by simp [flatM] at h
  | x :: l, u, h => by
    simp only [flatM, List.mem_cons] at h
    rcases h with rfl | rfl | rfl | rfl | h
    · rfl
    · rfl
    · rfl
    · rfl
    · exact flatM_oneCell l u h
/-- a slice of instructions that a call can read -/
def MS (w : World) (B : Nat) (A : Option Addr) (n : Nat) (l : List Cm) : Prop :=
  l.length = n ∧ (0 < n → ∃ g o, A = some ⟨g, o, none⟩ ∧ g < B ∧ ∀ (j : Nat) (u : Value), (flatM l)[j]? = some u → w.cell? ⟨g, o + j, none⟩ = some u)
section
variable {w w' : World} {B B' n : Nat} {A : Option Addr} {l : List Cm}
theorem MS.keep (h : MS w B A n l) (hk : ∀ p : Addr, p.block < B → w'.cell? p = w.cell? p) : MS w' B A n l :=
  ⟨h.1, fun hn => by
    obtain ⟨g, o, e, hb, hc⟩ := h.2 hn
    exact ⟨g, o, e, hb, fun k x hx => (hk _ hb).trans (hc k x hx)⟩⟩
theorem MS.more (h : MS w B A n l) (hB : B ≤ B') : MS w B' A n l :=
  ⟨h.1, fun hn => by
    obtain ⟨g, o, e, hb, hc⟩ := h.2 hn
    exact ⟨g, o, e, by omega, hc⟩⟩
theorem MS.below (h : MS w B A n l) (hb : Below B w w') : MS w' B A n l := h.keep fun _ hp => hb.cell hp
theorem MS.up {w w' : World} {n : Nat} {A : Option Addr} {l : List Cm} (h : MS w w.heap.size A n l) (hb : Below w.heap.size w w') : MS w' w'.heap.size A n l := (h.below hb).more hb.size
theorem MS.at_ {k : Nat} (h : MS w B A n l) (hk : k < n) : ∃ g o c, A = some ⟨g, o, none⟩ ∧ g < B ∧ l[k]? = some c ∧ w.cell? ⟨g, o + k * 4, none⟩ = some (.int .i64 c.op) ∧ w.cell? ⟨g, o + k * 4 + 1, none⟩ = some (.int .i64 c.a) ∧ w.cell? ⟨g, o + k * 4 + 2, none⟩ = some (.int .i64 c.b) ∧ w.cell? ⟨g, o + k * 4 + 3, none⟩ = some (.int .i64 c.c) := by
  obtain ⟨g, o, e, hb, hc⟩ := h.2 (by omega)
  have hl : k < l.length := by have := h.1; omega
  have hx := List.getElem?_eq_getElem hl
  obtain ⟨f1, f2, f3, f4⟩ := flatM_at l k _ hx
  exact ⟨g, o, _, e, hb, hx, hc _ _ f1, by rw [Nat.add_assoc]; exact hc _ _ f2, by rw [Nat.add_assoc]; exact hc _ _ f3, by rw [Nat.add_assoc]; exact hc _ _ f4⟩
theorem MS.none_ (w : World) (B : Nat) (A : Option Addr) : MS w B A 0 [] := ⟨rfl, fun h => by omega⟩
theorem flatM_take : ∀ (l : List Cm) (k : Nat), flatM (l.take k) = (flatM l).take (k * 4)
  | [], k => by simp [flatM]
  | x :: l, 0 => by simp [flatM]
  | x :: l, k + 1 => by
    rw [show (k + 1) * 4 = k * 4 + 4 by omega]
    simp [flatM, flatM_take l k]
theorem MS.take {k : Nat} (h : MS w B A n l) (hk : k ≤ n) : MS w B A k (l.take k) := by
  refine ⟨by rw [List.length_take, h.1]; omega, fun h0 => ?_⟩
  obtain ⟨g, o, e, hb, hc⟩ := h.2 (by omega)
  refine ⟨g, o, e, hb, fun j u hj => ?_⟩
  rw [flatM_take, List.getElem?_take] at hj
  split at hj
  · exact hc j u hj
  · cases hj
end

/-- the value v owns the instructions l, in a row from block 'base' on -/
def OwnM (w : World) (base : Nat) (v : Value) (l : List Cm) : Prop := w.ownsRow base 98 4 v l.length (flatM l)
theorem OwnM.form {w : World} {base : Nat} {v : Value} {l : List Cm} (h : OwnM w base v l) : ∃ A c, v = .slice A l.length c ∧ (0 < l.length → ∃ g, A = some ⟨g, 0, none⟩ ∧ base ≤ g ∧ g < w.heap.size) := by
  rcases h.2 with ⟨rfl, h0⟩ | ⟨g, cap, cur, rfl, hb, hh, _⟩
  · exact ⟨none, 0, by rw [h0], fun h => by omega⟩
  · exact ⟨some ⟨g, 0, none⟩, cap, rfl, fun _ => ⟨g, rfl, hb, (Array.getElem?_eq_some_iff.1 hh).1⟩⟩
theorem OwnM.reads {w : World} {base n c : Nat} {A : Option Addr} {l : List Cm} (h : OwnM w base (.slice A n c) l) : MS w w.heap.size A n l := by
  rcases h.2 with ⟨e, h0⟩ | ⟨g, cap, cur, e, hb, hh, _⟩
  · injection e with e1 e2 e3
    subst e2
    have : l = [] := List.eq_nil_of_length_eq_zero h0
    subst this
    exact ⟨rfl, fun h => by omega⟩
  · injection e with e1 e2 e3
    subst e1 e2 e3
    refine ⟨rfl, fun hn => ⟨g, 0, rfl, (Array.getElem?_eq_some_iff.1 hh).1, fun k x hx => ?_⟩⟩
    have hk : k < (flatM l).length := (List.getElem?_eq_some_iff.1 hx).1
    rw [flatM_length] at hk
    rw [Nat.zero_add]
    exact (World.ownsRow.cellAt h k (by omega)).trans hx
theorem OwnM.below {w w' : World} {base B : Nat} {v : Value} {l : List Cm} (h : OwnM w base v l) (hb : Below B w w') (hB : w.heap.size ≤ B) : OwnM w' base v l := by
  refine ⟨h.1, ?_⟩
  rcases h.2 with h0 | ⟨g, cap, cur, e, hb', hh, hr⟩
  · exact .inl h0
  · exact .inr ⟨g, cap, cur, e, hb', (hb.block g (Nat.lt_of_lt_of_le (Array.getElem?_eq_some_iff.1 hh).1 hB)).trans hh, hr⟩
theorem OwnM.base {w : World} {base base' : Nat} {v : Value} {l : List Cm} (h : OwnM w base v l) (hb : base' ≤ base) : OwnM w base' v l := by
  refine ⟨h.1, ?_⟩
  rcases h.2 with h0 | ⟨g, cap, cur, e, hb', hh, hr⟩
  · exact .inl h0
  · exact .inr ⟨g, cap, cur, e, by omega, hh, hr⟩
theorem OwnM.far {w w' : World} {base : Nat} {v : Value} {l : List Cm} {row : Option Nat} (h : OwnM w base v l) (hg : w.grownBy w' row) (hne : v.ownBlock = none ∨ v.ownBlock ≠ row) : OwnM w' base v l := World.ownsRow.kept h hg hne
theorem OwnM.cast {w : World} {base : Nat} {v : Value} {l m : List Cm} (e : l = m) (h : OwnM w base v l) : OwnM w base v m := e ▸ h
theorem OwnM.cap {w : World} {base n c : Nat} {A : Option Addr} {l : List Cm} (h : OwnM w base (.slice A n c) l) : n = l.length ∧ n ≤ c := by
  rcases h.2 with ⟨e, h0⟩ | ⟨g, cap, cur, e, _, _, hc, _⟩
  · injection e with e1 e2 e3
    omega
  · injection e with e1 e2 e3
    omega
theorem own_noneM (w : World) (base : Nat) (hb : base ≤ w.heap.size) : OwnM (w.alloc (.cells #[] 98)) base (.slice (some ⟨w.heap.size, 0, none⟩) 0 0) [] :=
  World.ownsRow_lit (base := base) (e := 98) (size := 4) w #[] 0 hb (by unfold maxLen; omega) rfl
theorem own_oneM (w : World) (o : Cm) (base : Nat) (hb : base ≤ w.heap.size) : OwnM (w.alloc (.cells #[.int .i64 o.op, .int .i64 o.a, .int .i64 o.b, .int .i64 o.c] 98)) base (.slice (some ⟨w.heap.size, 0, none⟩) 1 1) [o] :=
  World.ownsRow_lit (base := base) (e := 98) (size := 4) w #[.int .i64 o.op, .int .i64 o.a, .int .i64 o.b, .int .i64 o.c] 1 hb (by unfold maxLen; omega) rfl

theorem info_command : (Try.prog.info? 98).map (fun i => (i.zero, i.size, i.bytes)) = some (some (.agg #[.int .i64 0, .int .i64 0, .int .i64 0, .int .i64 0]), 4, 32) := by kernel_rfl

theorem run_appendM (w : World) (base : Nat) (v : Value) (xs : List Cm) (hown : OwnM w base v xs) (A : Option Addr) (m c B : Nat) (ys : List Cm) (hr : MS w B A m ys) (hn : xs.length + m ≤ 1099511627776) (hbase : base ≤ w.heap.size) (ty : TypeId) :
    ∃ v' w', (Builtin.append_ #[77, 77] ty #[v, .slice A m c]).run Try.prog w = .ok v' w' ∧ OwnM w' base v' (xs ++ ys) ∧ w.grownBy w' v.ownBlock ∧ (v'.ownBlock = v.ownBlock ∨ v'.ownBlock = some w.heap.size) := by
  obtain ⟨i0, hi0, hz0, hz1, hz2⟩ := info_parts info_command
  have hm := hr.1
  rcases A with _ | ad
  · have h0 : m = 0 := by
      rcases Nat.eq_zero_or_pos m with h0 | h0
      · exact h0
      · obtain ⟨g, o, e, _⟩ := hr.2 h0
        cases e
    subst h0
    have : ys = [] := List.eq_nil_of_length_eq_zero hm
    subst this
    refine ⟨v, w, ?_, by simpa using hown, World.grownBy.refl _ _, .inl rfl⟩
    rcases hown.2 with ⟨rfl, _⟩ | ⟨g, cap, cur, rfl, _, _, hnc, _⟩
    · simp [Builtin.append_, run_underlying Try.underlying77, sizeOf, typeInfo, hi0, Builtin.lenOf, Builtin.firstCells]
    · simp [Builtin.append_, run_underlying Try.underlying77, sizeOf, typeInfo, hi0, Builtin.lenOf, Builtin.firstCells, hnc, storeCells]
  · have hcells : ∀ j u, (flatM ys)[j]? = some u → w.cell? (ad.add j) = some u := by
      intro j u hj
      rcases Nat.eq_zero_or_pos m with h0 | h0
      · subst h0
        have : ys = [] := List.eq_nil_of_length_eq_zero hm
        subst this
        simp [flatM] at hj
      · obtain ⟨g, o, e, _, hc⟩ := hr.2 h0
        replace e := Option.some.inj e
        subst e
        rw [add_lit]
        exact hc j u hj
    obtain ⟨v', w', hrun, h2, h3, _, h5⟩ := run_append_own_at (P := Try.prog) w base 77 ty 98 i0 _ 4 32 Try.underlying77 hi0 hz0 hz1 hz2 rfl (by omega) v xs.length (flatM xs) hown ad m c (flatM ys)
      (by rw [flatM_length, hm]) hcells (flatM_oneCell ys) (by unfold maxLen; omega) (by omega) hbase
    refine ⟨v', w', hrun, ?_, h3, h5⟩
    unfold OwnM
    rw [flatM_append, List.length_append, hm]
    exact h2

theorem wpList_appendM {w : World} {ops : Array Oper} {rest : List Oper} {o : Oper} {a : Act} {Q : Exit → Act → World → Prop} (hgd : o.guard = none) (s x : Operand)
    (ho : o.op = .call { callee := .builtin .append, args := #[s, x], argTypes := #[77, 77] })
    (base : Nat) (v : Value) (xs : List Cm) (hs : a.eval s = v) (hown : OwnM w base v xs) (A : Option Addr) (m c B : Nat) (ys : List Cm) (hx : a.eval x = .slice A m c) (hr : MS w B A m ys)
    (hn : xs.length + m ≤ 1099511627776) (hbase : base ≤ w.heap.size)
    (h : ∀ v' w', OwnM w' base v' (xs ++ ys) → w.grownBy w' v.ownBlock → (v'.ownBlock = v.ownBlock ∨ v'.ownBlock = some w.heap.size) → wpList Try.prog ops Q rest (a.put o.dst v') w') : wpList Try.prog ops Q (o :: rest) a w :=
  wpList_plain hgd fun _ hK => by
    obtain ⟨v', w', hrun, h2, h3, h4⟩ := run_appendM w base v xs hown A m c B ys hr hn hbase o.type
    unfold Oper.wp execOp
    simp only [ho, resolve, invoke, builtin, Sem.run_bind, Sem.run_pure, Result.andThen_ok, List.map_toArray, List.map_cons, List.map_nil, hs, hx, hrun]
    exact hK _ _ (h v' w' h2 h3 h4)

set_option maxHeartbeats 1000000 in
theorem mCommandsValid_any (A : Option Addr) (n c : Nat) (l : List Cm) (w : World) (h : MS w w.heap.size A n l) (hn : n ≤ 1099511627776) :
    Calls Try.prog 75 #[.slice A n c] w fun e w' => e = .returned (.bool (Hps.okCms l)) ∧ Below w.heap.size w w' := by
  have HL := Lib.hid h.1
  go_enter Try.func75, Try.ntmps75
  go_wp2_with fail
  go_loopw [3] (fun i wr => ∃ k : Nat, k ≤ n ∧ i = .int .i64 k ∧ Hid (∀ j o, j < k → l[j]? = some o → Hps.okCm o = true) ∧ Below w.heap.size w wr) (fun i _ => n - (intOf i).toNat)
  case atStart => exact ⟨0, Nat.zero_le _, rfl, Lib.hid (fun j x hj => by omega), Below.refl _ _⟩
  case round =>
    obtain ⟨k, hk, rfl, HP, bb⟩ := hrel
    by_cases hlt : k < n
    · obtain ⟨g, o, x, rfl, hg, hx, c0, c1, c2, c3⟩ := (h.below bb).at_ hlt
      have hlt' : (k : Int) < n := by omega
      have HX := Lib.hid hx
      clear hx
      go_wp2_with fail
      refine (mCommandValid_any x _).mono ?_
      cases he : Hps.okCm x
      · have R := Lib.hid (show Hps.okCms l = false by
          cases hh : Hps.okCms l
          · rfl
          · rw [(Hps.okCms_iff.1 hh).1 x (List.mem_of_getElem? HX.out)] at he
            cases he)
        rintro e w1 ⟨rfl, b1⟩
        have b2 := bb.trans (b1.mono bb.size)
        clear he
        go_wp2_with fail
        go_ret
        exact ⟨by rw [R.out]; rfl, b2⟩
      · have HN : Hid (∀ j y, j < k + 1 → l[j]? = some y → Hps.okCm y = true) := Lib.hid fun j y hj hy => by
          rcases Nat.lt_or_ge j k with h1 | h1
          · exact HP.out j y h1 hy
          · obtain rfl : j = k := by omega
            rw [HX.out] at hy
            injection hy with hy
            rw [← hy]
            exact he
        rintro e w1 ⟨rfl, b1⟩
        have b2 := bb.trans (b1.mono bb.size)
        clear he
        go_wp2_with fail
        go_roundw
        case rel => exact ⟨k + 1, by omega, by go_num, HN, b2⟩
        case measure => simp [intOf]; omega
    · obtain rfl : k = n := by omega
      have R := Lib.hid (show Hps.okCms l = decide (k ≤ 40) by
        have ha : l.all Hps.okCm = true := by
          rw [List.all_eq_true]
          intro x hx
          obtain ⟨j, hj⟩ := List.mem_iff_getElem?.1 hx
          exact HP.out j x (by rw [← HL.out]; exact (List.getElem?_eq_some_iff.1 hj).1) hj
        rw [Hps.okCms, ha, Bool.true_and, HL.out])
      go_wp2_with fail
      go_ret
      exact ⟨ret_bool (by rw [R.out, decide_eq_decide]; omega), bb⟩
end Go.Proofs.Ytkdoolilggkjpaa
