/- For every list of bytes the laws FnCommandValid (P47), FnCommandsValid (P48) and FnCommandPossible (P49) return true, over the program's contracts. No conditions. -/
import Derived.Test.YtijgfpcpkmpdpaaNb
import Derived.Test.YtijgfpcpkmpdpaaMs
import Derived.Test.YtijgfpcpkmpdpaaGa
import Derived.Deep.Cut
namespace Go.Proofs.Ytijgfpcpkmpdpaa
open Go.RowKit
set_option maxRecDepth 100000

/-- an append of instructions behind a guard -/
theorem wpList_appendMg {w : World} {ops : Array Oper} {rest : List Oper} {o : Oper} {a : Act} {Q : Exit → Act → World → Prop} (hw : Region.wanted o (yielded ops a.tmps) = true) (s x : Operand)
    (ho : o.op = .call { callee := .builtin .append, args := #[s, x], argTypes := #[46, 46] })
    (base : Nat) (v : Value) (xs : List Cm) (hs : a.eval s = v) (hown : OwnM w base v xs) (A : Option Addr) (m c B : Nat) (ys : List Cm) (hx : a.eval x = .slice A m c) (hr : MS w B A m ys)
    (hn : xs.length + m ≤ 1099511627776) (hbase : base ≤ w.heap.size)
    (h : ∀ v' w', OwnM w' base v' (xs ++ ys) → w.grownBy w' v.ownBlock → (v'.ownBlock = v.ownBlock ∨ v'.ownBlock = some w.heap.size) → wpList Try.prog ops Q rest (a.put o.dst v') w') : wpList Try.prog ops Q (o :: rest) a w :=
  wpList_step fun K hK => by
    rw [if_pos hw]
    obtain ⟨v', w', hrun, h2, h3, h4⟩ := run_appendM w base v xs hown A m c B ys hr hn hbase o.type
    unfold Oper.wp execOp
    simp only [ho, resolve, invoke, builtin, Sem.run_bind, Sem.run_pure, Result.andThen_ok, List.map_toArray, List.map_cons, List.map_nil, hs, hx, hrun]
    exact hK _ _ (h v' w' h2 h3 h4)

namespace Hps
theorem bad_root4 (o : Cm) : okCm ⟨o.op, 4, o.b, o.c⟩ = false := by
  cases hv : okCm ⟨o.op, 4, o.b, o.c⟩
  · rfl
  · have := okCm_a hv
    simp only at this
    omega
theorem bad_op7 (o : Cm) : okCm ⟨7, o.a, o.b, o.c⟩ = false := by
  cases hv : okCm ⟨7, o.a, o.b, o.c⟩
  · rfl
  · have := okCm_op hv
    simp only at this
    omega
theorem okCms_take {l : List Cm} (h : okCms l = true) (k : Nat) : okCms (l.take k) = true := by
  obtain ⟨h1, h2⟩ := okCms_iff.1 h
  exact okCms_iff.2 ⟨fun o ho => h1 o (List.mem_of_mem_take ho), by rw [List.length_take]; omega⟩
theorem okCms_zero (l : List Cm) : okCms (l ++ [⟨0, 0, 0, 0⟩]) = false := by
  cases hv : okCms (l ++ [⟨0, 0, 0, 0⟩])
  · rfl
  · have := okCm_op ((okCms_iff.1 hv).1 ⟨0, 0, 0, 0⟩ (by simp))
    simp only at this
    omega
theorem step_done (h : Hp) (o : Cm) : (stepH h o).2 = (canH h o && (decide (o.op ≠ 1) || decide (h.cs.length < 40))) := by
  unfold stepH
  cases hc : canH h o
  · split <;> simp
  · have hv : (validH h && okCm o) = true := by
      unfold canH at hc
      rw [Bool.and_eq_true] at hc
      exact hc.1
    rw [hv]
    have h40 := (valid_iff.1 (by rw [Bool.and_eq_true] at hv; exact hv.1 : validH h = true)).2.1
    by_cases h1 : o.op = 1
    · by_cases h2 : h.cs.length = 40
      · simp [h1, h2]
      · have h3 : h.cs.length < 40 := by omega
        simp [h1, h2, h3]
    · simp [h1]
end Hps

set_option maxHeartbeats 4000000 in
theorem commandValidLaw_walk (A : Option Addr) (n c : Nat) (w : World) (h : Bytes w w.heap.size A n) (hc : n ≤ c) (hn : n ≤ 9223372036854775807) :
    Calls Try.prog 6 #[.slice A n c] w fun e w' => e = .returned (.bool true) ∧ Below w.heap.size w w' := by
  by_cases hs : n ≤ 1048576
  case neg =>
    have hs' : (1048576 : Int) < (n : Int) := by omega
    go_enter Try.func6, Try.ntmps6
    go_wp2
    go_ret
    exact ⟨rfl, Below.refl _ _⟩
  have hs' : decide ((1048576 : Int) < (n : Int)) = false := by simp; omega
  go_enter Try.func6, Try.ntmps6
  go_wp2_with fail
  refine (drawCommandValid_any _ _ _ _ h hc hn).mono ?_
  rintro e w1 ⟨o, rfl, -, b1⟩
  have bA : Below w1.heap.size w1 (w1.alloc (.cells #[.int .i64 o.op, .int .i64 o.a, .int .i64 o.b, .int .i64 o.c] 43)) := (Below.refl _ _).alloc (Nat.le_refl _) _
  have bx := Rw.new w1 43 #[.int .i64 o.op, .int .i64 o.a, .int .i64 o.b, .int .i64 o.c]
  have bb := b1.trans (bA.mono b1.size)
  obtain ⟨v, hv⟩ : ∃ v, Hps.okCm o = v := ⟨_, rfl⟩
  have HV := Lib.hid hv
  have hvv : (v != v) = false := by cases v <;> rfl
  have BA := Lib.hid (Hps.bad_root4 o)
  have BB := Lib.hid (Hps.bad_op7 o)
  clear hv bA b1
  go_upto_region 4 with fail
  generalize w1.alloc (.cells #[.int .i64 o.op, .int .i64 o.a, .int .i64 o.b, .int .i64 o.c] 43) = w2 at bx bb ⊢
  generalize w1.heap.size = b at bx ⊢
  have y0 := bx.cell 0
  have y1 := bx.cell 1
  have y2 := bx.cell 2
  have y3 := bx.cell 3
  simp at y0 y1 y2 y3
  go_wp2_with fail
  refine (commandValid_any o _).mono ?_
  rw [HV.out]
  rintro e w3 ⟨rfl, b3⟩
  replace bx := bx.keep b3 bx.lt
  replace bb := bb.trans (b3.mono bb.size)
  clear y0 y1 y2 y3 b3
  have y0 := bx.cell 0
  have y1 := bx.cell 1
  have y2 := bx.cell 2
  have y3 := bx.cell 3
  simp at y0 y1 y2 y3
  go_wp2_with fail
  refine (mCommandValid_any o _).mono ?_
  rw [HV.out]
  rintro e w4 ⟨rfl, b4⟩
  replace bx := bx.keep b4 bx.lt
  replace bb := bb.trans (b4.mono bb.size)
  clear y0 y1 y2 y3 b4
  have y0 := bx.cell 0
  have y1 := bx.cell 1
  have y2 := bx.cell 2
  have y3 := bx.cell 3
  simp at y0 y1 y2 y3
  have hbl := bx.lt
  have cA := Rw.new w4 43 #[.int .i64 o.op, .int .i64 o.a, .int .i64 o.b, .int .i64 o.c]
  have b5 := bb.alloc bb.size (.cells #[.int .i64 o.op, .int .i64 o.a, .int .i64 o.b, .int .i64 o.c] 43)
  have x5 := bx.alloc (.cells #[.int .i64 o.op, .int .i64 o.a, .int .i64 o.b, .int .i64 o.c] 43)
  have hw4 := bb.size
  go_upto_region 8 with fail
  clear y0 y1 y2 y3
  obtain ⟨g5, hg5⟩ : ∃ g5, w4.heap.size = g5 := ⟨_, rfl⟩
  generalize w4.alloc (.cells #[.int .i64 o.op, .int .i64 o.a, .int .i64 o.b, .int .i64 o.c] 43) = w5 at cA b5 x5 ⊢
  rw [hg5] at cA hbl hw4 ⊢
  have u1 := cA.cell 1
  have f1 := cA.frozen 1
  have c6 := cA.put 1 (.int .i64 4)
  have x6 := Rw.other (w := w5) x5 (show b ≠ g5 by omega) (i := 1) (.int .i64 4)
  have b6 := b5.setCell (p := ⟨g5, 1, none⟩) hw4 (.int .i64 4)
  simp at u1 c6
  clear cA bb bx hg5
  go_upto_region 9 with fail
  generalize w5.setCell ⟨g5, 1, none⟩ (.int .i64 4) = w6 at c6 x6 b6 ⊢
  have y0 := x6.cell 0
  have y1 := x6.cell 1
  have y2 := x6.cell 2
  have y3 := x6.cell 3
  simp at y0 y1 y2 y3
  have cB := Rw.new w6 43 #[.int .i64 o.op, .int .i64 o.a, .int .i64 o.b, .int .i64 o.c]
  have b7 := b6.alloc b6.size (.cells #[.int .i64 o.op, .int .i64 o.a, .int .i64 o.b, .int .i64 o.c] 43)
  have c7 := c6.alloc (.cells #[.int .i64 o.op, .int .i64 o.a, .int .i64 o.b, .int .i64 o.c] 43)
  have hl6 := c6.lt
  have hw6 := b6.size
  go_upto_region 10 with fail
  obtain ⟨g7, hg7⟩ : ∃ g7, w6.heap.size = g7 := ⟨_, rfl⟩
  clear y0 y1 y2 y3 u1 f1 x5 b5 x6 b6 c6
  generalize w6.alloc (.cells #[.int .i64 o.op, .int .i64 o.a, .int .i64 o.b, .int .i64 o.c] 43) = w7 at cB b7 c7 ⊢
  rw [hg7] at cB hl6 hw6 ⊢
  have u0 := cB.cell 0
  have f0 := cB.frozen 0
  have d8 := cB.put 0 (.int .i64 7)
  have c8 := Rw.other (w := w7) c7 (show g5 ≠ g7 by omega) (i := 0) (.int .i64 7)
  have bb := b7.setCell (p := ⟨g7, 0, none⟩) hw6 (.int .i64 7)
  simp at u0 d8
  clear cB hg7
  go_upto_region 11 with fail
  generalize w7.setCell ⟨g7, 0, none⟩ (.int .i64 7) = w8 at d8 c8 bb ⊢
  clear u0 f0 c7 b7
  have z0 := c8.cell 0
  have z1 := c8.cell 1
  have z2 := c8.cell 2
  have z3 := c8.cell 3
  simp at z0 z1 z2 z3
  go_wp2_with fail
  refine (commandValid_any ⟨o.op, 4, o.b, o.c⟩ _).mono ?_
  rw [BA.out]
  rintro e w9 ⟨rfl, b9⟩
  replace d8 := d8.keep b9 d8.lt
  replace bb := bb.trans (b9.mono bb.size)
  have y0 := d8.cell 0
  have y1 := d8.cell 1
  have y2 := d8.cell 2
  have y3 := d8.cell 3
  simp at y0 y1 y2 y3
  clear z0 z1 z2 z3 c8 b9
  go_wp2_with fail
  refine (commandValid_any ⟨7, o.a, o.b, o.c⟩ _).mono ?_
  rw [BB.out]
  rintro e w10 ⟨rfl, b10⟩
  replace bb := bb.trans (b10.mono bb.size)
  clear y0 y1 y2 y3 b10
  go_wp2_with fail
  refine (alive_any _).mono ?_
  rintro e w11 ⟨rfl, b11⟩
  replace bb := bb.trans (b11.mono bb.size)
  go_wp2_with fail
  go_ret
  exact ⟨rfl, bb⟩

set_option maxHeartbeats 4000000 in
theorem commandsValidLaw_walk (A : Option Addr) (n c : Nat) (w : World) (h : Bytes w w.heap.size A n) (hc : n ≤ c) (hn : n ≤ 9223372036854775807) :
    Calls Try.prog 7 #[.slice A n c] w fun e w' => e = .returned (.bool true) ∧ Below w.heap.size w w' := by
  by_cases hs : n ≤ 1048576
  case neg =>
    have hs' : (1048576 : Int) < (n : Int) := by omega
    go_enter Try.func7, Try.ntmps7
    go_wp2
    go_ret
    exact ⟨rfl, Below.refl _ _⟩
  have hs' : decide ((1048576 : Int) < (n : Int)) = false := by simp; omega
  go_enter Try.func7, Try.ntmps7
  go_wp2_with fail
  refine (drawCommandsValid_any _ _ _ _ h hc hn).mono ?_
  rintro e w1 ⟨A1, nn, c1, l, rfl, hc1, hn41, ow, -, bb⟩
  have m1 := ow.reads
  have hln := m1.1
  obtain ⟨v, hv⟩ : ∃ v, Hps.okCms l = v := ⟨_, rfl⟩
  have hvv : (v != v) = false := by cases v <;> rfl
  have HV := Lib.hid hv
  have HT := Lib.hid (fun (hv' : v = true) => Hps.okCms_take (hv.trans hv') (nn / 2))
  have HZ := Lib.hid (Hps.okCms_zero l)
  clear hv ow
  go_wp2_with fail
  refine (commandsValid_any _ _ _ l _ m1 (by omega) hc1).mono ?_
  rw [HV.out]
  rintro e w2 ⟨rfl, b2⟩
  replace m1 := m1.up b2
  replace bb := bb.trans (b2.mono bb.size)
  clear b2
  go_wp2_with fail
  refine (mCommandsValid_any _ _ _ l _ m1 (by omega)).mono ?_
  rw [HV.out]
  rintro e w3 ⟨rfl, b3⟩
  replace m1 := m1.up b3
  replace bb := bb.trans (b3.mono bb.size)
  clear b3
  have hdiv : (nn : Int).tdiv 2 = ((nn / 2 : Nat) : Int) := by
    rw [Int.tdiv_eq_ediv_of_nonneg (by omega)]
    omega
  have hd2 : nn / 2 ≤ nn := by omega
  have hdc : ((nn / 2 : Nat) : Int) ≤ c1 := by omega
  have hdn : ((nn / 2 : Nat) : Int) ≤ nn := by omega
  have hl1 : ([] : List Cm).length + nn ≤ 1099511627776 := by simp; omega
  cases v
  · have o0 := own_noneM w3 w3.heap.size (Nat.le_refl _)
    have b4 : Below w3.heap.size w3 (w3.alloc (.cells #[] 43)) := (Below.refl _ _).alloc (Nat.le_refl _) _
    have m4 := m1.up b4
    clear HT
    go_wp2_with (at_builtin; first | (refine wpList_appendMg rfl (.tmp 27) (.tmp 28) rfl w3.heap.size _ [] rfl o0 A1 nn c1 _ l rfl m4 hl1 b4.size ?_; intro v5 w5 o5 g5 s5; rw [List.nil_append] at o5; have b5 := b4.grown g5 b4.size (fun k hk => (World.ownsRow.lt o0 k hk).1); have oA := World.ownsRow.alloc o5 (.cells #[.int .i64 0, .int .i64 0, .int .i64 0, .int .i64 0] 43); have rr := (own_oneM w5 ⟨0, 0, 0, 0⟩ 0 (Nat.zero_le _)).reads; have b6 := b5.alloc b5.size (.cells #[.int .i64 0, .int .i64 0, .int .i64 0, .int .i64 0] 43); have hw := (World.ownsRow.lt o5)) | (refine wpList_appendMg rfl (.tmp 29) (.tmp 31) rfl w3.heap.size _ l rfl oA (some ⟨w5.heap.size, 0, none⟩) 1 1 _ [⟨0, 0, 0, 0⟩] rfl rr (by omega) b6.size ?_; intro v7 w7 o7 g7 s7; have b7 := b6.grown g7 b6.size (fun k hk => (hw k hk).1); obtain ⟨A7, c7, e7, -⟩ := o7.form; subst e7; have r7 := o7.reads; have hc7 := o7.cap.2; have hl7 := o7.cap.1; rw [List.length_append, List.length_singleton, hln] at r7 hc7))
    clear oA rr o5 g5 s5 o7 g7 s7 o0 m4 b4 b5 b6 hw
    replace bb := bb.trans (b7.mono bb.size)
    refine (commandsValid_any _ _ _ (l ++ [⟨0, 0, 0, 0⟩]) _ r7 (by omega) hc7).mono ?_
    rw [HZ.out]
    rintro e w8 ⟨rfl, b8⟩
    replace bb := bb.trans (b8.mono bb.size)
    go_wp2_with fail
    refine (alive_any _).mono ?_
    rintro e w9 ⟨rfl, b9⟩
    replace bb := bb.trans (b9.mono bb.size)
    go_wp2_with fail
    go_ret
    exact ⟨rfl, bb⟩
  · have HV2 := Lib.hid (HT.out rfl)
    have mt := m1.take hd2
    go_wp2_with fail
    refine (commandsValid_any _ _ _ (l.take (nn / 2)) _ mt (by omega) (by omega)).mono ?_
    rw [HV2.out]
    rintro e w4 ⟨rfl, b3⟩
    replace m1 := m1.up b3
    replace bb := bb.trans (b3.mono bb.size)
    have o0 := own_noneM w4 w4.heap.size (Nat.le_refl _)
    have b4 : Below w4.heap.size w4 (w4.alloc (.cells #[] 43)) := (Below.refl _ _).alloc (Nat.le_refl _) _
    have m4 := m1.up b4
    clear HT HV2 mt b3
    go_wp2_with (at_builtin; first | (refine wpList_appendMg rfl (.tmp 27) (.tmp 28) rfl w4.heap.size _ [] rfl o0 A1 nn c1 _ l rfl m4 hl1 b4.size ?_; intro v5 w5 o5 g5 s5; rw [List.nil_append] at o5; have b5 := b4.grown g5 b4.size (fun k hk => (World.ownsRow.lt o0 k hk).1); have oA := World.ownsRow.alloc o5 (.cells #[.int .i64 0, .int .i64 0, .int .i64 0, .int .i64 0] 43); have rr := (own_oneM w5 ⟨0, 0, 0, 0⟩ 0 (Nat.zero_le _)).reads; have b6 := b5.alloc b5.size (.cells #[.int .i64 0, .int .i64 0, .int .i64 0, .int .i64 0] 43); have hw := (World.ownsRow.lt o5)) | (refine wpList_appendMg rfl (.tmp 29) (.tmp 31) rfl w4.heap.size _ l rfl oA (some ⟨w5.heap.size, 0, none⟩) 1 1 _ [⟨0, 0, 0, 0⟩] rfl rr (by omega) b6.size ?_; intro v7 w7 o7 g7 s7; have b7 := b6.grown g7 b6.size (fun k hk => (hw k hk).1); obtain ⟨A7, c7, e7, -⟩ := o7.form; subst e7; have r7 := o7.reads; have hc7 := o7.cap.2; have hl7 := o7.cap.1; rw [List.length_append, List.length_singleton, hln] at r7 hc7))
    clear oA rr o5 g5 s5 o7 g7 s7 o0 m4 b4 b5 b6 hw
    replace bb := bb.trans (b7.mono bb.size)
    refine (commandsValid_any _ _ _ (l ++ [⟨0, 0, 0, 0⟩]) _ r7 (by omega) hc7).mono ?_
    rw [HZ.out]
    rintro e w8 ⟨rfl, b8⟩
    replace bb := bb.trans (b8.mono bb.size)
    go_wp2_with fail
    refine (alive_any _).mono ?_
    rintro e w9 ⟨rfl, b9⟩
    replace bb := bb.trans (b9.mono bb.size)
    go_wp2_with fail
    go_ret
    exact ⟨rfl, bb⟩

end Go.Proofs.Ytijgfpcpkmpdpaa
