/- For every list of bytes the laws FnCommandValid (P47), FnCommandsValid (P48) and FnCommandPossible (P49) return true, over the program's contracts. No conditions. -/
import Derived.Test.YtnhgibbcggegmaaNb
import Derived.Test.YtnhgibbcggegmaaMs
import Derived.Test.YtnhgibbcggegmaaGa
import Derived.Deep.Cut
namespace Go.Proofs.Ytnhgibbcggegmaa
open Go.RowKit
set_option maxRecDepth 100000

/-- an append of instructions behind a guard -/
theorem wpList_appendMg {w : World} {ops : Array Oper} {rest : List Oper} {o : Oper} {a : Act} {Q : Exit → Act → World → Prop} (hw : Region.wanted o (yielded ops a.tmps) = true) (s x : Operand)
    (ho : o.op = .call { callee := .builtin .append, args := #[s, x], argTypes := #[103, 103] })
    (base : Nat) (v : Value) (xs : List Cm) (hs : a.eval s = v) (hown : OwnM w base v xs) (A : Option Addr) (m c B : Nat) (ys : List Cm) (hx : a.eval x = .slice A m c) (hr : MS w B A m ys)
    (hn : xs.length + m ≤ 1099511627776) (hbase : base ≤ w.heap.size)
    (h : ∀ v' w', OwnM w' base v' (xs ++ ys) → w.grownBy w' v.ownBlock → (v'.ownBlock = v.ownBlock ∨ v'.ownBlock = some w.heap.size) → wpList Try.prog ops Q rest (a.put o.dst v') w') : wpList Try.prog ops Q (o :: rest) a w :=
  wpList_step fun K hK => by
    rw [if_pos hw]
    obtain ⟨v', w', hrun, h2, h3, h4⟩ := run_appendM w base v xs hown A m c B ys hr hn hbase o.type
    unfold Oper.wp execOp
    simp only [ho, resolve, invoke, builtin, Sem.run_bind, Sem.run_pure, Result.andThen_ok, List.map_toArray, List.map_cons, List.map_nil, hs, hx, hrun]
    exact hK _ _ (h v' w' h2 h3 h4)

namespace Hps
theorem bad_root4 (o : Cm) : okCm ⟨o.op, 4, o.b, o.c⟩ = false := by
  cases hv : okCm ⟨o.op, 4, o.b, o.c⟩
  · rfl
  · have := okCm_a hv
    simp only at this
    omega
theorem bad_op7 (o : Cm) : okCm ⟨7, o.a, o.b, o.c⟩ = false := by
  cases hv : okCm ⟨7, o.a, o.b, o.c⟩
  · rfl
  · have := okCm_op hv
    simp only at this
    omega
theorem okCms_take {l : List Cm} (h : okCms l = true) (k : Nat) : okCms (l.take k) = true := by
  obtain ⟨h1, h2⟩ := okCms_iff.1 h
  exact okCms_iff.2 ⟨fun o ho => h1 o (List.mem_of_mem_take ho), by rw [List.length_take]; omega⟩
theorem okCms_zero (l : List Cm) : okCms (l ++ [⟨0, 0, 0, 0⟩]) = false := by
  cases hv : okCms (l ++ [⟨0, 0, 0, 0⟩])
  · rfl
  · have := okCm_op ((okCms_iff.1 hv).1 ⟨0, 0, 0, 0⟩ (by simp))
    simp only at this
    omega
theorem step_done (h : Hp) (o : Cm) : (stepH h o).2 = (canH h o && (decide (o.op ≠ 1) || decide (h.cs.length < 40))) := by
  unfold stepH
  cases hc : canH h o
  · split <;> simp
  · have hv : (validH h && okCm o) = true := by
      unfold canH at hc
      rw [Bool.and_eq_true] at hc
      exact hc.1
    rw [hv]
    have h40 := (valid_iff.1 (by rw [Bool.and_eq_true] at hv; exact hv.1 : validH h = true)).2.1
    by_cases h1 : o.op = 1
    · by_cases h2 : h.cs.length = 40
      · simp [h1, h2]
      · have h3 : h.cs.length < 40 := by omega
        simp [h1, h2, h3]
    · simp [h1]
end Hps

set_option maxHeartbeats 4000000 in
theorem commandPossibleLaw_walk (A : Option Addr) (n c : Nat) (w : World) (h : Bytes w w.heap.size A n) (hc : n ≤ c) (hn : n ≤ 9223372036854775807) :
    Calls Try.prog 3 #[.slice A n c] w fun e w' => e = .returned (.bool true) ∧ Below w.heap.size w w' := by
  by_cases hs : n ≤ 1048576
  case neg =>
    have hs' : (1048576 : Int) < (n : Int) := by omega
    go_enter Try.func3, Try.ntmps3
    go_wp2
    go_ret
    exact ⟨rfl, Below.refl _ _⟩
  have hs' : decide ((1048576 : Int) < (n : Int)) = false := by simp; omega
  go_enter Try.func3, Try.ntmps3
  go_wp2_with fail
  refine (drawCommandPossible_any _ _ _ _ h hc hn).mono ?_
  rintro e w1 ⟨A1, nn, c1, R1, m, d1, hh, o, rfl, hc1, hd1, hsH, hsm, -, b1⟩
  have hn41 : nn ≤ 41 := by rw [← hsH.cells.1]; exact hsm.1
  have hm4 : m ≤ 4 := by rw [← hsH.roots.1]; exact hsm.2.1
  have bA : Below w1.heap.size w1 ((w1.alloc (.cells #[.slice A1 nn c1, .slice R1 m d1] 26)).alloc (.cells #[.int .i64 o.op, .int .i64 o.a, .int .i64 o.b, .int .i64 o.c] 28)) := ((Below.refl _ _).alloc (Nat.le_refl _) _).alloc (by simp) _
  have bx := (Rw.new w1 26 #[.slice A1 nn c1, .slice R1 m d1]).alloc (.cells #[.int .i64 o.op, .int .i64 o.a, .int .i64 o.b, .int .i64 o.c] 28)
  have cx := Rw.new (w1.alloc (.cells #[.slice A1 nn c1, .slice R1 m d1] 26)) 28 #[.int .i64 o.op, .int .i64 o.a, .int .i64 o.b, .int .i64 o.c]
  rw [World.size_alloc] at cx
  have hs2 := hsH.up bA
  have bb := b1.trans (bA.mono b1.size)
  obtain ⟨v, hv⟩ : ∃ v, Hps.canH hh o = v := ⟨_, rfl⟩
  have HV := Lib.hid hv
  have hvv : (v != v) = false := by cases v <;> rfl
  obtain ⟨vd, hvd⟩ : ∃ vd, (Hps.stepH hh o).2 = vd := ⟨_, rfl⟩
  have HD := Lib.hid hvd
  have HE := Lib.hid (show vd = (v && (decide (o.op ≠ 1) || decide (nn < 40))) by rw [← hvd, Hps.step_done, hv, hsH.cells.1])
  clear hv hvd hsH bA b1 hsm
  go_upto_region 4 with fail
  generalize (w1.alloc (.cells #[.slice A1 nn c1, .slice R1 m d1] 26)).alloc (.cells #[.int .i64 o.op, .int .i64 o.a, .int .i64 o.b, .int .i64 o.c] 28) = w2 at bx cx hs2 bb ⊢
  generalize w1.heap.size = b at bx cx ⊢
  have x0 : w2.cell? ⟨b, 0, none⟩ = some (.slice A1 nn c1) := bx.cell 0
  have x1 : w2.cell? ⟨b, 1, none⟩ = some (.slice R1 m d1) := bx.cell 1
  have y0 : w2.cell? ⟨b + 1, 0, none⟩ = some (.int .i64 o.op) := cx.cell 0
  have y1 : w2.cell? ⟨b + 1, 1, none⟩ = some (.int .i64 o.a) := cx.cell 1
  have y2 : w2.cell? ⟨b + 1, 2, none⟩ = some (.int .i64 o.b) := cx.cell 2
  have y3 : w2.cell? ⟨b + 1, 3, none⟩ = some (.int .i64 o.c) := cx.cell 3
  go_wp2_with fail
  refine (commandPossible_any _ _ _ _ _ _ hh o _ hs2 (by omega) (by omega) hc1 hd1).mono ?_
  rw [HV.out]
  rintro e w3 ⟨rfl, b3⟩
  replace bx := bx.keep b3 bx.lt
  replace cx := cx.keep b3 cx.lt
  replace hs2 := hs2.up b3
  replace bb := bb.trans (b3.mono bb.size)
  clear x0 x1 y0 y1 y2 y3 b3
  have x0 : w3.cell? ⟨b, 0, none⟩ = some (.slice A1 nn c1) := bx.cell 0
  have x1 : w3.cell? ⟨b, 1, none⟩ = some (.slice R1 m d1) := bx.cell 1
  have y0 : w3.cell? ⟨b + 1, 0, none⟩ = some (.int .i64 o.op) := cx.cell 0
  have y1 : w3.cell? ⟨b + 1, 1, none⟩ = some (.int .i64 o.a) := cx.cell 1
  have y2 : w3.cell? ⟨b + 1, 2, none⟩ = some (.int .i64 o.b) := cx.cell 2
  have y3 : w3.cell? ⟨b + 1, 3, none⟩ = some (.int .i64 o.c) := cx.cell 3
  go_wp2_with fail
  refine (mCommandPossible_any _ _ _ _ _ _ hh o _ hs2 (by omega) (by omega)).mono ?_
  rw [HV.out]
  rintro e w4 ⟨rfl, b4⟩
  replace bx := bx.keep b4 bx.lt
  replace cx := cx.keep b4 cx.lt
  replace hs2 := hs2.up b4
  replace bb := bb.trans (b4.mono bb.size)
  clear x0 x1 y0 y1 y2 y3 b4
  have x0 : w4.cell? ⟨b, 0, none⟩ = some (.slice A1 nn c1) := bx.cell 0
  have x1 : w4.cell? ⟨b, 1, none⟩ = some (.slice R1 m d1) := bx.cell 1
  have y0 : w4.cell? ⟨b + 1, 0, none⟩ = some (.int .i64 o.op) := cx.cell 0
  have y1 : w4.cell? ⟨b + 1, 1, none⟩ = some (.int .i64 o.a) := cx.cell 1
  have y2 : w4.cell? ⟨b + 1, 2, none⟩ = some (.int .i64 o.b) := cx.cell 2
  have y3 : w4.cell? ⟨b + 1, 3, none⟩ = some (.int .i64 o.c) := cx.cell 3
  go_wp2_with fail
  refine (stepHeap_any _ _ _ _ _ _ hh o _ hs2 (by omega) (by omega) hc1 hd1).mono ?_
  rw [HD.out]
  rintro e w5 ⟨vc, vr, rfl, ⟨rvs, own⟩, b5⟩
  obtain ⟨A5, c5, R5, d5, rfl, rfl, -⟩ := own.form
  generalize (Hps.stepH hh o).1.cs.length = n5
  generalize (Hps.stepH hh o).1.rt.length = m5
  replace bx := (bx.keep b5 bx.lt).alloc (.cells #[.slice A5 n5 c5, .slice R5 m5 d5] 26)
  replace cx := (cx.keep b5 cx.lt).alloc (.cells #[.slice A5 n5 c5, .slice R5 m5 d5] 26)
  replace bb := (bb.trans (b5.mono bb.size)).alloc (bb.trans (b5.mono bb.size)).size (.cells #[.slice A5 n5 c5, .slice R5 m5 d5] 26)
  clear x0 x1 y0 y1 y2 y3 b5 own hs2
  go_upto_region 8 with fail
  generalize w5.alloc (.cells #[.slice A5 n5 c5, .slice R5 m5 d5] 26) = w6 at bx cx bb ⊢
  have x0 : w6.cell? ⟨b, 0, none⟩ = some (.slice A1 nn c1) := bx.cell 0
  have y0 : w6.cell? ⟨b + 1, 0, none⟩ = some (.int .i64 o.op) := cx.cell 0
  have FIN : ∀ (wf : World), Below w.heap.size w w6 → Below w6.heap.size w6 wf → Below w.heap.size w wf := fun wf h1 h2 => h1.trans (h2.mono h1.size)
  have E := HE.out
  clear HV HD HE
  cases v
  · obtain rfl : vd = false := by simpa using E
    clear E
    go_wp2_with fail
    refine (alive_any _).mono ?_
    rintro e w7 ⟨rfl, b7⟩
    go_wp2_with fail
    go_ret
    exact ⟨rfl, FIN _ bb b7⟩
  · by_cases h1 : o.op = 1
    · have h1' : (o.op != 1) = false := by rw [bne_eq_false_iff_eq]; exact h1
      by_cases h2 : nn < 40
      · have h2' : (nn : Int) < 40 := by omega
        obtain rfl : vd = true := by rw [E]; simp [h2]
        clear E h1
        go_wp2_with fail
        refine (alive_any _).mono ?_
        rintro e w7 ⟨rfl, b7⟩
        go_wp2_with fail
        go_ret
        exact ⟨rfl, FIN _ bb b7⟩
      · have h2' : decide ((nn : Int) < 40) = false := decide_eq_false (by omega)
        obtain rfl : vd = false := by rw [E]; simp [h1, h2]
        clear E h1
        go_wp2_with fail
        refine (alive_any _).mono ?_
        rintro e w7 ⟨rfl, b7⟩
        go_wp2_with fail
        go_ret
        exact ⟨rfl, FIN _ bb b7⟩
    · have h1' : (o.op != 1) = true := by rw [bne_iff_ne]; exact h1
      obtain rfl : vd = true := by rw [E]; simp [h1]
      clear E
      go_wp2_with fail
      refine (alive_any _).mono ?_
      rintro e w7 ⟨rfl, b7⟩
      go_wp2_with fail
      go_ret
      exact ⟨rfl, FIN _ bb b7⟩
end Go.Proofs.Ytnhgibbcggegmaa
