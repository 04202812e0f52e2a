/- What the program's table of operations, operationOf, CommandValid and CommandsValid return: for every instruction and program. No conditions. -/
import Derived.Test.YtmjejcfifkbkoaaKc
import Derived.Test.YtmjejcfifkbkoaaGa
import Derived.Deep.WholeRow
namespace Go.Proofs.Ytmjejcfifkbkoaa
open Go.RowKit
set_option maxRecDepth 100000

theorem upTo_any (x m : Int) (w : World) : Calls Try.prog 151 #[.int .i64 x, .int .i64 m] w fun e w' => e = .returned (.bool (Hps.inR x 0 m)) ∧ w = w' := by
  by_cases h0 : 0 ≤ x
  · have d0 : decide (0 ≤ x) = true := decide_eq_true h0
    have R := Lib.hid (show Hps.inR x 0 m = decide (x ≤ m) by simp [Hps.inR, h0])
    go_enter Try.func151, Try.ntmps151
    go_wp2_with fail
    go_ret
    exact ⟨by rw [R.out]; rfl, rfl⟩
  · have d0 : decide (0 ≤ x) = false := decide_eq_false h0
    have R := Lib.hid (show Hps.inR x 0 m = false by simp [Hps.inR, h0])
    go_enter Try.func151, Try.ntmps151
    go_wp2_with fail
    go_ret
    exact ⟨by rw [R.out]; rfl, rfl⟩
theorem upTo_is (x m : Int) (b : Bool) (w : World) (h : Hps.inR x 0 m = b) : Calls Try.prog 151 #[.int .i64 x, .int .i64 m] w fun e w' => e = .returned (.bool b) ∧ w = w' := h ▸ upTo_any x m w

/-- an operation of the table -/
abbrev opA (x y z : Int) (f g : Nat) : Value := .agg #[.int .i64 x, .int .i64 y, .int .i64 z, .func (.func f) #[] #[], .func (.func g) #[] #[]]
/-- none -/
abbrev opZ : Value := .agg #[.int .i64 0, .int .i64 0, .int .i64 0, .nilFunc, .nilFunc]
abbrev op1 : Value := opA 3 3 99 141 142
abbrev op2 : Value := opA 3 3 2 143 144
abbrev op3 : Value := opA 3 3 2 145 146
abbrev op4 : Value := opA 3 3 0 141 147
abbrev op5 : Value := opA 3 0 0 141 148
abbrev op6 : Value := opA 3 99 0 149 150
/-- the cells of the table -/
def opsC : Array Value := opZ.cells ++ op1.cells ++ op2.cells ++ op3.cells ++ op4.cells ++ op5.cells ++ op6.cells
/-- the table -/
abbrev opsV : Value := .agg opsC

theorem info_ops : (Try.prog.info? 139).map (·.size) = some opsC.size := by kernel_rfl
theorem opsC_one : opsC.all (·.oneCell') = true := by decide +kernel
/-- a table is stored whole -/
theorem wpList_storeOps {w : World} {ops : Array Oper} {rest : List Oper} {o : Oper} {a : Act} {Q : Exit → Act → World → Prop} (p v : Operand) (g : Nat) (c : Array Value) (hgd : o.guard = none) (ho : o.op = .store 139 p v)
    (hp : a.eval p = .pointer (some ⟨g, 0, none⟩)) (hv : a.eval v = opsV) (hr : Rw w g 139 c) (hs : c.size = 35) (hd : o.dst = none)
    (h : wpList Try.prog ops Q rest a (w.setRow g opsC)) : wpList Try.prog ops Q (o :: rest) a w :=
  wpList_plain hgd fun K hK => by
    have hst := run_storeVar_row (P := Try.prog) w g 139 139 c opsC hr info_ops (by rw [hs]; rfl) opsC_one
    unfold Oper.wp execOp
    simp only [ho, hp, hv, Instr.storeAt, Instr.sureAddr, Sem.run_bind, Sem.run_pure, Result.andThen_ok, hst]
    exact hK (a.put o.dst undef) _ (by rw [hd]; exact h)

theorem rw_row {w : World} {g : Nat} {t : TypeId} {c : Array Value} (h : Rw w g t c) (c' : Array Value) : Rw (w.setRow g c') g t c' := by
  unfold Rw at h ⊢
  simp [World.setRow, Array.getElem?_modify, h]
set_option maxHeartbeats 4000000 in
theorem operations_any (w : World) : Calls Try.prog 112 #[] w fun e w' => e = .returned opsV ∧ Below w.heap.size w w' := by
  go_enter Try.func112, Try.ntmps112
  go_wp2_with (with_reducible refine wpList_storeOps _ _ _ _ rfl rfl rfl ?hv (Rw.new _ _ _) ?hs rfl ?_)
  · rfl
  · rfl
  have hrow := rw_row (Rw.new w 139 opsC) opsC
  rw [World.setRow_alloc_new] at hrow ⊢
  have hld := run_loadVar_row (P := Try.prog) _ w.heap.size _ _ _ (0, 0) _ hrow Try.underlying139 rfl info_ops
  refine bodyPost_ret (v := opsV) ?_ rfl ⟨rfl, (Below.refl _ _).alloc (Nat.le_refl _) _⟩
  simp [results, Try.results112, asAddr, hld]

set_option maxHeartbeats 1000000 in
theorem takes_any (f g : Nat) (x y z : Int) (o : Cm) (w : World) : Calls Try.prog 113 #[opA x y z f g, cmV o] w fun e w' => e = .returned (.bool (Hps.inR o.a 0 x && Hps.inR o.b 0 y && Hps.inR o.c 0 z)) ∧ Below w.heap.size w w' := by
  obtain ⟨op, a, b, c⟩ := o
  have bb : Below w.heap.size w ((w.alloc (.cells #[.int .i64 x, .int .i64 y, .int .i64 z, .func (.func f) #[] #[], .func (.func g) #[] #[]] 89)).alloc (.cells #[.int .i64 op, .int .i64 a, .int .i64 b, .int .i64 c] 36)) := ((Below.refl _ _).alloc (Nat.le_refl _) _).alloc (by simp) _
  obtain ⟨xa, ha⟩ : ∃ u, Hps.inR a 0 x = u := ⟨_, rfl⟩
  obtain ⟨xb, hb⟩ : ∃ u, Hps.inR b 0 y = u := ⟨_, rfl⟩
  obtain ⟨xc, hc⟩ : ∃ u, Hps.inR c 0 z = u := ⟨_, rfl⟩
  have HA := Lib.hid ha
  have HB := Lib.hid hb
  have HC := Lib.hid hc
  clear ha hb hc
  go_enter Try.func113, Try.ntmps113
  go_wp2_with fail
  refine (upTo_is _ _ _ _ HA.out).mono ?_
  rintro e w1 ⟨rfl, rfl⟩
  cases xa
  · go_wp2_with fail
    go_ret
    exact ⟨by rw [HA.out]; rfl, bb⟩
  go_wp2_with fail
  refine (upTo_is _ _ _ _ HB.out).mono ?_
  rintro e w1 ⟨rfl, rfl⟩
  cases xb
  · go_wp2_with fail
    go_ret
    exact ⟨by rw [HA.out, HB.out]; rfl, bb⟩
  go_wp2_with fail
  refine (upTo_is _ _ _ _ HC.out).mono ?_
  rintro e w1 ⟨rfl, rfl⟩
  go_wp2_with fail
  go_ret
  exact ⟨by rw [HA.out, HB.out, HC.out]; rfl, bb⟩

theorem run_op1 (w : World) : (Instr.index 139 opsV (.int .i64 1)).run Try.prog w = .ok op1 w := by kernel_rfl
theorem run_op2 (w : World) : (Instr.index 139 opsV (.int .i64 2)).run Try.prog w = .ok op2 w := by kernel_rfl
theorem run_op3 (w : World) : (Instr.index 139 opsV (.int .i64 3)).run Try.prog w = .ok op3 w := by kernel_rfl
theorem run_op4 (w : World) : (Instr.index 139 opsV (.int .i64 4)).run Try.prog w = .ok op4 w := by kernel_rfl
theorem run_op5 (w : World) : (Instr.index 139 opsV (.int .i64 5)).run Try.prog w = .ok op5 w := by kernel_rfl
theorem run_op6 (w : World) : (Instr.index 139 opsV (.int .i64 6)).run Try.prog w = .ok op6 w := by kernel_rfl
end Go.Proofs.Ytmjejcfifkbkoaa
