/- What the program's table of operations, operationOf, CommandValid and CommandsValid return: for every instruction and program. No conditions. -/
import Derived.Test.YtakdjiojahlnmaaKc
import Derived.Test.YtakdjiojahlnmaaGa
namespace Go.Proofs.Ytakdjiojahlnmaa
open Go.RowKit
set_option maxRecDepth 100000

theorem upTo_any (x m : Int) (w : World) : Calls Try.prog 50 #[.int .i64 x, .int .i64 m] w fun e w' => e = .returned (.bool (Hps.inR x 0 m)) ∧ w = w' := by
  by_cases h0 : 0 ≤ x
  · have d0 : decide (0 ≤ x) = true := decide_eq_true h0
    have R := Lib.hid (show Hps.inR x 0 m = decide (x ≤ m) by simp [Hps.inR, h0])
    go_enter Try.func50, Try.ntmps50
    go_wp2_with fail
    go_ret
    exact ⟨by rw [R.out]; rfl, rfl⟩
  · have d0 : decide (0 ≤ x) = false := decide_eq_false h0
    have R := Lib.hid (show Hps.inR x 0 m = false by simp [Hps.inR, h0])
    go_enter Try.func50, Try.ntmps50
    go_wp2_with fail
    go_ret
    exact ⟨by rw [R.out]; rfl, rfl⟩
theorem upTo_is (x m : Int) (b : Bool) (w : World) (h : Hps.inR x 0 m = b) : Calls Try.prog 50 #[.int .i64 x, .int .i64 m] w fun e w' => e = .returned (.bool b) ∧ w = w' := h ▸ upTo_any x m w

/-- an operation of the table -/
abbrev opA (x y z : Int) (f g : Nat) : Value := .agg #[.int .i64 x, .int .i64 y, .int .i64 z, .func (.func f) #[] #[], .func (.func g) #[] #[]]
/-- none -/
abbrev opZ : Value := .agg #[.int .i64 0, .int .i64 0, .int .i64 0, .nilFunc, .nilFunc]
end Go.Proofs.Ytakdjiojahlnmaa
