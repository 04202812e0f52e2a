/- The exact laws of CommandValid and CommandsValid return true, over the program's contracts. No conditions. -/
import Derived.Test.YtijgfpcpkmpdpaaGc
import Derived.Test.YtijgfpcpkmpdpaaMs
import Derived.Deep.Cut
namespace Go.Proofs.Ytijgfpcpkmpdpaa
open Go.RowKit
set_option maxRecDepth 100000

set_option maxHeartbeats 1000000 in
theorem exactCommandValid_walk (o : Cm) (w : World) : Calls Try.prog 13 #[cmV o] w fun e w' => e = .returned (.bool true) ∧ Below w.heap.size w w' := by
  obtain ⟨v, hv⟩ : ∃ v, Hps.okCm o = v := ⟨_, rfl⟩
  have HV := Lib.hid hv
  clear hv
  have hvv : (v != v) = false := by cases v <;> rfl
  have b0 : Below w.heap.size w (w.alloc (.cells #[.int .i64 o.op, .int .i64 o.a, .int .i64 o.b, .int .i64 o.c] 68)) := (Below.refl _ _).alloc (Nat.le_refl _) _
  have q0 := Rw.new w 68 #[.int .i64 o.op, .int .i64 o.a, .int .i64 o.b, .int .i64 o.c]
  go_enter Try.func13, Try.ntmps13
  go_wp2_with fail
  refine (toCommand_any o _).mono ?_
  rintro e w1 ⟨rfl, b1⟩
  replace q0 := q0.keep b1 q0.lt
  replace b0 := b0.trans (b1.mono b0.size)
  clear b1
  go_wp2_with fail
  refine (mCommandValid_any o _).mono ?_
  rw [HV.out]
  rintro e w2 ⟨rfl, b2⟩
  replace q0 := q0.keep b2 q0.lt
  replace b0 := b0.trans (b2.mono b0.size)
  clear b2
  have y0 := q0.cell 0
  have y1 := q0.cell 1
  have y2 := q0.cell 2
  have y3 := q0.cell 3
  simp at y0 y1 y2 y3
  go_wp2_with fail
  refine (toCommand_any o _).mono ?_
  rintro e w3 ⟨rfl, b3⟩
  replace b0 := b0.trans (b3.mono b0.size)
  clear b3 y0 y1 y2 y3 q0
  go_wp2_with fail
  refine (commandValid_any o _).mono ?_
  rw [HV.out]
  rintro e w4 ⟨rfl, b4⟩
  replace b0 := b0.trans (b4.mono b0.size)
  go_wp2_with fail
  go_ret
  exact ⟨rfl, b0⟩

set_option maxHeartbeats 1000000 in
theorem exactCommandsValid_walk (A : Option Addr) (n c : Nat) (l : List Cm) (w : World) (h : MS w w.heap.size A n l) (hn : n ≤ 9223372036854775807) :
    Calls Try.prog 14 #[.slice A n c] w fun e w' => e = .returned (.bool true) ∧ Below w.heap.size w w' := by
  obtain ⟨v, hv⟩ : ∃ v, Hps.okCms l = v := ⟨_, rfl⟩
  have HV := Lib.hid hv
  clear hv
  have hvv : (v != v) = false := by cases v <;> rfl
  by_cases hz : n ≤ 1048576
  · obtain ⟨lz, hlz⟩ : ∃ lz : Int, (if (1048576 : Int) - n < 0 then -1 else (1048576 : Int) - n) = lz := ⟨_, rfl⟩
    have hl0 : decide (lz < 0) = false := by rw [← hlz, if_neg (by omega)]; exact decide_eq_false (by omega)
    have HL := Lib.hid hlz
    clear hlz
    go_enter Try.func14, Try.ntmps14
    go_wp2_with fail
    refine (szCommandS_any _ _ _ _ _ (by omega) (by omega) hn).mono ?_
    rw [HL.out]
    rintro e w0 ⟨rfl, rfl⟩
    go_wp2_with fail
    refine (toCommandS_any _ _ _ l _ h (by omega)).mono ?_
    rintro e w1 ⟨rfl, o1, b1⟩
    have r1 := o1.reads
    go_wp2_with fail
    refine (mCommandsValid_any _ _ _ l _ r1 (by omega)).mono ?_
    rw [HV.out]
    rintro e w2 ⟨rfl, b2⟩
    have bb := b1.trans (b2.mono b1.size)
    have h2 := h.up bb
    clear o1 r1 b1 b2
    go_wp2_with fail
    refine (toCommandS_any _ _ _ l _ h2 (by omega)).mono ?_
    rintro e w3 ⟨rfl, o3, b3⟩
    have r3 := o3.reads
    replace bb := bb.trans (b3.mono bb.size)
    clear o3 b3 h2
    generalize w2.heap.size = g2 at r3 ⊢
    go_wp2_with fail
    refine (commandsValid_any _ _ _ l _ r3 (by omega) (Nat.le_refl _)).mono ?_
    rw [HV.out]
    rintro e w4 ⟨rfl, b4⟩
    replace r3 := r3.up b4
    replace bb := bb.trans (b4.mono bb.size)
    have h4 := h.up bb
    clear b4
    go_wp2_with fail
    refine (toCommandS_any _ _ _ l _ h4 (by omega)).mono ?_
    rintro e w5 ⟨rfl, o5, b5⟩
    have r5 := o5.reads
    replace r3 := r3.up b5
    replace bb := bb.trans (b5.mono bb.size)
    clear o5 b5 h4
    generalize w4.heap.size = g4 at r5 ⊢
    go_wp2_with fail
    refine (eqCommandS_same _ _ _ _ _ l _ r3 r5 (by omega)).mono ?_
    rintro e w6 ⟨rfl, b6⟩
    replace bb := bb.trans (b6.mono bb.size)
    go_wp2_with fail
    go_ret
    exact ⟨rfl, bb⟩
  · have hl0 : (if (1048576 : Int) - n < 0 then -1 else (1048576 : Int) - n) = -1 := if_pos (by omega)
    have HL := Lib.hid hl0
    clear hl0
    go_enter Try.func14, Try.ntmps14
    go_wp2_with fail
    refine (szCommandS_any _ _ _ _ _ (by omega) (by omega) hn).mono ?_
    rw [HL.out]
    rintro e w0 ⟨rfl, rfl⟩
    go_wp2_with fail
    go_ret
    exact ⟨rfl, Below.refl _ _⟩
end Go.Proofs.Ytijgfpcpkmpdpaa
