/- For every list of bytes the law FnEmptyHeap returns true (P43), over the program's contracts. No conditions. -/
import Derived.Test.YtijgfpcpkmpdpaaKw
import Derived.Test.YtijgfpcpkmpdpaaHs
import Derived.Test.YtijgfpcpkmpdpaaGa
import Derived.Deep.Cut
namespace Go.Proofs.Ytijgfpcpkmpdpaa
open Go.RowKit
set_option maxRecDepth 100000
theorem Hps.used_empty : Hps.usedH Hps.emptyH = (0, 0) := by
  rw [Hps.usedH, if_pos Hps.empty_valid]
  rfl

set_option maxRecDepth 100000 in
set_option maxHeartbeats 4000000 in
theorem emptyHeapLaw_walk (A : Option Addr) (n c : Nat) (w : World) (_h : Bytes w w.heap.size A n) (_hc : n ≤ c) (hn : n ≤ 9223372036854775807) :
    Calls Try.prog 3 #[.slice A n c] w fun e w' => e = .returned (.bool true) ∧ Below w.heap.size w w' := by
  by_cases hs : n ≤ 1048576
  case neg =>
    have hs' : (1048576 : Int) < (n : Int) := by omega
    go_enter Try.func3, Try.ntmps3
    go_wp2
    go_ret
    exact ⟨rfl, Below.refl _ _⟩
  have hs' : decide ((1048576 : Int) < (n : Int)) = false := by simp; omega
  obtain ⟨hh, hhe⟩ : ∃ hh, Hps.emptyH = hh := ⟨_, rfl⟩
  have E0 := Lib.hid (show hh.cs.length = 0 by rw [← hhe]; rfl)
  have E4 := Lib.hid (show hh.rt.length = 4 by rw [← hhe]; rfl)
  have EC := Lib.hid (show ∀ cl ∈ hh.cs, cl.r.length ≤ 1000000 by rw [← hhe]; intro cl hcl; simp [Hps.emptyH] at hcl)
  have EV := Lib.hid (show Hps.validH hh = true by rw [← hhe]; exact Hps.empty_valid)
  have EU := Lib.hid (show Hps.usedH hh = (0, 0) by rw [← hhe]; exact Hps.used_empty)
  have HM := Lib.hid (fun w => show Calls Try.prog 18 #[] w (GaveH w hh) from hhe ▸ mEmptyHeap_any w)
  have HP := Lib.hid (fun w => show Calls Try.prog 15 #[] w (GaveH w hh) from hhe ▸ emptyHeap_any w)
  clear hhe
  go_enter Try.func3, Try.ntmps3
  go_wp2_with fail
  refine (HP.out _).mono ?_
  rintro e w1 ⟨vc0, vr0, rfl, ⟨rvs0, own0⟩, b1⟩
  obtain ⟨A0, c0, R0, d0, rfl, rfl, hc0, hd0, -⟩ := own0.form
  rw [E0.out, E4.out] at own0 ⊢
  rw [E4.out] at hd0
  have bA : Below w1.heap.size w1 (w1.alloc (.cells #[.slice A0 0 c0, .slice R0 4 d0] 26)) := (Below.refl _ _).alloc (Nat.le_refl _) _
  have r2 := own0.reads.up bA
  have bx := Rw.new w1 26 #[.slice A0 0 c0, .slice R0 4 d0]
  have bb2 := b1.trans (bA.mono b1.size)
  clear own0 bA
  go_upto_region 4 with fail
  generalize w1.alloc (.cells #[.slice A0 0 c0, .slice R0 4 d0] 26) = w2 at r2 bx bb2 ⊢
  generalize w1.heap.size = b at bx ⊢
  have y0 : w2.cell? ⟨b, 0, none⟩ = some (.slice A0 0 c0) := bx.cell 0
  have y1 : w2.cell? ⟨b, 1, none⟩ = some (.slice R0 4 d0) := bx.cell 1
  go_wp2_with fail
  refine (usedCells_any _ _ _ _ _ _ hh _ r2 (by omega) (by omega) (by omega) hd0).mono ?_
  rw [EU.out]
  rintro e w3 ⟨rfl, b3⟩
  have r3 := r2.up b3
  have bx3 := bx.keep b3 bx.lt
  have bb3 := bb2.trans (b3.mono bb2.size)
  have hbl := bx3.lt
  clear y0 y1 r2 bx bb2 b3
  have x0 : w3.cell? ⟨b, 0, none⟩ = some (.slice A0 0 c0) := bx3.cell 0
  have x1 : w3.cell? ⟨b, 1, none⟩ = some (.slice R0 4 d0) := bx3.cell 1
  go_upto_region 5 with fail
  refine wp_region_inv (by kernel_rfl) (by kernel_rfl) (fun L ac ww => ∃ t2 t15 t16 t17 t18 t19 t20 t21 t22 t23 t24 t25 t26 t27 t28 t29 t30 t31 t32 : Value, ac = { tmps := #[Value.slice A n c, undef, t2, Value.pointer (some { block := b, off := 0 }), Value.int IntKind.i64 0, Value.int IntKind.i64 0, Value.slice A n c, Value.int IntKind.i64 ↑n, Value.bool false, Value.agg #[Value.slice A0 0 c0, Value.slice R0 4 d0], Value.tuple #[Value.int IntKind.i64 0, Value.int IntKind.i64 0], Value.agg #[Value.slice A0 0 c0, Value.slice R0 4 d0], Value.tuple #[Value.int IntKind.i64 0, Value.int IntKind.i64 0], Value.int IntKind.i64 0, Value.int IntKind.i64 0, t15, t16, t17, t18, t19, t20, t21, t22, t23, t24, t25, t26, t27, t28, t29, t30, t31, t32], defers := [] } ∧ (Below w3.heap.size w3 ww) ∧ (L 0 = true → t15 = .agg #[.slice A0 0 c0, .slice R0 4 d0]) ∧ (L 1 = true → ∃ (A5 : Option Addr) (c5 : Nat) (R5 : Option Addr) (d5 : Nat), t16 = .agg #[.slice A5 0 c5, .slice R5 4 d5] ∧ HS ww ww.heap.size A5 0 R5 4 hh) ∧ (L 2 = true → t17 = .bool true) ∧ (L 3 = true → t18 = .bool true) ∧ (L 4 = true → t19 = .agg #[.slice A0 0 c0, .slice R0 4 d0]) ∧ (L 5 = true → t20 = .bool true) ∧ (L 6 = true → t21 = .bool true) ∧ (L 7 = true → t22 = .bool true) ∧ (L 8 = true → t23 = .int .i64 0) ∧ (L 9 = true → t24 = .bool true) ∧ (L 10 = true → t25 = .bool true) ∧ (L 11 = true → t26 = .bool true) ∧ (L 12 = true → t27 = .int .i64 0) ∧ (L 13 = true → t28 = .bool true) ∧ (L 14 = true → t29 = .bool true) ∧ (L 15 = true → t30 = .bool true) ∧ (L 16 = true → t31 = .bool true) ∧ (L 17 = true → t32 = .bool true) ∧ (L 18 = true → t2 = .bool true)) ?h0 ?hstep ?hdone
  case h0 => exact ⟨_, _, _, _, _, _, _, _, _, _, _, _, _, _, _, _, _, _, _, rfl, (Below.refl _ _).drew, (fun h => absurd h Bool.false_ne_true), (fun h => absurd h Bool.false_ne_true), (fun h => absurd h Bool.false_ne_true), (fun h => absurd h Bool.false_ne_true), (fun h => absurd h Bool.false_ne_true), (fun h => absurd h Bool.false_ne_true), (fun h => absurd h Bool.false_ne_true), (fun h => absurd h Bool.false_ne_true), (fun h => absurd h Bool.false_ne_true), (fun h => absurd h Bool.false_ne_true), (fun h => absurd h Bool.false_ne_true), (fun h => absurd h Bool.false_ne_true), (fun h => absurd h Bool.false_ne_true), (fun h => absurd h Bool.false_ne_true), (fun h => absurd h Bool.false_ne_true), (fun h => absurd h Bool.false_ne_true), (fun h => absurd h Bool.false_ne_true), (fun h => absurd h Bool.false_ne_true), (fun h => absurd h Bool.false_ne_true)⟩
  case hstep =>
    rintro L ac ww i o ho hL hd ⟨t2, t15, t16, t17, t18, t19, t20, t21, t22, t23, t24, t25, t26, t27, t28, t29, t30, t31, t32, rfl, I0, f0, f1, f2, f3, f4, f5, f6, f7, f8, f9, f10, f11, f12, f13, f14, f15, f16, f17, f18⟩
    have hi : i < 19 := (Array.getElem?_eq_some_iff.1 ho).1
    obtain rfl | rfl | rfl | rfl | rfl | rfl | rfl | rfl | rfl | rfl | rfl | rfl | rfl | rfl | rfl | rfl | rfl | rfl | rfl : i = 0 ∨ i = 1 ∨ i = 2 ∨ i = 3 ∨ i = 4 ∨ i = 5 ∨ i = 6 ∨ i = 7 ∨ i = 8 ∨ i = 9 ∨ i = 10 ∨ i = 11 ∨ i = 12 ∨ i = 13 ∨ i = 14 ∨ i = 15 ∨ i = 16 ∨ i = 17 ∨ i = 18 := by omega
    · obtain rfl := Option.some.inj ho
      have z0 : ww.cell? ⟨b, 0, none⟩ = some (.slice A0 0 c0) := (I0.cell (p := ⟨b, 0, none⟩) hbl).trans x0
      have z1 : ww.cell? ⟨b, 1, none⟩ = some (.slice R0 4 d0) := (I0.cell (p := ⟨b, 1, none⟩) hbl).trans x1
      refine wpOp_step rfl (fun K' hK => ?_)
      go_simp
      refine hK _ _ ?_
      exact ⟨_, _, _, _, _, _, _, _, _, _, _, _, _, _, _, _, _, _, _, rfl, (I0), (fun _ => rfl), (kp f1), (kp f2), (kp f3), (kp f4), (kp f5), (kp f6), (kp f7), (kp f8), (kp f9), (kp f10), (kp f11), (kp f12), (kp f13), (kp f14), (kp f15), (kp f16), (kp f17), (kp f18)⟩
    · obtain rfl := Option.some.inj ho
      refine wpOp_step rfl (fun K' hK => ?_)
      go_simp
      refine (HM.out ww).mono ?_
      rintro e w' ⟨v1, v2, rfl, ⟨rv, ow⟩, b5⟩
      obtain ⟨A5, c5, R5, d5, rfl, rfl, -⟩ := ow.form
      rw [E0.out, E4.out] at ow ⊢
      have hr9 := ow.reads
      refine hK _ _ ?_
      exact ⟨_, _, _, _, _, _, _, _, _, _, _, _, _, _, _, _, _, _, _, rfl, (I0.trans (b5.mono I0.size)), (kp f0), (fun _ => ⟨A5, c5, R5, d5, rfl, hr9⟩), (kp f2), (kp f3), (kp f4), (kp f5), (kp f6), (kp f7), (kp f8), (kp f9), (kp f10), (kp f11), (kp f12), (kp f13), (kp f14), (kp f15), (kp f16), (kp f17), (kp f18)⟩
    · obtain rfl := Option.some.inj ho
      have g0 := f0 (hd ⟨0, .data⟩ (by simp) rfl)
      have g1 := f1 (hd ⟨1, .data⟩ (by simp) rfl)
      subst g0
      obtain ⟨A5, c5, R5, d5, rfl, hr9⟩ := g1
      refine wpOp_step rfl (fun K' hK => ?_)
      go_simp
      refine (sameHeap_same _ _ _ _ _ _ _ _ _ _ hh ww (r3.up I0) hr9 (by omega) (by omega) EC.out).mono ?_
      rintro e w' ⟨rfl, b5⟩
      refine hK _ _ ?_
      exact ⟨_, _, _, _, _, _, _, _, _, _, _, _, _, _, _, _, _, _, _, rfl, (I0.trans (b5.mono I0.size)), (kp f0), (fun _ => ⟨A5, c5, R5, d5, rfl, hr9.up b5⟩), (fun _ => rfl), (kp f3), (kp f4), (kp f5), (kp f6), (kp f7), (kp f8), (kp f9), (kp f10), (kp f11), (kp f12), (kp f13), (kp f14), (kp f15), (kp f16), (kp f17), (kp f18)⟩
    · obtain rfl := Option.some.inj ho
      have g2 := f2 (hd ⟨2, .data⟩ (by simp) rfl)
      subst g2
      refine wpOp_step rfl (fun K' hK => ?_)
      go_simp
      refine hK _ _ ?_
      exact ⟨_, _, _, _, _, _, _, _, _, _, _, _, _, _, _, _, _, _, _, rfl, (I0), (kp f0), (kp f1), (kp f2), (fun _ => rfl), (kp f4), (kp f5), (kp f6), (kp f7), (kp f8), (kp f9), (kp f10), (kp f11), (kp f12), (kp f13), (kp f14), (kp f15), (kp f16), (kp f17), (kp f18)⟩
    · obtain rfl := Option.some.inj ho
      have g3 := f3 (hd ⟨3, .guard⟩ (by simp) rfl)
      subst g3
      have z0 : ww.cell? ⟨b, 0, none⟩ = some (.slice A0 0 c0) := (I0.cell (p := ⟨b, 0, none⟩) hbl).trans x0
      have z1 : ww.cell? ⟨b, 1, none⟩ = some (.slice R0 4 d0) := (I0.cell (p := ⟨b, 1, none⟩) hbl).trans x1
      refine wpOp_step rfl (fun K' hK => ?_)
      go_simp
      refine hK _ _ ?_
      exact ⟨_, _, _, _, _, _, _, _, _, _, _, _, _, _, _, _, _, _, _, rfl, (I0), (kp f0), (kp f1), (kp f2), (kp f3), (fun _ => rfl), (kp f5), (kp f6), (kp f7), (kp f8), (kp f9), (kp f10), (kp f11), (kp f12), (kp f13), (kp f14), (kp f15), (kp f16), (kp f17), (kp f18)⟩
    · obtain rfl := Option.some.inj ho
      have g4 := f4 (hd ⟨4, .data⟩ (by simp) rfl)
      subst g4
      have g3 := f3 (hd ⟨3, .guard⟩ (by simp) rfl)
      subst g3
      refine wpOp_step rfl (fun K' hK => ?_)
      go_simp
      refine (heapValid_any _ _ _ _ _ _ hh ww (r3.up I0) (by omega) (by omega) (by omega) hd0).mono ?_
      rw [EV.out]
      rintro e w' ⟨rfl, b5⟩
      refine hK _ _ ?_
      exact ⟨_, _, _, _, _, _, _, _, _, _, _, _, _, _, _, _, _, _, _, rfl, (I0.trans (b5.mono I0.size)), (kp f0), (fun h => by
        obtain ⟨A5, c5, R5, d5, e, hr9⟩ := f1 (upd_ne h (by decide))
        exact ⟨A5, c5, R5, d5, e, hr9.up b5⟩), (kp f2), (kp f3), (kp f4), (fun _ => rfl), (kp f6), (kp f7), (kp f8), (kp f9), (kp f10), (kp f11), (kp f12), (kp f13), (kp f14), (kp f15), (kp f16), (kp f17), (kp f18)⟩
    · obtain rfl := Option.some.inj ho
      have g3 := f3 (hd ⟨3, .data⟩ (by simp) rfl)
      have g5 := f5 (hd ⟨5, .data⟩ (by simp) rfl)
      subst g3
      subst g5
      refine wpOp_step rfl (fun K' hK => ?_)
      go_simp
      refine hK _ _ ?_
      exact ⟨_, _, _, _, _, _, _, _, _, _, _, _, _, _, _, _, _, _, _, rfl, (I0), (kp f0), (kp f1), (kp f2), (kp f3), (kp f4), (kp f5), (fun _ => rfl), (kp f7), (kp f8), (kp f9), (kp f10), (kp f11), (kp f12), (kp f13), (kp f14), (kp f15), (kp f16), (kp f17), (kp f18)⟩
    · obtain rfl := Option.some.inj ho
      have g6 := f6 (hd ⟨6, .data⟩ (by simp) rfl)
      subst g6
      refine wpOp_step rfl (fun K' hK => ?_)
      go_simp
      refine hK _ _ ?_
      exact ⟨_, _, _, _, _, _, _, _, _, _, _, _, _, _, _, _, _, _, _, rfl, (I0), (kp f0), (kp f1), (kp f2), (kp f3), (kp f4), (kp f5), (kp f6), (fun _ => rfl), (kp f8), (kp f9), (kp f10), (kp f11), (kp f12), (kp f13), (kp f14), (kp f15), (kp f16), (kp f17), (kp f18)⟩
    · obtain rfl := Option.some.inj ho
      have g7 := f7 (hd ⟨7, .guard⟩ (by simp) rfl)
      subst g7
      refine wpOp_step rfl (fun K' hK => ?_)
      go_simp
      refine hK _ _ ?_
      exact ⟨_, _, _, _, _, _, _, _, _, _, _, _, _, _, _, _, _, _, _, rfl, (I0), (kp f0), (kp f1), (kp f2), (kp f3), (kp f4), (kp f5), (kp f6), (kp f7), (fun _ => rfl), (kp f9), (kp f10), (kp f11), (kp f12), (kp f13), (kp f14), (kp f15), (kp f16), (kp f17), (kp f18)⟩
    · obtain rfl := Option.some.inj ho
      have g8 := f8 (hd ⟨8, .data⟩ (by simp) rfl)
      subst g8
      have g7 := f7 (hd ⟨7, .guard⟩ (by simp) rfl)
      subst g7
      refine wpOp_step rfl (fun K' hK => ?_)
      go_simp
      refine hK _ _ ?_
      exact ⟨_, _, _, _, _, _, _, _, _, _, _, _, _, _, _, _, _, _, _, rfl, (I0), (kp f0), (kp f1), (kp f2), (kp f3), (kp f4), (kp f5), (kp f6), (kp f7), (kp f8), (fun _ => rfl), (kp f10), (kp f11), (kp f12), (kp f13), (kp f14), (kp f15), (kp f16), (kp f17), (kp f18)⟩
    · obtain rfl := Option.some.inj ho
      have g7 := f7 (hd ⟨7, .data⟩ (by simp) rfl)
      have g9 := f9 (hd ⟨9, .data⟩ (by simp) rfl)
      subst g7
      subst g9
      refine wpOp_step rfl (fun K' hK => ?_)
      go_simp
      refine hK _ _ ?_
      exact ⟨_, _, _, _, _, _, _, _, _, _, _, _, _, _, _, _, _, _, _, rfl, (I0), (kp f0), (kp f1), (kp f2), (kp f3), (kp f4), (kp f5), (kp f6), (kp f7), (kp f8), (kp f9), (fun _ => rfl), (kp f11), (kp f12), (kp f13), (kp f14), (kp f15), (kp f16), (kp f17), (kp f18)⟩
    · obtain rfl := Option.some.inj ho
      have g10 := f10 (hd ⟨10, .data⟩ (by simp) rfl)
      subst g10
      refine wpOp_step rfl (fun K' hK => ?_)
      go_simp
      refine hK _ _ ?_
      exact ⟨_, _, _, _, _, _, _, _, _, _, _, _, _, _, _, _, _, _, _, rfl, (I0), (kp f0), (kp f1), (kp f2), (kp f3), (kp f4), (kp f5), (kp f6), (kp f7), (kp f8), (kp f9), (kp f10), (fun _ => rfl), (kp f12), (kp f13), (kp f14), (kp f15), (kp f16), (kp f17), (kp f18)⟩
    · obtain rfl := Option.some.inj ho
      have g11 := f11 (hd ⟨11, .guard⟩ (by simp) rfl)
      subst g11
      refine wpOp_step rfl (fun K' hK => ?_)
      go_simp
      refine hK _ _ ?_
      exact ⟨_, _, _, _, _, _, _, _, _, _, _, _, _, _, _, _, _, _, _, rfl, (I0), (kp f0), (kp f1), (kp f2), (kp f3), (kp f4), (kp f5), (kp f6), (kp f7), (kp f8), (kp f9), (kp f10), (kp f11), (fun _ => rfl), (kp f13), (kp f14), (kp f15), (kp f16), (kp f17), (kp f18)⟩
    · obtain rfl := Option.some.inj ho
      have g12 := f12 (hd ⟨12, .data⟩ (by simp) rfl)
      subst g12
      have g11 := f11 (hd ⟨11, .guard⟩ (by simp) rfl)
      subst g11
      refine wpOp_step rfl (fun K' hK => ?_)
      go_simp
      refine hK _ _ ?_
      exact ⟨_, _, _, _, _, _, _, _, _, _, _, _, _, _, _, _, _, _, _, rfl, (I0), (kp f0), (kp f1), (kp f2), (kp f3), (kp f4), (kp f5), (kp f6), (kp f7), (kp f8), (kp f9), (kp f10), (kp f11), (kp f12), (fun _ => rfl), (kp f14), (kp f15), (kp f16), (kp f17), (kp f18)⟩
    · obtain rfl := Option.some.inj ho
      have g11 := f11 (hd ⟨11, .data⟩ (by simp) rfl)
      have g13 := f13 (hd ⟨13, .data⟩ (by simp) rfl)
      subst g11
      subst g13
      refine wpOp_step rfl (fun K' hK => ?_)
      go_simp
      refine hK _ _ ?_
      exact ⟨_, _, _, _, _, _, _, _, _, _, _, _, _, _, _, _, _, _, _, rfl, (I0), (kp f0), (kp f1), (kp f2), (kp f3), (kp f4), (kp f5), (kp f6), (kp f7), (kp f8), (kp f9), (kp f10), (kp f11), (kp f12), (kp f13), (fun _ => rfl), (kp f15), (kp f16), (kp f17), (kp f18)⟩
    · obtain rfl := Option.some.inj ho
      have g14 := f14 (hd ⟨14, .data⟩ (by simp) rfl)
      subst g14
      refine wpOp_step rfl (fun K' hK => ?_)
      go_simp
      refine hK _ _ ?_
      exact ⟨_, _, _, _, _, _, _, _, _, _, _, _, _, _, _, _, _, _, _, rfl, (I0), (kp f0), (kp f1), (kp f2), (kp f3), (kp f4), (kp f5), (kp f6), (kp f7), (kp f8), (kp f9), (kp f10), (kp f11), (kp f12), (kp f13), (kp f14), (fun _ => rfl), (kp f16), (kp f17), (kp f18)⟩
    · obtain rfl := Option.some.inj ho
      have g15 := f15 (hd ⟨15, .guard⟩ (by simp) rfl)
      subst g15
      refine wpOp_step rfl (fun K' hK => ?_)
      go_simp
      refine (alive_any ww).mono ?_
      rintro e w' ⟨rfl, b5⟩
      refine hK _ _ ?_
      exact ⟨_, _, _, _, _, _, _, _, _, _, _, _, _, _, _, _, _, _, _, rfl, (I0.trans (b5.mono I0.size)), (kp f0), (fun h => by
        obtain ⟨A5, c5, R5, d5, e, hr9⟩ := f1 (upd_ne h (by decide))
        exact ⟨A5, c5, R5, d5, e, hr9.up b5⟩), (kp f2), (kp f3), (kp f4), (kp f5), (kp f6), (kp f7), (kp f8), (kp f9), (kp f10), (kp f11), (kp f12), (kp f13), (kp f14), (kp f15), (fun _ => rfl), (kp f17), (kp f18)⟩
    · obtain rfl := Option.some.inj ho
      have g15 := f15 (hd ⟨15, .data⟩ (by simp) rfl)
      have g16 := f16 (hd ⟨16, .data⟩ (by simp) rfl)
      subst g15
      subst g16
      refine wpOp_step rfl (fun K' hK => ?_)
      go_simp
      refine hK _ _ ?_
      exact ⟨_, _, _, _, _, _, _, _, _, _, _, _, _, _, _, _, _, _, _, rfl, (I0), (kp f0), (kp f1), (kp f2), (kp f3), (kp f4), (kp f5), (kp f6), (kp f7), (kp f8), (kp f9), (kp f10), (kp f11), (kp f12), (kp f13), (kp f14), (kp f15), (kp f16), (fun _ => rfl), (kp f18)⟩
    · obtain rfl := Option.some.inj ho
      have g17 := f17 (hd ⟨17, .data⟩ (by simp) rfl)
      subst g17
      refine wpOp_step rfl (fun K' hK => ?_)
      go_simp
      refine hK _ _ ?_
      exact ⟨_, _, _, _, _, _, _, _, _, _, _, _, _, _, _, _, _, _, _, rfl, (I0), (kp f0), (kp f1), (kp f2), (kp f3), (kp f4), (kp f5), (kp f6), (kp f7), (kp f8), (kp f9), (kp f10), (kp f11), (kp f12), (kp f13), (kp f14), (kp f15), (kp f16), (kp f17), (fun _ => rfl)⟩
  case hdone =>
    rintro L ac ww hall ⟨t2, t15, t16, t17, t18, t19, t20, t21, t22, t23, t24, t25, t26, t27, t28, t29, t30, t31, t32, rfl, I0, f0, f1, f2, f3, f4, f5, f6, f7, f8, f9, f10, f11, f12, f13, f14, f15, f16, f17, f18⟩
    have e0 := f0 (hall 0 (by decide))
    have e1 := f1 (hall 1 (by decide))
    have e2 := f2 (hall 2 (by decide))
    have e3 := f3 (hall 3 (by decide))
    have e4 := f4 (hall 4 (by decide))
    have e5 := f5 (hall 5 (by decide))
    have e6 := f6 (hall 6 (by decide))
    have e7 := f7 (hall 7 (by decide))
    have e8 := f8 (hall 8 (by decide))
    have e9 := f9 (hall 9 (by decide))
    have e10 := f10 (hall 10 (by decide))
    have e11 := f11 (hall 11 (by decide))
    have e12 := f12 (hall 12 (by decide))
    have e13 := f13 (hall 13 (by decide))
    have e14 := f14 (hall 14 (by decide))
    have e15 := f15 (hall 15 (by decide))
    have e16 := f16 (hall 16 (by decide))
    have e17 := f17 (hall 17 (by decide))
    have e18 := f18 (hall 18 (by decide))
    clear f0 f1 f2 f3 f4 f5 f6 f7 f8 f9 f10 f11 f12 f13 f14 f15 f16 f17 f18
    subst e18
    have bbf := bb3.trans (I0.mono bb3.size)
    clear e0 e1 e2 e3 e4 e5 e6 e7 e8 e9 e10 e11 e12 e13 e14 e15 e16 e17
    go_wp2_with fail
    go_ret
    exact ⟨rfl, bbf⟩
end Go.Proofs.Ytijgfpcpkmpdpaa
