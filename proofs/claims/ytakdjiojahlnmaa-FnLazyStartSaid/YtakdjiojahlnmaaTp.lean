/- For every list of bytes the law FnLazyStart returns true (P66), over the program's contracts. No conditions. -/
import Derived.Test.YtakdjiojahlnmaaTf
import Derived.Test.YtakdjiojahlnmaaTc
import Derived.Test.YtakdjiojahlnmaaTo
import Derived.Test.YtakdjiojahlnmaaTk
import Derived.Test.YtakdjiojahlnmaaTl
import Derived.Deep.Cut
namespace Go.Proofs.Ytakdjiojahlnmaa
open Go.RowKit
set_option maxRecDepth 100000

set_option maxHeartbeats 16000000 in
theorem lazyStartLaw_walk (A0 : Option Addr) (n0 c0 : Nat) (w : World) (hby : Bytes w w.heap.size A0 n0) (hc0 : n0 ≤ c0) (hn0 : n0 ≤ 9223372036854775807) :
    Calls Try.prog 3 #[.slice A0 n0 c0] w fun e w' => e = .returned (.bool true) ∧ Below w.heap.size w w' := by
  by_cases hs : n0 ≤ 1048576
  case neg =>
    have hs' : (1048576 : Int) < (n0 : Int) := by omega
    go_enter Try.func3, Try.ntmps3
    go_wp2
    go_ret
    exact ⟨rfl, Below.refl _ _⟩
  have hs' : decide ((1048576 : Int) < (n0 : Int)) = false := by simp; omega
  go_enter Try.func3, Try.ntmps3
  go_wp2_with fail
  refine (drawLazyStart_any _ _ _ _ hby hc0 hn0).mono ?_
  rintro e w1 ⟨A, nn, c, R, m, d, h, rfl, hnc, hmd, hsr, hsm, b1⟩
  have hn41 : nn ≤ 41 := by have := hsm.1; have := hsr.cells.1; omega
  have hm4 : m ≤ 4 := by have := hsm.2.1; have := hsr.roots.1; omega
  have bA : Below w1.heap.size w1 (w1.alloc (.cells #[.slice A nn c, .slice R m d] 26)) := (Below.refl _ _).alloc (Nat.le_refl _) _
  have bx := Rw.new w1 26 #[.slice A nn c, .slice R m d]
  have HLC := Lib.hid hsr.cells.1
  replace hsr := hsr.up bA
  have bb := b1.trans (bA.mono b1.size)
  have HS3 := Lib.hid (fun cl (hc : cl ∈ h.cs) => (hsm.2.2.1 cl hc).1)
  clear bA b1 hsm hby
  go_upto_region 4 with fail
  generalize w1.alloc (.cells #[.slice A nn c, .slice R m d] 26) = w2 at bx hsr bb ⊢
  generalize w1.heap.size = b at bx ⊢
  have x0 : w2.cell? ⟨b, 0, none⟩ = some (.slice A nn c) := bx.cell 0
  have x1 : w2.cell? ⟨b, 1, none⟩ = some (.slice R m d) := bx.cell 1
  go_wp2_with fail
  refine (lazyStart_any _ _ _ _ _ _ h _ hsr (by omega) (by omega) hnc hmd).mono ?_
  have HX0 := Lib.hid (rfl : Hps.startLz h = Hps.startLz h)
  obtain ⟨X, hX⟩ : ∃ X, Hps.startLz h = X := ⟨_, rfl⟩
  replace HX0 := Lib.hid hX
  rw [hX]
  clear hX
  rintro e w3 ⟨vc, vr, vm, rfl, ⟨rvs, ox⟩, b3⟩
  obtain ⟨A1, c1, R1, d1, D1, e1, rfl, rfl, rfl, hc1, hd1⟩ := ox.slices
  obtain ⟨n1, hn1⟩ : ∃ n1, X.s.cs.length = n1 := ⟨_, rfl⟩
  obtain ⟨m1, hm1⟩ : ∃ m1, X.s.rt.length = m1 := ⟨_, rfl⟩
  obtain ⟨q1, hq1⟩ : ∃ q1, X.ms.length = q1 := ⟨_, rfl⟩
  obtain ⟨i1, hi1⟩ : ∃ i1, X.i = i1 := ⟨_, rfl⟩
  have HN1 := Lib.hid hn1
  have HM1 := Lib.hid hm1
  have HQ1 := Lib.hid hq1
  have HI1 := Lib.hid hi1
  rw [hn1] at hc1 ox
  rw [hm1] at hd1 ox
  rw [hq1] at ox
  rw [hn1, hm1, hq1, hi1]
  have hsz : n1 ≤ 41 ∧ m1 ≤ 4 ∧ q1 ≤ 41 ∧ ∀ cl ∈ X.s.cs, cl.r.length ≤ 3 := by
    rw [← hn1, ← hm1, ← hq1, ← HX0.out, Hps.startLz]
    split
    · next hv =>
      obtain ⟨a1, a2, a3⟩ := Hps.valid_small hv
      refine ⟨Nat.le_trans a1 (by omega), by show h.rt.length ≤ 4; omega, ?_, a3⟩
      show (Hps.reachH h).length ≤ 41
      rw [Hps.reachH, if_pos hv, Hps.reachL_len]
      omega
    · exact ⟨by decide, by decide, by decide, fun cl hcl => by cases hcl⟩
  obtain ⟨hn1s, hm1s, hq1s, hx3⟩ := hsz
  have HX3 := Lib.hid hx3
  have hxs := ox.heap.reads
  have hxm := ox.mks.reads
  clear hn1 hm1 hq1 hi1 hx3 ox
  replace bx := bx.keep b3 bx.lt
  replace hsr := hsr.up b3
  replace bb := bb.trans (b3.mono bb.size)
  have bB : Below w3.heap.size w3 (w3.alloc (.cells #[.slice A1 n1 c1, .slice R1 m1 d1, .slice D1 q1 e1, .int .i64 i1] 30)) := (Below.refl _ _).alloc (Nat.le_refl _) _
  have lx := Rw.new w3 30 #[.slice A1 n1 c1, .slice R1 m1 d1, .slice D1 q1 e1, .int .i64 i1]
  replace bx := bx.keep bB bx.lt
  replace hsr := hsr.up bB
  replace bb := bb.trans (bB.mono bb.size)
  replace hxs := hxs.up bB
  replace hxm := hxm.up bB
  clear bB x0 x1 b3
  go_upto_region 5 with fail
  generalize w3.alloc (.cells #[.slice A1 n1 c1, .slice R1 m1 d1, .slice D1 q1 e1, .int .i64 i1] 30) = w4 at bx hsr bb hxs hxm lx ⊢
  generalize w3.heap.size = g at lx ⊢
  have hbl := bx.lt
  have hgl := lx.lt
  refine wp_region_inv (by kernel_rfl) (by kernel_rfl) (fun L ac ww => ∃ t12 t13 t14 t15 t16 : Value, ac = { tmps := #[Value.slice A0 n0 c0, undef, Value.bool false, Value.pointer (some { block := b, off := 0 }), Value.pointer (some { block := g, off := 0 }), Value.slice A0 n0 c0, Value.int IntKind.i64 ↑n0, Value.bool false, Value.slice A0 n0 c0, heapV A nn c R m d, Value.agg #[Value.slice A nn c, Value.slice R m d], Value.agg #[Value.slice A1 n1 c1, Value.slice R1 m1 d1, Value.slice D1 q1 e1, Value.int IntKind.i64 i1], t12, t13, t14, t15, t16, undef, undef, undef, undef, undef, undef, undef, undef, undef, undef, undef, undef, undef, undef, undef, undef, undef, undef, undef, undef, undef, undef, undef, undef, undef, undef, undef, undef, undef, undef, undef], defers := [] } ∧ (Below w4.heap.size w4 ww) ∧ (L 0 = true → t12 = .agg #[.slice A1 n1 c1, .slice R1 m1 d1, .slice D1 q1 e1, .int .i64 i1]) ∧ (L 1 = true → t13 = .agg #[.slice A nn c, .slice R m d]) ∧ (L 2 = true → ∃ (A5 : Option Addr) (c5 : Nat) (R5 : Option Addr) (d5 : Nat) (D5 : Option Addr) (e5 : Nat), t14 = .agg #[.slice A5 n1 c5, .slice R5 m1 d5, .slice D5 q1 e5, .int .i64 i1] ∧ HS ww ww.heap.size A5 n1 R5 m1 X.s ∧ OS ww ww.heap.size D5 q1 X.ms) ∧ (L 3 = true → t15 = .bool true) ∧ (L 4 = true → t16 = .bool false)) ?h0 ?hstep ?hdone
  case h0 => exact ⟨_, _, _, _, _, rfl, (Below.refl _ _).drew, (fun h => absurd h Bool.false_ne_true), (fun h => absurd h Bool.false_ne_true), (fun h => absurd h Bool.false_ne_true), (fun h => absurd h Bool.false_ne_true), (fun h => absurd h Bool.false_ne_true)⟩
  case hstep =>
    rintro L ac ww i o ho hL hd ⟨t12, t13, t14, t15, t16, rfl, I0, f0, f1, f2, f3, f4⟩
    have hi : i < 5 := (Array.getElem?_eq_some_iff.1 ho).1
    obtain rfl | rfl | rfl | rfl | rfl : i = 0 ∨ i = 1 ∨ i = 2 ∨ i = 3 ∨ i = 4 := by omega
    · obtain rfl := Option.some.inj ho
      have z0 : ww.cell? ⟨g, 0, none⟩ = some (.slice A1 n1 c1) := (I0.cell (p := ⟨g, 0, none⟩) hgl).trans (lx.cell 0)
      have z1 : ww.cell? ⟨g, 1, none⟩ = some (.slice R1 m1 d1) := (I0.cell (p := ⟨g, 1, none⟩) hgl).trans (lx.cell 1)
      have z2 : ww.cell? ⟨g, 2, none⟩ = some (.slice D1 q1 e1) := (I0.cell (p := ⟨g, 2, none⟩) hgl).trans (lx.cell 2)
      have z3 : ww.cell? ⟨g, 3, none⟩ = some (.int .i64 i1) := (I0.cell (p := ⟨g, 3, none⟩) hgl).trans (lx.cell 3)
      refine wpOp_step rfl (fun K' hK => ?_)
      go_simp
      refine hK _ _ ?_
      exact ⟨_, _, _, _, _, rfl, (I0), (fun _ => rfl), (kp f1), (kp f2), (kp f3), (kp f4)⟩
    · obtain rfl := Option.some.inj ho
      have z0 : ww.cell? ⟨b, 0, none⟩ = some (.slice A nn c) := (I0.cell (p := ⟨b, 0, none⟩) hbl).trans (bx.cell 0)
      have z1 : ww.cell? ⟨b, 1, none⟩ = some (.slice R m d) := (I0.cell (p := ⟨b, 1, none⟩) hbl).trans (bx.cell 1)
      refine wpOp_step rfl (fun K' hK => ?_)
      go_simp
      refine hK _ _ ?_
      exact ⟨_, _, _, _, _, rfl, (I0), (kp f0), (fun _ => rfl), (kp f2), (kp f3), (kp f4)⟩
    · obtain rfl := Option.some.inj ho
      have g1 := f1 (hd ⟨1, .data⟩ (by simp) rfl)
      subst g1
      refine wpOp_step rfl (fun K' hK => ?_)
      go_simp
      refine (mLazyStart_any A R nn c m d h ww (hsr.up I0) (by omega) (by omega)).mono ?_
      rw [HX0.out]
      rintro e w' ⟨vc, vr, vm, rfl, ⟨rv, ow⟩, b5⟩
      obtain ⟨A5, c5, R5, d5, D5, e5, rfl, rfl, rfl, -⟩ := ow.slices
      rw [HN1.out, HM1.out, HQ1.out] at ow
      rw [HN1.out, HM1.out, HQ1.out, HI1.out]
      have r9 := ow.heap.reads
      have k9 := ow.mks.reads
      refine hK _ _ ?_
      exact ⟨_, _, _, _, _, rfl, (I0.trans (b5.mono I0.size)), (kp f0), (kp f1), (fun _ => ⟨A5, c5, R5, d5, D5, e5, rfl, r9, k9⟩), (kp f3), (kp f4)⟩
    · obtain rfl := Option.some.inj ho
      have g0 := f0 (hd ⟨0, .data⟩ (by simp) rfl)
      have g2 := f2 (hd ⟨2, .data⟩ (by simp) rfl)
      subst g0
      obtain ⟨A5, c5, R5, d5, D5, e5, rfl, r9, k9⟩ := g2
      refine wpOp_step rfl (fun K' hK => ?_)
      go_simp
      refine (sameLazy_same _ _ _ _ _ _ _ _ _ _ _ _ _ _ _ X.s X.ms i1 ww (hxs.up I0) (hxm.up I0) r9 k9 (by omega) (by omega) (by omega) (fun cl hcl => Nat.le_trans (HX3.out cl hcl) (by omega))).mono ?_
      rintro e w' ⟨rfl, b5⟩
      refine hK _ _ ?_
      exact ⟨_, _, _, _, _, rfl, (I0.trans (b5.mono I0.size)), (kp f0), (kp f1), (fun _ => ⟨A5, c5, R5, d5, D5, e5, rfl, r9.up b5, k9.up b5⟩), (fun _ => rfl), (kp f4)⟩
    · obtain rfl := Option.some.inj ho
      have g3 := f3 (hd ⟨3, .data⟩ (by simp) rfl)
      subst g3
      refine wpOp_step rfl (fun K' hK => ?_)
      go_simp
      refine hK _ _ ?_
      exact ⟨_, _, _, _, _, rfl, (I0), (kp f0), (kp f1), (kp f2), (kp f3), (fun _ => rfl)⟩
  case hdone =>
    rintro L ac ww hall ⟨t12, t13, t14, t15, t16, rfl, I0, f0, f1, f2, f3, f4⟩
    have e0 := f0 (hall 0 (by decide))
    have e1 := f1 (hall 1 (by decide))
    have e2 := f2 (hall 2 (by decide))
    have e3 := f3 (hall 3 (by decide))
    have e4 := f4 (hall 4 (by decide))
    clear f0 f1 f2 f3 f4
    subst e4
    replace bx := bx.keep I0 hbl
    replace lx := lx.keep I0 hgl
    replace hsr := hsr.up I0
    replace hxs := hxs.up I0
    replace hxm := hxm.up I0
    replace bb := bb.trans (I0.mono bb.size)
    clear I0 e0 e1 e2 e3 hall hbl hgl
    have hbl := bx.lt
    have hgl := lx.lt
    have x0 : ww.cell? ⟨b, 0, none⟩ = some (.slice A nn c) := bx.cell 0
    have x1 : ww.cell? ⟨b, 1, none⟩ = some (.slice R m d) := bx.cell 1
    go_wp2_with fail
    refine (mHeapValid_any _ _ _ _ _ _ h _ hsr (by omega) (by omega)).mono ?_
    cases hv : Hps.validH h
    · have hm0 : m1 = 0 := by rw [← HM1.out, ← HX0.out, Hps.startLz, if_neg (by rw [hv]; simp)]; rfl
      subst hm0
      rintro e w6 ⟨rfl, b6⟩
      replace bb := bb.trans (b6.mono bb.size)
      have y1 : w6.cell? ⟨g, 1, none⟩ = some (.slice R1 (0 : Nat) d1) := (b6.cell (p := ⟨g, 1, none⟩) hgl).trans (lx.cell 1)
      clear hv x0 x1 b6
      go_wp2_with fail
      refine (alive_any _).mono ?_
      rintro e w7 ⟨rfl, b7⟩
      have bb7 := bb.trans (b7.mono bb.size)
      go_wp2_with fail
      go_ret
      exact ⟨rfl, bb7⟩
    have HXE := Lib.hid (show X = ⟨h, Hps.reachH h, 0⟩ by rw [← HX0.out, Hps.startLz, if_pos hv])
    have HOK := Lib.hid (show Hps.okLz X by rw [← HX0.out]; exact Hps.start_ok hv)
    have HV := Lib.hid hv
    clear hv
    rintro e w6 ⟨rfl, b6⟩
    replace bx := bx.keep b6 hbl
    replace lx := lx.keep b6 hgl
    replace hsr := hsr.up b6
    replace hxs := hxs.up b6
    replace hxm := hxm.up b6
    replace bb := bb.trans (b6.mono bb.size)
    clear b6 x0 x1 hbl hgl
    have hbl := bx.lt
    have hgl := lx.lt
    go_upto_region 9 with fail
    have HXS := Lib.hid (show X.s = h by rw [HXE.out])
    have HXM := Lib.hid (show Hps.reachH h = X.ms by rw [HXE.out])
    have HOX := Lib.hid (show Hps.okLz ⟨X.s, X.ms, i1⟩ by rw [← HI1.out]; exact HOK.out)
    have hnn1 : n1 = nn := by rw [← HN1.out, HXS.out]; exact HLC.out
    have hmm1 : m1 = m := by rw [← HM1.out, HXS.out]; exact hsr.roots.1
    have HRE := Lib.hid (show n1 = nn ∧ m1 = m ∧ True from ⟨hnn1, hmm1, trivial⟩)
    subst hnn1 hmm1
    clear HRE
    refine wp_region_inv (by kernel_rfl) (by kernel_rfl) (fun L ac ww => ∃ t2 t28 t29 t30 t31 t32 t33 t34 t35 t36 t37 t38 t39 t40 t41 t42 t43 t44 t45 t46 t47 : Value, ac = { tmps := #[Value.slice A0 n0 c0, undef, t2, Value.pointer (some { block := b, off := 0 }), Value.pointer (some { block := g, off := 0 }), Value.slice A0 n0 c0, Value.int IntKind.i64 ↑n0, Value.bool false, Value.slice A0 n0 c0, heapV A n1 c R m1 d, Value.agg #[Value.slice A n1 c, Value.slice R m1 d], Value.agg #[Value.slice A1 n1 c1, Value.slice R1 m1 d1, Value.slice D1 q1 e1, Value.int IntKind.i64 i1], t12, t13, t14, t15, Value.bool false, Value.agg #[Value.slice A n1 c, Value.slice R m1 d], Value.bool true, Value.bool false, undef, undef, undef, undef, undef, undef, undef, undef, t28, t29, t30, t31, t32, t33, t34, t35, t36, t37, t38, t39, t40, t41, t42, t43, t44, t45, t46, t47], defers := [] } ∧ (Below w6.heap.size w6 ww) ∧ (L 0 = true → t28 = .pointer (some ⟨g, 0, none⟩)) ∧ (L 1 = true → t29 = .agg #[.slice A1 n1 c1, .slice R1 m1 d1]) ∧ (L 2 = true → t30 = .agg #[.slice A n1 c, .slice R m1 d]) ∧ (L 3 = true → t31 = .bool true) ∧ (L 4 = true → t32 = .bool true) ∧ (L 5 = true → t33 = .pointer (some ⟨g, 2, none⟩)) ∧ (L 6 = true → t34 = .slice D1 q1 e1) ∧ (L 7 = true → t35 = .agg #[.slice A n1 c, .slice R m1 d]) ∧ (L 8 = true → ∃ (A5 : Option Addr) (c5 : Nat), t36 = .slice A5 q1 c5 ∧ OS ww ww.heap.size A5 q1 X.ms) ∧ (L 9 = true → t37 = .bool true) ∧ (L 10 = true → t38 = .bool true) ∧ (L 11 = true → t39 = .bool true) ∧ (L 12 = true → t40 = .pointer (some ⟨g, 3, none⟩)) ∧ (L 13 = true → t41 = .int .i64 i1) ∧ (L 14 = true → t42 = .bool true) ∧ (L 15 = true → t43 = .bool true) ∧ (L 16 = true → t44 = .bool true) ∧ (L 17 = true → t45 = .agg #[.slice A1 n1 c1, .slice R1 m1 d1, .slice D1 q1 e1, .int .i64 i1]) ∧ (L 18 = true → t46 = .bool true) ∧ (L 19 = true → t47 = .bool true) ∧ (L 20 = true → t2 = .bool true)) ?h0 ?hstep ?hdone
    case h0 => exact ⟨_, _, _, _, _, _, _, _, _, _, _, _, _, _, _, _, _, _, _, _, _, rfl, (Below.refl _ _).drew, (fun h => absurd h Bool.false_ne_true), (fun h => absurd h Bool.false_ne_true), (fun h => absurd h Bool.false_ne_true), (fun h => absurd h Bool.false_ne_true), (fun h => absurd h Bool.false_ne_true), (fun h => absurd h Bool.false_ne_true), (fun h => absurd h Bool.false_ne_true), (fun h => absurd h Bool.false_ne_true), (fun h => absurd h Bool.false_ne_true), (fun h => absurd h Bool.false_ne_true), (fun h => absurd h Bool.false_ne_true), (fun h => absurd h Bool.false_ne_true), (fun h => absurd h Bool.false_ne_true), (fun h => absurd h Bool.false_ne_true), (fun h => absurd h Bool.false_ne_true), (fun h => absurd h Bool.false_ne_true), (fun h => absurd h Bool.false_ne_true), (fun h => absurd h Bool.false_ne_true), (fun h => absurd h Bool.false_ne_true), (fun h => absurd h Bool.false_ne_true), (fun h => absurd h Bool.false_ne_true)⟩
    case hstep =>
      rintro L ac ww i o ho hL hd ⟨t2, t28, t29, t30, t31, t32, t33, t34, t35, t36, t37, t38, t39, t40, t41, t42, t43, t44, t45, t46, t47, rfl, I0, f0, f1, f2, f3, f4, f5, f6, f7, f8, f9, f10, f11, f12, f13, f14, f15, f16, f17, f18, f19, f20⟩
      have hi : i < 21 := (Array.getElem?_eq_some_iff.1 ho).1
      obtain rfl | rfl | rfl | rfl | rfl | rfl | rfl | rfl | rfl | rfl | rfl | rfl | rfl | rfl | rfl | rfl | rfl | rfl | rfl | rfl | rfl : i = 0 ∨ i = 1 ∨ i = 2 ∨ i = 3 ∨ i = 4 ∨ i = 5 ∨ i = 6 ∨ i = 7 ∨ i = 8 ∨ i = 9 ∨ i = 10 ∨ i = 11 ∨ i = 12 ∨ i = 13 ∨ i = 14 ∨ i = 15 ∨ i = 16 ∨ i = 17 ∨ i = 18 ∨ i = 19 ∨ i = 20 := by omega
      · obtain rfl := Option.some.inj ho
        refine wpOp_step rfl (fun K' hK => ?_)
        go_simp
        refine hK _ _ ?_
        exact ⟨_, _, _, _, _, _, _, _, _, _, _, _, _, _, _, _, _, _, _, _, _, rfl, (I0), (fun _ => rfl), (kp f1), (kp f2), (kp f3), (kp f4), (kp f5), (kp f6), (kp f7), (kp f8), (kp f9), (kp f10), (kp f11), (kp f12), (kp f13), (kp f14), (kp f15), (kp f16), (kp f17), (kp f18), (kp f19), (kp f20)⟩
      · obtain rfl := Option.some.inj ho
        have g0 := f0 (hd ⟨0, .data⟩ (by simp) rfl)
        subst g0
        have z0 : ww.cell? ⟨g, 0, none⟩ = some (.slice A1 n1 c1) := (I0.cell (p := ⟨g, 0, none⟩) hgl).trans (lx.cell 0)
        have z1 : ww.cell? ⟨g, 1, none⟩ = some (.slice R1 m1 d1) := (I0.cell (p := ⟨g, 1, none⟩) hgl).trans (lx.cell 1)
        refine wpOp_step rfl (fun K' hK => ?_)
        go_simp
        refine hK _ _ ?_
        exact ⟨_, _, _, _, _, _, _, _, _, _, _, _, _, _, _, _, _, _, _, _, _, rfl, (I0), (kp f0), (fun _ => rfl), (kp f2), (kp f3), (kp f4), (kp f5), (kp f6), (kp f7), (kp f8), (kp f9), (kp f10), (kp f11), (kp f12), (kp f13), (kp f14), (kp f15), (kp f16), (kp f17), (kp f18), (kp f19), (kp f20)⟩
      · obtain rfl := Option.some.inj ho
        have v0 : ww.cell? ⟨b, 0, none⟩ = some (.slice A n1 c) := (I0.cell (p := ⟨b, 0, none⟩) hbl).trans (bx.cell 0)
        have v1 : ww.cell? ⟨b, 1, none⟩ = some (.slice R m1 d) := (I0.cell (p := ⟨b, 1, none⟩) hbl).trans (bx.cell 1)
        refine wpOp_step rfl (fun K' hK => ?_)
        go_simp
        refine hK _ _ ?_
        exact ⟨_, _, _, _, _, _, _, _, _, _, _, _, _, _, _, _, _, _, _, _, _, rfl, (I0), (kp f0), (kp f1), (fun _ => rfl), (kp f3), (kp f4), (kp f5), (kp f6), (kp f7), (kp f8), (kp f9), (kp f10), (kp f11), (kp f12), (kp f13), (kp f14), (kp f15), (kp f16), (kp f17), (kp f18), (kp f19), (kp f20)⟩
      · obtain rfl := Option.some.inj ho
        have g1 := f1 (hd ⟨1, .data⟩ (by simp) rfl)
        have g2 := f2 (hd ⟨2, .data⟩ (by simp) rfl)
        subst g1
        subst g2
        have hs5 : HS ww ww.heap.size A1 n1 R1 m1 h := by have := hxs.up I0; rwa [HXS.out] at this
        refine wpOp_step rfl (fun K' hK => ?_)
        go_simp
        refine (sameHeap_same _ _ _ _ _ _ _ _ _ _ h ww hs5 (hsr.up I0) (by omega) (by omega) (fun cl hcl => Nat.le_trans (HS3.out cl hcl) (by omega))).mono ?_
        rintro e w' ⟨rfl, b5⟩
        refine hK _ _ ?_
        exact ⟨_, _, _, _, _, _, _, _, _, _, _, _, _, _, _, _, _, _, _, _, _, rfl, (I0.trans (b5.mono I0.size)), (kp f0), (kp f1), (kp f2), (fun _ => rfl), (kp f4), (kp f5), (kp f6), (kp f7), (fun h0 => by
          obtain ⟨A5, c5, e, r9⟩ := f8 (upd_ne h0 (by decide))
          exact ⟨A5, c5, e, r9.up b5⟩), (kp f9), (kp f10), (kp f11), (kp f12), (kp f13), (kp f14), (kp f15), (kp f16), (kp f17), (kp f18), (kp f19), (kp f20)⟩
      · obtain rfl := Option.some.inj ho
        have g3 := f3 (hd ⟨3, .data⟩ (by simp) rfl)
        subst g3
        refine wpOp_step rfl (fun K' hK => ?_)
        go_simp
        refine hK _ _ ?_
        exact ⟨_, _, _, _, _, _, _, _, _, _, _, _, _, _, _, _, _, _, _, _, _, rfl, (I0), (kp f0), (kp f1), (kp f2), (kp f3), (fun _ => rfl), (kp f5), (kp f6), (kp f7), (kp f8), (kp f9), (kp f10), (kp f11), (kp f12), (kp f13), (kp f14), (kp f15), (kp f16), (kp f17), (kp f18), (kp f19), (kp f20)⟩
      · obtain rfl := Option.some.inj ho
        have g4 := f4 (hd ⟨4, .guard⟩ (by simp) rfl)
        subst g4
        refine wpOp_step rfl (fun K' hK => ?_)
        go_simp
        refine hK _ _ ?_
        exact ⟨_, _, _, _, _, _, _, _, _, _, _, _, _, _, _, _, _, _, _, _, _, rfl, (I0), (kp f0), (kp f1), (kp f2), (kp f3), (kp f4), (fun _ => rfl), (kp f6), (kp f7), (kp f8), (kp f9), (kp f10), (kp f11), (kp f12), (kp f13), (kp f14), (kp f15), (kp f16), (kp f17), (kp f18), (kp f19), (kp f20)⟩
      · obtain rfl := Option.some.inj ho
        have g5 := f5 (hd ⟨5, .data⟩ (by simp) rfl)
        subst g5
        have g4 := f4 (hd ⟨4, .guard⟩ (by simp) rfl)
        subst g4
        have z2 : ww.cell? ⟨g, 2, none⟩ = some (.slice D1 q1 e1) := (I0.cell (p := ⟨g, 2, none⟩) hgl).trans (lx.cell 2)
        refine wpOp_step rfl (fun K' hK => ?_)
        go_simp
        refine hK _ _ ?_
        exact ⟨_, _, _, _, _, _, _, _, _, _, _, _, _, _, _, _, _, _, _, _, _, rfl, (I0), (kp f0), (kp f1), (kp f2), (kp f3), (kp f4), (kp f5), (fun _ => rfl), (kp f7), (kp f8), (kp f9), (kp f10), (kp f11), (kp f12), (kp f13), (kp f14), (kp f15), (kp f16), (kp f17), (kp f18), (kp f19), (kp f20)⟩
      · obtain rfl := Option.some.inj ho
        have g4 := f4 (hd ⟨4, .guard⟩ (by simp) rfl)
        subst g4
        have v0 : ww.cell? ⟨b, 0, none⟩ = some (.slice A n1 c) := (I0.cell (p := ⟨b, 0, none⟩) hbl).trans (bx.cell 0)
        have v1 : ww.cell? ⟨b, 1, none⟩ = some (.slice R m1 d) := (I0.cell (p := ⟨b, 1, none⟩) hbl).trans (bx.cell 1)
        refine wpOp_step rfl (fun K' hK => ?_)
        go_simp
        refine hK _ _ ?_
        exact ⟨_, _, _, _, _, _, _, _, _, _, _, _, _, _, _, _, _, _, _, _, _, rfl, (I0), (kp f0), (kp f1), (kp f2), (kp f3), (kp f4), (kp f5), (kp f6), (fun _ => rfl), (kp f8), (kp f9), (kp f10), (kp f11), (kp f12), (kp f13), (kp f14), (kp f15), (kp f16), (kp f17), (kp f18), (kp f19), (kp f20)⟩
      · obtain rfl := Option.some.inj ho
        have g7 := f7 (hd ⟨7, .data⟩ (by simp) rfl)
        subst g7
        have g4 := f4 (hd ⟨4, .guard⟩ (by simp) rfl)
        subst g4
        refine wpOp_step rfl (fun K' hK => ?_)
        go_simp
        refine (reachable_any _ _ _ _ _ _ h ww (hsr.up I0) (by omega) (by omega) hnc hmd).mono ?_
        rw [HXM.out]
        rintro e w' ⟨v1, rfl, p1, b5⟩
        obtain ⟨A5, c5, rfl, -⟩ := p1.form
        rw [HQ1.out] at p1 ⊢
        refine hK _ _ ?_
        exact ⟨_, _, _, _, _, _, _, _, _, _, _, _, _, _, _, _, _, _, _, _, _, rfl, (I0.trans (b5.mono I0.size)), (kp f0), (kp f1), (kp f2), (kp f3), (kp f4), (kp f5), (kp f6), (kp f7), (fun _ => ⟨A5, c5, rfl, p1.reads⟩), (kp f9), (kp f10), (kp f11), (kp f12), (kp f13), (kp f14), (kp f15), (kp f16), (kp f17), (kp f18), (kp f19), (kp f20)⟩
      · obtain rfl := Option.some.inj ho
        have g6 := f6 (hd ⟨6, .data⟩ (by simp) rfl)
        have g8 := f8 (hd ⟨8, .data⟩ (by simp) rfl)
        subst g6
        have g4 := f4 (hd ⟨4, .guard⟩ (by simp) rfl)
        subst g4
        obtain ⟨A5, c5, rfl, r1⟩ := g8
        refine wpOp_step rfl (fun K' hK => ?_)
        go_simp
        refine (sameFlags_any _ _ _ _ _ _ X.ms X.ms ww (hxm.up I0) r1 (by omega) (by omega)).mono ?_
        rw [decide_eq_true rfl]
        rintro e w' ⟨rfl, b5⟩
        refine hK _ _ ?_
        exact ⟨_, _, _, _, _, _, _, _, _, _, _, _, _, _, _, _, _, _, _, _, _, rfl, (I0.trans (b5.mono I0.size)), (kp f0), (kp f1), (kp f2), (kp f3), (kp f4), (kp f5), (kp f6), (kp f7), (fun _ => ⟨A5, c5, rfl, r1.up b5⟩), (fun _ => rfl), (kp f10), (kp f11), (kp f12), (kp f13), (kp f14), (kp f15), (kp f16), (kp f17), (kp f18), (kp f19), (kp f20)⟩
      · obtain rfl := Option.some.inj ho
        have g4 := f4 (hd ⟨4, .data⟩ (by simp) rfl)
        have g9 := f9 (hd ⟨9, .data⟩ (by simp) rfl)
        subst g4
        subst g9
        refine wpOp_step rfl (fun K' hK => ?_)
        go_simp
        refine hK _ _ ?_
        exact ⟨_, _, _, _, _, _, _, _, _, _, _, _, _, _, _, _, _, _, _, _, _, rfl, (I0), (kp f0), (kp f1), (kp f2), (kp f3), (kp f4), (kp f5), (kp f6), (kp f7), (kp f8), (kp f9), (fun _ => rfl), (kp f11), (kp f12), (kp f13), (kp f14), (kp f15), (kp f16), (kp f17), (kp f18), (kp f19), (kp f20)⟩
      · obtain rfl := Option.some.inj ho
        have g10 := f10 (hd ⟨10, .data⟩ (by simp) rfl)
        subst g10
        refine wpOp_step rfl (fun K' hK => ?_)
        go_simp
        refine hK _ _ ?_
        exact ⟨_, _, _, _, _, _, _, _, _, _, _, _, _, _, _, _, _, _, _, _, _, rfl, (I0), (kp f0), (kp f1), (kp f2), (kp f3), (kp f4), (kp f5), (kp f6), (kp f7), (kp f8), (kp f9), (kp f10), (fun _ => rfl), (kp f12), (kp f13), (kp f14), (kp f15), (kp f16), (kp f17), (kp f18), (kp f19), (kp f20)⟩
      · obtain rfl := Option.some.inj ho
        have g11 := f11 (hd ⟨11, .guard⟩ (by simp) rfl)
        subst g11
        refine wpOp_step rfl (fun K' hK => ?_)
        go_simp
        refine hK _ _ ?_
        exact ⟨_, _, _, _, _, _, _, _, _, _, _, _, _, _, _, _, _, _, _, _, _, rfl, (I0), (kp f0), (kp f1), (kp f2), (kp f3), (kp f4), (kp f5), (kp f6), (kp f7), (kp f8), (kp f9), (kp f10), (kp f11), (fun _ => rfl), (kp f13), (kp f14), (kp f15), (kp f16), (kp f17), (kp f18), (kp f19), (kp f20)⟩
      · obtain rfl := Option.some.inj ho
        have g12 := f12 (hd ⟨12, .data⟩ (by simp) rfl)
        subst g12
        have g11 := f11 (hd ⟨11, .guard⟩ (by simp) rfl)
        subst g11
        have z3 : ww.cell? ⟨g, 3, none⟩ = some (.int .i64 i1) := (I0.cell (p := ⟨g, 3, none⟩) hgl).trans (lx.cell 3)
        refine wpOp_step rfl (fun K' hK => ?_)
        go_simp
        refine hK _ _ ?_
        exact ⟨_, _, _, _, _, _, _, _, _, _, _, _, _, _, _, _, _, _, _, _, _, rfl, (I0), (kp f0), (kp f1), (kp f2), (kp f3), (kp f4), (kp f5), (kp f6), (kp f7), (kp f8), (kp f9), (kp f10), (kp f11), (kp f12), (fun _ => rfl), (kp f14), (kp f15), (kp f16), (kp f17), (kp f18), (kp f19), (kp f20)⟩
      · obtain rfl := Option.some.inj ho
        have g13 := f13 (hd ⟨13, .data⟩ (by simp) rfl)
        subst g13
        have g11 := f11 (hd ⟨11, .guard⟩ (by simp) rfl)
        subst g11
        have hi0 : (i1 == 0) = true := by rw [← HI1.out, HXE.out]; rfl
        refine wpOp_step rfl (fun K' hK => ?_)
        go_simp
        refine hK _ _ ?_
        exact ⟨_, _, _, _, _, _, _, _, _, _, _, _, _, _, _, _, _, _, _, _, _, rfl, (I0), (kp f0), (kp f1), (kp f2), (kp f3), (kp f4), (kp f5), (kp f6), (kp f7), (kp f8), (kp f9), (kp f10), (kp f11), (kp f12), (kp f13), (fun _ => rfl), (kp f15), (kp f16), (kp f17), (kp f18), (kp f19), (kp f20)⟩
      · obtain rfl := Option.some.inj ho
        have g11 := f11 (hd ⟨11, .data⟩ (by simp) rfl)
        have g14 := f14 (hd ⟨14, .data⟩ (by simp) rfl)
        subst g11
        subst g14
        refine wpOp_step rfl (fun K' hK => ?_)
        go_simp
        refine hK _ _ ?_
        exact ⟨_, _, _, _, _, _, _, _, _, _, _, _, _, _, _, _, _, _, _, _, _, rfl, (I0), (kp f0), (kp f1), (kp f2), (kp f3), (kp f4), (kp f5), (kp f6), (kp f7), (kp f8), (kp f9), (kp f10), (kp f11), (kp f12), (kp f13), (kp f14), (fun _ => rfl), (kp f16), (kp f17), (kp f18), (kp f19), (kp f20)⟩
      · obtain rfl := Option.some.inj ho
        have g15 := f15 (hd ⟨15, .data⟩ (by simp) rfl)
        subst g15
        refine wpOp_step rfl (fun K' hK => ?_)
        go_simp
        refine hK _ _ ?_
        exact ⟨_, _, _, _, _, _, _, _, _, _, _, _, _, _, _, _, _, _, _, _, _, rfl, (I0), (kp f0), (kp f1), (kp f2), (kp f3), (kp f4), (kp f5), (kp f6), (kp f7), (kp f8), (kp f9), (kp f10), (kp f11), (kp f12), (kp f13), (kp f14), (kp f15), (fun _ => rfl), (kp f17), (kp f18), (kp f19), (kp f20)⟩
      · obtain rfl := Option.some.inj ho
        have g16 := f16 (hd ⟨16, .guard⟩ (by simp) rfl)
        subst g16
        have z0 : ww.cell? ⟨g, 0, none⟩ = some (.slice A1 n1 c1) := (I0.cell (p := ⟨g, 0, none⟩) hgl).trans (lx.cell 0)
        have z1 : ww.cell? ⟨g, 1, none⟩ = some (.slice R1 m1 d1) := (I0.cell (p := ⟨g, 1, none⟩) hgl).trans (lx.cell 1)
        have z2 : ww.cell? ⟨g, 2, none⟩ = some (.slice D1 q1 e1) := (I0.cell (p := ⟨g, 2, none⟩) hgl).trans (lx.cell 2)
        have z3 : ww.cell? ⟨g, 3, none⟩ = some (.int .i64 i1) := (I0.cell (p := ⟨g, 3, none⟩) hgl).trans (lx.cell 3)
        refine wpOp_step rfl (fun K' hK => ?_)
        go_simp
        refine hK _ _ ?_
        exact ⟨_, _, _, _, _, _, _, _, _, _, _, _, _, _, _, _, _, _, _, _, _, rfl, (I0), (kp f0), (kp f1), (kp f2), (kp f3), (kp f4), (kp f5), (kp f6), (kp f7), (kp f8), (kp f9), (kp f10), (kp f11), (kp f12), (kp f13), (kp f14), (kp f15), (kp f16), (fun _ => rfl), (kp f18), (kp f19), (kp f20)⟩
      · obtain rfl := Option.some.inj ho
        have g17 := f17 (hd ⟨17, .data⟩ (by simp) rfl)
        subst g17
        have g16 := f16 (hd ⟨16, .guard⟩ (by simp) rfl)
        subst g16
        refine wpOp_step rfl (fun K' hK => ?_)
        go_simp
        refine (lazyValid_any _ _ _ _ _ _ _ _ _ i1 X.s X.ms ww (hxs.up I0) (hxm.up I0) (by omega) (by omega) (by omega) hc1 hd1).mono ?_
        rintro e w' ⟨⟨b0, rfl, hb0⟩, b5⟩
        obtain rfl := hb0.2 HOX.out
        clear hb0
        refine hK _ _ ?_
        exact ⟨_, _, _, _, _, _, _, _, _, _, _, _, _, _, _, _, _, _, _, _, _, rfl, (I0.trans (b5.mono I0.size)), (kp f0), (kp f1), (kp f2), (kp f3), (kp f4), (kp f5), (kp f6), (kp f7), (fun h0 => by
          obtain ⟨A5, c5, e, r9⟩ := f8 (upd_ne h0 (by decide))
          exact ⟨A5, c5, e, r9.up b5⟩), (kp f9), (kp f10), (kp f11), (kp f12), (kp f13), (kp f14), (kp f15), (kp f16), (kp f17), (fun _ => rfl), (kp f19), (kp f20)⟩
      · obtain rfl := Option.some.inj ho
        have g16 := f16 (hd ⟨16, .data⟩ (by simp) rfl)
        have g18 := f18 (hd ⟨18, .data⟩ (by simp) rfl)
        subst g16
        subst g18
        refine wpOp_step rfl (fun K' hK => ?_)
        go_simp
        refine hK _ _ ?_
        exact ⟨_, _, _, _, _, _, _, _, _, _, _, _, _, _, _, _, _, _, _, _, _, rfl, (I0), (kp f0), (kp f1), (kp f2), (kp f3), (kp f4), (kp f5), (kp f6), (kp f7), (kp f8), (kp f9), (kp f10), (kp f11), (kp f12), (kp f13), (kp f14), (kp f15), (kp f16), (kp f17), (kp f18), (fun _ => rfl), (kp f20)⟩
      · obtain rfl := Option.some.inj ho
        have g19 := f19 (hd ⟨19, .data⟩ (by simp) rfl)
        subst g19
        refine wpOp_step rfl (fun K' hK => ?_)
        go_simp
        refine hK _ _ ?_
        exact ⟨_, _, _, _, _, _, _, _, _, _, _, _, _, _, _, _, _, _, _, _, _, rfl, (I0), (kp f0), (kp f1), (kp f2), (kp f3), (kp f4), (kp f5), (kp f6), (kp f7), (kp f8), (kp f9), (kp f10), (kp f11), (kp f12), (kp f13), (kp f14), (kp f15), (kp f16), (kp f17), (kp f18), (kp f19), (fun _ => rfl)⟩
    case hdone =>
      rintro L ac ww hall ⟨t2, t28, t29, t30, t31, t32, t33, t34, t35, t36, t37, t38, t39, t40, t41, t42, t43, t44, t45, t46, t47, rfl, I0, f0, f1, f2, f3, f4, f5, f6, f7, f8, f9, f10, f11, f12, f13, f14, f15, f16, f17, f18, f19, f20⟩
      have e0 := f0 (hall 0 (by decide))
      have e1 := f1 (hall 1 (by decide))
      have e2 := f2 (hall 2 (by decide))
      have e3 := f3 (hall 3 (by decide))
      have e4 := f4 (hall 4 (by decide))
      have e5 := f5 (hall 5 (by decide))
      have e6 := f6 (hall 6 (by decide))
      have e7 := f7 (hall 7 (by decide))
      have e8 := f8 (hall 8 (by decide))
      have e9 := f9 (hall 9 (by decide))
      have e10 := f10 (hall 10 (by decide))
      have e11 := f11 (hall 11 (by decide))
      have e12 := f12 (hall 12 (by decide))
      have e13 := f13 (hall 13 (by decide))
      have e14 := f14 (hall 14 (by decide))
      have e15 := f15 (hall 15 (by decide))
      have e16 := f16 (hall 16 (by decide))
      have e17 := f17 (hall 17 (by decide))
      have e18 := f18 (hall 18 (by decide))
      have e19 := f19 (hall 19 (by decide))
      have e20 := f20 (hall 20 (by decide))
      clear f0 f1 f2 f3 f4 f5 f6 f7 f8 f9 f10 f11 f12 f13 f14 f15 f16 f17 f18 f19 f20
      subst e20
      have bbf := bb.trans (I0.mono bb.size)
      clear e0 e1 e2 e3 e4 e5 e6 e7 e8 e9 e10 e11 e12 e13 e14 e15 e16 e17 e18 e19
      go_wp2_with fail
      go_ret
      exact ⟨rfl, bbf⟩
end Go.Proofs.Ytakdjiojahlnmaa
