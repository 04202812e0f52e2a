/- For every list of bytes the law FnLazyAll returns true (P127), over the program's contracts. No conditions. -/
import Derived.Test.YtakdjiojahlnmaaTf
import Derived.Test.YtakdjiojahlnmaaTc
import Derived.Test.YtakdjiojahlnmaaTo
import Derived.Test.YtakdjiojahlnmaaTm
import Derived.Test.YtakdjiojahlnmaaGx
import Derived.Test.YtakdjiojahlnmaaHx
import Derived.Deep.Cut
namespace Go.Proofs.Ytakdjiojahlnmaa
open Go.RowKit
set_option maxRecDepth 100000

set_option maxHeartbeats 16000000 in
theorem lazyAllLaw_walk (A0 : Option Addr) (n0 c0 : Nat) (w : World) (hby : Bytes w w.heap.size A0 n0) (hc0 : n0 ≤ c0) (hn0 : n0 ≤ 9223372036854775807) :
    Calls Try.prog 6 #[.slice A0 n0 c0] w fun e w' => e = .returned (.bool true) ∧ Below w.heap.size w w' := by
  by_cases hs : n0 ≤ 1048576
  case neg =>
    have hs' : (1048576 : Int) < (n0 : Int) := by omega
    go_enter Try.func6, Try.ntmps6
    go_wp2
    go_ret
    exact ⟨rfl, Below.refl _ _⟩
  have hs' : decide ((1048576 : Int) < (n0 : Int)) = false := by simp; omega
  go_enter Try.func6, Try.ntmps6
  go_wp2_with fail
  refine (drawLazyStart_any _ _ _ _ hby hc0 hn0).mono ?_
  rintro e w1 ⟨A, nn, c, R, m, d, h, rfl, hnc, hmd, hsr, hsm, b1⟩
  have hn41 : nn ≤ 41 := by have := hsm.1; have := hsr.cells.1; omega
  have hm4 : m ≤ 4 := by have := hsm.2.1; have := hsr.roots.1; omega
  have bA : Below w1.heap.size w1 (w1.alloc (.cells #[.slice A nn c, .slice R m d] 26)) := (Below.refl _ _).alloc (Nat.le_refl _) _
  have bx := Rw.new w1 26 #[.slice A nn c, .slice R m d]
  have HLC := Lib.hid hsr.cells.1
  replace hsr := hsr.up bA
  have bb := b1.trans (bA.mono b1.size)
  have HS3 := Lib.hid (fun cl (hc : cl ∈ h.cs) => (hsm.2.2.1 cl hc).1)
  clear bA b1 hsm hby
  go_upto_region 4 with fail
  generalize w1.alloc (.cells #[.slice A nn c, .slice R m d] 26) = w2 at bx hsr bb ⊢
  generalize w1.heap.size = b at bx ⊢
  have BX2 := Lib.hid bx
  have SR2 := Lib.hid hsr
  have BB2 := Lib.hid bb
  have x0 : w2.cell? ⟨b, 0, none⟩ = some (.slice A nn c) := bx.cell 0
  have x1 : w2.cell? ⟨b, 1, none⟩ = some (.slice R m d) := bx.cell 1
  go_wp2_with fail
  refine (lazyStart_any _ _ _ _ _ _ h _ hsr (by omega) (by omega) hnc hmd).mono ?_
  have HX0 := Lib.hid (rfl : Hps.startLz h = Hps.startLz h)
  obtain ⟨X, hX⟩ : ∃ X, Hps.startLz h = X := ⟨_, rfl⟩
  replace HX0 := Lib.hid hX
  rw [hX]
  clear hX
  rintro e w3 ⟨vc, vr, vm, rfl, ⟨rvs, ox⟩, b3⟩
  obtain ⟨A1, c1, R1, d1, D1, e1, rfl, rfl, rfl, hc1, hd1⟩ := ox.slices
  obtain ⟨n1, hn1⟩ : ∃ n1, X.s.cs.length = n1 := ⟨_, rfl⟩
  obtain ⟨m1, hm1⟩ : ∃ m1, X.s.rt.length = m1 := ⟨_, rfl⟩
  obtain ⟨q1, hq1⟩ : ∃ q1, X.ms.length = q1 := ⟨_, rfl⟩
  obtain ⟨i1, hi1⟩ : ∃ i1, X.i = i1 := ⟨_, rfl⟩
  have HN1 := Lib.hid hn1
  have HM1 := Lib.hid hm1
  have HQ1 := Lib.hid hq1
  have HI1 := Lib.hid hi1
  rw [hn1] at hc1 ox
  rw [hm1] at hd1 ox
  rw [hq1] at ox
  rw [hn1, hm1, hq1, hi1]
  have hsz : n1 ≤ 41 ∧ m1 ≤ 4 ∧ q1 ≤ 41 ∧ ∀ cl ∈ X.s.cs, cl.r.length ≤ 3 := by
    rw [← hn1, ← hm1, ← hq1, ← HX0.out, Hps.startLz]
    split
    · next hv =>
      obtain ⟨a1, a2, a3⟩ := Hps.valid_small hv
      refine ⟨Nat.le_trans a1 (by omega), by show h.rt.length ≤ 4; omega, ?_, a3⟩
      show (Hps.reachH h).length ≤ 41
      rw [Hps.reachH, if_pos hv, Hps.reachL_len]
      omega
    · exact ⟨by decide, by decide, by decide, fun cl hcl => by cases hcl⟩
  obtain ⟨hn1s, hm1s, hq1s, hx3⟩ := hsz
  have HX3 := Lib.hid hx3
  have hxs := ox.heap.reads
  have hxm := ox.mks.reads
  clear hn1 hm1 hq1 hi1 hx3 ox
  replace bx := bx.keep b3 bx.lt
  replace hsr := hsr.up b3
  replace bb := bb.trans (b3.mono bb.size)
  have low := b3.alloc b3.size (.cells #[.slice A1 n1 c1, .slice R1 m1 d1, .slice D1 q1 e1, .int .i64 i1] 30)
  have hg0 := b3.size
  have bB : Below w3.heap.size w3 (w3.alloc (.cells #[.slice A1 n1 c1, .slice R1 m1 d1, .slice D1 q1 e1, .int .i64 i1] 30)) := (Below.refl _ _).alloc (Nat.le_refl _) _
  have lx := Rw.new w3 30 #[.slice A1 n1 c1, .slice R1 m1 d1, .slice D1 q1 e1, .int .i64 i1]
  replace bx := bx.keep bB bx.lt
  replace hsr := hsr.up bB
  replace bb := bb.trans (bB.mono bb.size)
  replace hxs := hxs.up bB
  replace hxm := hxm.up bB
  clear bB x0 x1 b3
  go_upto_region 5 with fail
  generalize w3.alloc (.cells #[.slice A1 n1 c1, .slice R1 m1 d1, .slice D1 q1 e1, .int .i64 i1] 30) = w4 at bx hsr bb hxs hxm lx low ⊢
  generalize w3.heap.size = g at lx hg0 ⊢
  have hbl := bx.lt
  have hgl := lx.lt
  refine wp_region_inv (by kernel_rfl) (by kernel_rfl) (fun L ac ww => ∃ t19 t20 t21 t22 t23 : Value, ac = { tmps := #[Value.slice A0 n0 c0, undef, Value.bool false, Value.pointer (some { block := b, off := 0 }), Value.pointer (some { block := g, off := 0 }), undef, undef, undef, undef, undef, undef, undef, Value.slice A0 n0 c0, Value.int IntKind.i64 ↑n0, Value.bool false, Value.slice A0 n0 c0, heapV A nn c R m d, Value.agg #[Value.slice A nn c, Value.slice R m d], Value.agg #[Value.slice A1 n1 c1, Value.slice R1 m1 d1, Value.slice D1 q1 e1, Value.int IntKind.i64 i1], t19, t20, t21, t22, t23, undef, undef, undef, undef, undef, undef, undef, undef, undef, undef, undef, undef, undef, undef, undef, undef, undef, undef, undef, undef, undef, undef, undef, undef, undef, undef, undef, undef, undef, undef, undef, undef, undef, undef, undef, undef, undef, undef], defers := [] } ∧ (Below w4.heap.size w4 ww) ∧ (L 0 = true → t19 = .agg #[.slice A1 n1 c1, .slice R1 m1 d1, .slice D1 q1 e1, .int .i64 i1]) ∧ (L 1 = true → t20 = .agg #[.slice A nn c, .slice R m d]) ∧ (L 2 = true → ∃ (A5 : Option Addr) (c5 : Nat) (R5 : Option Addr) (d5 : Nat) (D5 : Option Addr) (e5 : Nat), t21 = .agg #[.slice A5 n1 c5, .slice R5 m1 d5, .slice D5 q1 e5, .int .i64 i1] ∧ HS ww ww.heap.size A5 n1 R5 m1 X.s ∧ OS ww ww.heap.size D5 q1 X.ms) ∧ (L 3 = true → t22 = .bool true) ∧ (L 4 = true → t23 = .bool false)) ?h0 ?hstep ?hdone
  case h0 => exact ⟨_, _, _, _, _, rfl, (Below.refl _ _).drew, (fun h => absurd h Bool.false_ne_true), (fun h => absurd h Bool.false_ne_true), (fun h => absurd h Bool.false_ne_true), (fun h => absurd h Bool.false_ne_true), (fun h => absurd h Bool.false_ne_true)⟩
  case hstep =>
    rintro L ac ww i o ho hL hd ⟨t19, t20, t21, t22, t23, rfl, I0, f0, f1, f2, f3, f4⟩
    have hi : i < 5 := (Array.getElem?_eq_some_iff.1 ho).1
    obtain rfl | rfl | rfl | rfl | rfl : i = 0 ∨ i = 1 ∨ i = 2 ∨ i = 3 ∨ i = 4 := by omega
    · obtain rfl := Option.some.inj ho
      have z0 : ww.cell? ⟨g, 0, none⟩ = some (.slice A1 n1 c1) := (I0.cell (p := ⟨g, 0, none⟩) hgl).trans (lx.cell 0)
      have z1 : ww.cell? ⟨g, 1, none⟩ = some (.slice R1 m1 d1) := (I0.cell (p := ⟨g, 1, none⟩) hgl).trans (lx.cell 1)
      have z2 : ww.cell? ⟨g, 2, none⟩ = some (.slice D1 q1 e1) := (I0.cell (p := ⟨g, 2, none⟩) hgl).trans (lx.cell 2)
      have z3 : ww.cell? ⟨g, 3, none⟩ = some (.int .i64 i1) := (I0.cell (p := ⟨g, 3, none⟩) hgl).trans (lx.cell 3)
      refine wpOp_step rfl (fun K' hK => ?_)
      go_simp
      refine hK _ _ ?_
      exact ⟨_, _, _, _, _, rfl, (I0), (fun _ => rfl), (kp f1), (kp f2), (kp f3), (kp f4)⟩
    · obtain rfl := Option.some.inj ho
      have z0 : ww.cell? ⟨b, 0, none⟩ = some (.slice A nn c) := (I0.cell (p := ⟨b, 0, none⟩) hbl).trans (bx.cell 0)
      have z1 : ww.cell? ⟨b, 1, none⟩ = some (.slice R m d) := (I0.cell (p := ⟨b, 1, none⟩) hbl).trans (bx.cell 1)
      refine wpOp_step rfl (fun K' hK => ?_)
      go_simp
      refine hK _ _ ?_
      exact ⟨_, _, _, _, _, rfl, (I0), (kp f0), (fun _ => rfl), (kp f2), (kp f3), (kp f4)⟩
    · obtain rfl := Option.some.inj ho
      have g1 := f1 (hd ⟨1, .data⟩ (by simp) rfl)
      subst g1
      refine wpOp_step rfl (fun K' hK => ?_)
      go_simp
      refine (mLazyStart_any A R nn c m d h ww (hsr.up I0) (by omega) (by omega)).mono ?_
      rw [HX0.out]
      rintro e w' ⟨vc, vr, vm, rfl, ⟨rv, ow⟩, b5⟩
      obtain ⟨A5, c5, R5, d5, D5, e5, rfl, rfl, rfl, -⟩ := ow.slices
      rw [HN1.out, HM1.out, HQ1.out] at ow
      rw [HN1.out, HM1.out, HQ1.out, HI1.out]
      have r9 := ow.heap.reads
      have k9 := ow.mks.reads
      refine hK _ _ ?_
      exact ⟨_, _, _, _, _, rfl, (I0.trans (b5.mono I0.size)), (kp f0), (kp f1), (fun _ => ⟨A5, c5, R5, d5, D5, e5, rfl, r9, k9⟩), (kp f3), (kp f4)⟩
    · obtain rfl := Option.some.inj ho
      have g0 := f0 (hd ⟨0, .data⟩ (by simp) rfl)
      have g2 := f2 (hd ⟨2, .data⟩ (by simp) rfl)
      subst g0
      obtain ⟨A5, c5, R5, d5, D5, e5, rfl, r9, k9⟩ := g2
      refine wpOp_step rfl (fun K' hK => ?_)
      go_simp
      refine (sameLazy_same _ _ _ _ _ _ _ _ _ _ _ _ _ _ _ X.s X.ms i1 ww (hxs.up I0) (hxm.up I0) r9 k9 (by omega) (by omega) (by omega) (fun cl hcl => Nat.le_trans (HX3.out cl hcl) (by omega))).mono ?_
      rintro e w' ⟨rfl, b5⟩
      refine hK _ _ ?_
      exact ⟨_, _, _, _, _, rfl, (I0.trans (b5.mono I0.size)), (kp f0), (kp f1), (fun _ => ⟨A5, c5, R5, d5, D5, e5, rfl, r9.up b5, k9.up b5⟩), (fun _ => rfl), (kp f4)⟩
    · obtain rfl := Option.some.inj ho
      have g3 := f3 (hd ⟨3, .data⟩ (by simp) rfl)
      subst g3
      refine wpOp_step rfl (fun K' hK => ?_)
      go_simp
      refine hK _ _ ?_
      exact ⟨_, _, _, _, _, rfl, (I0), (kp f0), (kp f1), (kp f2), (kp f3), (fun _ => rfl)⟩
  case hdone =>
    rintro L ac ww hall ⟨t19, t20, t21, t22, t23, rfl, I0, f0, f1, f2, f3, f4⟩
    have e0 := f0 (hall 0 (by decide))
    have e1 := f1 (hall 1 (by decide))
    have e2 := f2 (hall 2 (by decide))
    have e3 := f3 (hall 3 (by decide))
    have e4 := f4 (hall 4 (by decide))
    clear f0 f1 f2 f3 f4
    subst e4
    replace low := low.trans (I0.mono low.size)
    replace bx := bx.keep I0 hbl
    replace lx := lx.keep I0 hgl
    replace hsr := hsr.up I0
    replace hxs := hxs.up I0
    replace hxm := hxm.up I0
    replace bb := bb.trans (I0.mono bb.size)
    clear I0 e0 e1 e2 e3 hall hbl hgl
    have hbl := bx.lt
    have hgl := lx.lt
    have x0 : ww.cell? ⟨b, 0, none⟩ = some (.slice A nn c) := bx.cell 0
    have x1 : ww.cell? ⟨b, 1, none⟩ = some (.slice R m d) := bx.cell 1
    go_wp2_with fail
    refine (mHeapValid_any _ _ _ _ _ _ h _ hsr (by omega) (by omega)).mono ?_
    cases hv : Hps.validH h
    · rintro e w6 ⟨rfl, b6⟩
      replace bb := bb.trans (b6.mono bb.size)
      clear hv x0 x1 b6
      go_wp2_with fail
      refine (alive_any _).mono ?_
      rintro e w7 ⟨rfl, b7⟩
      have bb7 := bb.trans (b7.mono bb.size)
      go_wp2_with fail
      go_ret
      exact ⟨rfl, bb7⟩
    have HXE := Lib.hid (show X = ⟨h, Hps.reachH h, 0⟩ by rw [← HX0.out, Hps.startLz, if_pos hv])
    have HOK := Lib.hid (show Hps.okLz X by rw [← HX0.out]; exact Hps.start_ok hv)
    have HFR := Lib.hid (show Hps.Front X by rw [← HX0.out]; exact Hps.start_front hv)
    have HCN := Lib.hid (show (X.ms.count true : Int) = (Hps.usedH h).2 by rw [← HX0.out]; exact Hps.start_count hv)
    have HLN := Lib.hid (show X.ms.length = nn by rw [HOK.out.2.1, HXE.out]; exact HLC.out)
    have HSV := Lib.hid (show Hps.sameV X.s h = true by rw [HXE.out]; exact Hps.sameV_refl hv)
    have HV := Lib.hid hv
    clear hv
    rintro e w6 ⟨rfl, b6⟩
    replace lx := lx.keep b6 hgl
    replace hxs := hxs.up b6
    replace hxm := hxm.up b6
    replace low := low.trans (b6.mono low.size)
    clear b6 x0 x1 hbl hgl bx hsr bb
    have hsr := SR2.out.up low
    have bx := BX2.out.keep low BX2.out.lt
    have x0 : w6.cell? ⟨b, 0, none⟩ = some (.slice A nn c) := bx.cell 0
    have x1 : w6.cell? ⟨b, 1, none⟩ = some (.slice R m d) := bx.cell 1
    go_wp2_with fail
    refine (usedCells_any _ _ _ _ _ _ h _ hsr (by omega) (by omega) hnc hmd).mono ?_
    rintro e w7 ⟨rfl, b7⟩
    obtain ⟨u, hu⟩ : ∃ u, (Hps.usedH h).1 = u := ⟨_, rfl⟩
    obtain ⟨k0, hk0⟩ : ∃ k0, X.ms.count true = k0 := ⟨_, rfl⟩
    rw [hu, ← HCN.out, hk0]
    have HK0 := Lib.hid hk0
    have hk0n : k0 ≤ nn := by rw [← hk0, ← HLN.out]; exact List.count_le_length
    replace lx := lx.keep b7 lx.lt
    replace hxs := hxs.up b7
    replace hxm := hxm.up b7
    replace low := low.trans (b7.mono low.size)
    have HX := Lib.hid (show ∃ (l : Lz) (A2 : Option Addr) (n2 c2 : Nat) (R2 : Option Addr) (m2 d2 : Nat) (D2 : Option Addr) (q2 e2 : Nat) (i2 : Int), Rw w7 g 30 #[.slice A2 n2 c2, .slice R2 m2 d2, .slice D2 q2 e2, .int .i64 i2] ∧ HS w7 w7.heap.size A2 n2 R2 m2 l.s ∧ OS w7 w7.heap.size D2 q2 l.ms ∧ n2 ≤ c2 ∧ m2 ≤ d2 ∧ Hps.okLz l ∧ Hps.Front l ∧ l.ms.count true = k0 ∧ l.ms.length = nn ∧ Hps.sameV l.s h = true ∧ l.i = i2 from ⟨X, A1, n1, c1, R1, m1, d1, D1, q1, e1, i1, lx, hxs, hxm, hc1, hd1, HOK.out, HFR.out, HK0.out, HLN.out, HSV.out, HI1.out⟩)
    clear b7 x0 x1 hsr bx hu hk0 lx hxs hxm
    go_wp2_with fail
    go_loopw [7] (fun v wr => ∃ k : Nat, k ≤ nn ∧ v = .int .i64 k ∧ Below w2.heap.size w2 wr ∧ Hid (∃ (l : Lz) (A2 : Option Addr) (n2 c2 : Nat) (R2 : Option Addr) (m2 d2 : Nat) (D2 : Option Addr) (q2 e2 : Nat) (i2 : Int), Rw wr g 30 #[.slice A2 n2 c2, .slice R2 m2 d2, .slice D2 q2 e2, .int .i64 i2] ∧ HS wr wr.heap.size A2 n2 R2 m2 l.s ∧ OS wr wr.heap.size D2 q2 l.ms ∧ n2 ≤ c2 ∧ m2 ≤ d2 ∧ Hps.okLz l ∧ Hps.Front l ∧ l.ms.count true = k ∧ l.ms.length = nn ∧ Hps.sameV l.s h = true ∧ l.i = i2)) (fun v _ => nn - (intOf v).toNat)
    case atStart => exact ⟨k0, hk0n, rfl, low, HX⟩
    case round =>
      clear low HX
      obtain ⟨k, hkn, rfl, low, HX⟩ := hrel
      obtain ⟨l, A2, n2, c2, R2, m2, d2, D2, q2, e2, i2, lx, hxs, hxm, hc2, hd2, ok, hfr, hcn, hln, hsv, hi2⟩ := HX.out
      clear HX
      have hsr := SR2.out.up low
      have bx := BX2.out.keep low BX2.out.lt
      have hgl := lx.lt
      obtain ⟨hv40, hv4, -⟩ := Hps.valid_small ok.1
      have hn2 : n2 ≤ 40 := by rw [← hxs.cells.1]; exact hv40
      have hm2 : m2 ≤ 4 := by rw [← hxs.roots.1, hv4]; omega
      have hq2 : q2 ≤ 41 := by rw [← hxm.1, hln]; exact hn41
      have HLE := Lib.hid (show (⟨l.s, l.ms, i2⟩ : Lz) = l by rw [← hi2])
      have OK := Lib.hid ok
      have HFR2 := Lib.hid hfr
      have HCN2 := Lib.hid hcn
      have HLN2 := Lib.hid hln
      have HSV2 := Lib.hid hsv
      clear ok hfr hcn hln hsv hi2 hv40 hv4
      by_cases hlt : k < nn
      · have hlt' : (k : Int) < nn := by omega
        obtain ⟨kk, he, hok3, hfr3, hcn3, hln3, hsv3⟩ := Hps.take_more OK.out HFR2.out (by rw [HCN2.out, HLN2.out]; exact hlt)
        have HE1 := Lib.hid (show (Hps.takeLz l).1 = Hps.tookLz l kk by rw [he])
        have HE2 := Lib.hid (show (Hps.takeLz l).2 = (kk : Int) by rw [he])
        obtain ⟨Y, hY⟩ : ∃ Y, Hps.tookLz l kk = Y := ⟨_, rfl⟩
        rw [hY] at hok3 hfr3 hcn3 hln3 hsv3 HE1
        rw [HCN2.out] at hcn3
        rw [HLN2.out] at hln3
        have HG := Lib.hid (show Hps.okLz Y ∧ Hps.Front Y ∧ Y.ms.count true = k + 1 ∧ Y.ms.length = nn ∧ Hps.sameV Y.s h = true from ⟨hok3, hfr3, hcn3, hln3, Hps.sameV_trans hsv3 HSV2.out⟩)
        have hkk : ¬ (kk : Int) < 0 := by omega
        clear he hok3 hfr3 hcn3 hln3 hsv3 hY
        have x0 : wr.cell? ⟨b, 0, none⟩ = some (.slice A nn c) := bx.cell 0
        have y0 : wr.cell? ⟨g, 0, none⟩ = some (.slice A2 n2 c2) := lx.cell 0
        have y1 : wr.cell? ⟨g, 1, none⟩ = some (.slice R2 m2 d2) := lx.cell 1
        have y2 : wr.cell? ⟨g, 2, none⟩ = some (.slice D2 q2 e2) := lx.cell 2
        have y3 : wr.cell? ⟨g, 3, none⟩ = some (.int .i64 i2) := lx.cell 3
        go_wp2_with fail
        refine (lazyTake_any _ _ _ _ _ _ _ _ _ i2 l.s l.ms _ hxs hxm (by omega) (by omega) (by omega) hc2 hd2).mono ?_
        rw [HLE.out, HE1.out, HE2.out]
        rintro e w8 ⟨vc, vr, vm, rfl, ⟨rvs, ow⟩, b8⟩
        obtain ⟨A3, c3, R3, d3, D3, e3, rfl, rfl, rfl, hc3, hd3⟩ := ow.slices
        obtain ⟨n3, hn3⟩ : ∃ n3, Y.s.cs.length = n3 := ⟨_, rfl⟩
        obtain ⟨m3, hm3⟩ : ∃ m3, Y.s.rt.length = m3 := ⟨_, rfl⟩
        obtain ⟨q3, hq3⟩ : ∃ q3, Y.ms.length = q3 := ⟨_, rfl⟩
        obtain ⟨i3, hi3⟩ : ∃ i3, Y.i = i3 := ⟨_, rfl⟩
        rw [hn3] at ow hc3
        rw [hm3] at ow hd3
        rw [hq3] at ow
        rw [hn3, hm3, hq3, hi3]
        have HI3 := Lib.hid hi3
        clear x0 y0 y1 y2 y3 hn3 hm3 hq3 hi3
        have bD : Below w8.heap.size w8 (w8.alloc (.cells #[.slice A3 n3 c3, .slice R3 m3 d3, .slice D3 q3 e3, .int .i64 i3] 30)) := (Below.refl _ _).alloc (Nat.le_refl _) _
        have nx := Rw.new w8 30 #[.slice A3 n3 c3, .slice R3 m3 d3, .slice D3 q3 e3, .int .i64 i3]
        have b9 := b8.trans (bD.mono b8.size)
        have ow2 := ow.below bD (Nat.le_refl _)
        replace lx := lx.keep b9 hgl
        replace low := low.trans (b9.mono low.size)
        have hs8 := b8.size
        clear bD b9 b8 ow hsr bx hxs hxm
        go_upto_region 14 with fail
        generalize w8.alloc (.cells #[.slice A3 n3 c3, .slice R3 m3 d3, .slice D3 q3 e3, .int .i64 i3] 30) = w9 at lx low nx ow2 ⊢
        have hg9 : g < w8.heap.size := by omega
        generalize w8.heap.size = g9 at nx hg9 ⊢
        have ap := ow2.apart_below hgl
        have oF := ((((ow2.put ap 0 (.slice A3 n3 c3)).put ap 1 (.slice R3 m3 d3)).put ap 2 (.slice D3 q3 e3)).put ap 3 (.int .i64 i3))
        have lF := (((lx.put 0 (.slice A3 n3 c3)).put 1 (.slice R3 m3 d3)).put 2 (.slice D3 q3 e3)).put 3 (.int .i64 i3)
        have wF := (((low.setCell (p := ⟨g, 0, none⟩) hg0 (.slice A3 n3 c3)).setCell (p := ⟨g, 1, none⟩) hg0 (.slice R3 m3 d3)).setCell (p := ⟨g, 2, none⟩) hg0 (.slice D3 q3 e3)).setCell (p := ⟨g, 3, none⟩) hg0 (.int .i64 i3)
        have HX := Lib.hid (show ∃ (l : Lz) (A2 : Option Addr) (n2 c2 : Nat) (R2 : Option Addr) (m2 d2 : Nat) (D2 : Option Addr) (q2 e2 : Nat) (i2 : Int), Rw ((((w9.setCell ⟨g, 0, none⟩ (.slice A3 n3 c3)).setCell ⟨g, 1, none⟩ (.slice R3 m3 d3)).setCell ⟨g, 2, none⟩ (.slice D3 q3 e3)).setCell ⟨g, 3, none⟩ (.int .i64 i3)) g 30 #[.slice A2 n2 c2, .slice R2 m2 d2, .slice D2 q2 e2, .int .i64 i2] ∧ HS ((((w9.setCell ⟨g, 0, none⟩ (.slice A3 n3 c3)).setCell ⟨g, 1, none⟩ (.slice R3 m3 d3)).setCell ⟨g, 2, none⟩ (.slice D3 q3 e3)).setCell ⟨g, 3, none⟩ (.int .i64 i3)) ((((w9.setCell ⟨g, 0, none⟩ (.slice A3 n3 c3)).setCell ⟨g, 1, none⟩ (.slice R3 m3 d3)).setCell ⟨g, 2, none⟩ (.slice D3 q3 e3)).setCell ⟨g, 3, none⟩ (.int .i64 i3)).heap.size A2 n2 R2 m2 l.s ∧ OS ((((w9.setCell ⟨g, 0, none⟩ (.slice A3 n3 c3)).setCell ⟨g, 1, none⟩ (.slice R3 m3 d3)).setCell ⟨g, 2, none⟩ (.slice D3 q3 e3)).setCell ⟨g, 3, none⟩ (.int .i64 i3)) ((((w9.setCell ⟨g, 0, none⟩ (.slice A3 n3 c3)).setCell ⟨g, 1, none⟩ (.slice R3 m3 d3)).setCell ⟨g, 2, none⟩ (.slice D3 q3 e3)).setCell ⟨g, 3, none⟩ (.int .i64 i3)).heap.size D2 q2 l.ms ∧ n2 ≤ c2 ∧ m2 ≤ d2 ∧ Hps.okLz l ∧ Hps.Front l ∧ l.ms.count true = k + 1 ∧ l.ms.length = nn ∧ Hps.sameV l.s h = true ∧ l.i = i2 from ⟨Y, A3, n3, c3, R3, m3, d3, D3, q3, e3, i3, by simpa using lF, oF.heap.reads, oF.mks.reads, hc3, hd3, HG.out.1, HG.out.2.1, HG.out.2.2.1, HG.out.2.2.2.1, HG.out.2.2.2.2, HI3.out⟩)
        clear oF lF ap ow2 hc3 hd3
        have z0 : w9.cell? ⟨g9, 0, none⟩ = some (.slice A3 n3 c3) := nx.cell 0
        have y0 : w9.cell? ⟨g, 0, none⟩ = some (.slice A2 n2 c2) := lx.cell 0
        have f0 : w9.frozen? ⟨g, 0, none⟩ = false := lx.frozen 0
        have z1 : w9.cell? ⟨g9, 1, none⟩ = some (.slice R3 m3 d3) := nx.cell 1
        have y1 : w9.cell? ⟨g, 1, none⟩ = some (.slice R2 m2 d2) := lx.cell 1
        have f1 : w9.frozen? ⟨g, 1, none⟩ = false := lx.frozen 1
        have z2 : w9.cell? ⟨g9, 2, none⟩ = some (.slice D3 q3 e3) := nx.cell 2
        have y2 : w9.cell? ⟨g, 2, none⟩ = some (.slice D2 q2 e2) := lx.cell 2
        have f2 : w9.frozen? ⟨g, 2, none⟩ = false := lx.frozen 2
        have z3 : w9.cell? ⟨g9, 3, none⟩ = some (.int .i64 i3) := nx.cell 3
        have y3 : w9.cell? ⟨g, 3, none⟩ = some (.int .i64 i2) := lx.cell 3
        have f3 : w9.frozen? ⟨g, 3, none⟩ = false := lx.frozen 3
        go_wp2_with fail
        go_roundw
        case rel => exact ⟨k + 1, by omega, by go_num, wF, HX⟩
        case measure => simp [intOf]; omega
      · obtain rfl : k = nn := by omega
        have HE2 := Lib.hid (show (Hps.takeLz l).2 = -1 from Hps.take_none OK.out (by rw [HCN2.out, HLN2.out]))
        obtain ⟨Y, hY⟩ : ∃ Y, (Hps.takeLz l).1 = Y := ⟨_, rfl⟩
        have x0 : wr.cell? ⟨b, 0, none⟩ = some (.slice A k c) := bx.cell 0
        have y0 : wr.cell? ⟨g, 0, none⟩ = some (.slice A2 n2 c2) := lx.cell 0
        have y1 : wr.cell? ⟨g, 1, none⟩ = some (.slice R2 m2 d2) := lx.cell 1
        have y2 : wr.cell? ⟨g, 2, none⟩ = some (.slice D2 q2 e2) := lx.cell 2
        have y3 : wr.cell? ⟨g, 3, none⟩ = some (.int .i64 i2) := lx.cell 3
        have HY := Lib.hid hY
        clear hY
        go_wp2_with fail
        refine (lazyTake_any _ _ _ _ _ _ _ _ _ i2 l.s l.ms _ hxs hxm (by omega) (by omega) (by omega) hc2 hd2).mono ?_
        rw [HLE.out, HE2.out, HY.out]
        rintro e w8 ⟨vc, vr, vm, rfl, ow, b8⟩
        obtain ⟨A3, n3, c3, R3, m3, d3, D3, q3, e3, rfl, rfl, rfl⟩ := ow.slices
        have b9 := b8.alloc b8.size (.cells #[.slice A3 n3 c3, .slice R3 m3 d3, .slice D3 q3 e3, .int .i64 Y.i] 30)
        replace lx := lx.keep b9 hgl
        replace bx := bx.keep b9 bx.lt
        replace low := low.trans (b9.mono low.size)
        replace hxs := hxs.up b9
        replace hsr := hsr.up b9
        clear b9 b8 ow x0 y0 y1 y2 y3 hxm
        go_upto_region 18 with fail
        generalize w8.alloc (.cells #[.slice A3 n3 c3, .slice R3 m3 d3, .slice D3 q3 e3, .int .i64 Y.i] 30) = w9 at lx bx low hxs hsr ⊢
        have x0 : w9.cell? ⟨b, 0, none⟩ = some (.slice A k c) := bx.cell 0
        have x1 : w9.cell? ⟨b, 1, none⟩ = some (.slice R m d) := bx.cell 1
        have y0 : w9.cell? ⟨g, 0, none⟩ = some (.slice A2 n2 c2) := lx.cell 0
        have y1 : w9.cell? ⟨g, 1, none⟩ = some (.slice R2 m2 d2) := lx.cell 1
        go_wp2_with fail
        refine (sameView_any _ _ _ _ _ _ _ _ _ _ _ _ l.s h _ hxs hsr (by omega) (by omega) hc2 hd2 (by omega) (by omega) hnc hmd).mono ?_
        rw [HSV2.out]
        rintro e w10 ⟨rfl, b10⟩
        have bbf := BB2.out.trans ((low.trans (b10.mono low.size)).mono BB2.out.size)
        clear x0 x1 y0 y1 b10 low
        go_wp2_with fail
        go_ret
        exact ⟨rfl, bbf⟩
end Go.Proofs.Ytakdjiojahlnmaa
