/- For all lists of bytes the law FnSameView returns true (P1). No conditions. -/
import Derived.Test.YtmjejcfifkbkoaaXc
import Derived.Test.YtmjejcfifkbkoaaMk
import Derived.Test.YtmjejcfifkbkoaaGx
import Derived.Test.YtmjejcfifkbkoaaGc
namespace Go.Proofs.Ytmjejcfifkbkoaa
open Go.RowKit
set_option maxRecDepth 100000

namespace Hps
theorem sameV_self {h : Hp} (hv : validH h = true) : sameV h h = true := sameV_iff.2 ⟨hv, hv, rfl⟩
end Hps

set_option maxHeartbeats 8000000 in
theorem sameViewLaw_walk (A B : Option Addr) (n c n' c' : Nat) (w : World) (h : Bytes w w.heap.size A n) (h' : Bytes w w.heap.size B n') (hc : n ≤ c) (hn : n ≤ 9223372036854775807) (hc' : n' ≤ c') (hn' : n' ≤ 9223372036854775807) :
    Calls Try.prog 4 #[.slice A n c, .slice B n' c'] w fun e w' => e = .returned (.bool true) ∧ Below w.heap.size w w' := by
  by_cases hs : n ≤ 1048576
  case neg =>
    have hs' : (1048576 : Int) < (n : Int) := by omega
    go_enter Try.func4, Try.ntmps4
    go_wp2
    go_ret
    exact ⟨rfl, Below.refl _ _⟩
  have hs1 : decide ((1048576 : Int) < (n : Int)) = false := by simp; omega
  by_cases hs2 : n' ≤ 1048576
  case neg =>
    have hs2' : decide ((1048576 : Int) < (n' : Int)) = true := by simp; omega
    go_enter Try.func4, Try.ntmps4
    go_wp2
    go_ret
    exact ⟨rfl, Below.refl _ _⟩
  have hs2' : decide ((1048576 : Int) < (n' : Int)) = false := by simp; omega
  go_enter Try.func4, Try.ntmps4
  go_wp2_with fail
  refine (drawSameView_any _ _ _ _ h hc hn).mono ?_
  rintro e w1 ⟨A1, na, c1, R1, ma, d1, A2, nb, c2, R2, mb, d2, a, b, rfl, hc1, hd1, hc2, hd2, hA, hB, hna, hma, hnb, hmb, b1⟩
  have bA : Below w1.heap.size w1 ((w1.alloc (.cells #[.slice A1 na c1, .slice R1 ma d1] 28)).alloc (.cells #[.slice A2 nb c2, .slice R2 mb d2] 28)) := ((Below.refl _ _).alloc (Nat.le_refl _) _).alloc (by simp) _
  have xa := (Rw.new w1 28 #[.slice A1 na c1, .slice R1 ma d1]).alloc (.cells #[.slice A2 nb c2, .slice R2 mb d2] 28)
  have xb := Rw.new (w1.alloc (.cells #[.slice A1 na c1, .slice R1 ma d1] 28)) 28 #[.slice A2 nb c2, .slice R2 mb d2]
  rw [World.size_alloc] at xb
  have ha := hA.up bA
  have hb := hB.up bA
  have bb := b1.trans (bA.mono b1.size)
  have hm := (h'.keep (fun p hp => bb.cell hp)).more bb.size
  obtain ⟨v, hv⟩ : ∃ v, Hps.sameV a b = v := ⟨_, rfl⟩
  have HV := Lib.hid hv
  have HV2 := Lib.hid (show Hps.sameV b a = v by rw [Hps.sameV_comm]; exact hv)
  have hvv : (v != v) = false := by cases v <;> rfl
  clear hv hA hB bA b1
  go_upto_region 4 with fail
  generalize (w1.alloc (.cells #[.slice A1 na c1, .slice R1 ma d1] 28)).alloc (.cells #[.slice A2 nb c2, .slice R2 mb d2] 28) = w2 at xa xb ha hb bb hm ⊢
  generalize w1.heap.size = ga at xa xb ⊢
  have y0 : w2.cell? ⟨ga, 0, none⟩ = some (.slice A1 na c1) := xa.cell 0
  have y1 : w2.cell? ⟨ga, 1, none⟩ = some (.slice R1 ma d1) := xa.cell 1
  have y2 : w2.cell? ⟨ga + 1, 0, none⟩ = some (.slice A2 nb c2) := xb.cell 0
  have y3 : w2.cell? ⟨ga + 1, 1, none⟩ = some (.slice R2 mb d2) := xb.cell 1
  go_wp2_with fail
  refine (sameView_any _ _ _ _ _ _ _ _ _ _ _ _ a b _ ha hb (by omega) (by omega) hc1 hd1 (by omega) (by omega) hc2 hd2).mono ?_
  rw [HV.out]
  rintro e w3 ⟨rfl, b3⟩
  replace xa := xa.keep b3 xa.lt
  replace xb := xb.keep b3 xb.lt
  replace ha := ha.up b3
  replace hb := hb.up b3
  replace bb := bb.trans (b3.mono bb.size)
  clear y0 y1 y2 y3 b3
  have y0 : w3.cell? ⟨ga, 0, none⟩ = some (.slice A1 na c1) := xa.cell 0
  have y1 : w3.cell? ⟨ga, 1, none⟩ = some (.slice R1 ma d1) := xa.cell 1
  have y2 : w3.cell? ⟨ga + 1, 0, none⟩ = some (.slice A2 nb c2) := xb.cell 0
  have y3 : w3.cell? ⟨ga + 1, 1, none⟩ = some (.slice R2 mb d2) := xb.cell 1
  go_wp2_with fail
  refine (mSameView_any _ _ _ _ _ _ _ _ _ _ _ _ a b _ ha hb (by omega) (by omega) (by omega) (by omega)).mono ?_
  rw [HV.out]
  rintro e w4 ⟨rfl, b4⟩
  replace xa := xa.keep b4 xa.lt
  replace xb := xb.keep b4 xb.lt
  replace ha := ha.up b4
  replace hb := hb.up b4
  replace bb := bb.trans (b4.mono bb.size)
  clear y0 y1 y2 y3 b4
  have y0 : w4.cell? ⟨ga, 0, none⟩ = some (.slice A1 na c1) := xa.cell 0
  have y1 : w4.cell? ⟨ga, 1, none⟩ = some (.slice R1 ma d1) := xa.cell 1
  have y2 : w4.cell? ⟨ga + 1, 0, none⟩ = some (.slice A2 nb c2) := xb.cell 0
  have y3 : w4.cell? ⟨ga + 1, 1, none⟩ = some (.slice R2 mb d2) := xb.cell 1
  go_wp2_with fail
  refine (sameView_any _ _ _ _ _ _ _ _ _ _ _ _ b a _ hb ha (by omega) (by omega) hc2 hd2 (by omega) (by omega) hc1 hd1).mono ?_
  rw [HV2.out]
  rintro e w5 ⟨rfl, b5⟩
  replace xa := xa.keep b5 xa.lt
  replace xb := xb.keep b5 xb.lt
  replace ha := ha.up b5
  replace hb := hb.up b5
  replace bb := bb.trans (b5.mono bb.size)
  clear y0 y1 y2 y3 b5
  have y0 : w5.cell? ⟨ga, 0, none⟩ = some (.slice A1 na c1) := xa.cell 0
  have y1 : w5.cell? ⟨ga, 1, none⟩ = some (.slice R1 ma d1) := xa.cell 1
  go_wp2_with fail
  refine (mHeapValid_any _ _ _ _ _ _ a _ ha (by omega) (by omega)).mono ?_
  cases hva : Hps.validH a
  · have hv0 : v = false := by
      rw [← HV.out]
      simp [Hps.sameV, hva]
    subst hv0
    rintro e w6 ⟨rfl, b6⟩
    have bb6 := bb.trans (b6.mono bb.size)
    clear HV HV2
    go_wp2_with fail
    refine (alive_any _).mono ?_
    rintro e w7 ⟨rfl, b7⟩
    have bb7 := bb6.trans (b7.mono bb6.size)
    go_wp2_with fail
    go_ret
    exact ⟨rfl, bb7⟩
  rintro e w6 ⟨rfl, b6⟩
  have HVA := Lib.hid hva
  replace xa := xa.keep b6 xa.lt
  replace xb := xb.keep b6 xb.lt
  replace ha := ha.up b6
  replace hb := hb.up b6
  replace bb := bb.trans (b6.mono bb.size)
  clear y0 y1 b6 hva
  have y2 : w6.cell? ⟨ga + 1, 0, none⟩ = some (.slice A2 nb c2) := xb.cell 0
  have y3 : w6.cell? ⟨ga + 1, 1, none⟩ = some (.slice R2 mb d2) := xb.cell 1
  go_wp2_with fail
  refine (mHeapValid_any _ _ _ _ _ _ b _ hb (by omega) (by omega)).mono ?_
  cases hvb : Hps.validH b
  · have hv0 : v = false := by
      rw [← HV2.out]
      simp [Hps.sameV, hvb]
    subst hv0
    rintro e w7 ⟨rfl, b7⟩
    have bb6 := bb.trans (b7.mono bb.size)
    clear HV HV2
    go_wp2_with fail
    refine (alive_any _).mono ?_
    rintro e w7 ⟨rfl, b7⟩
    have bb7 := bb6.trans (b7.mono bb6.size)
    go_wp2_with fail
    go_ret
    exact ⟨rfl, bb7⟩
  rintro e w7 ⟨rfl, b7⟩
  replace xa := xa.keep b7 xa.lt
  replace xb := xb.keep b7 xb.lt
  replace ha := ha.up b7
  replace hb := hb.up b7
  replace bb := bb.trans (b7.mono bb.size)
  have hm7 := (h'.keep (fun p hp => bb.cell hp)).more bb.size
  clear y2 y3 b7 hvb hm
  go_wp2_with fail
  refine (drawCommandValid_any _ _ _ _ hm7 hc' hn').mono ?_
  rintro e w8 ⟨o, rfl, -, b8⟩
  have bA : Below w8.heap.size w8 (w8.alloc (.cells #[.int .i64 o.op, .int .i64 o.a, .int .i64 o.b, .int .i64 o.c] 36)) := (Below.refl _ _).alloc (Nat.le_refl _) _
  have xo := Rw.new w8 36 #[.int .i64 o.op, .int .i64 o.a, .int .i64 o.b, .int .i64 o.c]
  replace xa := (xa.keep b8 xa.lt).alloc (.cells #[.int .i64 o.op, .int .i64 o.a, .int .i64 o.b, .int .i64 o.c] 36)
  replace xb := (xb.keep b8 xb.lt).alloc (.cells #[.int .i64 o.op, .int .i64 o.a, .int .i64 o.b, .int .i64 o.c] 36)
  replace ha := (ha.up b8).up bA
  replace hb := (hb.up b8).up bA
  replace bb := (bb.trans (b8.mono bb.size)).trans (bA.mono (bb.trans (b8.mono bb.size)).size)
  clear b8 bA hm7
  go_upto_region 10 with fail
  generalize w8.alloc (.cells #[.int .i64 o.op, .int .i64 o.a, .int .i64 o.b, .int .i64 o.c] 36) = w9 at xo xa xb ha hb bb ⊢
  generalize w8.heap.size = go at xo ⊢
  have y0 : w9.cell? ⟨ga, 0, none⟩ = some (.slice A1 na c1) := xa.cell 0
  have y1 : w9.cell? ⟨ga, 1, none⟩ = some (.slice R1 ma d1) := xa.cell 1
  have HSA := Lib.hid (Hps.sameV_self HVA.out)
  cases v
  · clear HV HV2
    go_wp2_with fail
    refine (sameView_any _ _ _ _ _ _ _ _ _ _ _ _ a a _ ha ha (by omega) (by omega) hc1 hd1 (by omega) (by omega) hc1 hd1).mono ?_
    rw [HSA.out]
    rintro e w10 ⟨rfl, b10⟩
    have bb10 := bb.trans (b10.mono bb.size)
    go_wp2_with fail
    go_ret
    exact ⟨rfl, bb10⟩
  have z0 : w9.cell? ⟨go, 0, none⟩ = some (.int .i64 o.op) := xo.cell 0
  have z1 : w9.cell? ⟨go, 1, none⟩ = some (.int .i64 o.a) := xo.cell 1
  have z2 : w9.cell? ⟨go, 2, none⟩ = some (.int .i64 o.b) := xo.cell 2
  have z3 : w9.cell? ⟨go, 3, none⟩ = some (.int .i64 o.c) := xo.cell 3
  go_wp2_with fail
  refine (mCommandValid_any o _).mono ?_
  cases hok : Hps.okCm o
  · rintro e w10 ⟨rfl, b10⟩
    replace xa := xa.keep b10 xa.lt
    replace ha := ha.up b10
    replace bb := bb.trans (b10.mono bb.size)
    clear y0 y1 z0 z1 z2 z3 hok HV HV2
    have y0 : w10.cell? ⟨ga, 0, none⟩ = some (.slice A1 na c1) := xa.cell 0
    have y1 : w10.cell? ⟨ga, 1, none⟩ = some (.slice R1 ma d1) := xa.cell 1
    go_wp2_with fail
    refine (sameView_any _ _ _ _ _ _ _ _ _ _ _ _ a a _ ha ha (by omega) (by omega) hc1 hd1 (by omega) (by omega) hc1 hd1).mono ?_
    rw [HSA.out]
    rintro e w11 ⟨rfl, b11⟩
    have bb10 := bb.trans (b11.mono bb.size)
    go_wp2_with fail
    go_ret
    exact ⟨rfl, bb10⟩
  rintro e w10 ⟨rfl, b10⟩
  have HOK := Lib.hid hok
  replace xa := xa.keep b10 xa.lt
  replace xb := xb.keep b10 xb.lt
  replace xo := xo.keep b10 xo.lt
  replace ha := ha.up b10
  replace hb := hb.up b10
  replace bb := bb.trans (b10.mono bb.size)
  clear y0 y1 z0 z1 z2 z3 hok b10
  have y0 : w10.cell? ⟨ga, 0, none⟩ = some (.slice A1 na c1) := xa.cell 0
  have y1 : w10.cell? ⟨ga, 1, none⟩ = some (.slice R1 ma d1) := xa.cell 1
  have y2 : w10.cell? ⟨ga + 1, 0, none⟩ = some (.slice A2 nb c2) := xb.cell 0
  have z0 : w10.cell? ⟨go, 0, none⟩ = some (.int .i64 o.op) := xo.cell 0
  have z1 : w10.cell? ⟨go, 1, none⟩ = some (.int .i64 o.a) := xo.cell 1
  have z2 : w10.cell? ⟨go, 2, none⟩ = some (.int .i64 o.b) := xo.cell 2
  have z3 : w10.cell? ⟨go, 3, none⟩ = some (.int .i64 o.c) := xo.cell 3
  by_cases h40 : na = 40
  · subst h40
    go_wp2_with fail
    refine (sameView_any _ _ _ _ _ _ _ _ _ _ _ _ a a _ ha ha (by omega) (by omega) hc1 hd1 (by omega) (by omega) hc1 hd1).mono ?_
    rw [HSA.out]
    rintro e w11 ⟨rfl, b11⟩
    have bb10 := bb.trans (b11.mono bb.size)
    go_wp2_with fail
    go_ret
    exact ⟨rfl, bb10⟩
  have h40' : ((na : Int) == 40) = false := by rw [beq_eq_false_iff_ne]; omega
  by_cases g40 : nb = 40
  · subst g40
    go_wp2_with fail
    refine (sameView_any _ _ _ _ _ _ _ _ _ _ _ _ a a _ ha ha (by omega) (by omega) hc1 hd1 (by omega) (by omega) hc1 hd1).mono ?_
    rw [HSA.out]
    rintro e w11 ⟨rfl, b11⟩
    have bb10 := bb.trans (b11.mono bb.size)
    go_wp2_with fail
    go_ret
    exact ⟨rfl, bb10⟩
  have g40' : ((nb : Int) == 40) = false := by rw [beq_eq_false_iff_ne]; omega
  have HR := Lib.hid (Hps.same_step HV.out HOK.out (by rw [ha.cells.1]; exact h40) (by rw [hb.cells.1]; exact g40))
  have fa := step_few (h := a) o
  have fb := step_few (h := b) o
  obtain ⟨a', ea⟩ : ∃ a', (Hps.stepH a o).1 = a' := ⟨_, rfl⟩
  obtain ⟨b', eb⟩ : ∃ b', (Hps.stepH b o).1 = b' := ⟨_, rfl⟩
  have EA := Lib.hid ea
  have EB := Lib.hid eb
  rw [ea] at fa
  rw [eb] at fb
  rw [ea, eb] at HR
  clear ea eb h40 g40
  go_wp2_with fail
  refine (stepHeap_any _ _ _ _ _ _ a o _ ha (by omega) (by omega) hc1 hd1).mono ?_
  rw [EA.out]
  rintro e w11 ⟨vc, vr, rfl, ⟨rvs, ow⟩, b11⟩
  obtain ⟨A3, n3, c3, R3, m3, d3, rfl, rfl⟩ := OwnH.slices ⟨rvs, ow⟩
  obtain ⟨u1, u2, k1, k2⟩ := ow.caps
  have hn3 : n3 ≤ 41 := by have := fa.1; omega
  have hm3 : m3 ≤ 4 := by have := fa.2; omega
  have bA : Below w11.heap.size w11 (w11.alloc (.cells #[.slice A3 n3 c3, .slice R3 m3 d3] 28)) := (Below.refl _ _).alloc (Nat.le_refl _) _
  have hp := ow.reads.up bA
  have xp := Rw.new w11 28 #[.slice A3 n3 c3, .slice R3 m3 d3]
  replace xb := (xb.keep b11 xb.lt).alloc (.cells #[.slice A3 n3 c3, .slice R3 m3 d3] 28)
  replace xo := (xo.keep b11 xo.lt).alloc (.cells #[.slice A3 n3 c3, .slice R3 m3 d3] 28)
  replace hb := (hb.up b11).up bA
  replace bb := (bb.trans (b11.mono bb.size)).trans (bA.mono (bb.trans (b11.mono bb.size)).size)
  clear y0 y1 y2 z0 z1 z2 z3 b11 ow bA xa ha u1 u2
  go_upto_region 13 with fail
  generalize w11.alloc (.cells #[.slice A3 n3 c3, .slice R3 m3 d3] 28) = w12 at hp xp xb xo hb bb ⊢
  generalize w11.heap.size = gp at xp ⊢
  have y2 : w12.cell? ⟨ga + 1, 0, none⟩ = some (.slice A2 nb c2) := xb.cell 0
  have y3 : w12.cell? ⟨ga + 1, 1, none⟩ = some (.slice R2 mb d2) := xb.cell 1
  have z0 : w12.cell? ⟨go, 0, none⟩ = some (.int .i64 o.op) := xo.cell 0
  have z1 : w12.cell? ⟨go, 1, none⟩ = some (.int .i64 o.a) := xo.cell 1
  have z2 : w12.cell? ⟨go, 2, none⟩ = some (.int .i64 o.b) := xo.cell 2
  have z3 : w12.cell? ⟨go, 3, none⟩ = some (.int .i64 o.c) := xo.cell 3
  go_wp2_with fail
  refine (stepHeap_any _ _ _ _ _ _ b o _ hb (by omega) (by omega) hc2 hd2).mono ?_
  rw [EB.out]
  rintro e w13 ⟨vc, vr, rfl, ⟨rvs, ow⟩, b13⟩
  obtain ⟨A4, n4, c4, R4, m4, d4, rfl, rfl⟩ := OwnH.slices ⟨rvs, ow⟩
  obtain ⟨u1, u2, k3, k4⟩ := ow.caps
  have hn4 : n4 ≤ 41 := by have := fb.1; omega
  have hm4 : m4 ≤ 4 := by have := fb.2; omega
  have bA : Below w13.heap.size w13 (w13.alloc (.cells #[.slice A4 n4 c4, .slice R4 m4 d4] 28)) := (Below.refl _ _).alloc (Nat.le_refl _) _
  have hq := ow.reads.up bA
  have xq := Rw.new w13 28 #[.slice A4 n4 c4, .slice R4 m4 d4]
  replace xp := (xp.keep b13 xp.lt).alloc (.cells #[.slice A4 n4 c4, .slice R4 m4 d4] 28)
  replace hp := (hp.up b13).up bA
  replace bb := (bb.trans (b13.mono bb.size)).trans (bA.mono (bb.trans (b13.mono bb.size)).size)
  clear y2 y3 z0 z1 z2 z3 b13 ow bA xb xo hb u1 u2
  go_upto_region 14 with fail
  generalize w13.alloc (.cells #[.slice A4 n4 c4, .slice R4 m4 d4] 28) = w14 at hp xp hq xq bb ⊢
  generalize w13.heap.size = gq at xq ⊢
  have y0 : w14.cell? ⟨gp, 0, none⟩ = some (.slice A3 n3 c3) := xp.cell 0
  have y1 : w14.cell? ⟨gp, 1, none⟩ = some (.slice R3 m3 d3) := xp.cell 1
  have y2 : w14.cell? ⟨gq, 0, none⟩ = some (.slice A4 n4 c4) := xq.cell 0
  have y3 : w14.cell? ⟨gq, 1, none⟩ = some (.slice R4 m4 d4) := xq.cell 1
  go_wp2_with fail
  refine (sameView_any _ _ _ _ _ _ _ _ _ _ _ _ a' b' _ hp hq (by omega) (by omega) k1 k2 (by omega) (by omega) k3 k4).mono ?_
  rw [HR.out]
  rintro e w15 ⟨rfl, b15⟩
  have bb15 := bb.trans (b15.mono bb.size)
  go_wp2_with fail
  go_ret
  exact ⟨rfl, bb15⟩
end Go.Proofs.Ytmjejcfifkbkoaa
