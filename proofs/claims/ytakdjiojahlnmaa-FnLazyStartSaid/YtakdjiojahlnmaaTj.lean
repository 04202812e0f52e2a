/- What the program's lazy sweeper does: take, lazy. No conditions. -/
import Derived.Test.YtakdjiojahlnmaaTi
import Derived.Test.YtakdjiojahlnmaaHx
import Derived.BigRegion
namespace Go.Proofs.Ytakdjiojahlnmaa
open Go.RowKit
set_option maxRecDepth 100000

theorem Bm.word_set {ms : List Bool} {k : Nat} (hk : k < ms.length) : Bm.wordN ms true ||| 2 ^ k = Bm.wordN (ms.set k true) true := by
  refine Nat.eq_of_testBit_eq fun i => ?_
  rw [Nat.testBit_or, Nat.testBit_two_pow, Bm.wordN_bit, Bm.wordN_bit, List.getElem?_set]
  by_cases e : k = i
  · subst e
    simp [hk]
  · rw [if_neg e]
    simp [e]

set_option maxHeartbeats 4000000 in
theorem take_any (w0 w : World) (b : Nat) (vc vr : Value) (rvs : List Value) (h : Hp) (ms : List Bool) (i : Nat) (S0 : BoxW w0 w b vc vr rvs h (Bm.wordN ms true) (i : Int)) (hok : Hps.okLz ⟨h, ms, (i : Int)⟩) :
    Calls Try.prog 58 #[.pointer (some ⟨b, 0, none⟩)] w fun e w' => e = .returned (.int .i64 (Hps.takeLz ⟨h, ms, (i : Int)⟩).2) ∧ ∃ rvs', BoxW w0 w' b vc vr rvs' (Hps.takeLz ⟨h, ms, (i : Int)⟩).1.s (Bm.wordN (Hps.takeLz ⟨h, ms, (i : Int)⟩).1.ms true) (Hps.takeLz ⟨h, ms, (i : Int)⟩).1.i := by
  obtain ⟨A, c, R, d, rfl, rfl, -⟩ := S0.own.form
  obtain ⟨n, hn⟩ : ∃ n, h.cs.length = n := ⟨_, rfl⟩
  obtain ⟨m, hm⟩ : ∃ m, h.rt.length = m := ⟨_, rfl⟩
  rw [hn, hm] at S0 ⊢
  have HN := Lib.hid hn
  clear hm
  obtain ⟨h40, -, h3⟩ := Hps.valid_small hok.1
  have hl : ms.length = h.cs.length := hok.2.1
  have hi : i ≤ h.cs.length := by
    have := hok.2.2.1.2
    have e : ((⟨h, ms, (i : Int)⟩ : Lz).i) = (i : Int) := rfl
    rw [e] at this
    have e2 : ((⟨h, ms, (i : Int)⟩ : Lz).ms.length) = h.cs.length := hl
    rw [e2] at this
    omega
  have HL := Lib.hid hl
  have H40 := Lib.hid h40
  have H3 := Lib.hid h3
  have HRF := Lib.hid (Hps.valid_refs hok.1)
  have HEND := Lib.hid (fun hu => Hps.take_end (l := ⟨h, ms, (i : Int)⟩) hok hu)
  have HYES := Lib.hid (fun hu => Hps.take_yes (l := ⟨h, ms, (i : Int)⟩) hok hu)
  obtain ⟨y1, hy1⟩ : ∃ y1, (Hps.takeLz ⟨h, ms, (i : Int)⟩).1 = y1 := ⟨_, rfl⟩
  obtain ⟨y2, hy2⟩ : ∃ y2, (Hps.takeLz ⟨h, ms, (i : Int)⟩).2 = y2 := ⟨_, rfl⟩
  have HY1 := Lib.hid hy1
  have HY2 := Lib.hid hy2
  rw [hy1, hy2]
  clear hy1 hy2 hok h3 hl h40 hn
  go_enter Try.func58, Try.ntmps58
  go_wp2_with fail
  refine (next_any w0 w b _ _ rvs h ms i S0 HL.out H40.out hi).mono ?_
  rintro e w1 (⟨hu, rfl, S⟩ | ⟨hu, rfl, S⟩)
  case inr =>
    have HE := Lib.hid (HEND.out (by rw [Int.toNat_natCast]; exact hu))
    have HE1 := Lib.hid (show (⟨h, ms, (ms.length : Int)⟩ : Lz) = y1 by rw [← HY1.out, HE.out])
    have HE2 := Lib.hid (show (-1 : Int) = y2 by rw [← HY2.out, HE.out])
    clear hu
    go_wp2_with fail
    go_ret
    obtain rfl := HE1.out
    obtain rfl := HE2.out
    exact ⟨rfl, rvs, S⟩
  have HE := Lib.hid (HYES.out (by rw [Int.toNat_natCast]; exact hu))
  rw [Int.toNat_natCast] at HE
  obtain ⟨k, hk⟩ : ∃ k, Hps.unAt ms i = k := ⟨_, rfl⟩
  rw [hk] at HE hu S ⊢
  have HE1 := Lib.hid (show Hps.tookLz ⟨h, ms, (i : Int)⟩ k = y1 by rw [← HY1.out, HE.out])
  have HE2 := Lib.hid (show (k : Int) = y2 by rw [← HY2.out, HE.out])
  have hk1 : ((k : Int) == -1) = false := by rw [beq_eq_false_iff_ne]; omega
  have HU := Lib.hid hu
  have hk40 : k < 40 := by have := H40.out; have := HL.out; omega
  clear hk hu
  go_wp2_with fail
  refine (cutLost_any w0 _ b _ _ rvs h ms _ S HL.out H40.out H3.out HRF.out).mono ?_
  rintro e w2 ⟨⟨ev, rfl⟩, S2⟩
  clear S
  obtain ⟨old, hold⟩ : ∃ old, (Hps.cutL ms h.cs)[k]? = some old := ⟨_, List.getElem?_eq_getElem (by rw [Hps.cutL, Hps.cut_len, ← HL.out]; exact HU.out)⟩
  obtain ⟨gc, v, e4, -, hgc, hv, oi, y0, y1b, y2b, fz⟩ := S2.own.cell_at hold
  subst e4
  have hn : (Hps.cutL ms h.cs).length = n := by rw [Hps.cutL, Hps.cut_len]; exact HN.out
  have hkn : k < n := by
    rw [← HN.out, ← HL.out]
    exact HU.out
  have hn2 : (⟨Hps.cutL ms h.cs, h.rt⟩ : Hp).cs.length = n := hn
  have S3 := S2.took (k := k) (old := old) hn2 (show (⟨Hps.cutL ms h.cs, h.rt⟩ : Hp).cs[k]? = some old from hold)
  have hkn' : (k : Int) < n := by omega
  have f0 := fz (k * 3)
  have f1 := fz (k * 3 + 1)
  have f2 := fz (k * 3 + 2)
  have x0 : w2.cell? ⟨b, 0, none⟩ = some (.slice (some ⟨gc, 0, none⟩) n c) := S2.box.cell 0
  clear S2 hold hv oi fz hn hn2
  go_upto_region 6 with fail
  generalize ((w2.setCell ⟨gc, k * 3, none⟩ (.bool true)).setCell ⟨gc, k * 3 + 1, none⟩ (.int .i64 0)).setCell ⟨gc, k * 3 + 2, none⟩ (.slice none 0 0) = w6 at S3 ⊢
  clear f0 f1 f2 y0 y1b y2b x0 hgc
  have hM := Bm.wordN_lt ms true (by have := H40.out; have := HL.out; omega)
  have HWS := Lib.hid (Bm.word_set (ms := ms) (k := k) HU.out)
  obtain ⟨M, hMe⟩ : ∃ M, Bm.wordN ms true = M := ⟨_, rfl⟩
  rw [hMe] at S3 hM HWS
  clear hMe
  have hor := Hps.or_in hM (show k < 64 by omega)
  obtain ⟨hp1, hp2, hp3⟩ := Hps.pow_in (show k < 64 by omega)
  have x2 : w6.cell? ⟨b, 2, none⟩ = some (.int .u64 M) := S3.box.cell 2
  have fb : w6.frozen? ⟨b, 2, none⟩ = false := S3.box.frozen 2
  have S4 := S3.mark (M ||| 2 ^ k)
  go_region
  have S5 := S4.up (below_drewN (Below.refl _ _) 1)
  have S6 : BoxW w0 (w6.setCell ⟨b, 2, none⟩ (.int .u64 ((M ||| 2 ^ k : Nat) : Int))).drew b (.slice (some ⟨gc, 0, none⟩) n c) (.slice R m d) _ _ _ _ := S5
  generalize (w6.setCell ⟨b, 2, none⟩ (.int .u64 ((M ||| 2 ^ k : Nat) : Int))).drew = w7 at S6 ⊢
  rw [HWS.out] at S6
  go_wp2_with fail
  go_ret
  obtain rfl := HE1.out
  obtain rfl := HE2.out
  exact ⟨rfl, _, S6⟩

set_option maxHeartbeats 4000000 in
theorem lazy_any (w0 w : World) (b : Nat) (vc vr : Value) (rvs : List Value) (h : Hp) (V : Nat) (i : Int) (S0 : BoxW w0 w b vc vr rvs h V i) (hV : V < 18446744073709551616) (h64 : h.cs.length ≤ 64) :
    Calls Try.prog 42 #[.pointer (some ⟨b, 0, none⟩)] w fun e w' => ∃ vm, e = .returned (.agg #[vc, vr, vm, .int .i64 i]) ∧ OwnO w' w.heap.size vm ((List.range h.cs.length).map V.testBit) ∧ Below w.heap.size w w' := by
  obtain ⟨A, c, R, d, rfl, rfl, -⟩ := S0.own.form
  obtain ⟨n, hn⟩ : ∃ n, h.cs.length = n := ⟨_, rfl⟩
  obtain ⟨m, hm⟩ : ∃ m, h.rt.length = m := ⟨_, rfl⟩
  rw [hn] at S0 h64 ⊢
  rw [hm] at S0 ⊢
  obtain ⟨ll, hll⟩ : ∃ ll, (List.range n).map V.testBit = ll := ⟨_, rfl⟩
  rw [hll]
  have hln : ll.length = n := by rw [← hll]; simp
  have HLL := Lib.hid hll
  have HLN := Lib.hid hln
  have B2 : Below w.heap.size w (w.alloc (.cells #[.slice none 0 0, .slice none 0 0, .slice none 0 0, .int .i64 0] 30)) := (Below.refl _ _).alloc (Nat.le_refl _) _
  have q2 := Rw.new w 30 #[.slice none 0 0, .slice none 0 0, .slice none 0 0, .int .i64 0]
  have S2 := S0.up B2
  clear S0 hn hm hll hln
  go_enter Try.func42, Try.ntmps42
  go_upto_region 1 with fail
  generalize w.alloc (.cells #[.slice none 0 0, .slice none 0 0, .slice none 0 0, .int .i64 0] 30) = w2 at B2 q2 S2 ⊢
  obtain ⟨q, hq⟩ : ∃ q, w.heap.size = q := ⟨_, rfl⟩
  rw [hq] at B2 q2 ⊢
  have HQ := Lib.hid hq
  clear hq
  have hrl := q2.lt
  have hbl := S2.box.lt
  refine wp_region_inv (by kernel_rfl) (by kernel_rfl) (fun L ac ww => ∃ t3 t4 t5 t6 t7 t8 t9 t10 t11 t12 t13 t14 t15 t16 t17 t18 t19 t20 t21 t22 : Value, ac = { tmps := #[Value.pointer (some { block := b, off := 0 }), undef, Value.pointer (some { block := q, off := 0 }), t3, t4, t5, t6, t7, t8, t9, t10, t11, t12, t13, t14, t15, t16, t17, t18, t19, t20, t21, t22], defers := [] } ∧ (L 20 = false → Below w2.heap.size w2 ww) ∧ (L 0 = true → t3 = .pointer (some ⟨b, 0, none⟩)) ∧ (L 1 = true → t4 = .pointer (some ⟨b, 0, none⟩)) ∧ (L 2 = true → t5 = .pointer (some ⟨b, 0, none⟩)) ∧ (L 3 = true → t6 = .agg #[.slice A n c, .slice R m d]) ∧ (L 4 = true → t7 = .pointer (some ⟨b, 0, none⟩)) ∧ (L 5 = true → t8 = .pointer (some ⟨b, 0, none⟩)) ∧ (L 6 = true → t9 = .pointer (some ⟨b, 2, none⟩)) ∧ (L 7 = true → t10 = .int .u64 (V : Nat)) ∧ (L 8 = true → t11 = .pointer (some ⟨b, 0, none⟩)) ∧ (L 9 = true → t12 = .pointer (some ⟨b, 0, none⟩)) ∧ (L 10 = true → t13 = .pointer (some ⟨b, 0, none⟩)) ∧ (L 11 = true → t14 = .pointer (some ⟨b, 0, none⟩)) ∧ (L 12 = true → t15 = .slice A n c) ∧ (L 13 = true → t16 = .int .i64 (n : Nat)) ∧ (L 14 = true → ∃ (K5 : Option Addr) (q5 : Nat), t17 = .slice K5 n q5 ∧ (L 20 = false → OwnO ww w2.heap.size (.slice K5 n q5) ll)) ∧ (L 15 = true → t18 = .pointer (some ⟨b, 0, none⟩)) ∧ (L 16 = true → t19 = .pointer (some ⟨b, 0, none⟩)) ∧ (L 17 = true → t20 = .pointer (some ⟨b, 3, none⟩)) ∧ (L 18 = true → t21 = .int .i64 i) ∧ (L 19 = true → L 14 = true ∧ ∃ (K5 : Option Addr) (q5 : Nat), t17 = .slice K5 n q5 ∧ t22 = .agg #[.slice A n c, .slice R m d, .slice K5 n q5, .int .i64 i]) ∧ (L 20 = true → (∀ q, q < 20 → L q = true) ∧ ∃ (K5 : Option Addr) (q5 : Nat) (wp : World), ww = ((((wp).setCell ⟨q, 0, none⟩ (.slice A n c)).setCell ⟨q, 1, none⟩ (.slice R m d)).setCell ⟨q, 2, none⟩ (.slice K5 n q5)).setCell ⟨q, 3, none⟩ (.int .i64 i) ∧ Below w2.heap.size w2 wp ∧ OwnO wp w2.heap.size (.slice K5 n q5) ll)) ?h0 ?hstep ?hdone
  case h0 => exact ⟨_, _, _, _, _, _, _, _, _, _, _, _, _, _, _, _, _, _, _, _, rfl, fun _ => (Below.refl _ _).drew, (fun h => absurd h Bool.false_ne_true), (fun h => absurd h Bool.false_ne_true), (fun h => absurd h Bool.false_ne_true), (fun h => absurd h Bool.false_ne_true), (fun h => absurd h Bool.false_ne_true), (fun h => absurd h Bool.false_ne_true), (fun h => absurd h Bool.false_ne_true), (fun h => absurd h Bool.false_ne_true), (fun h => absurd h Bool.false_ne_true), (fun h => absurd h Bool.false_ne_true), (fun h => absurd h Bool.false_ne_true), (fun h => absurd h Bool.false_ne_true), (fun h => absurd h Bool.false_ne_true), (fun h => absurd h Bool.false_ne_true), (fun h => absurd h Bool.false_ne_true), (fun h => absurd h Bool.false_ne_true), (fun h => absurd h Bool.false_ne_true), (fun h => absurd h Bool.false_ne_true), (fun h => absurd h Bool.false_ne_true), (fun h => absurd h Bool.false_ne_true), (fun h => absurd h Bool.false_ne_true)⟩
  case hstep =>
    rintro L ac ww i o ho hL hd ⟨t3, t4, t5, t6, t7, t8, t9, t10, t11, t12, t13, t14, t15, t16, t17, t18, t19, t20, t21, t22, rfl, I0, f0, f1, f2, f3, f4, f5, f6, f7, f8, f9, f10, f11, f12, f13, f14, f15, f16, f17, f18, f19, f20⟩
    have hi : i < 21 := (Array.getElem?_eq_some_iff.1 ho).1
    obtain rfl | rfl | rfl | rfl | rfl | rfl | rfl | rfl | rfl | rfl | rfl | rfl | rfl | rfl | rfl | rfl | rfl | rfl | rfl | rfl | rfl : i = 0 ∨ i = 1 ∨ i = 2 ∨ i = 3 ∨ i = 4 ∨ i = 5 ∨ i = 6 ∨ i = 7 ∨ i = 8 ∨ i = 9 ∨ i = 10 ∨ i = 11 ∨ i = 12 ∨ i = 13 ∨ i = 14 ∨ i = 15 ∨ i = 16 ∨ i = 17 ∨ i = 18 ∨ i = 19 ∨ i = 20 := by omega
    · obtain rfl := Option.some.inj ho
      have hL20 : L 20 = false := by
        cases e : L 20
        · rfl
        · exact absurd ((f20 e).1 0 (by decide)) (by rw [hL]; decide)
      have J := I0 hL20
      refine wpOp_step rfl (fun K' hK => ?_)
      go_simp
      refine hK _ _ ?_
      exact ⟨_, _, _, _, _, _, _, _, _, _, _, _, _, _, _, _, _, _, _, _, rfl, (fun _ => J), (fun _ => rfl), (kp f1), (kp f2), (kp f3), (kp f4), (kp f5), (kp f6), (kp f7), (kp f8), (kp f9), (kp f10), (kp f11), (kp f12), (kp f13), (fun h => by
        obtain ⟨K5, q5, e, r⟩ := f14 (upd_ne h (by decide))
        exact ⟨K5, q5, e, fun h6 => r (by rw [upd_other (by decide)] at h6; exact h6)⟩), (kp f15), (kp f16), (kp f17), (kp f18), (fun h => by
        obtain ⟨l4, r⟩ := f19 (upd_ne h (by decide))
        exact ⟨upd_mono l4, r⟩), (fun h => absurd hL20 (by rw [upd_ne h (by decide)]; decide))⟩
    · obtain rfl := Option.some.inj ho
      have g0 := f0 (hd ⟨0, .data⟩ (by simp) rfl)
      subst g0
      have hL20 : L 20 = false := by
        cases e : L 20
        · rfl
        · exact absurd ((f20 e).1 1 (by decide)) (by rw [hL]; decide)
      have J := I0 hL20
      refine wpOp_step rfl (fun K' hK => ?_)
      go_simp
      refine hK _ _ ?_
      exact ⟨_, _, _, _, _, _, _, _, _, _, _, _, _, _, _, _, _, _, _, _, rfl, (fun _ => J), (kp f0), (fun _ => rfl), (kp f2), (kp f3), (kp f4), (kp f5), (kp f6), (kp f7), (kp f8), (kp f9), (kp f10), (kp f11), (kp f12), (kp f13), (fun h => by
        obtain ⟨K5, q5, e, r⟩ := f14 (upd_ne h (by decide))
        exact ⟨K5, q5, e, fun h6 => r (by rw [upd_other (by decide)] at h6; exact h6)⟩), (kp f15), (kp f16), (kp f17), (kp f18), (fun h => by
        obtain ⟨l4, r⟩ := f19 (upd_ne h (by decide))
        exact ⟨upd_mono l4, r⟩), (fun h => absurd hL20 (by rw [upd_ne h (by decide)]; decide))⟩
    · obtain rfl := Option.some.inj ho
      have g1 := f1 (hd ⟨1, .data⟩ (by simp) rfl)
      subst g1
      have hL20 : L 20 = false := by
        cases e : L 20
        · rfl
        · exact absurd ((f20 e).1 2 (by decide)) (by rw [hL]; decide)
      have J := I0 hL20
      refine wpOp_step rfl (fun K' hK => ?_)
      go_simp
      refine hK _ _ ?_
      exact ⟨_, _, _, _, _, _, _, _, _, _, _, _, _, _, _, _, _, _, _, _, rfl, (fun _ => J), (kp f0), (kp f1), (fun _ => rfl), (kp f3), (kp f4), (kp f5), (kp f6), (kp f7), (kp f8), (kp f9), (kp f10), (kp f11), (kp f12), (kp f13), (fun h => by
        obtain ⟨K5, q5, e, r⟩ := f14 (upd_ne h (by decide))
        exact ⟨K5, q5, e, fun h6 => r (by rw [upd_other (by decide)] at h6; exact h6)⟩), (kp f15), (kp f16), (kp f17), (kp f18), (fun h => by
        obtain ⟨l4, r⟩ := f19 (upd_ne h (by decide))
        exact ⟨upd_mono l4, r⟩), (fun h => absurd hL20 (by rw [upd_ne h (by decide)]; decide))⟩
    · obtain rfl := Option.some.inj ho
      have g2 := f2 (hd ⟨2, .data⟩ (by simp) rfl)
      subst g2
      have hL20 : L 20 = false := by
        cases e : L 20
        · rfl
        · exact absurd ((f20 e).1 3 (by decide)) (by rw [hL]; decide)
      have J := I0 hL20
      have z0 : ww.cell? ⟨b, 0, none⟩ = some (.slice A n c) := (J.cell (p := ⟨b, 0, none⟩) hbl).trans (S2.box.cell 0)
      have z1 : ww.cell? ⟨b, 1, none⟩ = some (.slice R m d) := (J.cell (p := ⟨b, 1, none⟩) hbl).trans (S2.box.cell 1)
      refine wpOp_step rfl (fun K' hK => ?_)
      go_simp
      refine hK _ _ ?_
      exact ⟨_, _, _, _, _, _, _, _, _, _, _, _, _, _, _, _, _, _, _, _, rfl, (fun _ => J), (kp f0), (kp f1), (kp f2), (fun _ => rfl), (kp f4), (kp f5), (kp f6), (kp f7), (kp f8), (kp f9), (kp f10), (kp f11), (kp f12), (kp f13), (fun h => by
        obtain ⟨K5, q5, e, r⟩ := f14 (upd_ne h (by decide))
        exact ⟨K5, q5, e, fun h6 => r (by rw [upd_other (by decide)] at h6; exact h6)⟩), (kp f15), (kp f16), (kp f17), (kp f18), (fun h => by
        obtain ⟨l4, r⟩ := f19 (upd_ne h (by decide))
        exact ⟨upd_mono l4, r⟩), (fun h => absurd hL20 (by rw [upd_ne h (by decide)]; decide))⟩
    · obtain rfl := Option.some.inj ho
      have hL20 : L 20 = false := by
        cases e : L 20
        · rfl
        · exact absurd ((f20 e).1 4 (by decide)) (by rw [hL]; decide)
      have J := I0 hL20
      refine wpOp_step rfl (fun K' hK => ?_)
      go_simp
      refine hK _ _ ?_
      exact ⟨_, _, _, _, _, _, _, _, _, _, _, _, _, _, _, _, _, _, _, _, rfl, (fun _ => J), (kp f0), (kp f1), (kp f2), (kp f3), (fun _ => rfl), (kp f5), (kp f6), (kp f7), (kp f8), (kp f9), (kp f10), (kp f11), (kp f12), (kp f13), (fun h => by
        obtain ⟨K5, q5, e, r⟩ := f14 (upd_ne h (by decide))
        exact ⟨K5, q5, e, fun h6 => r (by rw [upd_other (by decide)] at h6; exact h6)⟩), (kp f15), (kp f16), (kp f17), (kp f18), (fun h => by
        obtain ⟨l4, r⟩ := f19 (upd_ne h (by decide))
        exact ⟨upd_mono l4, r⟩), (fun h => absurd hL20 (by rw [upd_ne h (by decide)]; decide))⟩
    · obtain rfl := Option.some.inj ho
      have g4 := f4 (hd ⟨4, .data⟩ (by simp) rfl)
      subst g4
      have hL20 : L 20 = false := by
        cases e : L 20
        · rfl
        · exact absurd ((f20 e).1 5 (by decide)) (by rw [hL]; decide)
      have J := I0 hL20
      refine wpOp_step rfl (fun K' hK => ?_)
      go_simp
      refine hK _ _ ?_
      exact ⟨_, _, _, _, _, _, _, _, _, _, _, _, _, _, _, _, _, _, _, _, rfl, (fun _ => J), (kp f0), (kp f1), (kp f2), (kp f3), (kp f4), (fun _ => rfl), (kp f6), (kp f7), (kp f8), (kp f9), (kp f10), (kp f11), (kp f12), (kp f13), (fun h => by
        obtain ⟨K5, q5, e, r⟩ := f14 (upd_ne h (by decide))
        exact ⟨K5, q5, e, fun h6 => r (by rw [upd_other (by decide)] at h6; exact h6)⟩), (kp f15), (kp f16), (kp f17), (kp f18), (fun h => by
        obtain ⟨l4, r⟩ := f19 (upd_ne h (by decide))
        exact ⟨upd_mono l4, r⟩), (fun h => absurd hL20 (by rw [upd_ne h (by decide)]; decide))⟩
    · obtain rfl := Option.some.inj ho
      have g5 := f5 (hd ⟨5, .data⟩ (by simp) rfl)
      subst g5
      have hL20 : L 20 = false := by
        cases e : L 20
        · rfl
        · exact absurd ((f20 e).1 6 (by decide)) (by rw [hL]; decide)
      have J := I0 hL20
      refine wpOp_step rfl (fun K' hK => ?_)
      go_simp
      refine hK _ _ ?_
      exact ⟨_, _, _, _, _, _, _, _, _, _, _, _, _, _, _, _, _, _, _, _, rfl, (fun _ => J), (kp f0), (kp f1), (kp f2), (kp f3), (kp f4), (kp f5), (fun _ => rfl), (kp f7), (kp f8), (kp f9), (kp f10), (kp f11), (kp f12), (kp f13), (fun h => by
        obtain ⟨K5, q5, e, r⟩ := f14 (upd_ne h (by decide))
        exact ⟨K5, q5, e, fun h6 => r (by rw [upd_other (by decide)] at h6; exact h6)⟩), (kp f15), (kp f16), (kp f17), (kp f18), (fun h => by
        obtain ⟨l4, r⟩ := f19 (upd_ne h (by decide))
        exact ⟨upd_mono l4, r⟩), (fun h => absurd hL20 (by rw [upd_ne h (by decide)]; decide))⟩
    · obtain rfl := Option.some.inj ho
      have g6 := f6 (hd ⟨6, .data⟩ (by simp) rfl)
      subst g6
      have hL20 : L 20 = false := by
        cases e : L 20
        · rfl
        · exact absurd ((f20 e).1 7 (by decide)) (by rw [hL]; decide)
      have J := I0 hL20
      have z2 : ww.cell? ⟨b, 2, none⟩ = some (.int .u64 V) := (J.cell (p := ⟨b, 2, none⟩) hbl).trans (S2.box.cell 2)
      refine wpOp_step rfl (fun K' hK => ?_)
      go_simp
      refine hK _ _ ?_
      exact ⟨_, _, _, _, _, _, _, _, _, _, _, _, _, _, _, _, _, _, _, _, rfl, (fun _ => J), (kp f0), (kp f1), (kp f2), (kp f3), (kp f4), (kp f5), (kp f6), (fun _ => rfl), (kp f8), (kp f9), (kp f10), (kp f11), (kp f12), (kp f13), (fun h => by
        obtain ⟨K5, q5, e, r⟩ := f14 (upd_ne h (by decide))
        exact ⟨K5, q5, e, fun h6 => r (by rw [upd_other (by decide)] at h6; exact h6)⟩), (kp f15), (kp f16), (kp f17), (kp f18), (fun h => by
        obtain ⟨l4, r⟩ := f19 (upd_ne h (by decide))
        exact ⟨upd_mono l4, r⟩), (fun h => absurd hL20 (by rw [upd_ne h (by decide)]; decide))⟩
    · obtain rfl := Option.some.inj ho
      have hL20 : L 20 = false := by
        cases e : L 20
        · rfl
        · exact absurd ((f20 e).1 8 (by decide)) (by rw [hL]; decide)
      have J := I0 hL20
      refine wpOp_step rfl (fun K' hK => ?_)
      go_simp
      refine hK _ _ ?_
      exact ⟨_, _, _, _, _, _, _, _, _, _, _, _, _, _, _, _, _, _, _, _, rfl, (fun _ => J), (kp f0), (kp f1), (kp f2), (kp f3), (kp f4), (kp f5), (kp f6), (kp f7), (fun _ => rfl), (kp f9), (kp f10), (kp f11), (kp f12), (kp f13), (fun h => by
        obtain ⟨K5, q5, e, r⟩ := f14 (upd_ne h (by decide))
        exact ⟨K5, q5, e, fun h6 => r (by rw [upd_other (by decide)] at h6; exact h6)⟩), (kp f15), (kp f16), (kp f17), (kp f18), (fun h => by
        obtain ⟨l4, r⟩ := f19 (upd_ne h (by decide))
        exact ⟨upd_mono l4, r⟩), (fun h => absurd hL20 (by rw [upd_ne h (by decide)]; decide))⟩
    · obtain rfl := Option.some.inj ho
      have g8 := f8 (hd ⟨8, .data⟩ (by simp) rfl)
      subst g8
      have hL20 : L 20 = false := by
        cases e : L 20
        · rfl
        · exact absurd ((f20 e).1 9 (by decide)) (by rw [hL]; decide)
      have J := I0 hL20
      refine wpOp_step rfl (fun K' hK => ?_)
      go_simp
      refine hK _ _ ?_
      exact ⟨_, _, _, _, _, _, _, _, _, _, _, _, _, _, _, _, _, _, _, _, rfl, (fun _ => J), (kp f0), (kp f1), (kp f2), (kp f3), (kp f4), (kp f5), (kp f6), (kp f7), (kp f8), (fun _ => rfl), (kp f10), (kp f11), (kp f12), (kp f13), (fun h => by
        obtain ⟨K5, q5, e, r⟩ := f14 (upd_ne h (by decide))
        exact ⟨K5, q5, e, fun h6 => r (by rw [upd_other (by decide)] at h6; exact h6)⟩), (kp f15), (kp f16), (kp f17), (kp f18), (fun h => by
        obtain ⟨l4, r⟩ := f19 (upd_ne h (by decide))
        exact ⟨upd_mono l4, r⟩), (fun h => absurd hL20 (by rw [upd_ne h (by decide)]; decide))⟩
    · obtain rfl := Option.some.inj ho
      have g9 := f9 (hd ⟨9, .data⟩ (by simp) rfl)
      subst g9
      have hL20 : L 20 = false := by
        cases e : L 20
        · rfl
        · exact absurd ((f20 e).1 10 (by decide)) (by rw [hL]; decide)
      have J := I0 hL20
      refine wpOp_step rfl (fun K' hK => ?_)
      go_simp
      refine hK _ _ ?_
      exact ⟨_, _, _, _, _, _, _, _, _, _, _, _, _, _, _, _, _, _, _, _, rfl, (fun _ => J), (kp f0), (kp f1), (kp f2), (kp f3), (kp f4), (kp f5), (kp f6), (kp f7), (kp f8), (kp f9), (fun _ => rfl), (kp f11), (kp f12), (kp f13), (fun h => by
        obtain ⟨K5, q5, e, r⟩ := f14 (upd_ne h (by decide))
        exact ⟨K5, q5, e, fun h6 => r (by rw [upd_other (by decide)] at h6; exact h6)⟩), (kp f15), (kp f16), (kp f17), (kp f18), (fun h => by
        obtain ⟨l4, r⟩ := f19 (upd_ne h (by decide))
        exact ⟨upd_mono l4, r⟩), (fun h => absurd hL20 (by rw [upd_ne h (by decide)]; decide))⟩
    · obtain rfl := Option.some.inj ho
      have g10 := f10 (hd ⟨10, .data⟩ (by simp) rfl)
      subst g10
      have hL20 : L 20 = false := by
        cases e : L 20
        · rfl
        · exact absurd ((f20 e).1 11 (by decide)) (by rw [hL]; decide)
      have J := I0 hL20
      refine wpOp_step rfl (fun K' hK => ?_)
      go_simp
      refine hK _ _ ?_
      exact ⟨_, _, _, _, _, _, _, _, _, _, _, _, _, _, _, _, _, _, _, _, rfl, (fun _ => J), (kp f0), (kp f1), (kp f2), (kp f3), (kp f4), (kp f5), (kp f6), (kp f7), (kp f8), (kp f9), (kp f10), (fun _ => rfl), (kp f12), (kp f13), (fun h => by
        obtain ⟨K5, q5, e, r⟩ := f14 (upd_ne h (by decide))
        exact ⟨K5, q5, e, fun h6 => r (by rw [upd_other (by decide)] at h6; exact h6)⟩), (kp f15), (kp f16), (kp f17), (kp f18), (fun h => by
        obtain ⟨l4, r⟩ := f19 (upd_ne h (by decide))
        exact ⟨upd_mono l4, r⟩), (fun h => absurd hL20 (by rw [upd_ne h (by decide)]; decide))⟩
    · obtain rfl := Option.some.inj ho
      have g11 := f11 (hd ⟨11, .data⟩ (by simp) rfl)
      subst g11
      have hL20 : L 20 = false := by
        cases e : L 20
        · rfl
        · exact absurd ((f20 e).1 12 (by decide)) (by rw [hL]; decide)
      have J := I0 hL20
      have z0 : ww.cell? ⟨b, 0, none⟩ = some (.slice A n c) := (J.cell (p := ⟨b, 0, none⟩) hbl).trans (S2.box.cell 0)
      refine wpOp_step rfl (fun K' hK => ?_)
      go_simp
      refine hK _ _ ?_
      exact ⟨_, _, _, _, _, _, _, _, _, _, _, _, _, _, _, _, _, _, _, _, rfl, (fun _ => J), (kp f0), (kp f1), (kp f2), (kp f3), (kp f4), (kp f5), (kp f6), (kp f7), (kp f8), (kp f9), (kp f10), (kp f11), (fun _ => rfl), (kp f13), (fun h => by
        obtain ⟨K5, q5, e, r⟩ := f14 (upd_ne h (by decide))
        exact ⟨K5, q5, e, fun h6 => r (by rw [upd_other (by decide)] at h6; exact h6)⟩), (kp f15), (kp f16), (kp f17), (kp f18), (fun h => by
        obtain ⟨l4, r⟩ := f19 (upd_ne h (by decide))
        exact ⟨upd_mono l4, r⟩), (fun h => absurd hL20 (by rw [upd_ne h (by decide)]; decide))⟩
    · obtain rfl := Option.some.inj ho
      have g12 := f12 (hd ⟨12, .data⟩ (by simp) rfl)
      subst g12
      have hL20 : L 20 = false := by
        cases e : L 20
        · rfl
        · exact absurd ((f20 e).1 13 (by decide)) (by rw [hL]; decide)
      have J := I0 hL20
      refine wpOp_step rfl (fun K' hK => ?_)
      go_simp
      refine hK _ _ ?_
      exact ⟨_, _, _, _, _, _, _, _, _, _, _, _, _, _, _, _, _, _, _, _, rfl, (fun _ => J), (kp f0), (kp f1), (kp f2), (kp f3), (kp f4), (kp f5), (kp f6), (kp f7), (kp f8), (kp f9), (kp f10), (kp f11), (kp f12), (fun _ => rfl), (fun h => by
        obtain ⟨K5, q5, e, r⟩ := f14 (upd_ne h (by decide))
        exact ⟨K5, q5, e, fun h6 => r (by rw [upd_other (by decide)] at h6; exact h6)⟩), (kp f15), (kp f16), (kp f17), (kp f18), (fun h => by
        obtain ⟨l4, r⟩ := f19 (upd_ne h (by decide))
        exact ⟨upd_mono l4, r⟩), (fun h => absurd hL20 (by rw [upd_ne h (by decide)]; decide))⟩
    · obtain rfl := Option.some.inj ho
      have g7 := f7 (hd ⟨7, .data⟩ (by simp) rfl)
      have g13 := f13 (hd ⟨13, .data⟩ (by simp) rfl)
      subst g7
      subst g13
      have hL20 : L 20 = false := by
        cases e : L 20
        · rfl
        · exact absurd ((f20 e).1 14 (by decide)) (by rw [hL]; decide)
      have J := I0 hL20
      refine wpOp_step rfl (fun K' hK => ?_)
      go_simp
      refine (cflags_any V n ww hV h64).mono ?_
      rw [HLL.out]
      rintro e w' ⟨vm, rfl, ok, b5⟩
      obtain ⟨K5, q5, e8, -⟩ := ok.form
      rw [HLN.out] at e8
      subst e8
      refine hK _ _ ?_
      exact ⟨_, _, _, _, _, _, _, _, _, _, _, _, _, _, _, _, _, _, _, _, rfl, (fun _ => J.trans (b5.mono J.size)), (kp f0), (kp f1), (kp f2), (kp f3), (kp f4), (kp f5), (kp f6), (kp f7), (kp f8), (kp f9), (kp f10), (kp f11), (kp f12), (kp f13), (fun _ => ⟨K5, q5, rfl, fun _ => ok.base J.size⟩), (kp f15), (kp f16), (kp f17), (kp f18), (fun h => absurd (f19 (upd_ne h (by decide))).1 (by rw [hL]; decide)), (fun h => absurd hL20 (by rw [upd_ne h (by decide)]; decide))⟩
    · obtain rfl := Option.some.inj ho
      have hL20 : L 20 = false := by
        cases e : L 20
        · rfl
        · exact absurd ((f20 e).1 15 (by decide)) (by rw [hL]; decide)
      have J := I0 hL20
      refine wpOp_step rfl (fun K' hK => ?_)
      go_simp
      refine hK _ _ ?_
      exact ⟨_, _, _, _, _, _, _, _, _, _, _, _, _, _, _, _, _, _, _, _, rfl, (fun _ => J), (kp f0), (kp f1), (kp f2), (kp f3), (kp f4), (kp f5), (kp f6), (kp f7), (kp f8), (kp f9), (kp f10), (kp f11), (kp f12), (kp f13), (fun h => by
        obtain ⟨K5, q5, e, r⟩ := f14 (upd_ne h (by decide))
        exact ⟨K5, q5, e, fun h6 => r (by rw [upd_other (by decide)] at h6; exact h6)⟩), (fun _ => rfl), (kp f16), (kp f17), (kp f18), (fun h => by
        obtain ⟨l4, r⟩ := f19 (upd_ne h (by decide))
        exact ⟨upd_mono l4, r⟩), (fun h => absurd hL20 (by rw [upd_ne h (by decide)]; decide))⟩
    · obtain rfl := Option.some.inj ho
      have g15 := f15 (hd ⟨15, .data⟩ (by simp) rfl)
      subst g15
      have hL20 : L 20 = false := by
        cases e : L 20
        · rfl
        · exact absurd ((f20 e).1 16 (by decide)) (by rw [hL]; decide)
      have J := I0 hL20
      refine wpOp_step rfl (fun K' hK => ?_)
      go_simp
      refine hK _ _ ?_
      exact ⟨_, _, _, _, _, _, _, _, _, _, _, _, _, _, _, _, _, _, _, _, rfl, (fun _ => J), (kp f0), (kp f1), (kp f2), (kp f3), (kp f4), (kp f5), (kp f6), (kp f7), (kp f8), (kp f9), (kp f10), (kp f11), (kp f12), (kp f13), (fun h => by
        obtain ⟨K5, q5, e, r⟩ := f14 (upd_ne h (by decide))
        exact ⟨K5, q5, e, fun h6 => r (by rw [upd_other (by decide)] at h6; exact h6)⟩), (kp f15), (fun _ => rfl), (kp f17), (kp f18), (fun h => by
        obtain ⟨l4, r⟩ := f19 (upd_ne h (by decide))
        exact ⟨upd_mono l4, r⟩), (fun h => absurd hL20 (by rw [upd_ne h (by decide)]; decide))⟩
    · obtain rfl := Option.some.inj ho
      have g16 := f16 (hd ⟨16, .data⟩ (by simp) rfl)
      subst g16
      have hL20 : L 20 = false := by
        cases e : L 20
        · rfl
        · exact absurd ((f20 e).1 17 (by decide)) (by rw [hL]; decide)
      have J := I0 hL20
      refine wpOp_step rfl (fun K' hK => ?_)
      go_simp
      refine hK _ _ ?_
      exact ⟨_, _, _, _, _, _, _, _, _, _, _, _, _, _, _, _, _, _, _, _, rfl, (fun _ => J), (kp f0), (kp f1), (kp f2), (kp f3), (kp f4), (kp f5), (kp f6), (kp f7), (kp f8), (kp f9), (kp f10), (kp f11), (kp f12), (kp f13), (fun h => by
        obtain ⟨K5, q5, e, r⟩ := f14 (upd_ne h (by decide))
        exact ⟨K5, q5, e, fun h6 => r (by rw [upd_other (by decide)] at h6; exact h6)⟩), (kp f15), (kp f16), (fun _ => rfl), (kp f18), (fun h => by
        obtain ⟨l4, r⟩ := f19 (upd_ne h (by decide))
        exact ⟨upd_mono l4, r⟩), (fun h => absurd hL20 (by rw [upd_ne h (by decide)]; decide))⟩
    · obtain rfl := Option.some.inj ho
      have g17 := f17 (hd ⟨17, .data⟩ (by simp) rfl)
      subst g17
      have hL20 : L 20 = false := by
        cases e : L 20
        · rfl
        · exact absurd ((f20 e).1 18 (by decide)) (by rw [hL]; decide)
      have J := I0 hL20
      have z3 : ww.cell? ⟨b, 3, none⟩ = some (.int .i64 i) := (J.cell (p := ⟨b, 3, none⟩) hbl).trans (S2.box.cell 3)
      refine wpOp_step rfl (fun K' hK => ?_)
      go_simp
      refine hK _ _ ?_
      exact ⟨_, _, _, _, _, _, _, _, _, _, _, _, _, _, _, _, _, _, _, _, rfl, (fun _ => J), (kp f0), (kp f1), (kp f2), (kp f3), (kp f4), (kp f5), (kp f6), (kp f7), (kp f8), (kp f9), (kp f10), (kp f11), (kp f12), (kp f13), (fun h => by
        obtain ⟨K5, q5, e, r⟩ := f14 (upd_ne h (by decide))
        exact ⟨K5, q5, e, fun h6 => r (by rw [upd_other (by decide)] at h6; exact h6)⟩), (kp f15), (kp f16), (kp f17), (fun _ => rfl), (fun h => by
        obtain ⟨l4, r⟩ := f19 (upd_ne h (by decide))
        exact ⟨upd_mono l4, r⟩), (fun h => absurd hL20 (by rw [upd_ne h (by decide)]; decide))⟩
    · obtain rfl := Option.some.inj ho
      have g3 := f3 (hd ⟨3, .data⟩ (by simp) rfl)
      have g14 := f14 (hd ⟨14, .data⟩ (by simp) rfl)
      have g18 := f18 (hd ⟨18, .data⟩ (by simp) rfl)
      subst g3
      subst g18
      have hL20 : L 20 = false := by
        cases e : L 20
        · rfl
        · exact absurd ((f20 e).1 19 (by decide)) (by rw [hL]; decide)
      have J := I0 hL20
      have l4 := Lib.hid (hd ⟨14, .data⟩ (by simp) rfl)
      obtain ⟨K5, q5, e7, r4⟩ := g14
      subst e7
      refine wpOp_step rfl (fun K' hK => ?_)
      go_simp
      refine hK _ _ ?_
      exact ⟨_, _, _, _, _, _, _, _, _, _, _, _, _, _, _, _, _, _, _, _, rfl, (fun _ => J), (kp f0), (kp f1), (kp f2), (kp f3), (kp f4), (kp f5), (kp f6), (kp f7), (kp f8), (kp f9), (kp f10), (kp f11), (kp f12), (kp f13), (fun _ => ⟨K5, q5, rfl, fun h => r4 (by rw [upd_other (by decide)] at h; exact h)⟩), (kp f15), (kp f16), (kp f17), (kp f18), (fun _ => ⟨upd_mono l4.out, K5, q5, rfl, rfl⟩), (fun h => absurd hL20 (by rw [upd_ne h (by decide)]; decide))⟩
    · obtain rfl := Option.some.inj ho
      have g19 := f19 (hd ⟨19, .data⟩ (by simp) rfl)
      have lq : Hid (∀ q, q < 20 → L q = true) := Lib.hid (by
        intro q hq
        obtain rfl | rfl | rfl | rfl | rfl | rfl | rfl | rfl | rfl | rfl | rfl | rfl | rfl | rfl | rfl | rfl | rfl | rfl | rfl | rfl : q = 0 ∨ q = 1 ∨ q = 2 ∨ q = 3 ∨ q = 4 ∨ q = 5 ∨ q = 6 ∨ q = 7 ∨ q = 8 ∨ q = 9 ∨ q = 10 ∨ q = 11 ∨ q = 12 ∨ q = 13 ∨ q = 14 ∨ q = 15 ∨ q = 16 ∨ q = 17 ∨ q = 18 ∨ q = 19 := by omega
        · exact hd ⟨0, .phase⟩ (by simp) rfl
        · exact hd ⟨1, .phase⟩ (by simp) rfl
        · exact hd ⟨2, .phase⟩ (by simp) rfl
        · exact hd ⟨3, .phase⟩ (by simp) rfl
        · exact hd ⟨4, .phase⟩ (by simp) rfl
        · exact hd ⟨5, .phase⟩ (by simp) rfl
        · exact hd ⟨6, .phase⟩ (by simp) rfl
        · exact hd ⟨7, .phase⟩ (by simp) rfl
        · exact hd ⟨8, .phase⟩ (by simp) rfl
        · exact hd ⟨9, .phase⟩ (by simp) rfl
        · exact hd ⟨10, .phase⟩ (by simp) rfl
        · exact hd ⟨11, .phase⟩ (by simp) rfl
        · exact hd ⟨12, .phase⟩ (by simp) rfl
        · exact hd ⟨13, .phase⟩ (by simp) rfl
        · exact hd ⟨14, .phase⟩ (by simp) rfl
        · exact hd ⟨15, .phase⟩ (by simp) rfl
        · exact hd ⟨16, .phase⟩ (by simp) rfl
        · exact hd ⟨17, .phase⟩ (by simp) rfl
        · exact hd ⟨18, .phase⟩ (by simp) rfl
        · exact hd ⟨19, .phase⟩ (by simp) rfl)
      have J := I0 hL
      obtain ⟨-, K5, q5, e7, e8⟩ := g19
      subst e8
      obtain ⟨K6, q6, e7b, r4⟩ := f14 (lq.out 14 (by decide))
      have oc := r4 hL
      rw [e7] at e7b
      injection e7b with h1 h2 h3
      subst h1
      subst h3
      subst e7
      have P := q2.keep J hrl
      have zf0 : ww.frozen? ⟨q, 0, none⟩ = false := P.frozen 0
      have zf1 : ww.frozen? ⟨q, 1, none⟩ = false := P.frozen 1
      have zf2 : ww.frozen? ⟨q, 2, none⟩ = false := P.frozen 2
      have zf3 : ww.frozen? ⟨q, 3, none⟩ = false := P.frozen 3
      have zc0 : ww.cell? ⟨q, 0, none⟩ = some (.slice none 0 0) := P.cell 0
      have zc1 : ww.cell? ⟨q, 1, none⟩ = some (.slice none 0 0) := P.cell 1
      have zc2 : ww.cell? ⟨q, 2, none⟩ = some (.slice none 0 0) := P.cell 2
      have zc3 : ww.cell? ⟨q, 3, none⟩ = some (.int .i64 0) := P.cell 3
      refine wpOp_step rfl (fun K' hK => ?_)
      go_simp
      refine hK _ _ ?_
      exact ⟨_, _, _, _, _, _, _, _, _, _, _, _, _, _, _, _, _, _, _, _, rfl, (fun h => absurd h (by rw [upd_self]; decide)), (kp f0), (kp f1), (kp f2), (kp f3), (kp f4), (kp f5), (kp f6), (kp f7), (kp f8), (kp f9), (kp f10), (kp f11), (kp f12), (kp f13), (fun _ => ⟨K5, q5, rfl, fun h => absurd h (by rw [upd_self]; decide)⟩), (kp f15), (kp f16), (kp f17), (kp f18), (fun _ => ⟨upd_mono (lq.out 14 (by decide)), K5, q5, rfl, rfl⟩), (fun _ => ⟨fun q hq => upd_mono (lq.out q hq), K5, q5, ww, rfl, J, oc⟩)⟩
  case hdone =>
    rintro L ac ww hall ⟨t3, t4, t5, t6, t7, t8, t9, t10, t11, t12, t13, t14, t15, t16, t17, t18, t19, t20, t21, t22, rfl, I0, f0, f1, f2, f3, f4, f5, f6, f7, f8, f9, f10, f11, f12, f13, f14, f15, f16, f17, f18, f19, f20⟩
    have e0 := f0 (hall 0 (by decide))
    have e1 := f1 (hall 1 (by decide))
    have e2 := f2 (hall 2 (by decide))
    have e3 := f3 (hall 3 (by decide))
    have e4 := f4 (hall 4 (by decide))
    have e5 := f5 (hall 5 (by decide))
    have e6 := f6 (hall 6 (by decide))
    have e7 := f7 (hall 7 (by decide))
    have e8 := f8 (hall 8 (by decide))
    have e9 := f9 (hall 9 (by decide))
    have e10 := f10 (hall 10 (by decide))
    have e11 := f11 (hall 11 (by decide))
    have e12 := f12 (hall 12 (by decide))
    have e13 := f13 (hall 13 (by decide))
    have e14 := f14 (hall 14 (by decide))
    have e15 := f15 (hall 15 (by decide))
    have e16 := f16 (hall 16 (by decide))
    have e17 := f17 (hall 17 (by decide))
    have e18 := f18 (hall 18 (by decide))
    have e19 := f19 (hall 19 (by decide))
    have e20 := f20 (hall 20 (by decide))
    clear f0 f1 f2 f3 f4 f5 f6 f7 f8 f9 f10 f11 f12 f13 f14 f15 f16 f17 f18 f19 f20
    obtain ⟨-, K5, q5, wp, rfl, r1, r9⟩ := e20
    have Pq := q2.keep r1 hrl
    have P4 := (((Pq.put 0 (.slice A n c)).put 1 (.slice R m d)).put 2 (.slice K5 n q5)).put 3 (.int .i64 i)
    have s8 : (((((wp).setCell ⟨q, 0, none⟩ (.slice A n c)).setCell ⟨q, 1, none⟩ (.slice R m d)).setCell ⟨q, 2, none⟩ (.slice K5 n q5)).setCell ⟨q, 3, none⟩ (.int .i64 i)).cell? ⟨q, 0, none⟩ = some (.slice A n c) := P4.cell 0
    have s9 : (((((wp).setCell ⟨q, 0, none⟩ (.slice A n c)).setCell ⟨q, 1, none⟩ (.slice R m d)).setCell ⟨q, 2, none⟩ (.slice K5 n q5)).setCell ⟨q, 3, none⟩ (.int .i64 i)).cell? ⟨q, 1, none⟩ = some (.slice R m d) := P4.cell 1
    have s10 : (((((wp).setCell ⟨q, 0, none⟩ (.slice A n c)).setCell ⟨q, 1, none⟩ (.slice R m d)).setCell ⟨q, 2, none⟩ (.slice K5 n q5)).setCell ⟨q, 3, none⟩ (.int .i64 i)).cell? ⟨q, 2, none⟩ = some (.slice K5 n q5) := P4.cell 2
    have s11 : (((((wp).setCell ⟨q, 0, none⟩ (.slice A n c)).setCell ⟨q, 1, none⟩ (.slice R m d)).setCell ⟨q, 2, none⟩ (.slice K5 n q5)).setCell ⟨q, 3, none⟩ (.int .i64 i)).cell? ⟨q, 3, none⟩ = some (.int .i64 i) := P4.cell 3
    have HW := HQ.out
    have hap : (Value.slice K5 n q5).ownBlock = none ∨ (Value.slice K5 n q5).ownBlock ≠ some q := by
      cases e : (Value.slice K5 n q5).ownBlock with
      | none => exact .inl rfl
      | some k =>
        right
        intro e'
        have h1 := (World.ownsRow.lt r9 k e).1
        have := Option.some.inj e'
        omega
    have D := Lib.hid (((((r9.far (put_any wp q 0 (.slice A n c)) hap).far (put_any _ q 1 (.slice R m d)) hap).far (put_any _ q 2 (.slice K5 n q5)) hap).far (put_any _ q 3 (.int .i64 i)) hap).base (show w.heap.size ≤ w2.heap.size by omega))
    have DB := Lib.hid (((((B2.trans (r1.mono (by omega))).setCell (p := ⟨q, 0, none⟩) (Nat.le_refl _) (.slice A n c)).setCell (p := ⟨q, 1, none⟩) (Nat.le_refl _) (.slice R m d)).setCell (p := ⟨q, 2, none⟩) (Nat.le_refl _) (.slice K5 n q5)).setCell (p := ⟨q, 3, none⟩) (Nat.le_refl _) (.int .i64 i))
    clear I0 e0 e1 e2 e3 e4 e5 e6 e7 e8 e9 e10 e11 e12 e13 e14 e15 e16 e17 e18 e19 hall r1 r9 Pq P4 S2 hap
    go_wp2_with fail
    exact bodyPost_ret (v := .agg #[.slice A n c, .slice R m d, .slice K5 n q5, .int .i64 i]) (by simp [results, Try.results42, go_sem, *]) rfl ⟨_, rfl, D.out, by rw [HW]; exact DB.out⟩
end Go.Proofs.Ytakdjiojahlnmaa
