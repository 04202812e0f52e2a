/- What the claim LLazyTake stands on, part 5 of 6: texts of one seat put together, with what the claim needs of them. No conditions. -/
import Derived.Test.YtakdjiojahlnmaaShAd
namespace Go.Proofs.Ytakdjiojahlnmaa
open Go.RowKit
set_option maxRecDepth 100000
theorem Bm.word_set {ms : List Bool} {k : Nat} (hk : k < ms.length) : Bm.wordN ms true ||| 2 ^ k = Bm.wordN (ms.set k true) true := by
  refine Nat.eq_of_testBit_eq fun i => ?_
  rw [Nat.testBit_or, Nat.testBit_two_pow, Bm.wordN_bit, Bm.wordN_bit, List.getElem?_set]
  by_cases e : k = i
  · subst e
    simp [hk]
  · rw [if_neg e]
    simp [e]
set_option maxHeartbeats 4000000 in
theorem take_any (w0 w : World) (b : Nat) (vc vr : Value) (rvs : List Value) (h : Hp) (ms : List Bool) (i : Nat) (S0 : BoxW w0 w b vc vr rvs h (Bm.wordN ms true) (i : Int)) (hok : Hps.okLz ⟨h, ms, (i : Int)⟩) :
    Calls Try.prog 58 #[.pointer (some ⟨b, 0, none⟩)] w fun e w' => e = .returned (.int .i64 (Hps.takeLz ⟨h, ms, (i : Int)⟩).2) ∧ ∃ rvs', BoxW w0 w' b vc vr rvs' (Hps.takeLz ⟨h, ms, (i : Int)⟩).1.s (Bm.wordN (Hps.takeLz ⟨h, ms, (i : Int)⟩).1.ms true) (Hps.takeLz ⟨h, ms, (i : Int)⟩).1.i := by
  obtain ⟨A, c, R, d, rfl, rfl, -⟩ := S0.own.form
  obtain ⟨n, hn⟩ : ∃ n, h.cs.length = n := ⟨_, rfl⟩
  obtain ⟨m, hm⟩ : ∃ m, h.rt.length = m := ⟨_, rfl⟩
  rw [hn, hm] at S0 ⊢
  have HN := Lib.hid hn
  clear hm
  obtain ⟨h40, -, h3⟩ := Hps.valid_small hok.1
  have hl : ms.length = h.cs.length := hok.2.1
  have hi : i ≤ h.cs.length := by
    have := hok.2.2.1.2
    have e : ((⟨h, ms, (i : Int)⟩ : Lz).i) = (i : Int) := rfl
    rw [e] at this
    have e2 : ((⟨h, ms, (i : Int)⟩ : Lz).ms.length) = h.cs.length := hl
    rw [e2] at this
    omega
  have HL := Lib.hid hl
  have H40 := Lib.hid h40
  have H3 := Lib.hid h3
  have HRF := Lib.hid (Hps.valid_refs hok.1)
  have HEND := Lib.hid (fun hu => Hps.take_end (l := ⟨h, ms, (i : Int)⟩) hok hu)
  have HYES := Lib.hid (fun hu => Hps.take_yes (l := ⟨h, ms, (i : Int)⟩) hok hu)
  obtain ⟨y1, hy1⟩ : ∃ y1, (Hps.takeLz ⟨h, ms, (i : Int)⟩).1 = y1 := ⟨_, rfl⟩
  obtain ⟨y2, hy2⟩ : ∃ y2, (Hps.takeLz ⟨h, ms, (i : Int)⟩).2 = y2 := ⟨_, rfl⟩
  have HY1 := Lib.hid hy1
  have HY2 := Lib.hid hy2
  rw [hy1, hy2]
  clear hy1 hy2 hok h3 hl h40 hn
  go_enter Try.func58, Try.ntmps58
  go_wp2_with fail
  refine (next_any w0 w b _ _ rvs h ms i S0 HL.out H40.out hi).mono ?_
  rintro e w1 (⟨hu, rfl, S⟩ | ⟨hu, rfl, S⟩)
  case inr =>
    have HE := Lib.hid (HEND.out (by rw [Int.toNat_natCast]; exact hu))
    have HE1 := Lib.hid (show (⟨h, ms, (ms.length : Int)⟩ : Lz) = y1 by rw [← HY1.out, HE.out])
    have HE2 := Lib.hid (show (-1 : Int) = y2 by rw [← HY2.out, HE.out])
    clear hu
    go_wp2_with fail
    go_ret
    obtain rfl := HE1.out
    obtain rfl := HE2.out
    exact ⟨rfl, rvs, S⟩
  have HE := Lib.hid (HYES.out (by rw [Int.toNat_natCast]; exact hu))
  rw [Int.toNat_natCast] at HE
  obtain ⟨k, hk⟩ : ∃ k, Hps.unAt ms i = k := ⟨_, rfl⟩
  rw [hk] at HE hu S ⊢
  have HE1 := Lib.hid (show Hps.tookLz ⟨h, ms, (i : Int)⟩ k = y1 by rw [← HY1.out, HE.out])
  have HE2 := Lib.hid (show (k : Int) = y2 by rw [← HY2.out, HE.out])
  have hk1 : ((k : Int) == -1) = false := by rw [beq_eq_false_iff_ne]; omega
  have HU := Lib.hid hu
  have hk40 : k < 40 := by have := H40.out; have := HL.out; omega
  clear hk hu
  go_wp2_with fail
  refine (cutLost_any w0 _ b _ _ rvs h ms _ S HL.out H40.out H3.out HRF.out).mono ?_
  rintro e w2 ⟨⟨ev, rfl⟩, S2⟩
  clear S
  obtain ⟨old, hold⟩ : ∃ old, (Hps.cutL ms h.cs)[k]? = some old := ⟨_, List.getElem?_eq_getElem (by rw [Hps.cutL, Hps.cut_len, ← HL.out]; exact HU.out)⟩
  obtain ⟨gc, v, e4, -, hgc, hv, oi, y0, y1b, y2b, fz⟩ := S2.own.cell_at hold
  subst e4
  have hn : (Hps.cutL ms h.cs).length = n := by rw [Hps.cutL, Hps.cut_len]; exact HN.out
  have hkn : k < n := by
    rw [← HN.out, ← HL.out]
    exact HU.out
  have hn2 : (⟨Hps.cutL ms h.cs, h.rt⟩ : Hp).cs.length = n := hn
  have S3 := S2.took (k := k) (old := old) hn2 (show (⟨Hps.cutL ms h.cs, h.rt⟩ : Hp).cs[k]? = some old from hold)
  have hkn' : (k : Int) < n := by omega
  have f0 := fz (k * 3)
  have f1 := fz (k * 3 + 1)
  have f2 := fz (k * 3 + 2)
  have x0 : w2.cell? ⟨b, 0, none⟩ = some (.slice (some ⟨gc, 0, none⟩) n c) := S2.box.cell 0
  clear S2 hold hv oi fz hn hn2
  go_upto_region 6 with fail
  generalize ((w2.setCell ⟨gc, k * 3, none⟩ (.bool true)).setCell ⟨gc, k * 3 + 1, none⟩ (.int .i64 0)).setCell ⟨gc, k * 3 + 2, none⟩ (.slice none 0 0) = w6 at S3 ⊢
  clear f0 f1 f2 y0 y1b y2b x0 hgc
  have hM := Bm.wordN_lt ms true (by have := H40.out; have := HL.out; omega)
  have HWS := Lib.hid (Bm.word_set (ms := ms) (k := k) HU.out)
  obtain ⟨M, hMe⟩ : ∃ M, Bm.wordN ms true = M := ⟨_, rfl⟩
  rw [hMe] at S3 hM HWS
  clear hMe
  have hor := Hps.or_in hM (show k < 64 by omega)
  obtain ⟨hp1, hp2, hp3⟩ := Hps.pow_in (show k < 64 by omega)
  have x2 : w6.cell? ⟨b, 2, none⟩ = some (.int .u64 M) := S3.box.cell 2
  have fb : w6.frozen? ⟨b, 2, none⟩ = false := S3.box.frozen 2
  have S4 := S3.mark (M ||| 2 ^ k)
  go_region
  have S5 := S4.up (below_drewN (Below.refl _ _) 1)
  have S6 : BoxW w0 (w6.setCell ⟨b, 2, none⟩ (.int .u64 ((M ||| 2 ^ k : Nat) : Int))).drew b (.slice (some ⟨gc, 0, none⟩) n c) (.slice R m d) _ _ _ _ := S5
  generalize (w6.setCell ⟨b, 2, none⟩ (.int .u64 ((M ||| 2 ^ k : Nat) : Int))).drew = w7 at S6 ⊢
  rw [HWS.out] at S6
  go_wp2_with fail
  go_ret
  obtain rfl := HE1.out
  obtain rfl := HE2.out
  exact ⟨rfl, _, S6⟩
set_option maxHeartbeats 4000000 in
theorem lazy_any (w0 w : World) (b : Nat) (vc vr : Value) (rvs : List Value) (h : Hp) (V : Nat) (i : Int) (S0 : BoxW w0 w b vc vr rvs h V i) (hV : V < 18446744073709551616) (h64 : h.cs.length ≤ 64) :
    Calls Try.prog 42 #[.pointer (some ⟨b, 0, none⟩)] w fun e w' => ∃ vm, e = .returned (.agg #[vc, vr, vm, .int .i64 i]) ∧ OwnO w' w.heap.size vm ((List.range h.cs.length).map V.testBit) ∧ Below w.heap.size w w' := by
  obtain ⟨A, c, R, d, rfl, rfl, -⟩ := S0.own.form
  obtain ⟨n, hn⟩ : ∃ n, h.cs.length = n := ⟨_, rfl⟩
  obtain ⟨m, hm⟩ : ∃ m, h.rt.length = m := ⟨_, rfl⟩
  rw [hn] at S0 h64 ⊢
  rw [hm] at S0 ⊢
  obtain ⟨ll, hll⟩ : ∃ ll, (List.range n).map V.testBit = ll := ⟨_, rfl⟩
  rw [hll]
  have hln : ll.length = n := by rw [← hll]; simp
  have HLL := Lib.hid hll
  have HLN := Lib.hid hln
  have B2 : Below w.heap.size w (w.alloc (.cells #[.slice none 0 0, .slice none 0 0, .slice none 0 0, .int .i64 0] 30)) := (Below.refl _ _).alloc (Nat.le_refl _) _
  have q2 := Rw.new w 30 #[.slice none 0 0, .slice none 0 0, .slice none 0 0, .int .i64 0]
  have S2 := S0.up B2
  clear S0 hn hm hll hln
  go_enter Try.func42, Try.ntmps42
  go_upto_region 1 with fail
  generalize w.alloc (.cells #[.slice none 0 0, .slice none 0 0, .slice none 0 0, .int .i64 0] 30) = w2 at B2 q2 S2 ⊢
  obtain ⟨q, hq⟩ : ∃ q, w.heap.size = q := ⟨_, rfl⟩
  rw [hq] at B2 q2 ⊢
  have HQ := Lib.hid hq
  clear hq
  have hrl := q2.lt
  have hbl := S2.box.lt
  refine wp_region_inv (by kernel_rfl) (by kernel_rfl) (fun L ac ww => ∃ t3 t4 t5 t6 t7 t8 t9 t10 t11 t12 t13 t14 t15 t16 t17 t18 t19 t20 t21 t22 : Value, ac = { tmps := #[Value.pointer (some { block := b, off := 0 }), undef, Value.pointer (some { block := q, off := 0 }), t3, t4, t5, t6, t7, t8, t9, t10, t11, t12, t13, t14, t15, t16, t17, t18, t19, t20, t21, t22], defers := [] } ∧ (L 20 = false → Below w2.heap.size w2 ww) ∧ (L 0 = true → t3 = .pointer (some ⟨b, 0, none⟩)) ∧ (L 1 = true → t4 = .pointer (some ⟨b, 0, none⟩)) ∧ (L 2 = true → t5 = .pointer (some ⟨b, 0, none⟩)) ∧ (L 3 = true → t6 = .agg #[.slice A n c, .slice R m d]) ∧ (L 4 = true → t7 = .pointer (some ⟨b, 0, none⟩)) ∧ (L 5 = true → t8 = .pointer (some ⟨b, 0, none⟩)) ∧ (L 6 = true → t9 = .pointer (some ⟨b, 2, none⟩)) ∧ (L 7 = true → t10 = .int .u64 (V : Nat)) ∧ (L 8 = true → t11 = .pointer (some ⟨b, 0, none⟩)) ∧ (L 9 = true → t12 = .pointer (some ⟨b, 0, none⟩)) ∧ (L 10 = true → t13 = .pointer (some ⟨b, 0, none⟩)) ∧ (L 11 = true → t14 = .pointer (some ⟨b, 0, none⟩)) ∧ (L 12 = true → t15 = .slice A n c) ∧ (L 13 = true → t16 = .int .i64 (n : Nat)) ∧ (L 14 = true → ∃ (K5 : Option Addr) (q5 : Nat), t17 = .slice K5 n q5 ∧ (L 20 = false → OwnO ww w2.heap.size (.slice K5 n q5) ll)) ∧ (L 15 = true → t18 = .pointer (some ⟨b, 0, none⟩)) ∧ (L 16 = true → t19 = .pointer (some ⟨b, 0, none⟩)) ∧ (L 17 = true → t20 = .pointer (some ⟨b, 3, none⟩)) ∧ (L 18 = true → t21 = .int .i64 i) ∧ (L 19 = true → L 14 = true ∧ ∃ (K5 : Option Addr) (q5 : Nat), t17 = .slice K5 n q5 ∧ t22 = .agg #[.slice A n c, .slice R m d, .slice K5 n q5, .int .i64 i]) ∧ (L 20 = true → (∀ q, q < 20 → L q = true) ∧ ∃ (K5 : Option Addr) (q5 : Nat) (wp : World), ww = ((((wp).setCell ⟨q, 0, none⟩ (.slice A n c)).setCell ⟨q, 1, none⟩ (.slice R m d)).setCell ⟨q, 2, none⟩ (.slice K5 n q5)).setCell ⟨q, 3, none⟩ (.int .i64 i) ∧ Below w2.heap.size w2 wp ∧ OwnO wp w2.heap.size (.slice K5 n q5) ll)) ?h0 ?hstep ?hdone
  case h0 => exact ⟨_, _, _, _, _, _, _, _, _, _, _, _, _, _, _, _, _, _, _, _, rfl, fun _ => (Below.refl _ _).drew, (fun h => absurd h Bool.false_ne_true), (fun h => absurd h Bool.false_ne_true), (fun h => absurd h Bool.false_ne_true), (fun h => absurd h Bool.false_ne_true), (fun h => absurd h Bool.false_ne_true), (fun h => absurd h Bool.false_ne_true), (fun h => absurd h Bool.false_ne_true), (fun h => absurd h Bool.false_ne_true), (fun h => absurd h Bool.false_ne_true), (fun h => absurd h Bool.false_ne_true), (fun h => absurd h Bool.false_ne_true), (fun h => absurd h Bool.false_ne_true), (fun h => absurd h Bool.false_ne_true), (fun h => absurd h Bool.false_ne_true), (fun h => absurd h Bool.false_ne_true), (fun h => absurd h Bool.false_ne_true), (fun h => absurd h Bool.false_ne_true), (fun h => absurd h Bool.false_ne_true), (fun h => absurd h Bool.false_ne_true), (fun h => absurd h Bool.false_ne_true), (fun h => absurd h Bool.false_ne_true)⟩
  case hstep =>
    rintro L ac ww i o ho hL hd ⟨t3, t4, t5, t6, t7, t8, t9, t10, t11, t12, t13, t14, t15, t16, t17, t18, t19, t20, t21, t22, rfl, I0, f0, f1, f2, f3, f4, f5, f6, f7, f8, f9, f10, f11, f12, f13, f14, f15, f16, f17, f18, f19, f20⟩
    have hi : i < 21 := (Array.getElem?_eq_some_iff.1 ho).1
    obtain rfl | rfl | rfl | rfl | rfl | rfl | rfl | rfl | rfl | rfl | rfl | rfl | rfl | rfl | rfl | rfl | rfl | rfl | rfl | rfl | rfl : i = 0 ∨ i = 1 ∨ i = 2 ∨ i = 3 ∨ i = 4 ∨ i = 5 ∨ i = 6 ∨ i = 7 ∨ i = 8 ∨ i = 9 ∨ i = 10 ∨ i = 11 ∨ i = 12 ∨ i = 13 ∨ i = 14 ∨ i = 15 ∨ i = 16 ∨ i = 17 ∨ i = 18 ∨ i = 19 ∨ i = 20 := by omega
    · obtain rfl := Option.some.inj ho
      have hL20 : L 20 = false := by
        cases e : L 20
        · rfl
        · exact absurd ((f20 e).1 0 (by decide)) (by rw [hL]; decide)
      have J := I0 hL20
      refine wpOp_step rfl (fun K' hK => ?_)
      go_simp
      refine hK _ _ ?_
      exact ⟨_, _, _, _, _, _, _, _, _, _, _, _, _, _, _, _, _, _, _, _, rfl, (fun _ => J), (fun _ => rfl), (kp f1), (kp f2), (kp f3), (kp f4), (kp f5), (kp f6), (kp f7), (kp f8), (kp f9), (kp f10), (kp f11), (kp f12), (kp f13), (fun h => by
        obtain ⟨K5, q5, e, r⟩ := f14 (upd_ne h (by decide))
        exact ⟨K5, q5, e, fun h6 => r (by rw [upd_other (by decide)] at h6; exact h6)⟩), (kp f15), (kp f16), (kp f17), (kp f18), (fun h => by
        obtain ⟨l4, r⟩ := f19 (upd_ne h (by decide))
        exact ⟨upd_mono l4, r⟩), (fun h => absurd hL20 (by rw [upd_ne h (by decide)]; decide))⟩
    · obtain rfl := Option.some.inj ho
      have g0 := f0 (hd ⟨0, .data⟩ (by simp) rfl)
      subst g0
      have hL20 : L 20 = false := by
        cases e : L 20
        · rfl
        · exact absurd ((f20 e).1 1 (by decide)) (by rw [hL]; decide)
      have J := I0 hL20
      refine wpOp_step rfl (fun K' hK => ?_)
      go_simp
      refine hK _ _ ?_
      exact ⟨_, _, _, _, _, _, _, _, _, _, _, _, _, _, _, _, _, _, _, _, rfl, (fun _ => J), (kp f0), (fun _ => rfl), (kp f2), (kp f3), (kp f4), (kp f5), (kp f6), (kp f7), (kp f8), (kp f9), (kp f10), (kp f11), (kp f12), (kp f13), (fun h => by
        obtain ⟨K5, q5, e, r⟩ := f14 (upd_ne h (by decide))
        exact ⟨K5, q5, e, fun h6 => r (by rw [upd_other (by decide)] at h6; exact h6)⟩), (kp f15), (kp f16), (kp f17), (kp f18), (fun h => by
        obtain ⟨l4, r⟩ := f19 (upd_ne h (by decide))
        exact ⟨upd_mono l4, r⟩), (fun h => absurd hL20 (by rw [upd_ne h (by decide)]; decide))⟩
    · obtain rfl := Option.some.inj ho
      have g1 := f1 (hd ⟨1, .data⟩ (by simp) rfl)
      subst g1
      have hL20 : L 20 = false := by
        cases e : L 20
        · rfl
        · exact absurd ((f20 e).1 2 (by decide)) (by rw [hL]; decide)
      have J := I0 hL20
      refine wpOp_step rfl (fun K' hK => ?_)
      go_simp
      refine hK _ _ ?_
      exact ⟨_, _, _, _, _, _, _, _, _, _, _, _, _, _, _, _, _, _, _, _, rfl, (fun _ => J), (kp f0), (kp f1), (fun _ => rfl), (kp f3), (kp f4), (kp f5), (kp f6), (kp f7), (kp f8), (kp f9), (kp f10), (kp f11), (kp f12), (kp f13), (fun h => by
        obtain ⟨K5, q5, e, r⟩ := f14 (upd_ne h (by decide))
        exact ⟨K5, q5, e, fun h6 => r (by rw [upd_other (by decide)] at h6; exact h6)⟩), (kp f15), (kp f16), (kp f17), (kp f18), (fun h => by
        obtain ⟨l4, r⟩ := f19 (upd_ne h (by decide))
        exact ⟨upd_mono l4, r⟩), (fun h => absurd hL20 (by rw [upd_ne h (by decide)]; decide))⟩
    · obtain rfl := Option.some.inj ho
      have g2 := f2 (hd ⟨2, .data⟩ (by simp) rfl)
      subst g2
      have hL20 : L 20 = false := by
        cases e : L 20
        · rfl
        · exact absurd ((f20 e).1 3 (by decide)) (by rw [hL]; decide)
      have J := I0 hL20
      have z0 : ww.cell? ⟨b, 0, none⟩ = some (.slice A n c) := (J.cell (p := ⟨b, 0, none⟩) hbl).trans (S2.box.cell 0)
      have z1 : ww.cell? ⟨b, 1, none⟩ = some (.slice R m d) := (J.cell (p := ⟨b, 1, none⟩) hbl).trans (S2.box.cell 1)
      refine wpOp_step rfl (fun K' hK => ?_)
      go_simp
      refine hK _ _ ?_
      exact ⟨_, _, _, _, _, _, _, _, _, _, _, _, _, _, _, _, _, _, _, _, rfl, (fun _ => J), (kp f0), (kp f1), (kp f2), (fun _ => rfl), (kp f4), (kp f5), (kp f6), (kp f7), (kp f8), (kp f9), (kp f10), (kp f11), (kp f12), (kp f13), (fun h => by
        obtain ⟨K5, q5, e, r⟩ := f14 (upd_ne h (by decide))
        exact ⟨K5, q5, e, fun h6 => r (by rw [upd_other (by decide)] at h6; exact h6)⟩), (kp f15), (kp f16), (kp f17), (kp f18), (fun h => by
        obtain ⟨l4, r⟩ := f19 (upd_ne h (by decide))
        exact ⟨upd_mono l4, r⟩), (fun h => absurd hL20 (by rw [upd_ne h (by decide)]; decide))⟩
    · obtain rfl := Option.some.inj ho
      have hL20 : L 20 = false := by
        cases e : L 20
        · rfl
        · exact absurd ((f20 e).1 4 (by decide)) (by rw [hL]; decide)
      have J := I0 hL20
      refine wpOp_step rfl (fun K' hK => ?_)
      go_simp
      refine hK _ _ ?_
      exact ⟨_, _, _, _, _, _, _, _, _, _, _, _, _, _, _, _, _, _, _, _, rfl, (fun _ => J), (kp f0), (kp f1), (kp f2), (kp f3), (fun _ => rfl), (kp f5), (kp f6), (kp f7), (kp f8), (kp f9), (kp f10), (kp f11), (kp f12), (kp f13), (fun h => by
        obtain ⟨K5, q5, e, r⟩ := f14 (upd_ne h (by decide))
        exact ⟨K5, q5, e, fun h6 => r (by rw [upd_other (by decide)] at h6; exact h6)⟩), (kp f15), (kp f16), (kp f17), (kp f18), (fun h => by
        obtain ⟨l4, r⟩ := f19 (upd_ne h (by decide))
        exact ⟨upd_mono l4, r⟩), (fun h => absurd hL20 (by rw [upd_ne h (by decide)]; decide))⟩
    · obtain rfl := Option.some.inj ho
      have g4 := f4 (hd ⟨4, .data⟩ (by simp) rfl)
      subst g4
      have hL20 : L 20 = false := by
        cases e : L 20
        · rfl
        · exact absurd ((f20 e).1 5 (by decide)) (by rw [hL]; decide)
      have J := I0 hL20
      refine wpOp_step rfl (fun K' hK => ?_)
      go_simp
      refine hK _ _ ?_
      exact ⟨_, _, _, _, _, _, _, _, _, _, _, _, _, _, _, _, _, _, _, _, rfl, (fun _ => J), (kp f0), (kp f1), (kp f2), (kp f3), (kp f4), (fun _ => rfl), (kp f6), (kp f7), (kp f8), (kp f9), (kp f10), (kp f11), (kp f12), (kp f13), (fun h => by
        obtain ⟨K5, q5, e, r⟩ := f14 (upd_ne h (by decide))
        exact ⟨K5, q5, e, fun h6 => r (by rw [upd_other (by decide)] at h6; exact h6)⟩), (kp f15), (kp f16), (kp f17), (kp f18), (fun h => by
        obtain ⟨l4, r⟩ := f19 (upd_ne h (by decide))
        exact ⟨upd_mono l4, r⟩), (fun h => absurd hL20 (by rw [upd_ne h (by decide)]; decide))⟩
    · obtain rfl := Option.some.inj ho
      have g5 := f5 (hd ⟨5, .data⟩ (by simp) rfl)
      subst g5
      have hL20 : L 20 = false := by
        cases e : L 20
        · rfl
        · exact absurd ((f20 e).1 6 (by decide)) (by rw [hL]; decide)
      have J := I0 hL20
      refine wpOp_step rfl (fun K' hK => ?_)
      go_simp
      refine hK _ _ ?_
      exact ⟨_, _, _, _, _, _, _, _, _, _, _, _, _, _, _, _, _, _, _, _, rfl, (fun _ => J), (kp f0), (kp f1), (kp f2), (kp f3), (kp f4), (kp f5), (fun _ => rfl), (kp f7), (kp f8), (kp f9), (kp f10), (kp f11), (kp f12), (kp f13), (fun h => by
        obtain ⟨K5, q5, e, r⟩ := f14 (upd_ne h (by decide))
        exact ⟨K5, q5, e, fun h6 => r (by rw [upd_other (by decide)] at h6; exact h6)⟩), (kp f15), (kp f16), (kp f17), (kp f18), (fun h => by
        obtain ⟨l4, r⟩ := f19 (upd_ne h (by decide))
        exact ⟨upd_mono l4, r⟩), (fun h => absurd hL20 (by rw [upd_ne h (by decide)]; decide))⟩
    · obtain rfl := Option.some.inj ho
      have g6 := f6 (hd ⟨6, .data⟩ (by simp) rfl)
      subst g6
      have hL20 : L 20 = false := by
        cases e : L 20
        · rfl
        · exact absurd ((f20 e).1 7 (by decide)) (by rw [hL]; decide)
      have J := I0 hL20
      have z2 : ww.cell? ⟨b, 2, none⟩ = some (.int .u64 V) := (J.cell (p := ⟨b, 2, none⟩) hbl).trans (S2.box.cell 2)
      refine wpOp_step rfl (fun K' hK => ?_)
      go_simp
      refine hK _ _ ?_
      exact ⟨_, _, _, _, _, _, _, _, _, _, _, _, _, _, _, _, _, _, _, _, rfl, (fun _ => J), (kp f0), (kp f1), (kp f2), (kp f3), (kp f4), (kp f5), (kp f6), (fun _ => rfl), (kp f8), (kp f9), (kp f10), (kp f11), (kp f12), (kp f13), (fun h => by
        obtain ⟨K5, q5, e, r⟩ := f14 (upd_ne h (by decide))
        exact ⟨K5, q5, e, fun h6 => r (by rw [upd_other (by decide)] at h6; exact h6)⟩), (kp f15), (kp f16), (kp f17), (kp f18), (fun h => by
        obtain ⟨l4, r⟩ := f19 (upd_ne h (by decide))
        exact ⟨upd_mono l4, r⟩), (fun h => absurd hL20 (by rw [upd_ne h (by decide)]; decide))⟩
    · obtain rfl := Option.some.inj ho
      have hL20 : L 20 = false := by
        cases e : L 20
        · rfl
        · exact absurd ((f20 e).1 8 (by decide)) (by rw [hL]; decide)
      have J := I0 hL20
      refine wpOp_step rfl (fun K' hK => ?_)
      go_simp
      refine hK _ _ ?_
      exact ⟨_, _, _, _, _, _, _, _, _, _, _, _, _, _, _, _, _, _, _, _, rfl, (fun _ => J), (kp f0), (kp f1), (kp f2), (kp f3), (kp f4), (kp f5), (kp f6), (kp f7), (fun _ => rfl), (kp f9), (kp f10), (kp f11), (kp f12), (kp f13), (fun h => by
        obtain ⟨K5, q5, e, r⟩ := f14 (upd_ne h (by decide))
        exact ⟨K5, q5, e, fun h6 => r (by rw [upd_other (by decide)] at h6; exact h6)⟩), (kp f15), (kp f16), (kp f17), (kp f18), (fun h => by
        obtain ⟨l4, r⟩ := f19 (upd_ne h (by decide))
        exact ⟨upd_mono l4, r⟩), (fun h => absurd hL20 (by rw [upd_ne h (by decide)]; decide))⟩
    · obtain rfl := Option.some.inj ho
      have g8 := f8 (hd ⟨8, .data⟩ (by simp) rfl)
      subst g8
      have hL20 : L 20 = false := by
        cases e : L 20
        · rfl
        · exact absurd ((f20 e).1 9 (by decide)) (by rw [hL]; decide)
      have J := I0 hL20
      refine wpOp_step rfl (fun K' hK => ?_)
      go_simp
      refine hK _ _ ?_
      exact ⟨_, _, _, _, _, _, _, _, _, _, _, _, _, _, _, _, _, _, _, _, rfl, (fun _ => J), (kp f0), (kp f1), (kp f2), (kp f3), (kp f4), (kp f5), (kp f6), (kp f7), (kp f8), (fun _ => rfl), (kp f10), (kp f11), (kp f12), (kp f13), (fun h => by
        obtain ⟨K5, q5, e, r⟩ := f14 (upd_ne h (by decide))
        exact ⟨K5, q5, e, fun h6 => r (by rw [upd_other (by decide)] at h6; exact h6)⟩), (kp f15), (kp f16), (kp f17), (kp f18), (fun h => by
        obtain ⟨l4, r⟩ := f19 (upd_ne h (by decide))
        exact ⟨upd_mono l4, r⟩), (fun h => absurd hL20 (by rw [upd_ne h (by decide)]; decide))⟩
    · obtain rfl := Option.some.inj ho
      have g9 := f9 (hd ⟨9, .data⟩ (by simp) rfl)
      subst g9
      have hL20 : L 20 = false := by
        cases e : L 20
        · rfl
        · exact absurd ((f20 e).1 10 (by decide)) (by rw [hL]; decide)
      have J := I0 hL20
      refine wpOp_step rfl (fun K' hK => ?_)
      go_simp
      refine hK _ _ ?_
      exact ⟨_, _, _, _, _, _, _, _, _, _, _, _, _, _, _, _, _, _, _, _, rfl, (fun _ => J), (kp f0), (kp f1), (kp f2), (kp f3), (kp f4), (kp f5), (kp f6), (kp f7), (kp f8), (kp f9), (fun _ => rfl), (kp f11), (kp f12), (kp f13), (fun h => by
        obtain ⟨K5, q5, e, r⟩ := f14 (upd_ne h (by decide))
        exact ⟨K5, q5, e, fun h6 => r (by rw [upd_other (by decide)] at h6; exact h6)⟩), (kp f15), (kp f16), (kp f17), (kp f18), (fun h => by
        obtain ⟨l4, r⟩ := f19 (upd_ne h (by decide))
        exact ⟨upd_mono l4, r⟩), (fun h => absurd hL20 (by rw [upd_ne h (by decide)]; decide))⟩
    · obtain rfl := Option.some.inj ho
      have g10 := f10 (hd ⟨10, .data⟩ (by simp) rfl)
      subst g10
      have hL20 : L 20 = false := by
        cases e : L 20
        · rfl
        · exact absurd ((f20 e).1 11 (by decide)) (by rw [hL]; decide)
      have J := I0 hL20
      refine wpOp_step rfl (fun K' hK => ?_)
      go_simp
      refine hK _ _ ?_
      exact ⟨_, _, _, _, _, _, _, _, _, _, _, _, _, _, _, _, _, _, _, _, rfl, (fun _ => J), (kp f0), (kp f1), (kp f2), (kp f3), (kp f4), (kp f5), (kp f6), (kp f7), (kp f8), (kp f9), (kp f10), (fun _ => rfl), (kp f12), (kp f13), (fun h => by
        obtain ⟨K5, q5, e, r⟩ := f14 (upd_ne h (by decide))
        exact ⟨K5, q5, e, fun h6 => r (by rw [upd_other (by decide)] at h6; exact h6)⟩), (kp f15), (kp f16), (kp f17), (kp f18), (fun h => by
        obtain ⟨l4, r⟩ := f19 (upd_ne h (by decide))
        exact ⟨upd_mono l4, r⟩), (fun h => absurd hL20 (by rw [upd_ne h (by decide)]; decide))⟩
    · obtain rfl := Option.some.inj ho
      have g11 := f11 (hd ⟨11, .data⟩ (by simp) rfl)
      subst g11
      have hL20 : L 20 = false := by
        cases e : L 20
        · rfl
        · exact absurd ((f20 e).1 12 (by decide)) (by rw [hL]; decide)
      have J := I0 hL20
      have z0 : ww.cell? ⟨b, 0, none⟩ = some (.slice A n c) := (J.cell (p := ⟨b, 0, none⟩) hbl).trans (S2.box.cell 0)
      refine wpOp_step rfl (fun K' hK => ?_)
      go_simp
      refine hK _ _ ?_
      exact ⟨_, _, _, _, _, _, _, _, _, _, _, _, _, _, _, _, _, _, _, _, rfl, (fun _ => J), (kp f0), (kp f1), (kp f2), (kp f3), (kp f4), (kp f5), (kp f6), (kp f7), (kp f8), (kp f9), (kp f10), (kp f11), (fun _ => rfl), (kp f13), (fun h => by
        obtain ⟨K5, q5, e, r⟩ := f14 (upd_ne h (by decide))
        exact ⟨K5, q5, e, fun h6 => r (by rw [upd_other (by decide)] at h6; exact h6)⟩), (kp f15), (kp f16), (kp f17), (kp f18), (fun h => by
        obtain ⟨l4, r⟩ := f19 (upd_ne h (by decide))
        exact ⟨upd_mono l4, r⟩), (fun h => absurd hL20 (by rw [upd_ne h (by decide)]; decide))⟩
    · obtain rfl := Option.some.inj ho
      have g12 := f12 (hd ⟨12, .data⟩ (by simp) rfl)
      subst g12
      have hL20 : L 20 = false := by
        cases e : L 20
        · rfl
        · exact absurd ((f20 e).1 13 (by decide)) (by rw [hL]; decide)
      have J := I0 hL20
      refine wpOp_step rfl (fun K' hK => ?_)
      go_simp
      refine hK _ _ ?_
      exact ⟨_, _, _, _, _, _, _, _, _, _, _, _, _, _, _, _, _, _, _, _, rfl, (fun _ => J), (kp f0), (kp f1), (kp f2), (kp f3), (kp f4), (kp f5), (kp f6), (kp f7), (kp f8), (kp f9), (kp f10), (kp f11), (kp f12), (fun _ => rfl), (fun h => by
        obtain ⟨K5, q5, e, r⟩ := f14 (upd_ne h (by decide))
        exact ⟨K5, q5, e, fun h6 => r (by rw [upd_other (by decide)] at h6; exact h6)⟩), (kp f15), (kp f16), (kp f17), (kp f18), (fun h => by
        obtain ⟨l4, r⟩ := f19 (upd_ne h (by decide))
        exact ⟨upd_mono l4, r⟩), (fun h => absurd hL20 (by rw [upd_ne h (by decide)]; decide))⟩
    · obtain rfl := Option.some.inj ho
      have g7 := f7 (hd ⟨7, .data⟩ (by simp) rfl)
      have g13 := f13 (hd ⟨13, .data⟩ (by simp) rfl)
      subst g7
      subst g13
      have hL20 : L 20 = false := by
        cases e : L 20
        · rfl
        · exact absurd ((f20 e).1 14 (by decide)) (by rw [hL]; decide)
      have J := I0 hL20
      refine wpOp_step rfl (fun K' hK => ?_)
      go_simp
      refine (cflags_any V n ww hV h64).mono ?_
      rw [HLL.out]
      rintro e w' ⟨vm, rfl, ok, b5⟩
      obtain ⟨K5, q5, e8, -⟩ := ok.form
      rw [HLN.out] at e8
      subst e8
      refine hK _ _ ?_
      exact ⟨_, _, _, _, _, _, _, _, _, _, _, _, _, _, _, _, _, _, _, _, rfl, (fun _ => J.trans (b5.mono J.size)), (kp f0), (kp f1), (kp f2), (kp f3), (kp f4), (kp f5), (kp f6), (kp f7), (kp f8), (kp f9), (kp f10), (kp f11), (kp f12), (kp f13), (fun _ => ⟨K5, q5, rfl, fun _ => ok.base J.size⟩), (kp f15), (kp f16), (kp f17), (kp f18), (fun h => absurd (f19 (upd_ne h (by decide))).1 (by rw [hL]; decide)), (fun h => absurd hL20 (by rw [upd_ne h (by decide)]; decide))⟩
    · obtain rfl := Option.some.inj ho
      have hL20 : L 20 = false := by
        cases e : L 20
        · rfl
        · exact absurd ((f20 e).1 15 (by decide)) (by rw [hL]; decide)
      have J := I0 hL20
      refine wpOp_step rfl (fun K' hK => ?_)
      go_simp
      refine hK _ _ ?_
      exact ⟨_, _, _, _, _, _, _, _, _, _, _, _, _, _, _, _, _, _, _, _, rfl, (fun _ => J), (kp f0), (kp f1), (kp f2), (kp f3), (kp f4), (kp f5), (kp f6), (kp f7), (kp f8), (kp f9), (kp f10), (kp f11), (kp f12), (kp f13), (fun h => by
        obtain ⟨K5, q5, e, r⟩ := f14 (upd_ne h (by decide))
        exact ⟨K5, q5, e, fun h6 => r (by rw [upd_other (by decide)] at h6; exact h6)⟩), (fun _ => rfl), (kp f16), (kp f17), (kp f18), (fun h => by
        obtain ⟨l4, r⟩ := f19 (upd_ne h (by decide))
        exact ⟨upd_mono l4, r⟩), (fun h => absurd hL20 (by rw [upd_ne h (by decide)]; decide))⟩
    · obtain rfl := Option.some.inj ho
      have g15 := f15 (hd ⟨15, .data⟩ (by simp) rfl)
      subst g15
      have hL20 : L 20 = false := by
        cases e : L 20
        · rfl
        · exact absurd ((f20 e).1 16 (by decide)) (by rw [hL]; decide)
      have J := I0 hL20
      refine wpOp_step rfl (fun K' hK => ?_)
      go_simp
      refine hK _ _ ?_
      exact ⟨_, _, _, _, _, _, _, _, _, _, _, _, _, _, _, _, _, _, _, _, rfl, (fun _ => J), (kp f0), (kp f1), (kp f2), (kp f3), (kp f4), (kp f5), (kp f6), (kp f7), (kp f8), (kp f9), (kp f10), (kp f11), (kp f12), (kp f13), (fun h => by
        obtain ⟨K5, q5, e, r⟩ := f14 (upd_ne h (by decide))
        exact ⟨K5, q5, e, fun h6 => r (by rw [upd_other (by decide)] at h6; exact h6)⟩), (kp f15), (fun _ => rfl), (kp f17), (kp f18), (fun h => by
        obtain ⟨l4, r⟩ := f19 (upd_ne h (by decide))
        exact ⟨upd_mono l4, r⟩), (fun h => absurd hL20 (by rw [upd_ne h (by decide)]; decide))⟩
    · obtain rfl := Option.some.inj ho
      have g16 := f16 (hd ⟨16, .data⟩ (by simp) rfl)
      subst g16
      have hL20 : L 20 = false := by
        cases e : L 20
        · rfl
        · exact absurd ((f20 e).1 17 (by decide)) (by rw [hL]; decide)
      have J := I0 hL20
      refine wpOp_step rfl (fun K' hK => ?_)
      go_simp
      refine hK _ _ ?_
      exact ⟨_, _, _, _, _, _, _, _, _, _, _, _, _, _, _, _, _, _, _, _, rfl, (fun _ => J), (kp f0), (kp f1), (kp f2), (kp f3), (kp f4), (kp f5), (kp f6), (kp f7), (kp f8), (kp f9), (kp f10), (kp f11), (kp f12), (kp f13), (fun h => by
        obtain ⟨K5, q5, e, r⟩ := f14 (upd_ne h (by decide))
        exact ⟨K5, q5, e, fun h6 => r (by rw [upd_other (by decide)] at h6; exact h6)⟩), (kp f15), (kp f16), (fun _ => rfl), (kp f18), (fun h => by
        obtain ⟨l4, r⟩ := f19 (upd_ne h (by decide))
        exact ⟨upd_mono l4, r⟩), (fun h => absurd hL20 (by rw [upd_ne h (by decide)]; decide))⟩
    · obtain rfl := Option.some.inj ho
      have g17 := f17 (hd ⟨17, .data⟩ (by simp) rfl)
      subst g17
      have hL20 : L 20 = false := by
        cases e : L 20
        · rfl
        · exact absurd ((f20 e).1 18 (by decide)) (by rw [hL]; decide)
      have J := I0 hL20
      have z3 : ww.cell? ⟨b, 3, none⟩ = some (.int .i64 i) := (J.cell (p := ⟨b, 3, none⟩) hbl).trans (S2.box.cell 3)
      refine wpOp_step rfl (fun K' hK => ?_)
      go_simp
      refine hK _ _ ?_
      exact ⟨_, _, _, _, _, _, _, _, _, _, _, _, _, _, _, _, _, _, _, _, rfl, (fun _ => J), (kp f0), (kp f1), (kp f2), (kp f3), (kp f4), (kp f5), (kp f6), (kp f7), (kp f8), (kp f9), (kp f10), (kp f11), (kp f12), (kp f13), (fun h => by
        obtain ⟨K5, q5, e, r⟩ := f14 (upd_ne h (by decide))
        exact ⟨K5, q5, e, fun h6 => r (by rw [upd_other (by decide)] at h6; exact h6)⟩), (kp f15), (kp f16), (kp f17), (fun _ => rfl), (fun h => by
        obtain ⟨l4, r⟩ := f19 (upd_ne h (by decide))
        exact ⟨upd_mono l4, r⟩), (fun h => absurd hL20 (by rw [upd_ne h (by decide)]; decide))⟩
    · obtain rfl := Option.some.inj ho
      have g3 := f3 (hd ⟨3, .data⟩ (by simp) rfl)
      have g14 := f14 (hd ⟨14, .data⟩ (by simp) rfl)
      have g18 := f18 (hd ⟨18, .data⟩ (by simp) rfl)
      subst g3
      subst g18
      have hL20 : L 20 = false := by
        cases e : L 20
        · rfl
        · exact absurd ((f20 e).1 19 (by decide)) (by rw [hL]; decide)
      have J := I0 hL20
      have l4 := Lib.hid (hd ⟨14, .data⟩ (by simp) rfl)
      obtain ⟨K5, q5, e7, r4⟩ := g14
      subst e7
      refine wpOp_step rfl (fun K' hK => ?_)
      go_simp
      refine hK _ _ ?_
      exact ⟨_, _, _, _, _, _, _, _, _, _, _, _, _, _, _, _, _, _, _, _, rfl, (fun _ => J), (kp f0), (kp f1), (kp f2), (kp f3), (kp f4), (kp f5), (kp f6), (kp f7), (kp f8), (kp f9), (kp f10), (kp f11), (kp f12), (kp f13), (fun _ => ⟨K5, q5, rfl, fun h => r4 (by rw [upd_other (by decide)] at h; exact h)⟩), (kp f15), (kp f16), (kp f17), (kp f18), (fun _ => ⟨upd_mono l4.out, K5, q5, rfl, rfl⟩), (fun h => absurd hL20 (by rw [upd_ne h (by decide)]; decide))⟩
    · obtain rfl := Option.some.inj ho
      have g19 := f19 (hd ⟨19, .data⟩ (by simp) rfl)
      have lq : Hid (∀ q, q < 20 → L q = true) := Lib.hid (by
        intro q hq
        obtain rfl | rfl | rfl | rfl | rfl | rfl | rfl | rfl | rfl | rfl | rfl | rfl | rfl | rfl | rfl | rfl | rfl | rfl | rfl | rfl : q = 0 ∨ q = 1 ∨ q = 2 ∨ q = 3 ∨ q = 4 ∨ q = 5 ∨ q = 6 ∨ q = 7 ∨ q = 8 ∨ q = 9 ∨ q = 10 ∨ q = 11 ∨ q = 12 ∨ q = 13 ∨ q = 14 ∨ q = 15 ∨ q = 16 ∨ q = 17 ∨ q = 18 ∨ q = 19 := by omega
        · exact hd ⟨0, .phase⟩ (by simp) rfl
        · exact hd ⟨1, .phase⟩ (by simp) rfl
        · exact hd ⟨2, .phase⟩ (by simp) rfl
        · exact hd ⟨3, .phase⟩ (by simp) rfl
        · exact hd ⟨4, .phase⟩ (by simp) rfl
        · exact hd ⟨5, .phase⟩ (by simp) rfl
        · exact hd ⟨6, .phase⟩ (by simp) rfl
        · exact hd ⟨7, .phase⟩ (by simp) rfl
        · exact hd ⟨8, .phase⟩ (by simp) rfl
        · exact hd ⟨9, .phase⟩ (by simp) rfl
        · exact hd ⟨10, .phase⟩ (by simp) rfl
        · exact hd ⟨11, .phase⟩ (by simp) rfl
        · exact hd ⟨12, .phase⟩ (by simp) rfl
        · exact hd ⟨13, .phase⟩ (by simp) rfl
        · exact hd ⟨14, .phase⟩ (by simp) rfl
        · exact hd ⟨15, .phase⟩ (by simp) rfl
        · exact hd ⟨16, .phase⟩ (by simp) rfl
        · exact hd ⟨17, .phase⟩ (by simp) rfl
        · exact hd ⟨18, .phase⟩ (by simp) rfl
        · exact hd ⟨19, .phase⟩ (by simp) rfl)
      have J := I0 hL
      obtain ⟨-, K5, q5, e7, e8⟩ := g19
      subst e8
      obtain ⟨K6, q6, e7b, r4⟩ := f14 (lq.out 14 (by decide))
      have oc := r4 hL
      rw [e7] at e7b
      injection e7b with h1 h2 h3
      subst h1
      subst h3
      subst e7
      have P := q2.keep J hrl
      have zf0 : ww.frozen? ⟨q, 0, none⟩ = false := P.frozen 0
      have zf1 : ww.frozen? ⟨q, 1, none⟩ = false := P.frozen 1
      have zf2 : ww.frozen? ⟨q, 2, none⟩ = false := P.frozen 2
      have zf3 : ww.frozen? ⟨q, 3, none⟩ = false := P.frozen 3
      have zc0 : ww.cell? ⟨q, 0, none⟩ = some (.slice none 0 0) := P.cell 0
      have zc1 : ww.cell? ⟨q, 1, none⟩ = some (.slice none 0 0) := P.cell 1
      have zc2 : ww.cell? ⟨q, 2, none⟩ = some (.slice none 0 0) := P.cell 2
      have zc3 : ww.cell? ⟨q, 3, none⟩ = some (.int .i64 0) := P.cell 3
      refine wpOp_step rfl (fun K' hK => ?_)
      go_simp
      refine hK _ _ ?_
      exact ⟨_, _, _, _, _, _, _, _, _, _, _, _, _, _, _, _, _, _, _, _, rfl, (fun h => absurd h (by rw [upd_self]; decide)), (kp f0), (kp f1), (kp f2), (kp f3), (kp f4), (kp f5), (kp f6), (kp f7), (kp f8), (kp f9), (kp f10), (kp f11), (kp f12), (kp f13), (fun _ => ⟨K5, q5, rfl, fun h => absurd h (by rw [upd_self]; decide)⟩), (kp f15), (kp f16), (kp f17), (kp f18), (fun _ => ⟨upd_mono (lq.out 14 (by decide)), K5, q5, rfl, rfl⟩), (fun _ => ⟨fun q hq => upd_mono (lq.out q hq), K5, q5, ww, rfl, J, oc⟩)⟩
  case hdone =>
    rintro L ac ww hall ⟨t3, t4, t5, t6, t7, t8, t9, t10, t11, t12, t13, t14, t15, t16, t17, t18, t19, t20, t21, t22, rfl, I0, f0, f1, f2, f3, f4, f5, f6, f7, f8, f9, f10, f11, f12, f13, f14, f15, f16, f17, f18, f19, f20⟩
    have e0 := f0 (hall 0 (by decide))
    have e1 := f1 (hall 1 (by decide))
    have e2 := f2 (hall 2 (by decide))
    have e3 := f3 (hall 3 (by decide))
    have e4 := f4 (hall 4 (by decide))
    have e5 := f5 (hall 5 (by decide))
    have e6 := f6 (hall 6 (by decide))
    have e7 := f7 (hall 7 (by decide))
    have e8 := f8 (hall 8 (by decide))
    have e9 := f9 (hall 9 (by decide))
    have e10 := f10 (hall 10 (by decide))
    have e11 := f11 (hall 11 (by decide))
    have e12 := f12 (hall 12 (by decide))
    have e13 := f13 (hall 13 (by decide))
    have e14 := f14 (hall 14 (by decide))
    have e15 := f15 (hall 15 (by decide))
    have e16 := f16 (hall 16 (by decide))
    have e17 := f17 (hall 17 (by decide))
    have e18 := f18 (hall 18 (by decide))
    have e19 := f19 (hall 19 (by decide))
    have e20 := f20 (hall 20 (by decide))
    clear f0 f1 f2 f3 f4 f5 f6 f7 f8 f9 f10 f11 f12 f13 f14 f15 f16 f17 f18 f19 f20
    obtain ⟨-, K5, q5, wp, rfl, r1, r9⟩ := e20
    have Pq := q2.keep r1 hrl
    have P4 := (((Pq.put 0 (.slice A n c)).put 1 (.slice R m d)).put 2 (.slice K5 n q5)).put 3 (.int .i64 i)
    have s8 : (((((wp).setCell ⟨q, 0, none⟩ (.slice A n c)).setCell ⟨q, 1, none⟩ (.slice R m d)).setCell ⟨q, 2, none⟩ (.slice K5 n q5)).setCell ⟨q, 3, none⟩ (.int .i64 i)).cell? ⟨q, 0, none⟩ = some (.slice A n c) := P4.cell 0
    have s9 : (((((wp).setCell ⟨q, 0, none⟩ (.slice A n c)).setCell ⟨q, 1, none⟩ (.slice R m d)).setCell ⟨q, 2, none⟩ (.slice K5 n q5)).setCell ⟨q, 3, none⟩ (.int .i64 i)).cell? ⟨q, 1, none⟩ = some (.slice R m d) := P4.cell 1
    have s10 : (((((wp).setCell ⟨q, 0, none⟩ (.slice A n c)).setCell ⟨q, 1, none⟩ (.slice R m d)).setCell ⟨q, 2, none⟩ (.slice K5 n q5)).setCell ⟨q, 3, none⟩ (.int .i64 i)).cell? ⟨q, 2, none⟩ = some (.slice K5 n q5) := P4.cell 2
    have s11 : (((((wp).setCell ⟨q, 0, none⟩ (.slice A n c)).setCell ⟨q, 1, none⟩ (.slice R m d)).setCell ⟨q, 2, none⟩ (.slice K5 n q5)).setCell ⟨q, 3, none⟩ (.int .i64 i)).cell? ⟨q, 3, none⟩ = some (.int .i64 i) := P4.cell 3
    have HW := HQ.out
    have hap : (Value.slice K5 n q5).ownBlock = none ∨ (Value.slice K5 n q5).ownBlock ≠ some q := by
      cases e : (Value.slice K5 n q5).ownBlock with
      | none => exact .inl rfl
      | some k =>
        right
        intro e'
        have h1 := (World.ownsRow.lt r9 k e).1
        have := Option.some.inj e'
        omega
    have D := Lib.hid (((((r9.far (put_any wp q 0 (.slice A n c)) hap).far (put_any _ q 1 (.slice R m d)) hap).far (put_any _ q 2 (.slice K5 n q5)) hap).far (put_any _ q 3 (.int .i64 i)) hap).base (show w.heap.size ≤ w2.heap.size by omega))
    have DB := Lib.hid (((((B2.trans (r1.mono (by omega))).setCell (p := ⟨q, 0, none⟩) (Nat.le_refl _) (.slice A n c)).setCell (p := ⟨q, 1, none⟩) (Nat.le_refl _) (.slice R m d)).setCell (p := ⟨q, 2, none⟩) (Nat.le_refl _) (.slice K5 n q5)).setCell (p := ⟨q, 3, none⟩) (Nat.le_refl _) (.int .i64 i))
    clear I0 e0 e1 e2 e3 e4 e5 e6 e7 e8 e9 e10 e11 e12 e13 e14 e15 e16 e17 e18 e19 hall r1 r9 Pq P4 S2 hap
    go_wp2_with fail
    exact bodyPost_ret (v := .agg #[.slice A n c, .slice R m d, .slice K5 n q5, .int .i64 i]) (by simp [results, Try.results42, go_sem, *]) rfl ⟨_, rfl, D.out, by rw [HW]; exact DB.out⟩
end Go.Proofs.Ytakdjiojahlnmaa

namespace Go.Proofs.Ytakdjiojahlnmaa
open Go.RowKit
set_option maxRecDepth 100000
theorem own_noneC (w : World) (base : Nat) (hb : base ≤ w.heap.size) : (w.alloc (.cells #[] 45)).ownsRow base 45 3 (.slice (some ⟨w.heap.size, 0, none⟩) 0 0) 0 [] :=
  World.ownsRow_lit (base := base) (e := 45) (size := 3) w #[] 0 hb (by unfold maxLen; omega) rfl
theorem wpList_appendCs {w : World} {ops : Array Oper} {rest : List Oper} {o : Oper} {a : Act} {Q : Exit → Act → World → Prop} (hgd : o.guard = none) (s x : Operand)
    (ho : o.op = .call { callee := .builtin .append, args := #[s, x], argTypes := #[23, 23] })
    (base : Nat) (v : Value) (n : Nat) (vs : List Value) (hs : a.eval s = v) (hown : w.ownsRow base 45 3 v n vs) (A : Option Addr) (m c : Nat) (ys : List Value) (hx : a.eval x = .slice A m c) (hl : ys.length = m * 3)
    (hA : 0 < m → ∃ ad, A = some ad ∧ ∀ j u, ys[j]? = some u → w.cell? (ad.add j) = some u) (h1 : ∀ u ∈ ys, u.oneCell' = true) (hn : n + m ≤ 1099511627776) (hbase : base ≤ w.heap.size)
    (h : ∀ v' w', w'.ownsRow base 45 3 v' (n + m) (vs ++ ys) → w.grownBy w' v.ownBlock → (v'.ownBlock = v.ownBlock ∨ v'.ownBlock = some w.heap.size) → wpList Try.prog ops Q rest (a.put o.dst v') w') : wpList Try.prog ops Q (o :: rest) a w :=
  wpList_plain hgd fun _ hK => app_stepCs hgd s x ho base v n vs hs hown A m c ys hx hl hA h1 hn hbase fun v' w' e1 e2 e3 => hK _ _ (h v' w' e1 e2 e3)
/-- cells, copied whole -/
theorem cloneC_any (A : Option Addr) (n c : Nat) (cs : List Cl) (rvs : List Value) (w : World) (hl : cs.length = n) (hr : RefsAt w w.heap.size cs rvs)
    (hA : 0 < n → ∃ g o, A = some ⟨g, o, none⟩ ∧ g < w.heap.size ∧ ∀ (j : Nat) (u : Value), (flatC cs rvs)[j]? = some u → w.cell? ⟨g, o + j, none⟩ = some u) (hn : n ≤ 1099511627776) :
    Calls Try.prog 82 #[.slice A n c] w fun e w' => ∃ v, e = .returned v ∧ w'.ownsRow w.heap.size 45 3 v n (flatC cs rvs) ∧ Below w.heap.size w w' := by
  have q : ∀ (w : World) (a : Option Addr) (n c n' c' : Nat), (binOp .eql 23 (.slice a n c) (.slice none n' c')).run Try.prog w = .ok (.bool a.isNone) w := fun w a n c n' c' => Lib.run_eql_slice_nil w _ _ a n c n' c' Try.underlying23
  have hfl := flatC_length _ _ hr.1
  rw [hl] at hfl
  cases A with
  | none =>
    have h0 : n = 0 := by
      rcases Nat.eq_zero_or_pos n with h0 | h0
      · exact h0
      · obtain ⟨g, o, e, _⟩ := hA h0
        cases e
    subst h0
    have hnil : flatC cs rvs = [] := List.eq_nil_of_length_eq_zero (by omega)
    rw [hnil]
    clear hfl hA hr
    go_enter Try.func82, Try.ntmps82
    go_wp2
    go_ret
    exact ⟨_, rfl, World.ownsRow_nil _ _ _ _, Below.refl _ _⟩
  | some a =>
    have o0 := own_noneC w w.heap.size (Nat.le_refl _)
    have bl0 : Below w.heap.size w (w.alloc (.cells #[] 45)) := (Below.refl _ _).alloc (Nat.le_refl _) _
    have hone := hr.one
    obtain ⟨ys, hys⟩ : ∃ ys, flatC cs rvs = ys := ⟨_, rfl⟩
    rw [hys] at hA hfl hone ⊢
    have hA2 : 0 < n → ∃ ad, some a = some ad ∧ ∀ (j : Nat) (u : Value), ys[j]? = some u → (w.alloc (.cells #[] 45)).cell? (ad.add j) = some u := fun h0 => by
      obtain ⟨g, o, e, hg, hc⟩ := hA h0
      refine ⟨a, rfl, fun j u hu => ?_⟩
      rw [Option.some.inj e, add_lit]
      exact (bl0.cell (p := ⟨g, o + j, none⟩) hg).trans (hc j u hu)
    clear hr hA hys hl
    go_enter Try.func82, Try.ntmps82
    go_wp2_with (at_builtin; refine wpList_appendCs rfl (.tmp 5) (.tmp 6) rfl w.heap.size _ 0 [] rfl o0 (some a) n c ys rfl hfl hA2 hone (by omega) (by simp) ?_; intro v1 w1 o1 g1 s1)
    go_ret
    refine ⟨_, rfl, ?_, bl0.grown g1 (by simp) (fun k hk => (World.ownsRow.lt o0 k hk).1)⟩
    simpa using o1
/-- a copy of which the first k cells have references of their own; the others share theirs still -/
structure MidH (w : World) (base : Nat) (vc vr : Value) (ovs rvs : List Value) (k : Nat) (h : Hp) : Prop where
  len : ovs.length = k
  le : k ≤ h.cs.length
  all : rvs.length = h.cs.length
  row : w.ownsRow base 45 3 vc h.cs.length (flatC h.cs (ovs ++ rvs.drop k))
  refs : ∀ (j : Nat) (c : Cl) (v : Value), h.cs[j]? = some c → ovs[j]? = some v → OwnI w base v c.r
  roots : OwnI w base vr h.rt
  sep : Sep (vc :: vr :: ovs)
section
variable {w w' : World} {base k : Nat} {vc vr v : Value} {ovs rvs : List Value} {h : Hp}
theorem MidH.below (S : MidH w base vc vr ovs rvs k h) {B : Nat} (hb : Below B w w') (hB : w.heap.size ≤ B) : MidH w' base vc vr ovs rvs k h :=
  ⟨S.len, S.le, S.all, row_below S.row hb hB, fun j c v hc hv => (S.refs j c v hc hv).below hb hB, S.roots.below hb hB, S.sep⟩
theorem MidH.blocks (S : MidH w base vc vr ovs rvs k h) {v : Value} (hv : v ∈ vc :: vr :: ovs) {b : Nat} (hb : v.ownBlock = some b) : base ≤ b ∧ b < w.heap.size := by
  simp only [List.mem_cons] at hv
  rcases hv with rfl | rfl | hv
  · exact World.ownsRow.lt S.row b hb
  · exact World.ownsRow.lt S.roots b hb
  · obtain ⟨i, hi⟩ := List.mem_iff_getElem?.1 hv
    have hlt := (List.getElem?_eq_some_iff.1 hi).1
    have hc := List.getElem?_eq_getElem (show i < h.cs.length by have := S.len; have := S.le; omega)
    exact World.ownsRow.lt (S.refs i _ v hc hi) b hb
/-- what lies in no block of the copy's is apart from it -/
theorem MidH.apart_new (S : MidH w base vc vr ovs rvs k h) {b : Nat} (hb : w.heap.size ≤ b) : Apart (some b) (vc :: vr :: ovs) := fun v hv => by
  cases e : v.ownBlock with
  | none => exact .inl rfl
  | some q =>
    right
    have := (S.blocks hv e).2
    intro he
    have he := Option.some.inj he
    omega
theorem MidH.far (S : MidH w base vc vr ovs rvs k h) {row : Option Nat} (hg : w.grownBy w' row) (ha : Apart row (vc :: vr :: ovs)) : MidH w' base vc vr ovs rvs k h :=
  ⟨S.len, S.le, S.all, World.ownsRow.kept S.row hg (ha vc (by simp)), fun j c v hc hv => (S.refs j c v hc hv).far hg (ha v (by simp [List.mem_of_getElem? hv])), S.roots.far hg (ha vr (by simp)), S.sep⟩
theorem MidH.base' (S : MidH w base vc vr ovs rvs k h) {b : Nat} (hb : b ≤ base) : MidH w b vc vr ovs rvs k h :=
  ⟨S.len, S.le, S.all, row_base S.row hb, fun j c v hc hv => (S.refs j c v hc hv).base hb, S.roots.base hb, S.sep⟩
/-- the next cell gets references of its own -/
theorem MidH.next {g n c : Nat} {cl : Cl} (S : MidH w base (.slice (some ⟨g, 0, none⟩) n c) vr ovs rvs k h) (hn : h.cs.length = n) (hc : h.cs[k]? = some cl) (o : OwnI w base v cl.r)
    (hap : ∀ u ∈ (Value.slice (some ⟨g, 0, none⟩) n c) :: vr :: ovs, v.ownBlock = none ∨ v.ownBlock ≠ u.ownBlock) : MidH (w.setCell ⟨g, k * 3 + 2, none⟩ v) base (.slice (some ⟨g, 0, none⟩) n c) vr (ovs ++ [v]) rvs (k + 1) h := by
  have hk : k < h.cs.length := (List.getElem?_eq_some_iff.1 hc).1
  have hsp := S.sep
  unfold Sep at hsp
  rw [List.pairwise_cons, List.pairwise_cons] at hsp
  have ap : ∀ u ∈ vr :: ovs, u.ownBlock = none ∨ u.ownBlock ≠ some g := fun u hu => sep_back (hsp.1 u hu)
  have hvg : v.ownBlock = none ∨ v.ownBlock ≠ some g := hap (.slice (some ⟨g, 0, none⟩) n c) (by simp)
  refine ⟨by simp [S.len], by omega, S.all, ?_, fun j c' u hc' hu => ?_, S.roots.far (put_any w g _ _) (ap vr (by simp)), ?_⟩
  · have hrow : w.ownsRow base 45 3 (.slice (some ⟨g, 0, none⟩) h.cs.length c) h.cs.length (flatC h.cs (ovs ++ rvs.drop k)) := by
      have := S.row
      rwa [hn] at this ⊢
    have q := (World.ownsRow.stored hrow (k * 3 + 2) v).1
    rw [flatC_set_r _ _ _ _ _ cl.r (by simp [S.len, S.all]; omega) hc] at q
    have e1 : h.cs.set k ⟨cl.u, cl.d, cl.r⟩ = h.cs := by
      obtain ⟨h1, h2⟩ := List.getElem?_eq_some_iff.1 hc
      show h.cs.set k cl = h.cs
      rw [← h2]
      exact List.set_getElem_self h1
    have e2 : (ovs ++ rvs.drop k).set k v = (ovs ++ [v]) ++ rvs.drop (k + 1) := by
      rw [List.set_append_right _ _ (by rw [S.len]; exact Nat.le_refl _), S.len, Nat.sub_self, List.append_assoc]
      congr 1
      rw [List.drop_eq_getElem_cons (by rw [S.all]; exact hk)]
      rfl
    rw [e1, e2] at q
    rw [hn] at q ⊢
    exact q
  · rcases Nat.lt_or_ge j k with hj | hj
    · rw [List.getElem?_append_left (by rw [S.len]; exact hj)] at hu
      exact (S.refs j c' u hc' hu).far (put_any w g _ _) (ap u (by simp [List.mem_of_getElem? hu]))
    · have hjk : j = k := by
        have := (List.getElem?_eq_some_iff.1 hu).1
        simp [S.len] at this
        omega
      subst hjk
      rw [hc] at hc'
      rw [List.getElem?_append_right (by rw [S.len]; exact Nat.le_refl _), S.len, Nat.sub_self] at hu
      have hu : v = u := by simpa using hu
      rw [← hu, ← Option.some.inj hc']
      exact o.far (put_any w g _ _) hvg
  · unfold Sep
    rw [List.pairwise_cons, List.pairwise_cons]
    refine ⟨fun u hu => ?_, fun u hu => ?_, ?_⟩
    · rw [List.mem_cons, List.mem_append, List.mem_singleton] at hu
      rcases hu with rfl | hu | rfl
      · exact hsp.1 u (by simp)
      · exact hsp.1 u (by simp [hu])
      · exact sep_back (hap _ (by simp))
    · rw [List.mem_append, List.mem_singleton] at hu
      rcases hu with hu | rfl
      · exact hsp.2.1 u hu
      · exact sep_back (hap _ (by simp))
    · rw [List.pairwise_append]
      refine ⟨hsp.2.2, List.pairwise_singleton _ _, fun a ha b hb => ?_⟩
      rw [List.mem_singleton] at hb
      subst hb
      exact sep_back (hap a (by simp [ha]))
theorem MidH.done (S : MidH w base vc vr ovs rvs k h) (hk : k = h.cs.length) : OwnHx w base vc vr ovs h := by
  refine ⟨by rw [S.len, hk], ?_, S.refs, S.roots, S.sep⟩
  have := S.row
  rwa [hk, List.drop_of_length_le (by rw [S.all]; exact Nat.le_refl _), List.append_nil] at this
theorem MidH.form (S : MidH w base vc vr ovs rvs k h) : ∃ A c R d, vc = .slice A h.cs.length c ∧ vr = .slice R h.rt.length d ∧ h.cs.length ≤ c ∧ (0 < h.cs.length → ∃ g, A = some ⟨g, 0, none⟩ ∧ base ≤ g ∧ g < w.heap.size) := by
  obtain ⟨R, d, rfl, hR⟩ := S.roots.form
  rcases S.row.2 with ⟨e, h0⟩ | ⟨g, cap, cur, e, hb, hh, hc, _⟩
  · exact ⟨none, 0, R, d, by rw [e, h0], rfl, by omega, fun h => by omega⟩
  · exact ⟨some ⟨g, 0, none⟩, cap, R, d, e, rfl, hc, fun _ => ⟨g, rfl, hb, (Array.getElem?_eq_some_iff.1 hh).1⟩⟩
/-- the references that the next cell still shares -/
theorem MidH.ref {g n c : Nat} {cl : Cl} {B : Nat} (S : MidH w base (.slice (some ⟨g, 0, none⟩) n c) vr ovs rvs k h) (hn : h.cs.length = n) (hc : h.cs[k]? = some cl) (hr : RefsAt w B h.cs rvs) :
    ∃ A m cc, w.cell? ⟨g, k * 3 + 2, none⟩ = some (.slice A m cc) ∧ m ≤ cc ∧ IS w B A m cl.r ∧ ∀ i, w.frozen? ⟨g, i, none⟩ = false := by
  have hk : k < h.cs.length := (List.getElem?_eq_some_iff.1 hc).1
  have hv := List.getElem?_eq_getElem (show k < rvs.length by rw [S.all]; exact hk)
  obtain ⟨A, m, cc, e, hm, hi⟩ := hr.2 k cl _ hc hv
  have hv2 : (ovs ++ rvs.drop k)[k]? = some (.slice A m cc) := by
    rw [List.getElem?_append_right (by rw [S.len]; exact Nat.le_refl _), S.len, Nat.sub_self, List.getElem?_drop, Nat.add_zero, hv, e]
  obtain ⟨_, _, f3⟩ := flatC_at _ _ _ _ _ hc hv2
  have hrow : w.ownsRow base 45 3 (.slice (some ⟨g, 0, none⟩) h.cs.length c) h.cs.length (flatC h.cs (ovs ++ rvs.drop k)) := by
    have := S.row
    rwa [hn] at this ⊢
  exact ⟨A, m, cc, (World.ownsRow.cellAt hrow _ (by omega)).trans f3, hm, hi, fun i => World.ownsRow.frozenAt hrow i⟩
end
end Go.Proofs.Ytakdjiojahlnmaa

namespace Go.Proofs.Ytakdjiojahlnmaa
open Go.RowKit
set_option maxRecDepth 100000
theorem row_form {w : World} {base n s : Nat} {e : TypeId} {v : Value} {xs : List Value} (h : w.ownsRow base e s v n xs) : ∃ A c, v = .slice A n c := by
  rcases h.2 with ⟨rfl, h0⟩ | ⟨g, cap, cur, rfl, _⟩
  · exact ⟨none, 0, by rw [h0]⟩
  · exact ⟨_, _, rfl⟩
set_option maxHeartbeats 4000000 in
theorem cloneHeap_any (A R : Option Addr) (n c m d : Nat) (h : Hp) (w : World) (hs : HS w w.heap.size A n R m h) (hn : n ≤ 1099511627776) (hm : m ≤ 1099511627776) (h3 : ∀ cl ∈ h.cs, cl.r.length ≤ 1000000) :
    Calls Try.prog 40 #[heapV A n c R m d] w (GaveH w h) := by
  have hlc := hs.cells.1
  obtain ⟨rvs, hrv, hrA⟩ := hs.cells.refs
  have B2 : Below w.heap.size w ((w.alloc (.cells #[.slice A n c, .slice R m d] 26)).alloc (.cells #[.slice none 0 0, .slice none 0 0] 26)) := ((Below.refl _ _).alloc (Nat.le_refl _) _).alloc (by simp) _
  have Q1 := (Rw.new w 26 #[.slice A n c, .slice R m d]).alloc (.cells #[.slice none 0 0, .slice none 0 0] 26)
  have Q2 := Rw.new (w.alloc (.cells #[.slice A n c, .slice R m d] 26)) 26 #[.slice none 0 0, .slice none 0 0]
  simp only [World.size_alloc] at Q2
  have H3 := Lib.hid h3
  have HLC := Lib.hid hlc
  have HRV := Lib.hid hrv
  have HRA := Lib.hid hrA
  clear h3 hlc hrv hrA
  go_enter Try.func40, Try.ntmps40
  go_upto_region 1 with fail
  generalize ((w.alloc (.cells #[.slice A n c, .slice R m d] 26)).alloc (.cells #[.slice none 0 0, .slice none 0 0] 26)) = w2 at B2 Q1 Q2 ⊢
  have hz := Q2.lt
  refine wp_region_inv (by kernel_rfl) (by kernel_rfl) (fun L ac ww => ∃ t3 t5 t6 t7 t8 t9 t10 t11 : Value, ac = { tmps := #[heapV A n c R m d, Value.pointer (some { block := w.heap.size, off := 0 }), Value.pointer (some { block := w.heap.size + 1, off := 0 }), t3, undef, t5, t6, t7, t8, t9, t10, t11, undef, undef, undef, undef, undef, undef, undef, undef, undef, undef, undef, undef, undef, undef, undef, undef, undef, undef, undef, undef], defers := [] } ∧ (Below w2.heap.size w2 ww) ∧ (L 0 = true → t5 = .pointer (some ⟨w.heap.size, 0, none⟩)) ∧ (L 1 = true → t6 = .slice A n c) ∧ (L 2 = true → ww.ownsRow w2.heap.size 45 3 t7 n (flatC h.cs rvs)) ∧ (L 3 = true → t8 = .pointer (some ⟨w.heap.size, 1, none⟩)) ∧ (L 4 = true → t9 = .slice R m d) ∧ (L 5 = true → OwnI ww w2.heap.size t10 h.rt ∧ (t7.ownBlock = none ∨ t7.ownBlock ≠ t10.ownBlock) ∧ L 2 = true) ∧ (L 6 = true → t11 = .agg #[t7, t10] ∧ L 5 = true ∧ L 2 = true) ∧ (L 7 = true → ∃ g3, t3 = .pointer (some ⟨g3, 0, none⟩) ∧ w2.heap.size ≤ g3 ∧ ∃ cs, Rw ww g3 26 cs ∧ cs = (if L 8 = true then #[t7, t10] else #[.slice none 0 0, .slice none 0 0])) ∧ (L 8 = true → L 7 = true ∧ L 5 = true ∧ L 2 = true)) ?h0 ?hstep ?hdone
  case h0 => exact ⟨_, _, _, _, _, _, _, _, rfl, (Below.refl _ _).drew, (fun h => absurd h Bool.false_ne_true), (fun h => absurd h Bool.false_ne_true), (fun h => absurd h Bool.false_ne_true), (fun h => absurd h Bool.false_ne_true), (fun h => absurd h Bool.false_ne_true), (fun h => absurd h Bool.false_ne_true), (fun h => absurd h Bool.false_ne_true), (fun h => absurd h Bool.false_ne_true), (fun h => absurd h Bool.false_ne_true)⟩
  case hstep =>
    rintro L ac ww i o ho hL hd ⟨t3, t5, t6, t7, t8, t9, t10, t11, rfl, I0, f0, f1, f2, f3, f4, f5, f6, f7, f8⟩
    have hi : i < 9 := (Array.getElem?_eq_some_iff.1 ho).1
    obtain rfl | rfl | rfl | rfl | rfl | rfl | rfl | rfl | rfl : i = 0 ∨ i = 1 ∨ i = 2 ∨ i = 3 ∨ i = 4 ∨ i = 5 ∨ i = 6 ∨ i = 7 ∨ i = 8 := by omega
    · obtain rfl := Option.some.inj ho
      refine wpOp_step rfl (fun K' hK => ?_)
      go_simp
      refine hK _ _ ?_
      exact ⟨_, _, _, _, _, _, _, _, rfl, (I0), (fun _ => rfl), (kp f1), (kp f2), (kp f3), (kp f4), (fun h => ⟨(f5 (upd_ne h (by decide))).1, (f5 (upd_ne h (by decide))).2.1, upd_mono (f5 (upd_ne h (by decide))).2.2⟩), (fun h => ⟨(f6 (upd_ne h (by decide))).1, upd_mono (f6 (upd_ne h (by decide))).2.1, upd_mono (f6 (upd_ne h (by decide))).2.2⟩), (fun h => by
        obtain ⟨g3, e3, h3, cs, h5, h6⟩ := f7 (upd_ne h (by decide))
        exact ⟨g3, e3, h3, cs, h5, by rw [h6, upd_other (by decide)]⟩), (fun h => ⟨upd_mono (f8 (upd_ne h (by decide))).1, upd_mono (f8 (upd_ne h (by decide))).2.1, upd_mono (f8 (upd_ne h (by decide))).2.2⟩)⟩
    · obtain rfl := Option.some.inj ho
      have g0 := f0 (hd ⟨0, .data⟩ (by simp) rfl)
      subst g0
      have z0 : ww.cell? ⟨w.heap.size, 0, none⟩ = some (.slice A n c) := (I0.cell (p := ⟨w.heap.size, 0, none⟩) (by show w.heap.size < w2.heap.size; omega)).trans (Q1.cell 0)
      refine wpOp_step rfl (fun K' hK => ?_)
      go_simp
      refine hK _ _ ?_
      exact ⟨_, _, _, _, _, _, _, _, rfl, (I0), (kp f0), (fun _ => rfl), (kp f2), (kp f3), (kp f4), (fun h => ⟨(f5 (upd_ne h (by decide))).1, (f5 (upd_ne h (by decide))).2.1, upd_mono (f5 (upd_ne h (by decide))).2.2⟩), (fun h => ⟨(f6 (upd_ne h (by decide))).1, upd_mono (f6 (upd_ne h (by decide))).2.1, upd_mono (f6 (upd_ne h (by decide))).2.2⟩), (fun h => by
        obtain ⟨g3, e3, h3, cs, h5, h6⟩ := f7 (upd_ne h (by decide))
        exact ⟨g3, e3, h3, cs, h5, by rw [h6, upd_other (by decide)]⟩), (fun h => ⟨upd_mono (f8 (upd_ne h (by decide))).1, upd_mono (f8 (upd_ne h (by decide))).2.1, upd_mono (f8 (upd_ne h (by decide))).2.2⟩)⟩
    · obtain rfl := Option.some.inj ho
      have g1 := f1 (hd ⟨1, .data⟩ (by simp) rfl)
      subst g1
      refine wpOp_step rfl (fun K' hK => ?_)
      go_simp
      have bw := B2.trans (I0.mono B2.size)
      have hrv := (hs.up bw)
      obtain ⟨rvs2, hr2, hA2⟩ := (hs.below bw).cells.refs
      refine (cloneC_any A n c h.cs rvs ww HLC.out (by have := HRV.out.below bw; exact ⟨this.1, fun k c v hc hv => by obtain ⟨A1, m1, c1, e, h1, h2⟩ := this.2 k c v hc hv; exact ⟨A1, m1, c1, e, h1, h2.more bw.size⟩⟩) (fun h0 => by obtain ⟨g, o, e, hg, hc⟩ := HRA.out h0; exact ⟨g, o, e, Nat.lt_of_lt_of_le hg bw.size, fun j u hu => (bw.cell (p := ⟨g, o + j, none⟩) hg).trans (hc j u hu)⟩) hn).mono ?_
      rintro e w' ⟨v1, rfl, o1, b5⟩
      refine hK _ _ ?_
      exact ⟨_, _, _, _, _, _, _, _, rfl, (I0.trans (b5.mono I0.size)), (kp f0), (kp f1), (fun _ => row_base o1 I0.size), (kp f3), (kp f4), (fun h => by
        have h1 := upd_ne h (by decide)
        exact absurd (f5 h1).2.2 (by rw [hL]; decide)), (fun h => absurd (f6 (upd_ne h (by decide))).2.2 (by rw [hL]; decide)), (fun h => by
        have hL7 := upd_ne h (by decide)
        obtain ⟨g3, e3, h3, cs, h5, h6⟩ := f7 hL7
        have hL8 : L 8 = false := by
          cases e : L 8
          · rfl
          · have := (f8 e).2.2
            rw [hL] at this
            cases this
        rw [if_neg (by rw [hL8]; decide)] at h6
        exact ⟨g3, e3, h3, cs, h5.keep b5 h5.lt, by rw [h6, upd_other (by decide), if_neg (by rw [hL8]; decide)]⟩), (fun h => ⟨upd_mono (f8 (upd_ne h (by decide))).1, upd_mono (f8 (upd_ne h (by decide))).2.1, upd_mono (f8 (upd_ne h (by decide))).2.2⟩)⟩
    · obtain rfl := Option.some.inj ho
      refine wpOp_step rfl (fun K' hK => ?_)
      go_simp
      refine hK _ _ ?_
      exact ⟨_, _, _, _, _, _, _, _, rfl, (I0), (kp f0), (kp f1), (kp f2), (fun _ => rfl), (kp f4), (fun h => ⟨(f5 (upd_ne h (by decide))).1, (f5 (upd_ne h (by decide))).2.1, upd_mono (f5 (upd_ne h (by decide))).2.2⟩), (fun h => ⟨(f6 (upd_ne h (by decide))).1, upd_mono (f6 (upd_ne h (by decide))).2.1, upd_mono (f6 (upd_ne h (by decide))).2.2⟩), (fun h => by
        obtain ⟨g3, e3, h3, cs, h5, h6⟩ := f7 (upd_ne h (by decide))
        exact ⟨g3, e3, h3, cs, h5, by rw [h6, upd_other (by decide)]⟩), (fun h => ⟨upd_mono (f8 (upd_ne h (by decide))).1, upd_mono (f8 (upd_ne h (by decide))).2.1, upd_mono (f8 (upd_ne h (by decide))).2.2⟩)⟩
    · obtain rfl := Option.some.inj ho
      have g3 := f3 (hd ⟨3, .data⟩ (by simp) rfl)
      subst g3
      have z1 : ww.cell? ⟨w.heap.size, 1, none⟩ = some (.slice R m d) := (I0.cell (p := ⟨w.heap.size, 1, none⟩) (by show w.heap.size < w2.heap.size; omega)).trans (Q1.cell 1)
      refine wpOp_step rfl (fun K' hK => ?_)
      go_simp
      refine hK _ _ ?_
      exact ⟨_, _, _, _, _, _, _, _, rfl, (I0), (kp f0), (kp f1), (kp f2), (kp f3), (fun _ => rfl), (fun h => ⟨(f5 (upd_ne h (by decide))).1, (f5 (upd_ne h (by decide))).2.1, upd_mono (f5 (upd_ne h (by decide))).2.2⟩), (fun h => ⟨(f6 (upd_ne h (by decide))).1, upd_mono (f6 (upd_ne h (by decide))).2.1, upd_mono (f6 (upd_ne h (by decide))).2.2⟩), (fun h => by
        obtain ⟨g3, e3, h3, cs, h5, h6⟩ := f7 (upd_ne h (by decide))
        exact ⟨g3, e3, h3, cs, h5, by rw [h6, upd_other (by decide)]⟩), (fun h => ⟨upd_mono (f8 (upd_ne h (by decide))).1, upd_mono (f8 (upd_ne h (by decide))).2.1, upd_mono (f8 (upd_ne h (by decide))).2.2⟩)⟩
    · obtain rfl := Option.some.inj ho
      have g4 := f4 (hd ⟨4, .data⟩ (by simp) rfl)
      subst g4
      have g2 := f2 (hd ⟨2, .chain⟩ (by simp) rfl)
      refine wpOp_step rfl (fun K' hK => ?_)
      go_simp
      have bw := B2.trans (I0.mono B2.size)
      refine (cloneI_any R m d h.rt ww ((hs.up bw).roots) hm).mono ?_
      rintro e w' ⟨v1, rfl, o1, b5⟩
      refine hK _ _ ?_
      exact ⟨_, _, _, _, _, _, _, _, rfl, (I0.trans (b5.mono I0.size)), (kp f0), (kp f1), (fun h => row_below (f2 (upd_ne h (by decide))) b5 (Nat.le_refl _)), (kp f3), (kp f4), (fun _ => ⟨o1.base I0.size, by
        cases e7 : t7.ownBlock with
        | none => exact .inl rfl
        | some q =>
          right
          intro e
          have a1 := (World.ownsRow.lt g2 q e7).2
          have a2 := (World.ownsRow.lt o1 q e.symm).1
          omega, by rw [upd_other (by decide)]; exact hd ⟨2, .chain⟩ (by simp) rfl⟩), (fun h => absurd (f6 (upd_ne h (by decide))).2.1 (by rw [hL]; decide)), (fun h => by
        have hL7 := upd_ne h (by decide)
        obtain ⟨g3, e3, h3, cs, h5, h6⟩ := f7 hL7
        have hL8 : L 8 = false := by
          cases e : L 8
          · rfl
          · have := (f8 e).2.1
            rw [hL] at this
            cases this
        rw [if_neg (by rw [hL8]; decide)] at h6
        exact ⟨g3, e3, h3, cs, h5.keep b5 h5.lt, by rw [h6, upd_other (by decide), if_neg (by rw [hL8]; decide)]⟩), (fun h => ⟨upd_mono (f8 (upd_ne h (by decide))).1, upd_mono (f8 (upd_ne h (by decide))).2.1, upd_mono (f8 (upd_ne h (by decide))).2.2⟩)⟩
    · obtain rfl := Option.some.inj ho
      have g2 := f2 (hd ⟨2, .data⟩ (by simp) rfl)
      have g5 := f5 (hd ⟨5, .data⟩ (by simp) rfl)
      have l5 := hd ⟨5, .data⟩ (by simp) rfl
      have l2 := hd ⟨2, .data⟩ (by simp) rfl
      obtain ⟨A7, c7, rfl⟩ := row_form g2
      obtain ⟨A9, d9, rfl, -⟩ := g5.1.form
      refine wpOp_step rfl (fun K' hK => ?_)
      go_simp
      refine hK _ _ ?_
      exact ⟨_, _, _, _, _, _, _, _, rfl, (I0), (kp f0), (kp f1), (kp f2), (kp f3), (kp f4), (fun h => ⟨(f5 (upd_ne h (by decide))).1, (f5 (upd_ne h (by decide))).2.1, upd_mono (f5 (upd_ne h (by decide))).2.2⟩), (fun _ => ⟨rfl, upd_mono l5, upd_mono l2⟩), (fun h => by
        obtain ⟨g3, e3, h3, cs, h5, h6⟩ := f7 (upd_ne h (by decide))
        exact ⟨g3, e3, h3, cs, h5, by rw [h6, upd_other (by decide)]⟩), (fun h => ⟨upd_mono (f8 (upd_ne h (by decide))).1, upd_mono (f8 (upd_ne h (by decide))).2.1, upd_mono (f8 (upd_ne h (by decide))).2.2⟩)⟩
    · obtain rfl := Option.some.inj ho
      have hL8 : L 8 = false := by
        cases e : L 8
        · rfl
        · exact absurd (f8 e).1 (by rw [hL]; decide)
      refine wpOp_step rfl (fun K' hK => ?_)
      go_simp
      have b5 : Below ww.heap.size ww (ww.alloc (.cells #[.slice none 0 0, .slice none 0 0] 26)) := (Below.refl _ _).alloc (Nat.le_refl _) _
      refine hK _ _ ?_
      exact ⟨_, _, _, _, _, _, _, _, rfl, (I0.alloc I0.size _), (kp f0), (kp f1), (fun h => row_below (f2 (upd_ne h (by decide))) b5 (Nat.le_refl _)), (kp f3), (kp f4), (fun h => ⟨(f5 (upd_ne h (by decide))).1.below b5 (Nat.le_refl _), (f5 (upd_ne h (by decide))).2.1, upd_mono (f5 (upd_ne h (by decide))).2.2⟩), (fun h => ⟨(f6 (upd_ne h (by decide))).1, upd_mono (f6 (upd_ne h (by decide))).2.1, upd_mono (f6 (upd_ne h (by decide))).2.2⟩), (fun _ => ⟨_, rfl, I0.size, _, Rw.new _ _ _, by rw [upd_other (by decide), hL8, if_neg (by decide)]⟩), (fun h => ⟨upd_mono (f8 (upd_ne h (by decide))).1, upd_mono (f8 (upd_ne h (by decide))).2.1, upd_mono (f8 (upd_ne h (by decide))).2.2⟩)⟩
    · obtain rfl := Option.some.inj ho
      have g6 := f6 (hd ⟨6, .data⟩ (by simp) rfl)
      have g7 := f7 (hd ⟨7, .data⟩ (by simp) rfl)
      have l5 := hd ⟨5, .chain⟩ (by simp) rfl
      have l7 := hd ⟨7, .data⟩ (by simp) rfl
      have g5 := f5 l5
      have g2 := f2 g5.2.2
      have l2 := g5.2.2
      obtain ⟨g6, -, -⟩ := g6
      subst g6
      obtain ⟨g3, e3, h3, cs, h5, h6⟩ := g7
      rw [hL, if_neg (by decide)] at h6
      subst h6
      subst e3
      obtain ⟨A7, c7, rfl⟩ := row_form g2
      obtain ⟨A9, d9, rfl, -⟩ := g5.1.form
      have a7 : (Value.slice A7 n c7).ownBlock = none ∨ (Value.slice A7 n c7).ownBlock ≠ some g3 := .inr (row_type g2 h5 (by decide)).symm
      have a9 : (Value.slice A9 h.rt.length d9).ownBlock = none ∨ (Value.slice A9 h.rt.length d9).ownBlock ≠ some g3 := .inr (row_type g5.1 h5 (by decide)).symm
      have c0 := h5.cell 0
      have c1 := h5.cell 1
      simp only [List.getElem?_toArray, List.getElem?_cons_zero, List.getElem?_cons_succ] at c0 c1
      have z0 := h5.frozen 0
      have z1 := h5.frozen 1
      have hput := (h5.put 0 (.slice A7 n c7)).put 1 (.slice A9 h.rt.length d9)
      refine wpOp_step rfl (fun K' hK => ?_)
      go_simp
      refine hK _ _ ?_
      exact ⟨_, _, _, _, _, _, _, _, rfl, ((I0.setCell (p := ⟨g3, 0, none⟩) (by show w2.heap.size ≤ g3; omega) _).setCell (p := ⟨g3, 1, none⟩) (by show w2.heap.size ≤ g3; omega) _), (kp f0), (kp f1), (fun _ => World.ownsRow.kept (World.ownsRow.kept g2 (put_any ww g3 0 _) a7) (put_any _ g3 1 _) a7), (kp f3), (kp f4), (fun _ => ⟨(g5.1.far (put_any ww g3 0 _) a9).far (put_any _ g3 1 _) a9, g5.2.1, upd_mono l2⟩), (fun h => ⟨(f6 (upd_ne h (by decide))).1, upd_mono (f6 (upd_ne h (by decide))).2.1, upd_mono (f6 (upd_ne h (by decide))).2.2⟩), (fun _ => ⟨g3, rfl, h3, _, hput, by rw [upd_self, if_pos rfl]; rfl⟩), (fun _ => ⟨upd_mono l7, upd_mono l5, upd_mono l2⟩)⟩
  case hdone =>
    rintro L ac ww hall ⟨t3, t5, t6, t7, t8, t9, t10, t11, rfl, I0, f0, f1, f2, f3, f4, f5, f6, f7, f8⟩
    have e0 := f0 (hall 0 (by decide))
    have e1 := f1 (hall 1 (by decide))
    have e2 := f2 (hall 2 (by decide))
    have e3 := f3 (hall 3 (by decide))
    have e4 := f4 (hall 4 (by decide))
    have e5 := f5 (hall 5 (by decide))
    have e6 := f6 (hall 6 (by decide))
    have e7 := f7 (hall 7 (by decide))
    have e8 := f8 (hall 8 (by decide))
    clear f0 f1 f2 f3 f4 f5 f6 f7 f8
    obtain ⟨g3, rfl, hg3, cs, BX, e9⟩ := e7
    rw [hall 8 (by decide), if_pos rfl] at e9
    subst e9
    obtain ⟨e6, -, -⟩ := e6
    subst e0 e1 e3 e4 e6
    obtain ⟨A7, c7, rfl⟩ := row_form e2
    have OR := e5.1
    obtain ⟨A9, d9, rfl, -⟩ := OR.form
    have SP := e5.2.1
    clear e5 e8 hall
    have S0 : MidH ww w2.heap.size (.slice A7 n c7) (.slice A9 h.rt.length d9) [] rvs 0 h :=
      ⟨rfl, Nat.zero_le _, HRV.out.1, by rw [HLC.out]; exact e2, fun j cl v hc hv => by simp at hv, OR, by simp [Sep]; exact SP⟩
    have AP : Apart (some g3) (Value.slice A7 n c7 :: Value.slice A9 h.rt.length d9 :: []) := by
      intro u hu
      simp only [List.mem_cons, List.not_mem_nil, or_false] at hu
      rcases hu with rfl | rfl
      · exact .inr (row_type e2 BX (by decide)).symm
      · exact .inr (row_type OR BX (by decide)).symm
    clear e2 OR SP
    have c0 := BX.cell 0
    have c1 := BX.cell 1
    simp only [List.getElem?_toArray, List.getElem?_cons_zero, List.getElem?_cons_succ] at c0 c1
    go_wp2_with fail
    go_loopw [15] (fun i wr => ∃ (k : Nat) (ovs : List Value), k ≤ n ∧ i = .int .i64 k ∧ MidH wr w2.heap.size (.slice A7 n c7) (.slice A9 h.rt.length d9) ovs rvs k h ∧ Apart (some g3) (Value.slice A7 n c7 :: Value.slice A9 h.rt.length d9 :: ovs) ∧ Rw wr g3 26 #[.slice A7 n c7, .slice A9 h.rt.length d9] ∧ Below w2.heap.size w2 wr) (fun i _ => n - (intOf i).toNat)
    case atStart => exact ⟨0, [], Nat.zero_le _, rfl, S0, AP, BX, I0⟩
    case round =>
      clear S0 AP BX I0 c0 c1
      obtain ⟨k, ovs, hk, rfl, S, AP, BX, IW⟩ := hrel
      have bw := B2.trans (IW.mono B2.size)
      by_cases hlt : k < n
      · have hck := List.getElem?_eq_getElem (show k < h.cs.length by rw [HLC.out]; exact hlt)
        generalize h.cs[k]'(by rw [HLC.out]; exact hlt) = cl at hck
        obtain ⟨A8, c8, R8, d8, q1, -, -, fA⟩ := S.form
        obtain ⟨g, hg0, hg1, hg2⟩ := fA (by rw [HLC.out]; omega)
        have hA7 : A7 = some ⟨g, 0, none⟩ := by
          have q1 := q1
          injection q1 with q1 _ _
          exact q1.trans hg0
        subst hA7
        clear q1 fA hg0
        obtain ⟨A1, m1, c1, x2, hm1, is1, fz⟩ := S.ref HLC.out hck (HRV.out.below bw)
        have is2 := is1.more bw.size
        have hm3 : m1 ≤ 1099511627776 := by
          have := is1.1
          have := H3.out cl (List.mem_of_getElem? hck)
          omega
        have x0 := BX.cell 0
        simp only [List.getElem?_toArray, List.getElem?_cons_zero] at x0
        have hlt' : (k : Int) < n := by omega
        have hbx := BX.lt
        have fzg := fz (k * 3 + 2)
        clear is1 fz hm1
        have HCK := Lib.hid hck
        have SS := Lib.hid S
        have AA := Lib.hid AP
        have BB := Lib.hid BX
        clear hck S AP BX
        go_upto_region 5 with fail
        refine wp_region_inv (by kernel_rfl) (by kernel_rfl) (fun L ac ww => ∃ t18 t19 t20 t21 t22 t23 t24 t25 t26 t27 t28 t29 : Value, ac = { tmps := #[heapV A n c R m d, Value.pointer (some { block := w.heap.size, off := 0 }), Value.pointer (some { block := w.heap.size + 1, off := 0 }), Value.pointer (some { block := g3, off := 0 }), Value.int IntKind.i64 ↑k, Value.pointer (some { block := w.heap.size, off := 0 }), Value.slice A n c, Value.slice (some { block := g, off := 0 }) n c7, Value.pointer (some { block := w.heap.size, off := 1 }), Value.slice R m d, Value.slice A9 h.rt.length d9, Value.agg #[Value.slice (some { block := g, off := 0 }) n c7, Value.slice A9 h.rt.length d9], Value.pointer (some { block := g3, off := 0 }), Value.slice (some { block := g, off := 0 }) n c7, Value.int IntKind.i64 ↑n, Value.int IntKind.i64 ↑k, Value.bool true, Value.int IntKind.i64 ↑k, t18, t19, t20, t21, t22, t23, t24, t25, t26, t27, t28, t29, u30, undef], defers := [] } ∧ (L 12 = false → Below wr.heap.size wr ww) ∧ (L 0 = true → t18 = .pointer (some ⟨g3, 0, none⟩)) ∧ (L 1 = true → t19 = .slice (some ⟨g, 0, none⟩) n c7) ∧ (L 2 = true → t20 = .int .i64 k) ∧ (L 3 = true → t21 = .pointer (some ⟨g3, 0, none⟩)) ∧ (L 4 = true → t22 = .slice (some ⟨g, 0, none⟩) n c7) ∧ (L 5 = true → t23 = .int .i64 k) ∧ (L 6 = true → t24 = .pointer (some ⟨g, k * 3, none⟩)) ∧ (L 7 = true → t25 = .pointer (some ⟨g, k * 3 + 2, none⟩)) ∧ (L 8 = true → t26 = .slice A1 m1 c1) ∧ (L 9 = true → L 12 = false → OwnI ww wr.heap.size t27 cl.r) ∧ (L 10 = true → t28 = .pointer (some ⟨g, k * 3, none⟩)) ∧ (L 11 = true → t29 = .pointer (some ⟨g, k * 3 + 2, none⟩) ∧ L 10 = true) ∧ (L 12 = true → (∀ q, q < 12 → L q = true) ∧ ∃ w5, Below wr.heap.size wr w5 ∧ OwnI w5 wr.heap.size t27 cl.r ∧ ww = w5.setCell ⟨g, k * 3 + 2, none⟩ t27)) ?h0 ?hstep ?hdone
        case h0 => exact ⟨_, _, _, _, _, _, _, _, _, _, _, _, rfl, fun _ => (Below.refl _ _).drew, (fun h => absurd h Bool.false_ne_true), (fun h => absurd h Bool.false_ne_true), (fun h => absurd h Bool.false_ne_true), (fun h => absurd h Bool.false_ne_true), (fun h => absurd h Bool.false_ne_true), (fun h => absurd h Bool.false_ne_true), (fun h => absurd h Bool.false_ne_true), (fun h => absurd h Bool.false_ne_true), (fun h => absurd h Bool.false_ne_true), (fun h => absurd h Bool.false_ne_true), (fun h => absurd h Bool.false_ne_true), (fun h => absurd h Bool.false_ne_true), (fun h => absurd h Bool.false_ne_true)⟩
        case hstep =>
          rintro L ac ww i o ho hL hd ⟨t18, t19, t20, t21, t22, t23, t24, t25, t26, t27, t28, t29, rfl, I0, f0, f1, f2, f3, f4, f5, f6, f7, f8, f9, f10, f11, f12⟩
          have hi : i < 13 := (Array.getElem?_eq_some_iff.1 ho).1
          obtain rfl | rfl | rfl | rfl | rfl | rfl | rfl | rfl | rfl | rfl | rfl | rfl | rfl : i = 0 ∨ i = 1 ∨ i = 2 ∨ i = 3 ∨ i = 4 ∨ i = 5 ∨ i = 6 ∨ i = 7 ∨ i = 8 ∨ i = 9 ∨ i = 10 ∨ i = 11 ∨ i = 12 := by omega
          · obtain rfl := Option.some.inj ho
            have hL12 : L 12 = false := by
              cases e : L 12
              · rfl
              · exact absurd ((f12 e).1 0 (by omega)) (by rw [hL]; decide)
            have J := I0 hL12
            refine wpOp_step rfl (fun K' hK => ?_)
            go_simp
            refine hK _ _ ?_
            exact ⟨_, _, _, _, _, _, _, _, _, _, _, _, rfl, (fun _ => J), (fun _ => rfl), (kp f1), (kp f2), (kp f3), (kp f4), (kp f5), (kp f6), (kp f7), (kp f8), (fun h _ => f9 (upd_ne h (by decide)) hL12), (kp f10), (fun h => ⟨(f11 (upd_ne h (by decide))).1, upd_mono (f11 (upd_ne h (by decide))).2⟩), (fun h => absurd ((f12 (upd_ne h (by decide))).1 0 (by omega)) (by rw [hL]; decide))⟩
          · obtain rfl := Option.some.inj ho
            have g0 := f0 (hd ⟨0, .data⟩ (by simp) rfl)
            subst g0
            have hL12 : L 12 = false := by
              cases e : L 12
              · rfl
              · exact absurd ((f12 e).1 1 (by omega)) (by rw [hL]; decide)
            have J := I0 hL12
            have z0 : ww.cell? ⟨g3, 0, none⟩ = some (.slice (some ⟨g, 0, none⟩) n c7) := (J.cell (p := ⟨g3, 0, none⟩) hbx).trans x0
            refine wpOp_step rfl (fun K' hK => ?_)
            go_simp
            refine hK _ _ ?_
            exact ⟨_, _, _, _, _, _, _, _, _, _, _, _, rfl, (fun _ => J), (kp f0), (fun _ => rfl), (kp f2), (kp f3), (kp f4), (kp f5), (kp f6), (kp f7), (kp f8), (fun h _ => f9 (upd_ne h (by decide)) hL12), (kp f10), (fun h => ⟨(f11 (upd_ne h (by decide))).1, upd_mono (f11 (upd_ne h (by decide))).2⟩), (fun h => absurd ((f12 (upd_ne h (by decide))).1 1 (by omega)) (by rw [hL]; decide))⟩
          · obtain rfl := Option.some.inj ho
            have hL12 : L 12 = false := by
              cases e : L 12
              · rfl
              · exact absurd ((f12 e).1 2 (by omega)) (by rw [hL]; decide)
            have J := I0 hL12
            refine wpOp_step rfl (fun K' hK => ?_)
            go_simp
            refine hK _ _ ?_
            exact ⟨_, _, _, _, _, _, _, _, _, _, _, _, rfl, (fun _ => J), (kp f0), (kp f1), (fun _ => rfl), (kp f3), (kp f4), (kp f5), (kp f6), (kp f7), (kp f8), (fun h _ => f9 (upd_ne h (by decide)) hL12), (kp f10), (fun h => ⟨(f11 (upd_ne h (by decide))).1, upd_mono (f11 (upd_ne h (by decide))).2⟩), (fun h => absurd ((f12 (upd_ne h (by decide))).1 2 (by omega)) (by rw [hL]; decide))⟩
          · obtain rfl := Option.some.inj ho
            have hL12 : L 12 = false := by
              cases e : L 12
              · rfl
              · exact absurd ((f12 e).1 3 (by omega)) (by rw [hL]; decide)
            have J := I0 hL12
            refine wpOp_step rfl (fun K' hK => ?_)
            go_simp
            refine hK _ _ ?_
            exact ⟨_, _, _, _, _, _, _, _, _, _, _, _, rfl, (fun _ => J), (kp f0), (kp f1), (kp f2), (fun _ => rfl), (kp f4), (kp f5), (kp f6), (kp f7), (kp f8), (fun h _ => f9 (upd_ne h (by decide)) hL12), (kp f10), (fun h => ⟨(f11 (upd_ne h (by decide))).1, upd_mono (f11 (upd_ne h (by decide))).2⟩), (fun h => absurd ((f12 (upd_ne h (by decide))).1 3 (by omega)) (by rw [hL]; decide))⟩
          · obtain rfl := Option.some.inj ho
            have g3 := f3 (hd ⟨3, .data⟩ (by simp) rfl)
            subst g3
            have hL12 : L 12 = false := by
              cases e : L 12
              · rfl
              · exact absurd ((f12 e).1 4 (by omega)) (by rw [hL]; decide)
            have J := I0 hL12
            have z0 : ww.cell? ⟨g3, 0, none⟩ = some (.slice (some ⟨g, 0, none⟩) n c7) := (J.cell (p := ⟨g3, 0, none⟩) hbx).trans x0
            refine wpOp_step rfl (fun K' hK => ?_)
            go_simp
            refine hK _ _ ?_
            exact ⟨_, _, _, _, _, _, _, _, _, _, _, _, rfl, (fun _ => J), (kp f0), (kp f1), (kp f2), (kp f3), (fun _ => rfl), (kp f5), (kp f6), (kp f7), (kp f8), (fun h _ => f9 (upd_ne h (by decide)) hL12), (kp f10), (fun h => ⟨(f11 (upd_ne h (by decide))).1, upd_mono (f11 (upd_ne h (by decide))).2⟩), (fun h => absurd ((f12 (upd_ne h (by decide))).1 4 (by omega)) (by rw [hL]; decide))⟩
          · obtain rfl := Option.some.inj ho
            have hL12 : L 12 = false := by
              cases e : L 12
              · rfl
              · exact absurd ((f12 e).1 5 (by omega)) (by rw [hL]; decide)
            have J := I0 hL12
            refine wpOp_step rfl (fun K' hK => ?_)
            go_simp
            refine hK _ _ ?_
            exact ⟨_, _, _, _, _, _, _, _, _, _, _, _, rfl, (fun _ => J), (kp f0), (kp f1), (kp f2), (kp f3), (kp f4), (fun _ => rfl), (kp f6), (kp f7), (kp f8), (fun h _ => f9 (upd_ne h (by decide)) hL12), (kp f10), (fun h => ⟨(f11 (upd_ne h (by decide))).1, upd_mono (f11 (upd_ne h (by decide))).2⟩), (fun h => absurd ((f12 (upd_ne h (by decide))).1 5 (by omega)) (by rw [hL]; decide))⟩
          · obtain rfl := Option.some.inj ho
            have g4 := f4 (hd ⟨4, .data⟩ (by simp) rfl)
            have g5 := f5 (hd ⟨5, .data⟩ (by simp) rfl)
            subst g4
            subst g5
            have hL12 : L 12 = false := by
              cases e : L 12
              · rfl
              · exact absurd ((f12 e).1 6 (by omega)) (by rw [hL]; decide)
            have J := I0 hL12
            refine wpOp_step rfl (fun K' hK => ?_)
            go_simp
            refine hK _ _ ?_
            exact ⟨_, _, _, _, _, _, _, _, _, _, _, _, rfl, (fun _ => J), (kp f0), (kp f1), (kp f2), (kp f3), (kp f4), (kp f5), (fun _ => rfl), (kp f7), (kp f8), (fun h _ => f9 (upd_ne h (by decide)) hL12), (kp f10), (fun h => ⟨(f11 (upd_ne h (by decide))).1, upd_mono (f11 (upd_ne h (by decide))).2⟩), (fun h => absurd ((f12 (upd_ne h (by decide))).1 6 (by omega)) (by rw [hL]; decide))⟩
          · obtain rfl := Option.some.inj ho
            have g6 := f6 (hd ⟨6, .data⟩ (by simp) rfl)
            subst g6
            have hL12 : L 12 = false := by
              cases e : L 12
              · rfl
              · exact absurd ((f12 e).1 7 (by omega)) (by rw [hL]; decide)
            have J := I0 hL12
            refine wpOp_step rfl (fun K' hK => ?_)
            go_simp
            refine hK _ _ ?_
            exact ⟨_, _, _, _, _, _, _, _, _, _, _, _, rfl, (fun _ => J), (kp f0), (kp f1), (kp f2), (kp f3), (kp f4), (kp f5), (kp f6), (fun _ => rfl), (kp f8), (fun h _ => f9 (upd_ne h (by decide)) hL12), (kp f10), (fun h => ⟨(f11 (upd_ne h (by decide))).1, upd_mono (f11 (upd_ne h (by decide))).2⟩), (fun h => absurd ((f12 (upd_ne h (by decide))).1 7 (by omega)) (by rw [hL]; decide))⟩
          · obtain rfl := Option.some.inj ho
            have g7 := f7 (hd ⟨7, .data⟩ (by simp) rfl)
            subst g7
            have hL12 : L 12 = false := by
              cases e : L 12
              · rfl
              · exact absurd ((f12 e).1 8 (by omega)) (by rw [hL]; decide)
            have J := I0 hL12
            have z0 : ww.cell? ⟨g, k * 3 + 2, none⟩ = some (.slice A1 m1 c1) := (J.cell (p := ⟨g, k * 3 + 2, none⟩) hg2).trans x2
            refine wpOp_step rfl (fun K' hK => ?_)
            go_simp
            refine hK _ _ ?_
            exact ⟨_, _, _, _, _, _, _, _, _, _, _, _, rfl, (fun _ => J), (kp f0), (kp f1), (kp f2), (kp f3), (kp f4), (kp f5), (kp f6), (kp f7), (fun _ => rfl), (fun h _ => f9 (upd_ne h (by decide)) hL12), (kp f10), (fun h => ⟨(f11 (upd_ne h (by decide))).1, upd_mono (f11 (upd_ne h (by decide))).2⟩), (fun h => absurd ((f12 (upd_ne h (by decide))).1 8 (by omega)) (by rw [hL]; decide))⟩
          · obtain rfl := Option.some.inj ho
            have g8 := f8 (hd ⟨8, .data⟩ (by simp) rfl)
            subst g8
            have hL12 : L 12 = false := by
              cases e : L 12
              · rfl
              · exact absurd ((f12 e).1 9 (by omega)) (by rw [hL]; decide)
            have J := I0 hL12
            refine wpOp_step rfl (fun K' hK => ?_)
            go_simp
            refine (cloneI_any A1 m1 c1 cl.r ww (is2.up J) hm3).mono ?_
            rintro e w' ⟨v1, rfl, o1, b5⟩
            refine hK _ _ ?_
            exact ⟨_, _, _, _, _, _, _, _, _, _, _, _, rfl, (fun _ => J.trans (b5.mono J.size)), (kp f0), (kp f1), (kp f2), (kp f3), (kp f4), (kp f5), (kp f6), (kp f7), (kp f8), (fun _ _ => o1.base J.size), (kp f10), (fun h => ⟨(f11 (upd_ne h (by decide))).1, upd_mono (f11 (upd_ne h (by decide))).2⟩), (fun h => absurd ((f12 (upd_ne h (by decide))).1 9 (by omega)) (by rw [hL]; decide))⟩
          · obtain rfl := Option.some.inj ho
            have g1 := f1 (hd ⟨1, .data⟩ (by simp) rfl)
            have g2 := f2 (hd ⟨2, .data⟩ (by simp) rfl)
            subst g1
            subst g2
            have hL12 : L 12 = false := by
              cases e : L 12
              · rfl
              · exact absurd ((f12 e).1 10 (by omega)) (by rw [hL]; decide)
            have J := I0 hL12
            refine wpOp_step rfl (fun K' hK => ?_)
            go_simp
            refine hK _ _ ?_
            exact ⟨_, _, _, _, _, _, _, _, _, _, _, _, rfl, (fun _ => J), (kp f0), (kp f1), (kp f2), (kp f3), (kp f4), (kp f5), (kp f6), (kp f7), (kp f8), (fun h _ => f9 (upd_ne h (by decide)) hL12), (fun _ => rfl), (fun h => ⟨(f11 (upd_ne h (by decide))).1, upd_mono (f11 (upd_ne h (by decide))).2⟩), (fun h => absurd ((f12 (upd_ne h (by decide))).1 10 (by omega)) (by rw [hL]; decide))⟩
          · obtain rfl := Option.some.inj ho
            have g10 := f10 (hd ⟨10, .data⟩ (by simp) rfl)
            subst g10
            have hL12 : L 12 = false := by
              cases e : L 12
              · rfl
              · exact absurd ((f12 e).1 11 (by omega)) (by rw [hL]; decide)
            have J := I0 hL12
            refine wpOp_step rfl (fun K' hK => ?_)
            go_simp
            refine hK _ _ ?_
            exact ⟨_, _, _, _, _, _, _, _, _, _, _, _, rfl, (fun _ => J), (kp f0), (kp f1), (kp f2), (kp f3), (kp f4), (kp f5), (kp f6), (kp f7), (kp f8), (fun h _ => f9 (upd_ne h (by decide)) hL12), (kp f10), (fun _ => ⟨rfl, upd_mono (hd ⟨10, .data⟩ (by simp) rfl)⟩), (fun h => absurd ((f12 (upd_ne h (by decide))).1 11 (by omega)) (by rw [hL]; decide))⟩
          · obtain rfl := Option.some.inj ho
            have g9 := f9 (hd ⟨9, .data⟩ (by simp) rfl)
            have g11 := f11 (hd ⟨11, .data⟩ (by simp) rfl)
            have l11 := Lib.hid (hd ⟨11, .data⟩ (by simp) rfl)
            have l10 := Lib.hid g11.2
            obtain ⟨g11, -⟩ := g11
            subst g11
            have J := I0 hL
            have o9 := g9 hL
            have hfz : ww.frozen? ⟨g, k * 3 + 2, none⟩ = false := (World.frozen?_of_block (J.block g hg2)).trans fzg
            have hcl : ww.cell? ⟨g, k * 3 + 2, none⟩ = some (.slice A1 m1 c1) := (J.cell (p := ⟨g, k * 3 + 2, none⟩) hg2).trans x2
            obtain ⟨A2, c2, rfl⟩ := row_form o9
            refine wpOp_step rfl (fun K' hK => ?_)
            go_simp
            refine hK _ _ ?_
            exact ⟨_, _, _, _, _, _, _, _, _, _, _, _, rfl, (fun h => absurd h (by rw [upd_self]; decide)), (kp f0), (kp f1), (kp f2), (kp f3), (kp f4), (kp f5), (kp f6), (kp f7), (kp f8), (fun _ h => absurd h (by rw [upd_self]; decide)), (kp f10), (fun h => ⟨(f11 (upd_ne h (by decide))).1, upd_mono (f11 (upd_ne h (by decide))).2⟩), (fun _ => ⟨fun q hq => by
              obtain rfl | rfl | rfl | rfl | rfl | rfl | rfl | rfl | rfl | rfl | rfl | rfl : q = 0 ∨ q = 1 ∨ q = 2 ∨ q = 3 ∨ q = 4 ∨ q = 5 ∨ q = 6 ∨ q = 7 ∨ q = 8 ∨ q = 9 ∨ q = 10 ∨ q = 11 := by omega
              all_goals first | exact upd_mono l10.out | exact upd_mono l11.out | exact upd_mono (hd ⟨_, .phase⟩ (by simp) rfl), ww, J, o9, rfl⟩)⟩
        case hdone =>
          rintro L ac ww hall ⟨t18, t19, t20, t21, t22, t23, t24, t25, t26, t27, t28, t29, rfl, I0, f0, f1, f2, f3, f4, f5, f6, f7, f8, f9, f10, f11, f12⟩
          have e0 := f0 (hall 0 (by decide))
          have e1 := f1 (hall 1 (by decide))
          have e2 := f2 (hall 2 (by decide))
          have e3 := f3 (hall 3 (by decide))
          have e4 := f4 (hall 4 (by decide))
          have e5 := f5 (hall 5 (by decide))
          have e6 := f6 (hall 6 (by decide))
          have e7 := f7 (hall 7 (by decide))
          have e8 := f8 (hall 8 (by decide))
          have e9 := f9 (hall 9 (by decide))
          have e10 := f10 (hall 10 (by decide))
          have e11 := f11 (hall 11 (by decide))
          have e12 := f12 (hall 12 (by decide))
          clear f0 f1 f2 f3 f4 f5 f6 f7 f8 f9 f10 f11 f12
          obtain ⟨-, w5, b5, o5, rfl⟩ := e12
          have hb1 : (⟨g, k * 3 + 2, none⟩ : Addr).block = g := rfl
          have hI : Below w2.heap.size w2 (w5.setCell ⟨g, k * 3 + 2, none⟩ t27) := (IW.trans (b5.mono IW.size)).setCell (p := ⟨g, k * 3 + 2, none⟩) hg1 _
          have hnew : ∀ u : Value, (∀ q, u.ownBlock = some q → q < wr.heap.size) → t27.ownBlock = none ∨ t27.ownBlock ≠ u.ownBlock := fun u hu => by
            cases e : t27.ownBlock with
            | none => exact .inl rfl
            | some q =>
              right
              intro e2
              have a1 := (World.ownsRow.lt o5 q e).1
              have a2 := hu q e2.symm
              omega
          have hS := (SS.out.below b5 (Nat.le_refl _)).next HLC.out HCK.out (o5.base (by have := IW.size; omega)) (fun u hu => hnew u (fun q hq => (SS.out.blocks hu hq).2))
          have hg3g : g3 ≠ g := fun e => by
            rcases AA.out _ (List.mem_cons_self ..) with h1 | h1
            · cases h1
            · exact h1 (by rw [e]; rfl)
          have hAP : Apart (some g3) (Value.slice (some ⟨g, 0, none⟩) n c7 :: Value.slice A9 h.rt.length d9 :: (ovs ++ [t27])) := by
            intro u hu
            rw [List.mem_cons, List.mem_cons, List.mem_append, List.mem_singleton] at hu
            rcases hu with rfl | rfl | hu | rfl
            · exact AA.out _ (by simp)
            · exact AA.out _ (by simp)
            · exact AA.out _ (by simp [hu])
            · cases e : u.ownBlock with
              | none => exact .inl rfl
              | some q =>
                right
                intro e2
                have a1 := (World.ownsRow.lt o5 q e).1
                have a2 := Option.some.inj e2
                omega
          have hBX : Rw (w5.setCell ⟨g, k * 3 + 2, none⟩ t27) g3 26 #[.slice (some ⟨g, 0, none⟩) n c7, .slice A9 h.rt.length d9] := (BB.out.keep b5 hbx).other hg3g t27
          obtain ⟨e11, -⟩ := e11
          clear e0 e1 e2 e3 e4 e5 e6 e7 e8 e9 e10 e11 hall I0 IW bw SS AA BB hnew b5 o5 hb1
          go_wp2_with fail
          go_roundw
          case rel => exact ⟨k + 1, ovs ++ [t27], by omega, by go_num, hS, hAP, hBX, hI⟩
          case measure => simp [intOf]; omega
      · obtain rfl : k = n := by omega
        have own := S.done HLC.out.symm
        have x0 := BX.cell 0
        have x1 := BX.cell 1
        simp only [List.getElem?_toArray, List.getElem?_cons_zero, List.getElem?_cons_succ] at x0 x1
        have q3 := Q2.keep IW hz
        have r2 : wr.frozen? ⟨w.heap.size + 1, 0, none⟩ = false := q3.frozen 0
        have r3 : wr.frozen? ⟨w.heap.size + 1, 1, none⟩ = false := q3.frozen 1
        have r4 : wr.cell? ⟨w.heap.size + 1, 0, none⟩ = some (.slice none 0 0) := q3.cell 0
        have r5 : wr.cell? ⟨w.heap.size + 1, 1, none⟩ = some (.slice none 0 0) := q3.cell 1
        have r6 : ((wr.setCell ⟨w.heap.size + 1, 0, none⟩ (.slice A7 k c7)).setCell ⟨w.heap.size + 1, 1, none⟩ (.slice A9 h.rt.length d9)).cell? ⟨w.heap.size + 1, 0, none⟩ = some (.slice A7 k c7) := ((q3.put 0 (.slice A7 k c7)).put 1 (.slice A9 h.rt.length d9)).cell 0
        have r7 : ((wr.setCell ⟨w.heap.size + 1, 0, none⟩ (.slice A7 k c7)).setCell ⟨w.heap.size + 1, 1, none⟩ (.slice A9 h.rt.length d9)).cell? ⟨w.heap.size + 1, 1, none⟩ = some (.slice A9 h.rt.length d9) := ((q3.put 0 (.slice A7 k c7)).put 1 (.slice A9 h.rt.length d9)).cell 1
        have D := Lib.hid (OwnH.out (w := w) (g := w.heap.size + 1) ⟨ovs, own⟩ (by omega) bw (by omega))
        clear own S AP BX q3 bw IW B2 Q1 Q2
        go_wp2_with fail
        exact bodyPost_ret (v := .agg #[.slice A7 k c7, .slice A9 h.rt.length d9]) (by simp [results, Try.results40, go_sem, *]) rfl ⟨_, _, rfl, D.out.1, D.out.2⟩
end Go.Proofs.Ytakdjiojahlnmaa

namespace Go.Proofs.Ytakdjiojahlnmaa
open Go.RowKit
set_option maxRecDepth 100000
theorem OwnHx.apart_lsw {w : World} {base g : Nat} {vc vr : Value} {rvs : List Value} {h : Hp} {cs : Array Value} (o : OwnHx w base vc vr rvs h) (hr : Rw w g 69 cs) : Apart (some g) (vc :: vr :: rvs) := fun v hv => by
  have key : some g ≠ v.ownBlock := by
    rcases List.mem_cons.1 hv with rfl | hv
    · exact row_type o.row hr (by decide)
    rcases List.mem_cons.1 hv with rfl | hv
    · exact row_type o.roots hr (by decide)
    obtain ⟨k, hk⟩ := List.mem_iff_getElem?.1 hv
    have hlt : k < h.cs.length := by rw [← o.len]; exact (List.getElem?_eq_some_iff.1 hk).1
    exact row_type (o.refs k _ v (List.getElem?_eq_getElem hlt) hk) hr (by decide)
  exact .inr (fun e => key e.symm)
theorem BoxW.make {w0 wp : World} {g : Nat} {vc vr : Value} {rvs : List Value} {h : Hp} {a0 a1 a2 a3 : Value} (o : OwnHx wp w0.heap.size vc vr rvs h) (r : Rw wp g 69 #[a0, a1, a2, a3]) (hb : Below w0.heap.size w0 wp) (hg : w0.heap.size ≤ g) (V : Nat) (i : Int) :
    BoxW w0 ((((wp.setCell ⟨g, 0, none⟩ vc).setCell ⟨g, 1, none⟩ vr).setCell ⟨g, 2, none⟩ (.int .u64 V)).setCell ⟨g, 3, none⟩ (.int .i64 i)) g vc vr rvs h V i := by
  have ap := o.apart_lsw r
  exact ⟨(((o.far (put_any wp g 0 _) ap).far (put_any _ g 1 _) ap).far (put_any _ g 2 _) ap).far (put_any _ g 3 _) ap, ap, by simpa using (((r.put 0 vc).put 1 vr).put 2 (.int .u64 V)).put 3 (.int .i64 i), (((hb.setCell (p := ⟨g, 0, none⟩) hg _).setCell (p := ⟨g, 1, none⟩) hg _).setCell (p := ⟨g, 2, none⟩) hg _).setCell (p := ⟨g, 3, none⟩) hg _, hg⟩
end Go.Proofs.Ytakdjiojahlnmaa

namespace Go.Proofs.Ytakdjiojahlnmaa
open Go.RowKit
set_option maxRecDepth 100000
theorem upTo_any (x m : Int) (w : World) : Calls Try.prog 50 #[.int .i64 x, .int .i64 m] w fun e w' => e = .returned (.bool (Hps.inR x 0 m)) ∧ w = w' := by
  by_cases h0 : 0 ≤ x
  · have d0 : decide (0 ≤ x) = true := decide_eq_true h0
    have R := Lib.hid (show Hps.inR x 0 m = decide (x ≤ m) by simp [Hps.inR, h0])
    go_enter Try.func50, Try.ntmps50
    go_wp2_with fail
    go_ret
    exact ⟨by rw [R.out]; rfl, rfl⟩
  · have d0 : decide (0 ≤ x) = false := decide_eq_false h0
    have R := Lib.hid (show Hps.inR x 0 m = false by simp [Hps.inR, h0])
    go_enter Try.func50, Try.ntmps50
    go_wp2_with fail
    go_ret
    exact ⟨by rw [R.out]; rfl, rfl⟩
end Go.Proofs.Ytakdjiojahlnmaa

namespace Go.Proofs.Ytakdjiojahlnmaa
open Go.RowKit
set_option maxRecDepth 100000
theorem Hps.lazy_words {h : Hp} {ms : List Bool} {j : Nat} (hv : Hps.validH h = true) (hl : ms.length = h.cs.length) (hj : j ≤ ms.length) :
    Hps.okLz ⟨h, ms, (j : Int)⟩ ↔ (Hps.reachW h &&& (18446744073709551615 - Bm.wordN ms true) = 0 ∧ Bm.wordN ms true &&& (18446744073709551615 - Hps.usedW h.cs) = 0 ∧ (Hps.usedW h.cs &&& (2 ^ j - 1)) &&& (18446744073709551615 - Bm.wordN ms true) = 0) := by
  have h40 := (Hps.valid_small hv).1
  have hR := Hps.reachW_lt (h := h) (by omega)
  have hM := Bm.wordN_lt ms true (by omega)
  have hU := Hps.usedW_lt (cs := h.cs) (by omega)
  rw [Hps.holds_iff hM hR, Hps.holds_iff hU hM, Hps.holds_iff hM (Nat.lt_of_le_of_lt Nat.and_le_left hU)]
  have bM : ∀ k, (Bm.wordN ms true).testBit k = true ↔ ms[k]? = some true := fun k => by rw [Bm.wordN_bit]; simp
  have bR : ∀ k, (Hps.reachW h).testBit k = true ↔ (Hps.reachL h.cs h.rt)[k]? = some true := fun k => by unfold Hps.reachW; rw [Bm.wordN_bit]; simp
  have bU : ∀ k, (Hps.usedW h.cs).testBit k = true ↔ Hps.usedAt h.cs k = true := fun k => by rw [Hps.usedW_bit]
  have bF : ∀ k, (Hps.usedW h.cs &&& (2 ^ j - 1)).testBit k = true ↔ (Hps.usedAt h.cs k = true ∧ k < j) := fun k => by
    rw [Nat.testBit_and, Nat.testBit_two_pow_sub_one, Hps.usedW_bit]
    simp
  constructor
  · intro ok
    refine ⟨fun k hk => (bM k).2 (ok.reach ((Hps.reachL_true ?_).1 ((bR k).1 hk))), fun k hk => (bU k).2 (ok.used ((bM k).1 hk)), fun k hk => ?_⟩
    · have := (List.getElem?_eq_some_iff.1 ((bR k).1 hk)).1
      rw [Hps.reachL_len] at this
      exact this
    · obtain ⟨h1, h2⟩ := (bF k).1 hk
      rw [bM]
      cases e : ms[k]? with
      | none =>
        have := List.getElem?_eq_none_iff.1 e
        omega
      | some b =>
        cases b
        · have := ok.swept (k := k) (show (k : Int) < (j : Int) by omega) e
          have h1' : Hps.usedAt h.cs k = false := this
          rw [h1] at h1'
          cases h1'
        · rfl
  · rintro ⟨h1, h2, h3⟩
    refine Hps.okLz.of hv hl ⟨?_, ?_⟩ (fun k hk => ?_) (fun k hk => (bU k).1 (h2 k ((bM k).2 hk))) (fun k hk hm => ?_)
    · show (0 : Int) ≤ (j : Int)
      omega
    · show (j : Int) ≤ (ms.length : Int)
      omega
    · have hlt : k < h.cs.length := Hps.usedAt_lt (hk.live hv)
      exact (bM k).1 (h1 k ((bR k).2 ((Hps.reachL_true hlt).2 hk)))
    · have hkj : k < j := by
        have : (k : Int) < (j : Int) := hk
        omega
      cases e : Hps.usedAt h.cs k
      · rfl
      · have h4 := (bM k).1 (h3 k ((bF k).2 ⟨e, hkj⟩))
        have hm' : ms[k]? = some false := hm
        rw [hm'] at h4
        cases h4
set_option maxHeartbeats 16000000 in
theorem lazyValid_any (A R D : Option Addr) (n c m d q ce : Nat) (i : Int) (h : Hp) (ms : List Bool) (w : World) (hs : HS w w.heap.size A n R m h) (hk : OS w w.heap.size D q ms) (hn : n ≤ 1099511627776) (hm : m ≤ 1099511627776) (hq : q ≤ 1099511627776) (hnc : n ≤ c) (hmd : m ≤ d) :
    Calls Try.prog 19 #[lzV A n c R m d D q ce i] w fun e w' => (∃ b : Bool, e = .returned (.bool b) ∧ (b = true ↔ Hps.okLz ⟨h, ms, i⟩)) ∧ Below w.heap.size w w' := by
  have b0 : Below w.heap.size w (w.alloc (.cells #[.slice A n c, .slice R m d, .slice D q ce, .int .i64 i] 30)) := (Below.refl _ _).alloc (Nat.le_refl _) _
  have r0 := hs.up b0
  have k0 := hk.up b0
  have q0 := Rw.new w 30 #[.slice A n c, .slice R m d, .slice D q ce, .int .i64 i]
  have HLC := Lib.hid hs.cells.1
  have HLM := Lib.hid hk.1
  clear hs hk
  go_enter Try.func19, Try.ntmps19
  go_wp2_with fail
  refine (heapValid_any _ _ _ _ _ _ h _ r0 hn hm hnc hmd).mono ?_
  cases hv : Hps.validH h
  · have HE : Hid (¬ Hps.okLz ⟨h, ms, i⟩) := Lib.hid (fun x => by
      have := x.1
      simp only [hv] at this
      cases this)
    clear hv
    rintro e w1 ⟨rfl, b1⟩
    have bb1 := b0.trans (b1.mono b0.size)
    clear b1 r0 k0 q0 b0
    go_wp2_with fail
    go_ret
    exact ⟨⟨false, rfl, ⟨fun x => (by cases x), fun x => absurd x HE.out⟩⟩, bb1⟩
  have HV := Lib.hid hv
  have hv40 := (Hps.valid_small hv).1
  rw [HLC.out] at hv40
  clear hv
  rintro e w1 ⟨rfl, b1⟩
  have bb1 := b0.trans (b1.mono b0.size)
  have r1 := r0.up b1
  have k1 := k0.up b1
  have q1 := q0.keep b1 q0.lt
  have x0 : w1.cell? ⟨w.heap.size, 0, none⟩ = some (.slice A n c) := q1.cell 0
  have x1 : w1.cell? ⟨w.heap.size, 1, none⟩ = some (.slice R m d) := q1.cell 1
  have x2 : w1.cell? ⟨w.heap.size, 2, none⟩ = some (.slice D q ce) := q1.cell 2
  have x3 : w1.cell? ⟨w.heap.size, 3, none⟩ = some (.int .i64 i) := q1.cell 3
  clear b1 r0 k0 q0 b0
  by_cases hqn : q = n
  case neg =>
    have HE : Hid (¬ Hps.okLz ⟨h, ms, i⟩) := Lib.hid (fun x => hqn (by
      have h1 := x.2.1
      have h2 := HLC.out
      have h3 := HLM.out
      show q = n
      rw [← h2, ← h3]
      exact h1))
    have hne : ((q : Int) != (n : Int)) = true := by
      rw [bne_iff_ne]
      omega
    clear hqn
    go_wp2_with fail
    go_ret
    exact ⟨⟨false, rfl, ⟨fun x => (by cases x), fun x => absurd x HE.out⟩⟩, bb1⟩
  subst hqn
  have hne : ((q : Int) != (q : Int)) = false := by simp
  by_cases hi : 0 ≤ i ∧ i ≤ (q : Int)
  case neg =>
    have HE : Hid (¬ Hps.okLz ⟨h, ms, i⟩) := Lib.hid (fun x => hi (by
      have h1 := x.2.2.1
      have h3 := HLM.out
      rw [← h3]
      exact h1))
    have HD := Lib.hid (show Hps.inR i 0 q = false by
      rw [Hps.inR, Bool.and_eq_false_iff, decide_eq_false_iff_not, decide_eq_false_iff_not]
      omega)
    clear hi
    go_wp2_with fail
    refine (upTo_any i q _).mono ?_
    rw [HD.out]
    rintro e w4 ⟨rfl, rfl⟩
    go_wp2_with fail
    go_ret
    exact ⟨⟨false, rfl, ⟨fun x => (by cases x), fun x => absurd x HE.out⟩⟩, bb1⟩
  have HD := Lib.hid (show Hps.inR i 0 q = true by rw [Hps.inR, decide_eq_true hi.1, decide_eq_true hi.2]; rfl)
  obtain ⟨j, rfl⟩ : ∃ j : Nat, i = j := ⟨i.toNat, by omega⟩
  have hjq : j ≤ q := by omega
  have HOK := Lib.hid (Hps.lazy_words (j := j) HV.out (by rw [HLM.out, HLC.out]) (by rw [HLM.out]; exact hjq))
  have hRW := Hps.reachW_lt (h := h) (by rw [HLC.out]; omega)
  have hMW := Bm.wordN_lt ms true (by rw [HLM.out]; omega)
  have hUW := Hps.usedW_lt (cs := h.cs) (by rw [HLC.out]; omega)
  have hRe := Lib.hid (rfl : Hps.reachW h = Hps.reachW h)
  obtain ⟨RW, hRWe⟩ : ∃ RW, Hps.reachW h = RW := ⟨_, rfl⟩
  replace hRe := Lib.hid hRWe
  rw [hRWe] at HOK hRW
  have hMe := Lib.hid (rfl : Bm.wordN ms true = Bm.wordN ms true)
  obtain ⟨M, hMWe⟩ : ∃ M, Bm.wordN ms true = M := ⟨_, rfl⟩
  replace hMe := Lib.hid hMWe
  rw [hMWe] at HOK hMW
  have hUe := Lib.hid (rfl : Hps.usedW h.cs = Hps.usedW h.cs)
  obtain ⟨U, hUWe⟩ : ∃ U, Hps.usedW h.cs = U := ⟨_, rfl⟩
  replace hUe := Lib.hid hUWe
  rw [hUWe] at HOK hUW
  clear hi hRWe hMWe hUWe
  go_wp2_with fail
  refine (upTo_any (j : Int) q _).mono ?_
  rw [HD.out]
  rintro e w4 ⟨rfl, rfl⟩
  clear HD
  have hql := q1.lt
  have SS := Lib.hid r1
  have KK := Lib.hid k1
  clear r1 k1 hne
  have HP0 := Lib.hid bb1
  obtain ⟨p, hp⟩ : ∃ p, w.heap.size = p := ⟨_, rfl⟩
  rw [hp] at q1 x0 x1 x2 x3 hql ⊢
  clear hp bb1
  go_upto_region 4 with fail
  refine wp_region_inv (by kernel_rfl) (by kernel_rfl) (fun L ac ww => ∃ t4 t5 t28 t29 t30 t31 t32 t33 t34 : Value, ac = { tmps := #[lzV A q c R m d D q ce ↑j, Value.pointer (some { block := p, off := 0 }), Value.bool false, Value.int IntKind.i64 ↑q, t4, t5, Value.pointer (some { block := p, off := 0 }), Value.pointer (some { block := p, off := 0 }), Value.slice A q c, Value.int IntKind.i64 ↑q, Value.pointer (some { block := p, off := 0 }), Value.agg #[Value.slice A q c, Value.slice R m d], Value.bool true, Value.bool false, Value.bool false, Value.pointer (some { block := p, off := 2 }), Value.slice D q ce, Value.int IntKind.i64 ↑q, Value.int IntKind.i64 ↑q, Value.bool false, Value.bool false, Value.bool false, Value.pointer (some { block := p, off := 3 }), Value.int IntKind.i64 ↑j, Value.int IntKind.i64 ↑q, Value.bool true, Value.bool false, Value.bool false, t28, t29, t30, t31, t32, t33, t34, undef, undef, undef, undef, undef, undef, undef, undef, undef, undef, undef, undef, undef, undef, undef, undef, undef, undef, undef], defers := [] } ∧ (Below w1.heap.size w1 ww) ∧ (L 0 = true → t28 = .pointer (some ⟨p, 2, none⟩)) ∧ (L 1 = true → t29 = .slice D q ce) ∧ (L 2 = true → t30 = .int .u64 (M : Nat)) ∧ (L 3 = true → t31 = .pointer (some ⟨p, 0, none⟩)) ∧ (L 4 = true → t32 = .pointer (some ⟨p, 0, none⟩)) ∧ (L 5 = true → t33 = .slice A q c) ∧ (L 6 = true → t34 = .int .u64 (U : Nat)) ∧ (L 7 = true → t4 = .int .u64 (M : Nat)) ∧ (L 8 = true → t5 = .int .u64 (U : Nat))) ?h0 ?hstep ?hdone
  case h0 => exact ⟨_, _, _, _, _, _, _, _, _, rfl, (Below.refl _ _).drew, (fun h => absurd h Bool.false_ne_true), (fun h => absurd h Bool.false_ne_true), (fun h => absurd h Bool.false_ne_true), (fun h => absurd h Bool.false_ne_true), (fun h => absurd h Bool.false_ne_true), (fun h => absurd h Bool.false_ne_true), (fun h => absurd h Bool.false_ne_true), (fun h => absurd h Bool.false_ne_true), (fun h => absurd h Bool.false_ne_true)⟩
  case hstep =>
    rintro L ac ww i o ho hL hd ⟨t4, t5, t28, t29, t30, t31, t32, t33, t34, rfl, I0, f0, f1, f2, f3, f4, f5, f6, f7, f8⟩
    have hi : i < 9 := (Array.getElem?_eq_some_iff.1 ho).1
    obtain rfl | rfl | rfl | rfl | rfl | rfl | rfl | rfl | rfl : i = 0 ∨ i = 1 ∨ i = 2 ∨ i = 3 ∨ i = 4 ∨ i = 5 ∨ i = 6 ∨ i = 7 ∨ i = 8 := by omega
    · obtain rfl := Option.some.inj ho
      refine wpOp_step rfl (fun K' hK => ?_)
      go_simp
      refine hK _ _ ?_
      exact ⟨_, _, _, _, _, _, _, _, _, rfl, (I0), (fun _ => rfl), (kp f1), (kp f2), (kp f3), (kp f4), (kp f5), (kp f6), (kp f7), (kp f8)⟩
    · obtain rfl := Option.some.inj ho
      have g0 := f0 (hd ⟨0, .data⟩ (by simp) rfl)
      subst g0
      have z2 : ww.cell? ⟨p, 2, none⟩ = some (.slice D q ce) := (I0.cell (p := ⟨p, 2, none⟩) hql).trans x2
      refine wpOp_step rfl (fun K' hK => ?_)
      go_simp
      refine hK _ _ ?_
      exact ⟨_, _, _, _, _, _, _, _, _, rfl, (I0), (kp f0), (fun _ => rfl), (kp f2), (kp f3), (kp f4), (kp f5), (kp f6), (kp f7), (kp f8)⟩
    · obtain rfl := Option.some.inj ho
      have g1 := f1 (hd ⟨1, .data⟩ (by simp) rfl)
      subst g1
      refine wpOp_step rfl (fun K' hK => ?_)
      go_simp
      refine (flaggedSet_any D q ce ms ww (KK.out.up I0) (by omega)).mono ?_
      rw [hMe.out]
      rintro e w' ⟨rfl, rfl⟩
      refine hK _ _ ?_
      exact ⟨_, _, _, _, _, _, _, _, _, rfl, (I0), (kp f0), (kp f1), (fun _ => rfl), (kp f3), (kp f4), (kp f5), (kp f6), (kp f7), (kp f8)⟩
    · obtain rfl := Option.some.inj ho
      refine wpOp_step rfl (fun K' hK => ?_)
      go_simp
      refine hK _ _ ?_
      exact ⟨_, _, _, _, _, _, _, _, _, rfl, (I0), (kp f0), (kp f1), (kp f2), (fun _ => rfl), (kp f4), (kp f5), (kp f6), (kp f7), (kp f8)⟩
    · obtain rfl := Option.some.inj ho
      have g3 := f3 (hd ⟨3, .data⟩ (by simp) rfl)
      subst g3
      refine wpOp_step rfl (fun K' hK => ?_)
      go_simp
      refine hK _ _ ?_
      exact ⟨_, _, _, _, _, _, _, _, _, rfl, (I0), (kp f0), (kp f1), (kp f2), (kp f3), (fun _ => rfl), (kp f5), (kp f6), (kp f7), (kp f8)⟩
    · obtain rfl := Option.some.inj ho
      have g4 := f4 (hd ⟨4, .data⟩ (by simp) rfl)
      subst g4
      have z0 : ww.cell? ⟨p, 0, none⟩ = some (.slice A q c) := (I0.cell (p := ⟨p, 0, none⟩) hql).trans x0
      refine wpOp_step rfl (fun K' hK => ?_)
      go_simp
      refine hK _ _ ?_
      exact ⟨_, _, _, _, _, _, _, _, _, rfl, (I0), (kp f0), (kp f1), (kp f2), (kp f3), (kp f4), (fun _ => rfl), (kp f6), (kp f7), (kp f8)⟩
    · obtain rfl := Option.some.inj ho
      have g5 := f5 (hd ⟨5, .data⟩ (by simp) rfl)
      subst g5
      refine wpOp_step rfl (fun K' hK => ?_)
      go_simp
      refine (usedSet_any A q c h.cs ww (SS.out.up I0).cells (by omega)).mono ?_
      rw [hUe.out]
      rintro e w' ⟨rfl, b5⟩
      refine hK _ _ ?_
      exact ⟨_, _, _, _, _, _, _, _, _, rfl, (I0.trans (b5.mono I0.size)), (kp f0), (kp f1), (kp f2), (kp f3), (kp f4), (kp f5), (fun _ => rfl), (kp f7), (kp f8)⟩
    · obtain rfl := Option.some.inj ho
      have g2 := f2 (hd ⟨2, .data⟩ (by simp) rfl)
      subst g2
      refine wpOp_step rfl (fun K' hK => ?_)
      go_simp
      refine hK _ _ ?_
      exact ⟨_, _, _, _, _, _, _, _, _, rfl, (I0), (kp f0), (kp f1), (kp f2), (kp f3), (kp f4), (kp f5), (kp f6), (fun _ => rfl), (kp f8)⟩
    · obtain rfl := Option.some.inj ho
      have g6 := f6 (hd ⟨6, .data⟩ (by simp) rfl)
      subst g6
      refine wpOp_step rfl (fun K' hK => ?_)
      go_simp
      refine hK _ _ ?_
      exact ⟨_, _, _, _, _, _, _, _, _, rfl, (I0), (kp f0), (kp f1), (kp f2), (kp f3), (kp f4), (kp f5), (kp f6), (kp f7), (fun _ => rfl)⟩
  case hdone =>
    rintro L ac ww hall ⟨t4, t5, t28, t29, t30, t31, t32, t33, t34, rfl, I0, f0, f1, f2, f3, f4, f5, f6, f7, f8⟩
    have e0 := f0 (hall 0 (by decide))
    have e1 := f1 (hall 1 (by decide))
    have e2 := f2 (hall 2 (by decide))
    have e3 := f3 (hall 3 (by decide))
    have e4 := f4 (hall 4 (by decide))
    have e5 := f5 (hall 5 (by decide))
    have e6 := f6 (hall 6 (by decide))
    have e7 := f7 (hall 7 (by decide))
    have e8 := f8 (hall 8 (by decide))
    clear f0 f1 f2 f3 f4 f5 f6 f7 f8
    subst e0
    subst e1
    subst e2
    subst e3
    subst e4
    subst e5
    subst e6
    subst e7
    subst e8
    have BW := Lib.hid (HP0.out.trans (I0.mono HP0.out.size))
    have S2 := Lib.hid (SS.out.up I0)
    have y0 : ww.cell? ⟨p, 0, none⟩ = some (.slice A q c) := (I0.cell (p := ⟨p, 0, none⟩) hql).trans x0
    have y1 : ww.cell? ⟨p, 1, none⟩ = some (.slice R m d) := (I0.cell (p := ⟨p, 1, none⟩) hql).trans x1
    have y3 : ww.cell? ⟨p, 3, none⟩ = some (.int .i64 j) := (I0.cell (p := ⟨p, 3, none⟩) hql).trans x3
    replace hql := Nat.lt_of_lt_of_le hql I0.size
    clear I0 x0 x1 x2 x3 SS KK q1 HP0 hall
    go_wp2_with fail
    refine (reachedSet_any A R q c m d h ww S2.out HV.out).mono ?_
    rw [hRe.out]
    rintro e w5 ⟨rfl, b5⟩
    have y3 : w5.cell? ⟨p, 3, none⟩ = some (.int .i64 j) := (b5.cell (p := ⟨p, 3, none⟩) hql).trans y3
    have bb := BW.out.trans (b5.mono BW.out.size)
    clear BW S2 b5 y0 y1
    go_wp2_with fail
    refine (holds_any M RW w5 hMW hRW).mono ?_
    have HR1 : ∀ b : Bool, decide (RW &&& (18446744073709551615 - M) = 0) = b → (b = true ↔ RW &&& (18446744073709551615 - M) = 0) := fun b e => by rw [← e]; simp
    obtain ⟨r1, hr1⟩ : ∃ r1, decide (RW &&& (18446744073709551615 - M) = 0) = r1 := ⟨_, rfl⟩
    have H1 := Lib.hid (HR1 r1 hr1)
    rw [hr1]
    clear hr1 HR1
    rintro e w6 ⟨rfl, rfl⟩
    cases r1
    case false =>
      have HE : Hid (false = true ↔ Hps.okLz ⟨h, ms, (j : Int)⟩) := Lib.hid ⟨fun x => (by cases x), fun x => H1.out.2 (HOK.out.1 x).1⟩
      go_wp2_with fail
      go_ret
      exact ⟨⟨false, rfl, HE.out⟩, bb⟩
    go_wp2_with fail
    refine (holds_any U M w5 hUW hMW).mono ?_
    have HR2 : ∀ b : Bool, decide (M &&& (18446744073709551615 - U) = 0) = b → (b = true ↔ M &&& (18446744073709551615 - U) = 0) := fun b e => by rw [← e]; simp
    obtain ⟨r2, hr2⟩ : ∃ r2, decide (M &&& (18446744073709551615 - U) = 0) = r2 := ⟨_, rfl⟩
    have H2 := Lib.hid (HR2 r2 hr2)
    rw [hr2]
    clear hr2 HR2
    rintro e w6 ⟨rfl, rfl⟩
    cases r2
    case false =>
      have HE : Hid (false = true ↔ Hps.okLz ⟨h, ms, (j : Int)⟩) := Lib.hid ⟨fun x => (by cases x), fun x => H2.out.2 (HOK.out.1 x).2.1⟩
      go_wp2_with fail
      go_ret
      exact ⟨⟨false, rfl, HE.out⟩, bb⟩
    have hp : 2 ^ j - 1 < 18446744073709551616 := Nat.lt_of_le_of_lt (Nat.sub_le _ _) (Nat.pow_lt_pow_right (a := 2) (by omega) (show j < 64 by omega))
    have hand := u64_and_nat U (2 ^ j - 1) hUW hp
    obtain ⟨F1, hF1⟩ : ∃ F1, 2 ^ j - 1 = F1 := ⟨_, rfl⟩
    have HF1 := Lib.hid hF1
    rw [hF1] at HOK hand
    have hUF : U &&& F1 < 18446744073709551616 := Nat.lt_of_le_of_lt Nat.and_le_left hUW
    obtain ⟨UF, hUFe⟩ : ∃ UF, U &&& F1 = UF := ⟨_, rfl⟩
    rw [hUFe] at HOK hand hUF
    clear hp hF1 hUFe
    go_wp2_with fail
    refine (firstCells_any j w5 (by omega)).mono ?_
    rw [HF1.out]
    rintro e w6 ⟨rfl, rfl⟩
    go_wp2_with fail
    refine (holds_any M UF w5 hMW hUF).mono ?_
    have HR3 : ∀ b : Bool, decide (UF &&& (18446744073709551615 - M) = 0) = b → (b = true ↔ UF &&& (18446744073709551615 - M) = 0) := fun b e => by rw [← e]; simp
    obtain ⟨r3, hr3⟩ : ∃ r3, decide (UF &&& (18446744073709551615 - M) = 0) = r3 := ⟨_, rfl⟩
    have H3 := Lib.hid (HR3 r3 hr3)
    rw [hr3]
    clear hr3 HR3 hand
    rintro e w6 ⟨rfl, rfl⟩
    have HE : Hid (r3 = true ↔ Hps.okLz ⟨h, ms, (j : Int)⟩) := Lib.hid ⟨fun x => HOK.out.2 ⟨H1.out.1 (by simp), H2.out.1 (by simp), H3.out.1 x⟩, fun x => H3.out.2 (HOK.out.1 x).2.2⟩
    go_wp2_with fail
    go_ret
    exact ⟨⟨r3, rfl, HE.out⟩, bb⟩
end Go.Proofs.Ytakdjiojahlnmaa

namespace Go.Proofs.Ytakdjiojahlnmaa
open Go.RowKit
set_option maxRecDepth 100000
theorem Hps.take_ok {l : Lz} (h : Hps.okLz l) : Hps.okLz (Hps.takeLz l).1 := by
  rcases Hps.take_cases h with ⟨_, h1, _⟩ | ⟨k, e, _, _, _, h1, _⟩
  · exact h1
  · rw [e]
    exact h1
set_option maxHeartbeats 8000000 in
theorem lazyTake_any (A R D : Option Addr) (n c m d q ce : Nat) (i : Int) (h : Hp) (ms : List Bool) (w : World) (hs : HS w w.heap.size A n R m h) (hk : OS w w.heap.size D q ms) (hn : n ≤ 1099511627776) (hm : m ≤ 1099511627776) (hq : q ≤ 1099511627776) (hnc : n ≤ c) (hmd : m ≤ d) :
    Calls Try.prog 24 #[lzV A n c R m d D q ce i] w (GaveLzN w (Hps.takeLz ⟨h, ms, i⟩).1 (Hps.takeLz ⟨h, ms, i⟩).2) := by
  have B2 : Below w.heap.size w ((w.alloc (.cells #[.slice A n c, .slice R m d, .slice D q ce, .int .i64 i] 30)).alloc (.cells #[.slice none 0 0, .slice none 0 0, .slice none 0 0, .int .i64 0] 30)) := ((Below.refl _ _).alloc (Nat.le_refl _) _).alloc (by simp) _
  have q1 := (Rw.new w 30 #[.slice A n c, .slice R m d, .slice D q ce, .int .i64 i]).alloc (.cells #[.slice none 0 0, .slice none 0 0, .slice none 0 0, .int .i64 0] 30)
  have q2 := Rw.new (w.alloc (.cells #[.slice A n c, .slice R m d, .slice D q ce, .int .i64 i] 30)) 30 #[.slice none 0 0, .slice none 0 0, .slice none 0 0, .int .i64 0]
  simp only [World.size_alloc] at q2
  have s2 := hs.up B2
  have k2 := hk.up B2
  have HLC := Lib.hid hs.cells.1
  have HLM := Lib.hid hk.1
  obtain ⟨y1, hy1⟩ : ∃ y, (Hps.takeLz ⟨h, ms, i⟩).1 = y := ⟨_, rfl⟩
  obtain ⟨y2, hy2⟩ : ∃ y, (Hps.takeLz ⟨h, ms, i⟩).2 = y := ⟨_, rfl⟩
  have HY1 := Lib.hid hy1
  have HY2 := Lib.hid hy2
  rw [hy1, hy2]
  clear hy1 hy2 hs hk
  go_enter Try.func24, Try.ntmps24
  go_upto_region 1 with fail
  generalize (w.alloc (.cells #[.slice A n c, .slice R m d, .slice D q ce, .int .i64 i] 30)).alloc (.cells #[.slice none 0 0, .slice none 0 0, .slice none 0 0, .int .i64 0] 30) = w2 at B2 q1 q2 s2 k2 ⊢
  obtain ⟨p, hp⟩ : ∃ p, w.heap.size = p := ⟨_, rfl⟩
  rw [hp] at B2 q1 q2 ⊢
  have HQ := Lib.hid hp
  clear hp
  have hql := q1.lt
  have hrl := q2.lt
  have x0 : w2.cell? ⟨p, 0, none⟩ = some (.slice A n c) := q1.cell 0
  have x1 : w2.cell? ⟨p, 1, none⟩ = some (.slice R m d) := q1.cell 1
  have x2 : w2.cell? ⟨p, 2, none⟩ = some (.slice D q ce) := q1.cell 2
  have x3 : w2.cell? ⟨p, 3, none⟩ = some (.int .i64 i) := q1.cell 3
  have SS := Lib.hid s2
  have KK := Lib.hid k2
  clear s2 k2 q1
  go_wp2_with fail
  refine (lazyValid_any A R D n c m d q ce i h ms _ SS.out KK.out hn hm hq hnc hmd).mono ?_
  rintro e w3 ⟨⟨bb, rfl, hb⟩, b3⟩
  have HB := Lib.hid hb
  clear hb
  replace q2 := q2.keep b3 hrl
  replace B2 := B2.trans (b3.mono (by have := B2.size; omega))
  replace SS := Lib.hid (SS.out.up b3)
  replace KK := Lib.hid (KK.out.up b3)
  replace x0 := (b3.cell (p := ⟨p, 0, none⟩) hql).trans x0
  replace x1 := (b3.cell (p := ⟨p, 1, none⟩) hql).trans x1
  replace x2 := (b3.cell (p := ⟨p, 2, none⟩) hql).trans x2
  replace x3 := (b3.cell (p := ⟨p, 3, none⟩) hql).trans x3
  replace hql := Nat.lt_of_lt_of_le hql b3.size
  replace hrl := Nat.lt_of_lt_of_le hrl b3.size
  clear b3
  cases bb
  · have HE := Lib.hid (show Hps.takeLz ⟨h, ms, i⟩ = (Hps.zeroLz, -1) from Hps.take_no (fun x => by have := HB.out.2 x; cases this))
    have HE1 := Lib.hid (show Hps.zeroLz = y1 by rw [← HY1.out, HE.out])
    have HE2 := Lib.hid (show (-1 : Int) = y2 by rw [← HY2.out, HE.out])
    have zf0 : w3.frozen? ⟨p + 1, 0, none⟩ = false := q2.frozen 0
    have zf1 : w3.frozen? ⟨p + 1, 1, none⟩ = false := q2.frozen 1
    have zf2 : w3.frozen? ⟨p + 1, 2, none⟩ = false := q2.frozen 2
    have zf3 : w3.frozen? ⟨p + 1, 3, none⟩ = false := q2.frozen 3
    have zc0 : w3.cell? ⟨p + 1, 0, none⟩ = some (.slice none 0 0) := q2.cell 0
    have zc1 : w3.cell? ⟨p + 1, 1, none⟩ = some (.slice none 0 0) := q2.cell 1
    have zc2 : w3.cell? ⟨p + 1, 2, none⟩ = some (.slice none 0 0) := q2.cell 2
    have zc3 : w3.cell? ⟨p + 1, 3, none⟩ = some (.int .i64 0) := q2.cell 3
    have P4 := ((((q2.put 0 (.slice none 0 0)).put 1 (.slice none 0 0)).put 2 (.slice none 0 0)).put 3 (.int .i64 0))
    have s8 : ((((w3.setCell ⟨p + 1, 0, none⟩ (.slice none 0 0)).setCell ⟨p + 1, 1, none⟩ (.slice none 0 0)).setCell ⟨p + 1, 2, none⟩ (.slice none 0 0)).setCell ⟨p + 1, 3, none⟩ (.int .i64 0)).cell? ⟨p + 1, 0, none⟩ = some (.slice none 0 0) := P4.cell 0
    have s9 : ((((w3.setCell ⟨p + 1, 0, none⟩ (.slice none 0 0)).setCell ⟨p + 1, 1, none⟩ (.slice none 0 0)).setCell ⟨p + 1, 2, none⟩ (.slice none 0 0)).setCell ⟨p + 1, 3, none⟩ (.int .i64 0)).cell? ⟨p + 1, 1, none⟩ = some (.slice none 0 0) := P4.cell 1
    have s10 : ((((w3.setCell ⟨p + 1, 0, none⟩ (.slice none 0 0)).setCell ⟨p + 1, 1, none⟩ (.slice none 0 0)).setCell ⟨p + 1, 2, none⟩ (.slice none 0 0)).setCell ⟨p + 1, 3, none⟩ (.int .i64 0)).cell? ⟨p + 1, 2, none⟩ = some (.slice none 0 0) := P4.cell 2
    have s11 : ((((w3.setCell ⟨p + 1, 0, none⟩ (.slice none 0 0)).setCell ⟨p + 1, 1, none⟩ (.slice none 0 0)).setCell ⟨p + 1, 2, none⟩ (.slice none 0 0)).setCell ⟨p + 1, 3, none⟩ (.int .i64 0)).cell? ⟨p + 1, 3, none⟩ = some (.int .i64 0) := P4.cell 3
    clear P4
    have HW := HQ.out
    have DD := Lib.hid (OwnLz.out (w := w) (g := p + 1) 0 (own_zeroLz w3 w3.heap.size (Nat.le_refl _)) (by omega) (by rw [HW]; exact B2) (by omega))
    clear q2 x0 x1 x2 x3 SS KK B2 hql hrl
    go_wp2_with fail
    obtain rfl := HE1.out
    obtain rfl := HE2.out
    exact bodyPost_ret (v := .tuple #[.agg #[.slice none 0 0, .slice none 0 0, .slice none 0 0, .int .i64 0], .int .i64 (-1)]) (by simp [results, Try.results24, go_sem, *]) rfl ⟨_, _, _, rfl, DD.out.1, DD.out.2⟩
  have hok : Hps.okLz ⟨h, ms, i⟩ := HB.out.1 rfl
  have hi : 0 ≤ i ∧ i ≤ (ms.length : Int) := hok.2.2.1
  obtain ⟨j, rfl⟩ : ∃ j : Nat, i = j := ⟨i.toNat, by omega⟩
  obtain ⟨h40, h4, h3⟩ := Hps.valid_small hok.1
  have h40' : h.cs.length ≤ 40 := h40
  rw [HLC.out] at h40'
  have hmc : ms.length = h.cs.length := hok.2.1
  rw [HLM.out, HLC.out] at hmc
  have hq40 : q ≤ 40 := by omega
  clear hmc
  have HOK := Lib.hid hok
  have HV := Lib.hid hok.1
  have H3 := Lib.hid h3
  have hMe := Lib.hid (rfl : Bm.wordN ms true = Bm.wordN ms true)
  obtain ⟨M, hMWe⟩ : ∃ M, Bm.wordN ms true = M := ⟨_, rfl⟩
  replace hMe := Lib.hid hMWe
  have OK2 := Hps.take_ok hok
  rw [HY1.out] at OK2
  have HO2 := Lib.hid OK2
  clear hok hi h40 h4 h3 hMWe OK2 HB
  go_upto_region 3 with fail
  refine wp_region_inv (by kernel_rfl) (by kernel_rfl) (fun L ac ww => ∃ t4 t10 t11 t12 t13 t14 t15 t16 t17 t18 : Value, ac = { tmps := #[lzV A n c R m d D q ce ↑j, Value.pointer (some { block := p, off := 0 }), Value.pointer (some { block := p + 1, off := 0 }), Value.int IntKind.i64 0, t4, undef, Value.agg #[Value.slice A n c, Value.slice R m d, Value.slice D q ce, Value.int IntKind.i64 ↑j], Value.bool true, Value.bool false, undef, t10, t11, t12, t13, t14, t15, t16, t17, t18, undef, undef, undef], defers := [] } ∧ (L 10 = false → Below w3.heap.size w3 ww) ∧ (L 0 = true → t10 = .pointer (some ⟨p, 0, none⟩)) ∧ (L 1 = true → t11 = .agg #[.slice A n c, .slice R m d]) ∧ (L 2 = true → ∃ (A5 : Option Addr) (n5 c5 : Nat) (R5 : Option Addr) (m5 d5 : Nat), t12 = .agg #[.slice A5 n5 c5, .slice R5 m5 d5] ∧ (L 10 = false → OwnH ww w3.heap.size (.slice A5 n5 c5) (.slice R5 m5 d5) h)) ∧ (L 3 = true → t13 = .pointer (some ⟨p, 2, none⟩)) ∧ (L 4 = true → t14 = .slice D q ce) ∧ (L 5 = true → t15 = .int .u64 (M : Nat)) ∧ (L 6 = true → t16 = .pointer (some ⟨p, 3, none⟩)) ∧ (L 7 = true → t17 = .int .i64 j) ∧ (L 8 = true → L 2 = true ∧ ∃ (A5 : Option Addr) (n5 c5 : Nat) (R5 : Option Addr) (m5 d5 : Nat), t12 = .agg #[.slice A5 n5 c5, .slice R5 m5 d5] ∧ t18 = .agg #[.slice A5 n5 c5, .slice R5 m5 d5, .int .u64 (M : Nat), .int .i64 j]) ∧ (L 9 = true → ∃ gb : Nat, t4 = .pointer (some ⟨gb, 0, none⟩) ∧ w3.heap.size ≤ gb ∧ (L 10 = false → Rw ww gb 69 #[.slice none 0 0, .slice none 0 0, .int .u64 0, .int .i64 0])) ∧ (L 10 = true → (∀ q, q < 10 → L q = true) ∧ ∃ (A5 : Option Addr) (n5 c5 : Nat) (R5 : Option Addr) (m5 d5 : Nat) (rv : List Value) (gb : Nat), t4 = .pointer (some ⟨gb, 0, none⟩) ∧ BoxW w3 ww gb (.slice A5 n5 c5) (.slice R5 m5 d5) rv h M (j))) ?h0 ?hstep ?hdone
  case h0 => exact ⟨_, _, _, _, _, _, _, _, _, _, rfl, fun _ => (Below.refl _ _).drew, (fun h => absurd h Bool.false_ne_true), (fun h => absurd h Bool.false_ne_true), (fun h => absurd h Bool.false_ne_true), (fun h => absurd h Bool.false_ne_true), (fun h => absurd h Bool.false_ne_true), (fun h => absurd h Bool.false_ne_true), (fun h => absurd h Bool.false_ne_true), (fun h => absurd h Bool.false_ne_true), (fun h => absurd h Bool.false_ne_true), (fun h => absurd h Bool.false_ne_true), (fun h => absurd h Bool.false_ne_true)⟩
  case hstep =>
    rintro L ac ww i o ho hL hd ⟨t4, t10, t11, t12, t13, t14, t15, t16, t17, t18, rfl, I0, f0, f1, f2, f3, f4, f5, f6, f7, f8, f9, f10⟩
    have hi : i < 11 := (Array.getElem?_eq_some_iff.1 ho).1
    obtain rfl | rfl | rfl | rfl | rfl | rfl | rfl | rfl | rfl | rfl | rfl : i = 0 ∨ i = 1 ∨ i = 2 ∨ i = 3 ∨ i = 4 ∨ i = 5 ∨ i = 6 ∨ i = 7 ∨ i = 8 ∨ i = 9 ∨ i = 10 := by omega
    · obtain rfl := Option.some.inj ho
      have hLS : L 10 = false := by
        cases e : L 10
        · rfl
        · exact absurd ((f10 e).1 0 (by decide)) (by rw [hL]; decide)
      have J := I0 hLS
      refine wpOp_step rfl (fun K' hK => ?_)
      go_simp
      refine hK _ _ ?_
      exact ⟨_, _, _, _, _, _, _, _, _, _, rfl, (fun _ => J), (fun _ => rfl), (kp f1), (fun h => by
        obtain ⟨A5, n5, c5, R5, m5, d5, e, r⟩ := f2 (upd_ne h (by decide))
        exact ⟨A5, n5, c5, R5, m5, d5, e, fun h6 => r (by rw [upd_other (by decide)] at h6; exact h6)⟩), (kp f3), (kp f4), (kp f5), (kp f6), (kp f7), (fun h => by
        obtain ⟨l1, r⟩ := f8 (upd_ne h (by decide))
        exact ⟨upd_mono l1, r⟩), (fun h => by
        obtain ⟨gb, e, hlo, r⟩ := f9 (upd_ne h (by decide))
        exact ⟨gb, e, hlo, fun h6 => r (by rw [upd_other (by decide)] at h6; exact h6)⟩), (fun h => absurd hLS (by rw [upd_ne h (by decide)]; decide))⟩
    · obtain rfl := Option.some.inj ho
      have g0 := f0 (hd ⟨0, .data⟩ (by simp) rfl)
      subst g0
      have hLS : L 10 = false := by
        cases e : L 10
        · rfl
        · exact absurd ((f10 e).1 1 (by decide)) (by rw [hL]; decide)
      have J := I0 hLS
      have z0 : ww.cell? ⟨p, 0, none⟩ = some (.slice A n c) := (J.cell (p := ⟨p, 0, none⟩) hql).trans x0
      have z1 : ww.cell? ⟨p, 1, none⟩ = some (.slice R m d) := (J.cell (p := ⟨p, 1, none⟩) hql).trans x1
      refine wpOp_step rfl (fun K' hK => ?_)
      go_simp
      refine hK _ _ ?_
      exact ⟨_, _, _, _, _, _, _, _, _, _, rfl, (fun _ => J), (kp f0), (fun _ => rfl), (fun h => by
        obtain ⟨A5, n5, c5, R5, m5, d5, e, r⟩ := f2 (upd_ne h (by decide))
        exact ⟨A5, n5, c5, R5, m5, d5, e, fun h6 => r (by rw [upd_other (by decide)] at h6; exact h6)⟩), (kp f3), (kp f4), (kp f5), (kp f6), (kp f7), (fun h => by
        obtain ⟨l1, r⟩ := f8 (upd_ne h (by decide))
        exact ⟨upd_mono l1, r⟩), (fun h => by
        obtain ⟨gb, e, hlo, r⟩ := f9 (upd_ne h (by decide))
        exact ⟨gb, e, hlo, fun h6 => r (by rw [upd_other (by decide)] at h6; exact h6)⟩), (fun h => absurd hLS (by rw [upd_ne h (by decide)]; decide))⟩
    · obtain rfl := Option.some.inj ho
      have g1 := f1 (hd ⟨1, .data⟩ (by simp) rfl)
      subst g1
      have hLS : L 10 = false := by
        cases e : L 10
        · rfl
        · exact absurd ((f10 e).1 2 (by decide)) (by rw [hL]; decide)
      have J := I0 hLS
      refine wpOp_step rfl (fun K' hK => ?_)
      go_simp
      refine (cloneHeap_any A R n c m d h ww (SS.out.up J) hn hm (fun cl hcl => Nat.le_trans (H3.out cl hcl) (by omega))).mono ?_
      rintro e w' ⟨vc, vr, rfl, ow, b5⟩
      obtain ⟨A5, n5, c5, R5, m5, d5, rfl, rfl⟩ := ow.slices
      refine hK _ _ ?_
      exact ⟨_, _, _, _, _, _, _, _, _, _, rfl, (fun _ => J.trans (b5.mono J.size)), (kp f0), (kp f1), (fun _ => ⟨A5, n5, c5, R5, m5, d5, rfl, fun _ => ow.base J.size⟩), (kp f3), (kp f4), (kp f5), (kp f6), (kp f7), (fun h => absurd (f8 (upd_ne h (by decide))).1 (by rw [hL]; decide)), (fun h => by
        obtain ⟨gb, e, hlo, r⟩ := f9 (upd_ne h (by decide))
        exact ⟨gb, e, hlo, fun h6 => (r (by rw [upd_other (by decide)] at h6; exact h6)).keep b5 (r (by rw [upd_other (by decide)] at h6; exact h6)).lt⟩), (fun h => absurd hLS (by rw [upd_ne h (by decide)]; decide))⟩
    · obtain rfl := Option.some.inj ho
      have hLS : L 10 = false := by
        cases e : L 10
        · rfl
        · exact absurd ((f10 e).1 3 (by decide)) (by rw [hL]; decide)
      have J := I0 hLS
      refine wpOp_step rfl (fun K' hK => ?_)
      go_simp
      refine hK _ _ ?_
      exact ⟨_, _, _, _, _, _, _, _, _, _, rfl, (fun _ => J), (kp f0), (kp f1), (fun h => by
        obtain ⟨A5, n5, c5, R5, m5, d5, e, r⟩ := f2 (upd_ne h (by decide))
        exact ⟨A5, n5, c5, R5, m5, d5, e, fun h6 => r (by rw [upd_other (by decide)] at h6; exact h6)⟩), (fun _ => rfl), (kp f4), (kp f5), (kp f6), (kp f7), (fun h => by
        obtain ⟨l1, r⟩ := f8 (upd_ne h (by decide))
        exact ⟨upd_mono l1, r⟩), (fun h => by
        obtain ⟨gb, e, hlo, r⟩ := f9 (upd_ne h (by decide))
        exact ⟨gb, e, hlo, fun h6 => r (by rw [upd_other (by decide)] at h6; exact h6)⟩), (fun h => absurd hLS (by rw [upd_ne h (by decide)]; decide))⟩
    · obtain rfl := Option.some.inj ho
      have g3 := f3 (hd ⟨3, .data⟩ (by simp) rfl)
      subst g3
      have hLS : L 10 = false := by
        cases e : L 10
        · rfl
        · exact absurd ((f10 e).1 4 (by decide)) (by rw [hL]; decide)
      have J := I0 hLS
      have z2 : ww.cell? ⟨p, 2, none⟩ = some (.slice D q ce) := (J.cell (p := ⟨p, 2, none⟩) hql).trans x2
      refine wpOp_step rfl (fun K' hK => ?_)
      go_simp
      refine hK _ _ ?_
      exact ⟨_, _, _, _, _, _, _, _, _, _, rfl, (fun _ => J), (kp f0), (kp f1), (fun h => by
        obtain ⟨A5, n5, c5, R5, m5, d5, e, r⟩ := f2 (upd_ne h (by decide))
        exact ⟨A5, n5, c5, R5, m5, d5, e, fun h6 => r (by rw [upd_other (by decide)] at h6; exact h6)⟩), (kp f3), (fun _ => rfl), (kp f5), (kp f6), (kp f7), (fun h => by
        obtain ⟨l1, r⟩ := f8 (upd_ne h (by decide))
        exact ⟨upd_mono l1, r⟩), (fun h => by
        obtain ⟨gb, e, hlo, r⟩ := f9 (upd_ne h (by decide))
        exact ⟨gb, e, hlo, fun h6 => r (by rw [upd_other (by decide)] at h6; exact h6)⟩), (fun h => absurd hLS (by rw [upd_ne h (by decide)]; decide))⟩
    · obtain rfl := Option.some.inj ho
      have g4 := f4 (hd ⟨4, .data⟩ (by simp) rfl)
      subst g4
      have hLS : L 10 = false := by
        cases e : L 10
        · rfl
        · exact absurd ((f10 e).1 5 (by decide)) (by rw [hL]; decide)
      have J := I0 hLS
      refine wpOp_step rfl (fun K' hK => ?_)
      go_simp
      refine (flaggedSet_any D q ce ms ww (KK.out.up J) (by omega)).mono ?_
      rw [hMe.out]
      rintro e w' ⟨rfl, rfl⟩
      refine hK _ _ ?_
      exact ⟨_, _, _, _, _, _, _, _, _, _, rfl, (fun _ => J), (kp f0), (kp f1), (fun h => by
        obtain ⟨A5, n5, c5, R5, m5, d5, e, r⟩ := f2 (upd_ne h (by decide))
        exact ⟨A5, n5, c5, R5, m5, d5, e, fun h6 => r (by rw [upd_other (by decide)] at h6; exact h6)⟩), (kp f3), (kp f4), (fun _ => rfl), (kp f6), (kp f7), (fun h => by
        obtain ⟨l1, r⟩ := f8 (upd_ne h (by decide))
        exact ⟨upd_mono l1, r⟩), (fun h => by
        obtain ⟨gb, e, hlo, r⟩ := f9 (upd_ne h (by decide))
        exact ⟨gb, e, hlo, fun h6 => r (by rw [upd_other (by decide)] at h6; exact h6)⟩), (fun h => absurd hLS (by rw [upd_ne h (by decide)]; decide))⟩
    · obtain rfl := Option.some.inj ho
      have hLS : L 10 = false := by
        cases e : L 10
        · rfl
        · exact absurd ((f10 e).1 6 (by decide)) (by rw [hL]; decide)
      have J := I0 hLS
      refine wpOp_step rfl (fun K' hK => ?_)
      go_simp
      refine hK _ _ ?_
      exact ⟨_, _, _, _, _, _, _, _, _, _, rfl, (fun _ => J), (kp f0), (kp f1), (fun h => by
        obtain ⟨A5, n5, c5, R5, m5, d5, e, r⟩ := f2 (upd_ne h (by decide))
        exact ⟨A5, n5, c5, R5, m5, d5, e, fun h6 => r (by rw [upd_other (by decide)] at h6; exact h6)⟩), (kp f3), (kp f4), (kp f5), (fun _ => rfl), (kp f7), (fun h => by
        obtain ⟨l1, r⟩ := f8 (upd_ne h (by decide))
        exact ⟨upd_mono l1, r⟩), (fun h => by
        obtain ⟨gb, e, hlo, r⟩ := f9 (upd_ne h (by decide))
        exact ⟨gb, e, hlo, fun h6 => r (by rw [upd_other (by decide)] at h6; exact h6)⟩), (fun h => absurd hLS (by rw [upd_ne h (by decide)]; decide))⟩
    · obtain rfl := Option.some.inj ho
      have g6 := f6 (hd ⟨6, .data⟩ (by simp) rfl)
      subst g6
      have hLS : L 10 = false := by
        cases e : L 10
        · rfl
        · exact absurd ((f10 e).1 7 (by decide)) (by rw [hL]; decide)
      have J := I0 hLS
      have z3 : ww.cell? ⟨p, 3, none⟩ = some (.int .i64 j) := (J.cell (p := ⟨p, 3, none⟩) hql).trans x3
      refine wpOp_step rfl (fun K' hK => ?_)
      go_simp
      refine hK _ _ ?_
      exact ⟨_, _, _, _, _, _, _, _, _, _, rfl, (fun _ => J), (kp f0), (kp f1), (fun h => by
        obtain ⟨A5, n5, c5, R5, m5, d5, e, r⟩ := f2 (upd_ne h (by decide))
        exact ⟨A5, n5, c5, R5, m5, d5, e, fun h6 => r (by rw [upd_other (by decide)] at h6; exact h6)⟩), (kp f3), (kp f4), (kp f5), (kp f6), (fun _ => rfl), (fun h => by
        obtain ⟨l1, r⟩ := f8 (upd_ne h (by decide))
        exact ⟨upd_mono l1, r⟩), (fun h => by
        obtain ⟨gb, e, hlo, r⟩ := f9 (upd_ne h (by decide))
        exact ⟨gb, e, hlo, fun h6 => r (by rw [upd_other (by decide)] at h6; exact h6)⟩), (fun h => absurd hLS (by rw [upd_ne h (by decide)]; decide))⟩
    · obtain rfl := Option.some.inj ho
      have g2 := f2 (hd ⟨2, .data⟩ (by simp) rfl)
      have g5 := f5 (hd ⟨5, .data⟩ (by simp) rfl)
      have g7 := f7 (hd ⟨7, .data⟩ (by simp) rfl)
      subst g5
      subst g7
      have hLS : L 10 = false := by
        cases e : L 10
        · rfl
        · exact absurd ((f10 e).1 8 (by decide)) (by rw [hL]; decide)
      have J := I0 hLS
      have l1 := Lib.hid (hd ⟨2, .data⟩ (by simp) rfl)
      obtain ⟨A5, n5, c5, R5, m5, d5, e4, r4⟩ := g2
      subst e4
      refine wpOp_step rfl (fun K' hK => ?_)
      go_simp
      refine hK _ _ ?_
      exact ⟨_, _, _, _, _, _, _, _, _, _, rfl, (fun _ => J), (kp f0), (kp f1), (fun _ => ⟨A5, n5, c5, R5, m5, d5, rfl, fun h => r4 (by rw [upd_other (by decide)] at h; exact h)⟩), (kp f3), (kp f4), (kp f5), (kp f6), (kp f7), (fun _ => ⟨upd_mono l1.out, A5, n5, c5, R5, m5, d5, rfl, rfl⟩), (fun h => by
        obtain ⟨gb, e, hlo, r⟩ := f9 (upd_ne h (by decide))
        exact ⟨gb, e, hlo, fun h6 => r (by rw [upd_other (by decide)] at h6; exact h6)⟩), (fun h => absurd hLS (by rw [upd_ne h (by decide)]; decide))⟩
    · obtain rfl := Option.some.inj ho
      have hLS : L 10 = false := by
        cases e : L 10
        · rfl
        · exact absurd ((f10 e).1 9 (by decide)) (by rw [hL]; decide)
      have J := I0 hLS
      refine wpOp_step rfl (fun K' hK => ?_)
      go_simp
      refine hK _ _ ?_
      exact ⟨_, _, _, _, _, _, _, _, _, _, rfl, (fun _ => J.alloc J.size _), (kp f0), (kp f1), (fun h => by
        obtain ⟨A5, n5, c5, R5, m5, d5, e, r⟩ := f2 (upd_ne h (by decide))
        exact ⟨A5, n5, c5, R5, m5, d5, e, fun h6 => (r (by rw [upd_other (by decide)] at h6; exact h6)).below ((Below.refl _ _).alloc (Nat.le_refl _) _) (Nat.le_refl _)⟩), (kp f3), (kp f4), (kp f5), (kp f6), (kp f7), (fun h => by
        obtain ⟨l1, r⟩ := f8 (upd_ne h (by decide))
        exact ⟨upd_mono l1, r⟩), (fun _ => ⟨ww.heap.size, rfl, J.size, fun _ => Rw.new ww 69 #[.slice none 0 0, .slice none 0 0, .int .u64 0, .int .i64 0]⟩), (fun h => absurd hLS (by rw [upd_ne h (by decide)]; decide))⟩
    · obtain rfl := Option.some.inj ho
      have g8 := f8 (hd ⟨8, .data⟩ (by simp) rfl)
      have g9 := f9 (hd ⟨9, .data⟩ (by simp) rfl)
      have lq : Hid (∀ q, q < 10 → L q = true) := Lib.hid (by
        intro q hq
        obtain rfl | rfl | rfl | rfl | rfl | rfl | rfl | rfl | rfl | rfl : q = 0 ∨ q = 1 ∨ q = 2 ∨ q = 3 ∨ q = 4 ∨ q = 5 ∨ q = 6 ∨ q = 7 ∨ q = 8 ∨ q = 9 := by omega
        · exact hd ⟨0, .phase⟩ (by simp) rfl
        · exact hd ⟨1, .phase⟩ (by simp) rfl
        · exact hd ⟨2, .phase⟩ (by simp) rfl
        · exact hd ⟨3, .phase⟩ (by simp) rfl
        · exact hd ⟨4, .phase⟩ (by simp) rfl
        · exact hd ⟨5, .phase⟩ (by simp) rfl
        · exact hd ⟨6, .phase⟩ (by simp) rfl
        · exact hd ⟨7, .phase⟩ (by simp) rfl
        · exact hd ⟨8, .phase⟩ (by simp) rfl
        · exact hd ⟨9, .phase⟩ (by simp) rfl)
      have J := I0 hL
      obtain ⟨-, A5, n5, c5, R5, m5, d5, e4, e8⟩ := g8
      subst e8
      obtain ⟨A6, n6, c6, R6, m6, d6, e4b, r4⟩ := f2 (lq.out 2 (by decide))
      have oc := r4 hL
      rw [e4] at e4b
      injection e4b with e4b
      simp at e4b
      obtain ⟨⟨rfl, rfl, rfl⟩, rfl, rfl, rfl⟩ := e4b
      subst e4
      obtain ⟨gb, e9, hlo, r9⟩ := g9
      subst e9
      have P := r9 hL
      obtain ⟨rv, ox⟩ := oc
      have zf0 : ww.frozen? ⟨gb, 0, none⟩ = false := P.frozen 0
      have zf1 : ww.frozen? ⟨gb, 1, none⟩ = false := P.frozen 1
      have zf2 : ww.frozen? ⟨gb, 2, none⟩ = false := P.frozen 2
      have zf3 : ww.frozen? ⟨gb, 3, none⟩ = false := P.frozen 3
      have zc0 : ww.cell? ⟨gb, 0, none⟩ = some (.slice none 0 0) := P.cell 0
      have zc1 : ww.cell? ⟨gb, 1, none⟩ = some (.slice none 0 0) := P.cell 1
      have zc2 : ww.cell? ⟨gb, 2, none⟩ = some (.int .u64 0) := P.cell 2
      have zc3 : ww.cell? ⟨gb, 3, none⟩ = some (.int .i64 0) := P.cell 3
      refine wpOp_step rfl (fun K' hK => ?_)
      go_simp
      refine hK _ _ ?_
      exact ⟨_, _, _, _, _, _, _, _, _, _, rfl, (fun h => absurd h (by rw [upd_self]; decide)), (kp f0), (kp f1), (fun _ => ⟨A5, n5, c5, R5, m5, d5, rfl, fun h => absurd h (by rw [upd_self]; decide)⟩), (kp f3), (kp f4), (kp f5), (kp f6), (kp f7), (fun _ => ⟨upd_mono (lq.out 2 (by decide)), A5, n5, c5, R5, m5, d5, rfl, rfl⟩), (fun _ => ⟨gb, rfl, hlo, fun h => absurd h (by rw [upd_self]; decide)⟩), (fun _ => ⟨fun q hq => upd_mono (lq.out q hq), A5, n5, c5, R5, m5, d5, rv, gb, rfl, BoxW.make ox P J hlo _ _⟩)⟩
  case hdone =>
    rintro L ac ww hall ⟨t4, t10, t11, t12, t13, t14, t15, t16, t17, t18, rfl, I0, f0, f1, f2, f3, f4, f5, f6, f7, f8, f9, f10⟩
    have e0 := f0 (hall 0 (by decide))
    have e1 := f1 (hall 1 (by decide))
    have e2 := f2 (hall 2 (by decide))
    have e3 := f3 (hall 3 (by decide))
    have e4 := f4 (hall 4 (by decide))
    have e5 := f5 (hall 5 (by decide))
    have e6 := f6 (hall 6 (by decide))
    have e7 := f7 (hall 7 (by decide))
    have e8 := f8 (hall 8 (by decide))
    have e9 := f9 (hall 9 (by decide))
    have e10 := f10 (hall 10 (by decide))
    clear f0 f1 f2 f3 f4 f5 f6 f7 f8 f9 f10
    obtain ⟨-, A5, n5, c5, R5, m5, d5, rv, gb, et, SB⟩ := e10
    subst et
    clear I0 e0 e1 e2 e3 e4 e5 e6 e7 e8 e9 hall
    rw [← hMe.out] at SB
    have HQ8 := Lib.hid q2
    have HB8 := Lib.hid B2
    clear x0 x1 x2 x3 SS KK q2 B2
    go_wp2_with fail
    refine (take_any w3 _ gb _ _ rv h ms j SB HOK.out).mono ?_
    rw [HY1.out, HY2.out]
    rintro e w6 ⟨rfl, rv6, S6⟩
    clear SB
    have h6 : y1.s.cs.length ≤ 40 := (Hps.valid_small HO2.out.1).1
    have m6 : y1.ms.length = y1.s.cs.length := HO2.out.2.1
    have hV6 := Bm.wordN_lt y1.ms true (by omega)
    have HWL := Lib.hid (Bm.word_list y1.ms m6 (Bm.wordN y1.ms true) (fun i _ => Bm.wordN_bit _ _ _))
    have HM6 := Lib.hid m6
    clear m6
    go_wp2_with fail
    refine (lazy_any w3 _ gb _ _ rv6 y1.s (Bm.wordN y1.ms true) y1.i S6 hV6 (by omega)).mono ?_
    rintro e w7 ⟨vm, rfl, om, b7⟩
    rw [HWL.out] at om
    obtain ⟨K5, q5, e9, -⟩ := om.form
    obtain ⟨p5, hp5⟩ : ∃ p5, y1.ms.length = p5 := ⟨_, rfl⟩
    rw [hp5] at e9
    subst e9
    clear hp5
    have OL := S6.own.lazy b7 om S6.low.size
    have hls := S6.low.size
    have b7s := b7.size
    have q8 := HQ8.out.keep (S6.low.trans (b7.mono hls)) hrl
    have B8 := HB8.out.trans ((S6.low.trans (b7.mono hls)).mono (by have := HB8.out.size; omega))
    clear S6 om b7
    have zf0 : w7.frozen? ⟨p + 1, 0, none⟩ = false := q8.frozen 0
    have zf1 : w7.frozen? ⟨p + 1, 1, none⟩ = false := q8.frozen 1
    have zf2 : w7.frozen? ⟨p + 1, 2, none⟩ = false := q8.frozen 2
    have zf3 : w7.frozen? ⟨p + 1, 3, none⟩ = false := q8.frozen 3
    have zc0 : w7.cell? ⟨p + 1, 0, none⟩ = some (.slice none 0 0) := q8.cell 0
    have zc1 : w7.cell? ⟨p + 1, 1, none⟩ = some (.slice none 0 0) := q8.cell 1
    have zc2 : w7.cell? ⟨p + 1, 2, none⟩ = some (.slice none 0 0) := q8.cell 2
    have zc3 : w7.cell? ⟨p + 1, 3, none⟩ = some (.int .i64 0) := q8.cell 3
    have P4 := ((((q8.put 0 (.slice A5 n5 c5)).put 1 (.slice R5 m5 d5)).put 2 (.slice K5 p5 q5)).put 3 (.int .i64 y1.i))
    have s8 : ((((w7.setCell ⟨p + 1, 0, none⟩ (.slice A5 n5 c5)).setCell ⟨p + 1, 1, none⟩ (.slice R5 m5 d5)).setCell ⟨p + 1, 2, none⟩ (.slice K5 p5 q5)).setCell ⟨p + 1, 3, none⟩ (.int .i64 y1.i)).cell? ⟨p + 1, 0, none⟩ = some (.slice A5 n5 c5) := P4.cell 0
    have s9 : ((((w7.setCell ⟨p + 1, 0, none⟩ (.slice A5 n5 c5)).setCell ⟨p + 1, 1, none⟩ (.slice R5 m5 d5)).setCell ⟨p + 1, 2, none⟩ (.slice K5 p5 q5)).setCell ⟨p + 1, 3, none⟩ (.int .i64 y1.i)).cell? ⟨p + 1, 1, none⟩ = some (.slice R5 m5 d5) := P4.cell 1
    have s10 : ((((w7.setCell ⟨p + 1, 0, none⟩ (.slice A5 n5 c5)).setCell ⟨p + 1, 1, none⟩ (.slice R5 m5 d5)).setCell ⟨p + 1, 2, none⟩ (.slice K5 p5 q5)).setCell ⟨p + 1, 3, none⟩ (.int .i64 y1.i)).cell? ⟨p + 1, 2, none⟩ = some (.slice K5 p5 q5) := P4.cell 2
    have s11 : ((((w7.setCell ⟨p + 1, 0, none⟩ (.slice A5 n5 c5)).setCell ⟨p + 1, 1, none⟩ (.slice R5 m5 d5)).setCell ⟨p + 1, 2, none⟩ (.slice K5 p5 q5)).setCell ⟨p + 1, 3, none⟩ (.int .i64 y1.i)).cell? ⟨p + 1, 3, none⟩ = some (.int .i64 y1.i) := P4.cell 3
    clear P4
    have HW := HQ.out
    have DD := Lib.hid (OwnLz.out (w := w) (g := p + 1) y1.i ⟨_, OL⟩ (by omega) (by rw [HW]; exact B8) (by omega))
    clear OL q8 B8
    go_wp2_with fail
    exact bodyPost_ret (v := .tuple #[.agg #[.slice A5 n5 c5, .slice R5 m5 d5, .slice K5 p5 q5, .int .i64 y1.i], .int .i64 y2]) (by simp [results, Try.results24, go_sem, *]) rfl ⟨_, _, _, rfl, DD.out.1, DD.out.2⟩
end Go.Proofs.Ytakdjiojahlnmaa

namespace Go.Proofs.Ytakdjiojahlnmaa
open Go.RowKit
/-- worlds in which what was there is as it was -/
def InW (w0 w : World) : Prop := Below w0.heap.size w0 w
theorem InW.cell {w0 w : World} (h : InW w0 w) {p : Addr} {v : Value} (hp : p.block < w0.heap.size) (hc : w0.cell? p = some v) : w.cell? p = some v := (Below.cell h hp).trans hc
theorem InW.call {w0 w w' : World} (h : InW w0 w) (hb : Below w.heap.size w w') : InW w0 w' := Below.trans h (hb.mono (Below.size h))
set_option maxRecDepth 100000 in
set_option maxHeartbeats 4000000 in
theorem sameHeap_same (A R A' R' : Option Addr) (n c m d c' d' : Nat) (h : Hp) (w : World) (hs : HS w w.heap.size A n R m h) (hs' : HS w w.heap.size A' n R' m h) (hn : n ≤ 1000000) (hm : m ≤ 1000000) (hb : ∀ cl ∈ h.cs, cl.r.length ≤ 1000000) :
    Calls Try.prog 16 #[heapV A n c R m d, heapV A' n c' R' m d'] w fun e w' => e = .returned (.bool true) ∧ Below w.heap.size w w' := by
  have b2 : Below w.heap.size w ((w.alloc (.cells #[.slice A n c, .slice R m d] 26)).alloc (.cells #[.slice A' n c', .slice R' m d'] 26)) := ((Below.refl w.heap.size w).alloc (Nat.le_refl _) _).alloc (by simp) _
  have q1 := (Rw.new w 26 #[.slice A n c, .slice R m d]).alloc (.cells #[.slice A' n c', .slice R' m d'] 26)
  have q2 := Rw.new (w.alloc (.cells #[.slice A n c, .slice R m d] 26)) 26 #[.slice A' n c', .slice R' m d']
  rw [World.size_alloc] at q2
  have hne : ((n : Int) != n) = false := by simp
  have HB := Lib.hid hb
  clear hb
  go_enter Try.func16, Try.ntmps16
  go_upto_region 1 with fail
  generalize (w.alloc (.cells #[.slice A n c, .slice R m d] 26)).alloc (.cells #[.slice A' n c', .slice R' m d'] 26) = w0 at b2 q1 q2 ⊢
  have y0 : w0.cell? ⟨w.heap.size, 0, none⟩ = some (.slice A n c) := q1.cell 0
  have y1 : w0.cell? ⟨w.heap.size + 1, 0, none⟩ = some (.slice A' n c') := q2.cell 0
  go_wp2_with fail
  clear y0 y1
  go_loopw [5] (fun i wr => ∃ k : Nat, k ≤ n ∧ i = .int .i64 k ∧ Below w0.heap.size w0 wr) (fun i _ => n - (intOf i).toNat)
  case atStart => exact ⟨0, Nat.zero_le _, rfl, Below.refl _ _⟩
  case round =>
    obtain ⟨k, hk, rfl, bw⟩ := hrel
    have bb := b2.trans (bw.mono b2.size)
    have r1 := q1.keep bw q1.lt
    have r2 := q2.keep bw q2.lt
    have hx0 := r1.lt
    have hx1 := r2.lt
    have x0 : wr.cell? ⟨w.heap.size, 0, none⟩ = some (.slice A n c) := r1.cell 0
    have x1 : wr.cell? ⟨w.heap.size + 1, 0, none⟩ = some (.slice A' n c') := r2.cell 0
    by_cases hlt : k < n
    · obtain ⟨g, o, cl, A1, m1, cc, rfl, hg, hcl, d1, d2, d3, -, hi⟩ := (hs.cells.below bb).at_ hlt
      obtain ⟨g', o', cl', A1', m1', cc', rfl, hg', hcl', d1', d2', d3', -, hi'⟩ := (hs'.cells.below bb).at_ hlt
      rw [hcl] at hcl'
      injection hcl' with hcl'
      subst hcl'
      obtain rfl : m1 = m1' := hi.1.symm.trans hi'.1
      have hlt' : (k : Int) < n := by omega
      have hgw : g < wr.heap.size := by have := bb.size; omega
      have hgw' : g' < wr.heap.size := by have := bb.size; omega
      have hm1 : m1 ≤ 1000000 := by rw [← hi.1]; exact HB.out cl (List.mem_of_getElem? hcl)
      have j1 := hi.more bb.size
      have j2 := hi'.more bb.size
      have Ca := Lib.hid (fun (ww : World) (hw : InW wr ww) => show ww.cell? ⟨w.heap.size, 0, none⟩ = some (.slice (some ⟨g, o, none⟩) n c) from hw.cell (by show _ < wr.heap.size; first | exact hx0 | omega) x0)
      have Cb := Lib.hid (fun (ww : World) (hw : InW wr ww) => show ww.cell? ⟨w.heap.size + 1, 0, none⟩ = some (.slice (some ⟨g', o', none⟩) n c') from hw.cell (by show _ < wr.heap.size; first | exact hx1 | omega) x1)
      have Cc := Lib.hid (fun (ww : World) (hw : InW wr ww) => show ww.cell? ⟨g, o + k * 3, none⟩ = some (.bool cl.u) from hw.cell (by show _ < wr.heap.size; first | exact hgw | omega) d1)
      have Cd := Lib.hid (fun (ww : World) (hw : InW wr ww) => show ww.cell? ⟨g', o' + k * 3, none⟩ = some (.bool cl.u) from hw.cell (by show _ < wr.heap.size; first | exact hgw' | omega) d1')
      have Ce := Lib.hid (fun (ww : World) (hw : InW wr ww) => show ww.cell? ⟨g, o + k * 3 + 1, none⟩ = some (.int .i64 cl.d) from hw.cell (by show _ < wr.heap.size; first | exact hgw | omega) d2)
      have Cf := Lib.hid (fun (ww : World) (hw : InW wr ww) => show ww.cell? ⟨g', o' + k * 3 + 1, none⟩ = some (.int .i64 cl.d) from hw.cell (by show _ < wr.heap.size; first | exact hgw' | omega) d2')
      have Cg := Lib.hid (fun (ww : World) (hw : InW wr ww) => show ww.cell? ⟨g, o + k * 3 + 2, none⟩ = some (.slice A1 m1 cc) from hw.cell (by show _ < wr.heap.size; first | exact hgw | omega) d3)
      have Ch := Lib.hid (fun (ww : World) (hw : InW wr ww) => show ww.cell? ⟨g', o' + k * 3 + 2, none⟩ = some (.slice A1' m1 cc') from hw.cell (by show _ < wr.heap.size; first | exact hgw' | omega) d3')
      have CI := Lib.hid (fun w' (hw' : InW wr w') => (sameInts_any A1 A1' m1 m1 cc cc' cl.r cl.r w' ((j1.below hw').more (Below.size hw')) ((j2.below hw').more (Below.size hw')) (by omega) (by omega)).mono (R' := fun e w'' => e = .returned (.bool true) ∧ InW wr w'') fun e w'' hh => ⟨by rw [decide_eq_true rfl] at hh; exact hh.1, hw'.call hh.2⟩)
      have hdd : (cl.d != cl.d) = false := by simp
      have hnu : (!(cl.u == cl.u)) = false := by simp
      go_wp2_with fail
      clear d1 d2 d3 d1' d2' d3' x0 x1 hi hi' hcl
      cases hu : cl.u
      · rw [hu] at Cc Cd
        refine wp_region_quiet (C := InW wr) (by kernel_rfl) (by kernel_rfl) (show InW wr _ from (Below.refl _ _).drew) ?_
        repeat (
          refine wpQuiet_step (fun K hK => ?_)
          go_simp
          first
          | (refine hK _ ?_
             clear hK K)
          | ((with_reducible refine ⟨_, fun _ _ => rfl, hK _ ?_⟩)
             clear hK K)
          | ((with_reducible refine ⟨_, CI.out, hK _ ?_⟩)
             clear hK K)
          | (refine ⟨.slice (some ⟨g, o, none⟩) n c, fun w' hw' => ?_, hK _ ?_⟩
             · have hcw := Ca.out w' hw'
               go_simp
               done
             clear hK K)
          | (refine ⟨.slice (some ⟨g', o', none⟩) n c', fun w' hw' => ?_, hK _ ?_⟩
             · have hcw := Cb.out w' hw'
               go_simp
               done
             clear hK K)
          | (refine ⟨.bool false, fun w' hw' => ?_, hK _ ?_⟩
             · have hcw := Cc.out w' hw'
               go_simp
               done
             clear hK K)
          | (refine ⟨.bool false, fun w' hw' => ?_, hK _ ?_⟩
             · have hcw := Cd.out w' hw'
               go_simp
               done
             clear hK K)
          | (refine ⟨.int .i64 cl.d, fun w' hw' => ?_, hK _ ?_⟩
             · have hcw := Ce.out w' hw'
               go_simp
               done
             clear hK K)
          | (refine ⟨.int .i64 cl.d, fun w' hw' => ?_, hK _ ?_⟩
             · have hcw := Cf.out w' hw'
               go_simp
               done
             clear hK K)
          | (refine ⟨.slice A1 m1 cc, fun w' hw' => ?_, hK _ ?_⟩
             · have hcw := Cg.out w' hw'
               go_simp
               done
             clear hK K)
          | (refine ⟨.slice A1' m1 cc', fun w' hw' => ?_, hK _ ?_⟩
             · have hcw := Ch.out w' hw'
               go_simp
               done
             clear hK K)
          )
        refine wpQuiet_nil ?_
        intro w5 hw5
        have b5 : Below w0.heap.size w0 w5 := bw.trans ((show Below wr.heap.size wr w5 from hw5).mono bw.size)
        clear Ca Cb Cc Cd Ce Cf Cg Ch CI
        go_wp2_with fail
        go_roundw
        case rel => exact ⟨k + 1, by omega, by go_num, b5⟩
        case measure => simp [intOf]; omega
      · rw [hu] at Cc Cd
        refine wp_region_quiet (C := InW wr) (by kernel_rfl) (by kernel_rfl) (show InW wr _ from (Below.refl _ _).drew) ?_
        repeat (
          refine wpQuiet_step (fun K hK => ?_)
          go_simp
          first
          | (refine hK _ ?_
             clear hK K)
          | ((with_reducible refine ⟨_, fun _ _ => rfl, hK _ ?_⟩)
             clear hK K)
          | ((with_reducible refine ⟨_, CI.out, hK _ ?_⟩)
             clear hK K)
          | (refine ⟨.slice (some ⟨g, o, none⟩) n c, fun w' hw' => ?_, hK _ ?_⟩
             · have hcw := Ca.out w' hw'
               go_simp
               done
             clear hK K)
          | (refine ⟨.slice (some ⟨g', o', none⟩) n c', fun w' hw' => ?_, hK _ ?_⟩
             · have hcw := Cb.out w' hw'
               go_simp
               done
             clear hK K)
          | (refine ⟨.bool true, fun w' hw' => ?_, hK _ ?_⟩
             · have hcw := Cc.out w' hw'
               go_simp
               done
             clear hK K)
          | (refine ⟨.bool true, fun w' hw' => ?_, hK _ ?_⟩
             · have hcw := Cd.out w' hw'
               go_simp
               done
             clear hK K)
          | (refine ⟨.int .i64 cl.d, fun w' hw' => ?_, hK _ ?_⟩
             · have hcw := Ce.out w' hw'
               go_simp
               done
             clear hK K)
          | (refine ⟨.int .i64 cl.d, fun w' hw' => ?_, hK _ ?_⟩
             · have hcw := Cf.out w' hw'
               go_simp
               done
             clear hK K)
          | (refine ⟨.slice A1 m1 cc, fun w' hw' => ?_, hK _ ?_⟩
             · have hcw := Cg.out w' hw'
               go_simp
               done
             clear hK K)
          | (refine ⟨.slice A1' m1 cc', fun w' hw' => ?_, hK _ ?_⟩
             · have hcw := Ch.out w' hw'
               go_simp
               done
             clear hK K)
          )
        refine wpQuiet_nil ?_
        intro w5 hw5
        have b5 : Below w0.heap.size w0 w5 := bw.trans ((show Below wr.heap.size wr w5 from hw5).mono bw.size)
        clear Ca Cb Cc Cd Ce Cf Cg Ch CI
        go_wp2_with fail
        go_roundw
        case rel => exact ⟨k + 1, by omega, by go_num, b5⟩
        case measure => simp [intOf]; omega
    · obtain rfl : k = n := by omega
      have z0 : wr.cell? ⟨w.heap.size, 1, none⟩ = some (.slice R m d) := r1.cell 1
      have z1 : wr.cell? ⟨w.heap.size + 1, 1, none⟩ = some (.slice R' m d') := r2.cell 1
      have t1 := hs.roots.below bb
      have t2 := hs'.roots.below bb
      go_wp2_with fail
      refine (sameInts_any _ _ _ _ _ _ h.rt h.rt _ (t1.more bb.size) (t2.more bb.size) (by omega) (by omega)).mono ?_
      rw [decide_eq_true rfl]
      rintro e w5 ⟨rfl, b5⟩
      have bf := bb.trans (b5.mono bb.size)
      go_wp2_with fail
      go_ret
      exact ⟨rfl, bf⟩
end Go.Proofs.Ytakdjiojahlnmaa

namespace Go.Proofs.Ytakdjiojahlnmaa
open Go.RowKit
set_option maxRecDepth 100000
set_option maxHeartbeats 2000000 in
theorem sameLazy_same (A R K A' R' K' : Option Addr) (n c m d p q c' d' q' : Nat) (x : Hp) (l : List Bool) (i : Int) (w : World) (hx : HS w w.heap.size A n R m x) (hkx : OS w w.heap.size K p l) (hy : HS w w.heap.size A' n R' m x) (hky : OS w w.heap.size K' p l) (hn : n ≤ 1000000) (hm : m ≤ 1000000) (hp : p ≤ 1099511627776) (hb : ∀ cl ∈ x.cs, cl.r.length ≤ 1000000) :
    Calls Try.prog 12 #[lzV A n c R m d K p q i, lzV A' n c' R' m d' K' p q' i] w fun e w' => e = .returned (.bool true) ∧ Below w.heap.size w w' := by
  have b2 : Below w.heap.size w ((w.alloc (.cells #[.slice A n c, .slice R m d, .slice K p q, .int .i64 i] 30)).alloc (.cells #[.slice A' n c', .slice R' m d', .slice K' p q', .int .i64 i] 30)) := ((Below.refl w.heap.size w).alloc (Nat.le_refl _) _).alloc (by simp) _
  have x2 := hx.up b2
  have y2 := hy.up b2
  have q1 := (Rw.new w 30 #[.slice A n c, .slice R m d, .slice K p q, .int .i64 i]).alloc (.cells #[.slice A' n c', .slice R' m d', .slice K' p q', .int .i64 i] 30)
  have q2 := Rw.new (w.alloc (.cells #[.slice A n c, .slice R m d, .slice K p q, .int .i64 i] 30)) 30 #[.slice A' n c', .slice R' m d', .slice K' p q', .int .i64 i]
  simp only [World.size_alloc] at q2
  have HB := Lib.hid hb
  clear hb hx hy
  go_enter Try.func12, Try.ntmps12
  go_upto_region 1 with fail
  generalize (w.alloc (.cells #[.slice A n c, .slice R m d, .slice K p q, .int .i64 i] 30)).alloc (.cells #[.slice A' n c', .slice R' m d', .slice K' p q', .int .i64 i] 30) = w2 at b2 x2 y2 q1 q2 ⊢
  have a0 : w2.cell? ⟨w.heap.size, 0, none⟩ = some (.slice A n c) := q1.cell 0
  have a1 : w2.cell? ⟨w.heap.size, 1, none⟩ = some (.slice R m d) := q1.cell 1
  have a2 : w2.cell? ⟨w.heap.size + 1, 0, none⟩ = some (.slice A' n c') := q2.cell 0
  have a3 : w2.cell? ⟨w.heap.size + 1, 1, none⟩ = some (.slice R' m d') := q2.cell 1
  go_wp2_with fail
  refine (sameHeap_same _ _ _ _ _ _ _ _ _ _ x _ x2 y2 hn hm HB.out).mono ?_
  rintro e w3 ⟨rfl, b3⟩
  replace q1 := q1.keep b3 q1.lt
  replace q2 := q2.keep b3 q2.lt
  replace b2 := b2.trans (b3.mono b2.size)
  clear x2 y2 b3 a0 a1 a2 a3
  have z1 : w3.cell? ⟨w.heap.size, 2, none⟩ = some (.slice K p q) := q1.cell 2
  have z2 : w3.cell? ⟨w.heap.size + 1, 2, none⟩ = some (.slice K' p q') := q2.cell 2
  have i1 := hkx.up b2
  have i2 := hky.up b2
  go_wp2_with fail
  refine (sameFlags_any _ _ _ _ _ _ l l _ i1 i2 hp hp).mono ?_
  rw [decide_eq_true (rfl : l = l)]
  rintro e w4 ⟨rfl, b4⟩
  replace q1 := q1.keep b4 q1.lt
  replace q2 := q2.keep b4 q2.lt
  replace b2 := b2.trans (b4.mono b2.size)
  have z3 : w4.cell? ⟨w.heap.size, 3, none⟩ = some (.int .i64 i) := q1.cell 3
  have z4 : w4.cell? ⟨w.heap.size + 1, 3, none⟩ = some (.int .i64 i) := q2.cell 3
  have hie : (i == i) = true := by simp
  clear z1 z2 i1 i2 b4 hkx hky
  go_wp2_with fail
  go_ret
  exact ⟨rfl, b2⟩
end Go.Proofs.Ytakdjiojahlnmaa

namespace Go.Proofs.Ytakdjiojahlnmaa
open Go.RowKit
set_option maxRecDepth 100000
theorem info_intsize : (Try.prog.info? 3).map (·.size) = some 1 := by kernel_rfl
/-- k times -1, then 0 up to N -/
def repN (N k : Nat) : List Value := List.replicate k (.int .i64 (-1)) ++ List.replicate (N - k) (.int .i64 0)
def RowN (w : World) (g N k : Nat) : Prop := w.heap[g]? = some (.cells (repN N k).toArray 3 (0, 0))
theorem RowN.cell {w : World} {g N k j : Nat} (h : RowN w g N k) (hj : j < k) : w.cell? ⟨g, j, none⟩ = some (.int .i64 (-1)) := by
  have : (repN N k)[j]? = some (.int .i64 (-1)) := by
    unfold repN
    rw [List.getElem?_append_left (by simpa using hj)]
    simp [hj]
  have e : w.cell? ⟨g, j, none⟩ = (repN N k).toArray[j]? := Rw.cell (cs := (repN N k).toArray) h j
  rw [e]
  simpa using this
theorem RowN.put {w : World} {g N k : Nat} (h : RowN w g N k) (j : Nat) : RowN (w.setRow g (repN N j).toArray) g N j := setRow_heap w g _ _ _ _ h
end Go.Proofs.Ytakdjiojahlnmaa

namespace Go.Proofs.Ytakdjiojahlnmaa
open Go.RowKit
set_option maxRecDepth 100000
theorem equalI_any (A B : Option Addr) (n m c d : Nat) (xs ys : List Int) (w : World) (h : IS w w.heap.size A n xs) (h' : IS w w.heap.size B m ys) (hn : n ≤ 1099511627776) (hm : m ≤ 1099511627776) :
    Calls Try.prog 59 #[.slice A n c, .slice B m d] w fun e w' => e = .returned (.bool (decide (xs = ys))) ∧ Below w.heap.size w w' := by
  have HL := Lib.hid h.1
  have HL' := Lib.hid h'.1
  by_cases hnm : n = m
  · subst hnm
    go_enter Try.func59, Try.ntmps59
    go_wp2
    go_loopw [13] (fun i wr => ∃ (k : Nat), k ≤ n ∧ i = .int .i64 k ∧ Hid (xs.take k = ys.take k) ∧ Below w.heap.size w wr) (fun i _ => n - (intOf i).toNat)
    case atStart => exact ⟨0, Nat.zero_le _, rfl, by simp [Hid], Below.refl _ _⟩
    case round =>
      obtain ⟨k, hk, rfl, hpre, hb⟩ := hrel
      by_cases hlt : k < n
      · obtain ⟨g, o, x, rfl, hg, hx, c1⟩ := (h.below hb).at_ hlt
        obtain ⟨g', o', y, rfl, hg', hx', c1'⟩ := (h'.below hb).at_ hlt
        have HX := Lib.hid hx
        have HX' := Lib.hid hx'
        have hlt' : (k : Int) < n := by omega
        clear hx hx'
        by_cases hxy : x = y
        · subst hxy
          go_wp2_with fail
          go_quiet (fail)
          go_wp2
          go_roundw
          case rel => exact ⟨k + 1, by omega, by go_num, Lib.hid (take_eq_succI hpre.out HX.out HX'.out), below_drewN hb _⟩
          case measure => simp [intOf]; omega
        · have hne : (x == y) = false := by rw [beq_eq_false_iff_ne]; exact hxy
          have hne2 : (x != y) = true := by rw [bne_iff_ne]; exact hxy
          have HNE := Lib.hid (show xs ≠ ys from fun e => hxy (by
            have a := HX.out
            have b := HX'.out
            rw [e, b] at a
            exact (Option.some.inj a).symm))
          clear hxy
          go_wp2_with fail
          go_quiet (fail)
          go_wp2
          go_ret
          exact ⟨ret_bool (decide_eq_false HNE.out).symm, below_drewN hb _⟩
      · have hkn : k = n := by omega
        have HK := Lib.hid hkn
        clear hkn
        go_wp2
        go_ret
        refine ⟨ret_bool ?_, hb⟩
        have hp := hpre.out
        rw [HK.out, List.take_of_length_le (by rw [HL.out]; omega), List.take_of_length_le (by rw [HL'.out]; omega)] at hp
        simp [hp]
  · have hne : ((n : Int) != m) = true := by rw [bne_iff_ne]; omega
    have HN := Lib.hid hnm
    clear hnm
    go_enter Try.func59, Try.ntmps59
    go_wp2
    go_ret
    refine ⟨ret_bool ?_, Below.refl _ _⟩
    simp
    rintro rfl
    exact HN.out (HL.out.symm.trans HL'.out)
end Go.Proofs.Ytakdjiojahlnmaa

