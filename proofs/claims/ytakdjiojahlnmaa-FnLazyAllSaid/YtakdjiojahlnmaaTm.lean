/- What the program's LazyTake returns: for every heap, marks and number. No conditions. -/
import Derived.Test.YtakdjiojahlnmaaTk
import Derived.Test.YtakdjiojahlnmaaTl
namespace Go.Proofs.Ytakdjiojahlnmaa
open Go.RowKit
set_option maxRecDepth 100000

theorem Hps.take_ok {l : Lz} (h : Hps.okLz l) : Hps.okLz (Hps.takeLz l).1 := by
  rcases Hps.take_cases h with ⟨_, h1, _⟩ | ⟨k, e, _, _, _, h1, _⟩
  · exact h1
  · rw [e]
    exact h1

set_option maxHeartbeats 8000000 in
theorem lazyTake_any (A R D : Option Addr) (n c m d q ce : Nat) (i : Int) (h : Hp) (ms : List Bool) (w : World) (hs : HS w w.heap.size A n R m h) (hk : OS w w.heap.size D q ms) (hn : n ≤ 1099511627776) (hm : m ≤ 1099511627776) (hq : q ≤ 1099511627776) (hnc : n ≤ c) (hmd : m ≤ d) :
    Calls Try.prog 24 #[lzV A n c R m d D q ce i] w (GaveLzN w (Hps.takeLz ⟨h, ms, i⟩).1 (Hps.takeLz ⟨h, ms, i⟩).2) := by
  have B2 : Below w.heap.size w ((w.alloc (.cells #[.slice A n c, .slice R m d, .slice D q ce, .int .i64 i] 30)).alloc (.cells #[.slice none 0 0, .slice none 0 0, .slice none 0 0, .int .i64 0] 30)) := ((Below.refl _ _).alloc (Nat.le_refl _) _).alloc (by simp) _
  have q1 := (Rw.new w 30 #[.slice A n c, .slice R m d, .slice D q ce, .int .i64 i]).alloc (.cells #[.slice none 0 0, .slice none 0 0, .slice none 0 0, .int .i64 0] 30)
  have q2 := Rw.new (w.alloc (.cells #[.slice A n c, .slice R m d, .slice D q ce, .int .i64 i] 30)) 30 #[.slice none 0 0, .slice none 0 0, .slice none 0 0, .int .i64 0]
  simp only [World.size_alloc] at q2
  have s2 := hs.up B2
  have k2 := hk.up B2
  have HLC := Lib.hid hs.cells.1
  have HLM := Lib.hid hk.1
  obtain ⟨y1, hy1⟩ : ∃ y, (Hps.takeLz ⟨h, ms, i⟩).1 = y := ⟨_, rfl⟩
  obtain ⟨y2, hy2⟩ : ∃ y, (Hps.takeLz ⟨h, ms, i⟩).2 = y := ⟨_, rfl⟩
  have HY1 := Lib.hid hy1
  have HY2 := Lib.hid hy2
  rw [hy1, hy2]
  clear hy1 hy2 hs hk
  go_enter Try.func24, Try.ntmps24
  go_upto_region 1 with fail
  generalize (w.alloc (.cells #[.slice A n c, .slice R m d, .slice D q ce, .int .i64 i] 30)).alloc (.cells #[.slice none 0 0, .slice none 0 0, .slice none 0 0, .int .i64 0] 30) = w2 at B2 q1 q2 s2 k2 ⊢
  obtain ⟨p, hp⟩ : ∃ p, w.heap.size = p := ⟨_, rfl⟩
  rw [hp] at B2 q1 q2 ⊢
  have HQ := Lib.hid hp
  clear hp
  have hql := q1.lt
  have hrl := q2.lt
  have x0 : w2.cell? ⟨p, 0, none⟩ = some (.slice A n c) := q1.cell 0
  have x1 : w2.cell? ⟨p, 1, none⟩ = some (.slice R m d) := q1.cell 1
  have x2 : w2.cell? ⟨p, 2, none⟩ = some (.slice D q ce) := q1.cell 2
  have x3 : w2.cell? ⟨p, 3, none⟩ = some (.int .i64 i) := q1.cell 3
  have SS := Lib.hid s2
  have KK := Lib.hid k2
  clear s2 k2 q1
  go_wp2_with fail
  refine (lazyValid_any A R D n c m d q ce i h ms _ SS.out KK.out hn hm hq hnc hmd).mono ?_
  rintro e w3 ⟨⟨bb, rfl, hb⟩, b3⟩
  have HB := Lib.hid hb
  clear hb
  replace q2 := q2.keep b3 hrl
  replace B2 := B2.trans (b3.mono (by have := B2.size; omega))
  replace SS := Lib.hid (SS.out.up b3)
  replace KK := Lib.hid (KK.out.up b3)
  replace x0 := (b3.cell (p := ⟨p, 0, none⟩) hql).trans x0
  replace x1 := (b3.cell (p := ⟨p, 1, none⟩) hql).trans x1
  replace x2 := (b3.cell (p := ⟨p, 2, none⟩) hql).trans x2
  replace x3 := (b3.cell (p := ⟨p, 3, none⟩) hql).trans x3
  replace hql := Nat.lt_of_lt_of_le hql b3.size
  replace hrl := Nat.lt_of_lt_of_le hrl b3.size
  clear b3
  cases bb
  · have HE := Lib.hid (show Hps.takeLz ⟨h, ms, i⟩ = (Hps.zeroLz, -1) from Hps.take_no (fun x => by have := HB.out.2 x; cases this))
    have HE1 := Lib.hid (show Hps.zeroLz = y1 by rw [← HY1.out, HE.out])
    have HE2 := Lib.hid (show (-1 : Int) = y2 by rw [← HY2.out, HE.out])
    have zf0 : w3.frozen? ⟨p + 1, 0, none⟩ = false := q2.frozen 0
    have zf1 : w3.frozen? ⟨p + 1, 1, none⟩ = false := q2.frozen 1
    have zf2 : w3.frozen? ⟨p + 1, 2, none⟩ = false := q2.frozen 2
    have zf3 : w3.frozen? ⟨p + 1, 3, none⟩ = false := q2.frozen 3
    have zc0 : w3.cell? ⟨p + 1, 0, none⟩ = some (.slice none 0 0) := q2.cell 0
    have zc1 : w3.cell? ⟨p + 1, 1, none⟩ = some (.slice none 0 0) := q2.cell 1
    have zc2 : w3.cell? ⟨p + 1, 2, none⟩ = some (.slice none 0 0) := q2.cell 2
    have zc3 : w3.cell? ⟨p + 1, 3, none⟩ = some (.int .i64 0) := q2.cell 3
    have P4 := ((((q2.put 0 (.slice none 0 0)).put 1 (.slice none 0 0)).put 2 (.slice none 0 0)).put 3 (.int .i64 0))
    have s8 : ((((w3.setCell ⟨p + 1, 0, none⟩ (.slice none 0 0)).setCell ⟨p + 1, 1, none⟩ (.slice none 0 0)).setCell ⟨p + 1, 2, none⟩ (.slice none 0 0)).setCell ⟨p + 1, 3, none⟩ (.int .i64 0)).cell? ⟨p + 1, 0, none⟩ = some (.slice none 0 0) := P4.cell 0
    have s9 : ((((w3.setCell ⟨p + 1, 0, none⟩ (.slice none 0 0)).setCell ⟨p + 1, 1, none⟩ (.slice none 0 0)).setCell ⟨p + 1, 2, none⟩ (.slice none 0 0)).setCell ⟨p + 1, 3, none⟩ (.int .i64 0)).cell? ⟨p + 1, 1, none⟩ = some (.slice none 0 0) := P4.cell 1
    have s10 : ((((w3.setCell ⟨p + 1, 0, none⟩ (.slice none 0 0)).setCell ⟨p + 1, 1, none⟩ (.slice none 0 0)).setCell ⟨p + 1, 2, none⟩ (.slice none 0 0)).setCell ⟨p + 1, 3, none⟩ (.int .i64 0)).cell? ⟨p + 1, 2, none⟩ = some (.slice none 0 0) := P4.cell 2
    have s11 : ((((w3.setCell ⟨p + 1, 0, none⟩ (.slice none 0 0)).setCell ⟨p + 1, 1, none⟩ (.slice none 0 0)).setCell ⟨p + 1, 2, none⟩ (.slice none 0 0)).setCell ⟨p + 1, 3, none⟩ (.int .i64 0)).cell? ⟨p + 1, 3, none⟩ = some (.int .i64 0) := P4.cell 3
    clear P4
    have HW := HQ.out
    have DD := Lib.hid (OwnLz.out (w := w) (g := p + 1) 0 (own_zeroLz w3 w3.heap.size (Nat.le_refl _)) (by omega) (by rw [HW]; exact B2) (by omega))
    clear q2 x0 x1 x2 x3 SS KK B2 hql hrl
    go_wp2_with fail
    obtain rfl := HE1.out
    obtain rfl := HE2.out
    exact bodyPost_ret (v := .tuple #[.agg #[.slice none 0 0, .slice none 0 0, .slice none 0 0, .int .i64 0], .int .i64 (-1)]) (by simp [results, Try.results24, go_sem, *]) rfl ⟨_, _, _, rfl, DD.out.1, DD.out.2⟩
  have hok : Hps.okLz ⟨h, ms, i⟩ := HB.out.1 rfl
  have hi : 0 ≤ i ∧ i ≤ (ms.length : Int) := hok.2.2.1
  obtain ⟨j, rfl⟩ : ∃ j : Nat, i = j := ⟨i.toNat, by omega⟩
  obtain ⟨h40, h4, h3⟩ := Hps.valid_small hok.1
  have h40' : h.cs.length ≤ 40 := h40
  rw [HLC.out] at h40'
  have hmc : ms.length = h.cs.length := hok.2.1
  rw [HLM.out, HLC.out] at hmc
  have hq40 : q ≤ 40 := by omega
  clear hmc
  have HOK := Lib.hid hok
  have HV := Lib.hid hok.1
  have H3 := Lib.hid h3
  have hMe := Lib.hid (rfl : Bm.wordN ms true = Bm.wordN ms true)
  obtain ⟨M, hMWe⟩ : ∃ M, Bm.wordN ms true = M := ⟨_, rfl⟩
  replace hMe := Lib.hid hMWe
  have OK2 := Hps.take_ok hok
  rw [HY1.out] at OK2
  have HO2 := Lib.hid OK2
  clear hok hi h40 h4 h3 hMWe OK2 HB
  go_upto_region 3 with fail
  refine wp_region_inv (by kernel_rfl) (by kernel_rfl) (fun L ac ww => ∃ t4 t10 t11 t12 t13 t14 t15 t16 t17 t18 : Value, ac = { tmps := #[lzV A n c R m d D q ce ↑j, Value.pointer (some { block := p, off := 0 }), Value.pointer (some { block := p + 1, off := 0 }), Value.int IntKind.i64 0, t4, undef, Value.agg #[Value.slice A n c, Value.slice R m d, Value.slice D q ce, Value.int IntKind.i64 ↑j], Value.bool true, Value.bool false, undef, t10, t11, t12, t13, t14, t15, t16, t17, t18, undef, undef, undef], defers := [] } ∧ (L 10 = false → Below w3.heap.size w3 ww) ∧ (L 0 = true → t10 = .pointer (some ⟨p, 0, none⟩)) ∧ (L 1 = true → t11 = .agg #[.slice A n c, .slice R m d]) ∧ (L 2 = true → ∃ (A5 : Option Addr) (n5 c5 : Nat) (R5 : Option Addr) (m5 d5 : Nat), t12 = .agg #[.slice A5 n5 c5, .slice R5 m5 d5] ∧ (L 10 = false → OwnH ww w3.heap.size (.slice A5 n5 c5) (.slice R5 m5 d5) h)) ∧ (L 3 = true → t13 = .pointer (some ⟨p, 2, none⟩)) ∧ (L 4 = true → t14 = .slice D q ce) ∧ (L 5 = true → t15 = .int .u64 (M : Nat)) ∧ (L 6 = true → t16 = .pointer (some ⟨p, 3, none⟩)) ∧ (L 7 = true → t17 = .int .i64 j) ∧ (L 8 = true → L 2 = true ∧ ∃ (A5 : Option Addr) (n5 c5 : Nat) (R5 : Option Addr) (m5 d5 : Nat), t12 = .agg #[.slice A5 n5 c5, .slice R5 m5 d5] ∧ t18 = .agg #[.slice A5 n5 c5, .slice R5 m5 d5, .int .u64 (M : Nat), .int .i64 j]) ∧ (L 9 = true → ∃ gb : Nat, t4 = .pointer (some ⟨gb, 0, none⟩) ∧ w3.heap.size ≤ gb ∧ (L 10 = false → Rw ww gb 69 #[.slice none 0 0, .slice none 0 0, .int .u64 0, .int .i64 0])) ∧ (L 10 = true → (∀ q, q < 10 → L q = true) ∧ ∃ (A5 : Option Addr) (n5 c5 : Nat) (R5 : Option Addr) (m5 d5 : Nat) (rv : List Value) (gb : Nat), t4 = .pointer (some ⟨gb, 0, none⟩) ∧ BoxW w3 ww gb (.slice A5 n5 c5) (.slice R5 m5 d5) rv h M (j))) ?h0 ?hstep ?hdone
  case h0 => exact ⟨_, _, _, _, _, _, _, _, _, _, rfl, fun _ => (Below.refl _ _).drew, (fun h => absurd h Bool.false_ne_true), (fun h => absurd h Bool.false_ne_true), (fun h => absurd h Bool.false_ne_true), (fun h => absurd h Bool.false_ne_true), (fun h => absurd h Bool.false_ne_true), (fun h => absurd h Bool.false_ne_true), (fun h => absurd h Bool.false_ne_true), (fun h => absurd h Bool.false_ne_true), (fun h => absurd h Bool.false_ne_true), (fun h => absurd h Bool.false_ne_true), (fun h => absurd h Bool.false_ne_true)⟩
  case hstep =>
    rintro L ac ww i o ho hL hd ⟨t4, t10, t11, t12, t13, t14, t15, t16, t17, t18, rfl, I0, f0, f1, f2, f3, f4, f5, f6, f7, f8, f9, f10⟩
    have hi : i < 11 := (Array.getElem?_eq_some_iff.1 ho).1
    obtain rfl | rfl | rfl | rfl | rfl | rfl | rfl | rfl | rfl | rfl | rfl : i = 0 ∨ i = 1 ∨ i = 2 ∨ i = 3 ∨ i = 4 ∨ i = 5 ∨ i = 6 ∨ i = 7 ∨ i = 8 ∨ i = 9 ∨ i = 10 := by omega
    · obtain rfl := Option.some.inj ho
      have hLS : L 10 = false := by
        cases e : L 10
        · rfl
        · exact absurd ((f10 e).1 0 (by decide)) (by rw [hL]; decide)
      have J := I0 hLS
      refine wpOp_step rfl (fun K' hK => ?_)
      go_simp
      refine hK _ _ ?_
      exact ⟨_, _, _, _, _, _, _, _, _, _, rfl, (fun _ => J), (fun _ => rfl), (kp f1), (fun h => by
        obtain ⟨A5, n5, c5, R5, m5, d5, e, r⟩ := f2 (upd_ne h (by decide))
        exact ⟨A5, n5, c5, R5, m5, d5, e, fun h6 => r (by rw [upd_other (by decide)] at h6; exact h6)⟩), (kp f3), (kp f4), (kp f5), (kp f6), (kp f7), (fun h => by
        obtain ⟨l1, r⟩ := f8 (upd_ne h (by decide))
        exact ⟨upd_mono l1, r⟩), (fun h => by
        obtain ⟨gb, e, hlo, r⟩ := f9 (upd_ne h (by decide))
        exact ⟨gb, e, hlo, fun h6 => r (by rw [upd_other (by decide)] at h6; exact h6)⟩), (fun h => absurd hLS (by rw [upd_ne h (by decide)]; decide))⟩
    · obtain rfl := Option.some.inj ho
      have g0 := f0 (hd ⟨0, .data⟩ (by simp) rfl)
      subst g0
      have hLS : L 10 = false := by
        cases e : L 10
        · rfl
        · exact absurd ((f10 e).1 1 (by decide)) (by rw [hL]; decide)
      have J := I0 hLS
      have z0 : ww.cell? ⟨p, 0, none⟩ = some (.slice A n c) := (J.cell (p := ⟨p, 0, none⟩) hql).trans x0
      have z1 : ww.cell? ⟨p, 1, none⟩ = some (.slice R m d) := (J.cell (p := ⟨p, 1, none⟩) hql).trans x1
      refine wpOp_step rfl (fun K' hK => ?_)
      go_simp
      refine hK _ _ ?_
      exact ⟨_, _, _, _, _, _, _, _, _, _, rfl, (fun _ => J), (kp f0), (fun _ => rfl), (fun h => by
        obtain ⟨A5, n5, c5, R5, m5, d5, e, r⟩ := f2 (upd_ne h (by decide))
        exact ⟨A5, n5, c5, R5, m5, d5, e, fun h6 => r (by rw [upd_other (by decide)] at h6; exact h6)⟩), (kp f3), (kp f4), (kp f5), (kp f6), (kp f7), (fun h => by
        obtain ⟨l1, r⟩ := f8 (upd_ne h (by decide))
        exact ⟨upd_mono l1, r⟩), (fun h => by
        obtain ⟨gb, e, hlo, r⟩ := f9 (upd_ne h (by decide))
        exact ⟨gb, e, hlo, fun h6 => r (by rw [upd_other (by decide)] at h6; exact h6)⟩), (fun h => absurd hLS (by rw [upd_ne h (by decide)]; decide))⟩
    · obtain rfl := Option.some.inj ho
      have g1 := f1 (hd ⟨1, .data⟩ (by simp) rfl)
      subst g1
      have hLS : L 10 = false := by
        cases e : L 10
        · rfl
        · exact absurd ((f10 e).1 2 (by decide)) (by rw [hL]; decide)
      have J := I0 hLS
      refine wpOp_step rfl (fun K' hK => ?_)
      go_simp
      refine (cloneHeap_any A R n c m d h ww (SS.out.up J) hn hm (fun cl hcl => Nat.le_trans (H3.out cl hcl) (by omega))).mono ?_
      rintro e w' ⟨vc, vr, rfl, ow, b5⟩
      obtain ⟨A5, n5, c5, R5, m5, d5, rfl, rfl⟩ := ow.slices
      refine hK _ _ ?_
      exact ⟨_, _, _, _, _, _, _, _, _, _, rfl, (fun _ => J.trans (b5.mono J.size)), (kp f0), (kp f1), (fun _ => ⟨A5, n5, c5, R5, m5, d5, rfl, fun _ => ow.base J.size⟩), (kp f3), (kp f4), (kp f5), (kp f6), (kp f7), (fun h => absurd (f8 (upd_ne h (by decide))).1 (by rw [hL]; decide)), (fun h => by
        obtain ⟨gb, e, hlo, r⟩ := f9 (upd_ne h (by decide))
        exact ⟨gb, e, hlo, fun h6 => (r (by rw [upd_other (by decide)] at h6; exact h6)).keep b5 (r (by rw [upd_other (by decide)] at h6; exact h6)).lt⟩), (fun h => absurd hLS (by rw [upd_ne h (by decide)]; decide))⟩
    · obtain rfl := Option.some.inj ho
      have hLS : L 10 = false := by
        cases e : L 10
        · rfl
        · exact absurd ((f10 e).1 3 (by decide)) (by rw [hL]; decide)
      have J := I0 hLS
      refine wpOp_step rfl (fun K' hK => ?_)
      go_simp
      refine hK _ _ ?_
      exact ⟨_, _, _, _, _, _, _, _, _, _, rfl, (fun _ => J), (kp f0), (kp f1), (fun h => by
        obtain ⟨A5, n5, c5, R5, m5, d5, e, r⟩ := f2 (upd_ne h (by decide))
        exact ⟨A5, n5, c5, R5, m5, d5, e, fun h6 => r (by rw [upd_other (by decide)] at h6; exact h6)⟩), (fun _ => rfl), (kp f4), (kp f5), (kp f6), (kp f7), (fun h => by
        obtain ⟨l1, r⟩ := f8 (upd_ne h (by decide))
        exact ⟨upd_mono l1, r⟩), (fun h => by
        obtain ⟨gb, e, hlo, r⟩ := f9 (upd_ne h (by decide))
        exact ⟨gb, e, hlo, fun h6 => r (by rw [upd_other (by decide)] at h6; exact h6)⟩), (fun h => absurd hLS (by rw [upd_ne h (by decide)]; decide))⟩
    · obtain rfl := Option.some.inj ho
      have g3 := f3 (hd ⟨3, .data⟩ (by simp) rfl)
      subst g3
      have hLS : L 10 = false := by
        cases e : L 10
        · rfl
        · exact absurd ((f10 e).1 4 (by decide)) (by rw [hL]; decide)
      have J := I0 hLS
      have z2 : ww.cell? ⟨p, 2, none⟩ = some (.slice D q ce) := (J.cell (p := ⟨p, 2, none⟩) hql).trans x2
      refine wpOp_step rfl (fun K' hK => ?_)
      go_simp
      refine hK _ _ ?_
      exact ⟨_, _, _, _, _, _, _, _, _, _, rfl, (fun _ => J), (kp f0), (kp f1), (fun h => by
        obtain ⟨A5, n5, c5, R5, m5, d5, e, r⟩ := f2 (upd_ne h (by decide))
        exact ⟨A5, n5, c5, R5, m5, d5, e, fun h6 => r (by rw [upd_other (by decide)] at h6; exact h6)⟩), (kp f3), (fun _ => rfl), (kp f5), (kp f6), (kp f7), (fun h => by
        obtain ⟨l1, r⟩ := f8 (upd_ne h (by decide))
        exact ⟨upd_mono l1, r⟩), (fun h => by
        obtain ⟨gb, e, hlo, r⟩ := f9 (upd_ne h (by decide))
        exact ⟨gb, e, hlo, fun h6 => r (by rw [upd_other (by decide)] at h6; exact h6)⟩), (fun h => absurd hLS (by rw [upd_ne h (by decide)]; decide))⟩
    · obtain rfl := Option.some.inj ho
      have g4 := f4 (hd ⟨4, .data⟩ (by simp) rfl)
      subst g4
      have hLS : L 10 = false := by
        cases e : L 10
        · rfl
        · exact absurd ((f10 e).1 5 (by decide)) (by rw [hL]; decide)
      have J := I0 hLS
      refine wpOp_step rfl (fun K' hK => ?_)
      go_simp
      refine (flaggedSet_any D q ce ms ww (KK.out.up J) (by omega)).mono ?_
      rw [hMe.out]
      rintro e w' ⟨rfl, rfl⟩
      refine hK _ _ ?_
      exact ⟨_, _, _, _, _, _, _, _, _, _, rfl, (fun _ => J), (kp f0), (kp f1), (fun h => by
        obtain ⟨A5, n5, c5, R5, m5, d5, e, r⟩ := f2 (upd_ne h (by decide))
        exact ⟨A5, n5, c5, R5, m5, d5, e, fun h6 => r (by rw [upd_other (by decide)] at h6; exact h6)⟩), (kp f3), (kp f4), (fun _ => rfl), (kp f6), (kp f7), (fun h => by
        obtain ⟨l1, r⟩ := f8 (upd_ne h (by decide))
        exact ⟨upd_mono l1, r⟩), (fun h => by
        obtain ⟨gb, e, hlo, r⟩ := f9 (upd_ne h (by decide))
        exact ⟨gb, e, hlo, fun h6 => r (by rw [upd_other (by decide)] at h6; exact h6)⟩), (fun h => absurd hLS (by rw [upd_ne h (by decide)]; decide))⟩
    · obtain rfl := Option.some.inj ho
      have hLS : L 10 = false := by
        cases e : L 10
        · rfl
        · exact absurd ((f10 e).1 6 (by decide)) (by rw [hL]; decide)
      have J := I0 hLS
      refine wpOp_step rfl (fun K' hK => ?_)
      go_simp
      refine hK _ _ ?_
      exact ⟨_, _, _, _, _, _, _, _, _, _, rfl, (fun _ => J), (kp f0), (kp f1), (fun h => by
        obtain ⟨A5, n5, c5, R5, m5, d5, e, r⟩ := f2 (upd_ne h (by decide))
        exact ⟨A5, n5, c5, R5, m5, d5, e, fun h6 => r (by rw [upd_other (by decide)] at h6; exact h6)⟩), (kp f3), (kp f4), (kp f5), (fun _ => rfl), (kp f7), (fun h => by
        obtain ⟨l1, r⟩ := f8 (upd_ne h (by decide))
        exact ⟨upd_mono l1, r⟩), (fun h => by
        obtain ⟨gb, e, hlo, r⟩ := f9 (upd_ne h (by decide))
        exact ⟨gb, e, hlo, fun h6 => r (by rw [upd_other (by decide)] at h6; exact h6)⟩), (fun h => absurd hLS (by rw [upd_ne h (by decide)]; decide))⟩
    · obtain rfl := Option.some.inj ho
      have g6 := f6 (hd ⟨6, .data⟩ (by simp) rfl)
      subst g6
      have hLS : L 10 = false := by
        cases e : L 10
        · rfl
        · exact absurd ((f10 e).1 7 (by decide)) (by rw [hL]; decide)
      have J := I0 hLS
      have z3 : ww.cell? ⟨p, 3, none⟩ = some (.int .i64 j) := (J.cell (p := ⟨p, 3, none⟩) hql).trans x3
      refine wpOp_step rfl (fun K' hK => ?_)
      go_simp
      refine hK _ _ ?_
      exact ⟨_, _, _, _, _, _, _, _, _, _, rfl, (fun _ => J), (kp f0), (kp f1), (fun h => by
        obtain ⟨A5, n5, c5, R5, m5, d5, e, r⟩ := f2 (upd_ne h (by decide))
        exact ⟨A5, n5, c5, R5, m5, d5, e, fun h6 => r (by rw [upd_other (by decide)] at h6; exact h6)⟩), (kp f3), (kp f4), (kp f5), (kp f6), (fun _ => rfl), (fun h => by
        obtain ⟨l1, r⟩ := f8 (upd_ne h (by decide))
        exact ⟨upd_mono l1, r⟩), (fun h => by
        obtain ⟨gb, e, hlo, r⟩ := f9 (upd_ne h (by decide))
        exact ⟨gb, e, hlo, fun h6 => r (by rw [upd_other (by decide)] at h6; exact h6)⟩), (fun h => absurd hLS (by rw [upd_ne h (by decide)]; decide))⟩
    · obtain rfl := Option.some.inj ho
      have g2 := f2 (hd ⟨2, .data⟩ (by simp) rfl)
      have g5 := f5 (hd ⟨5, .data⟩ (by simp) rfl)
      have g7 := f7 (hd ⟨7, .data⟩ (by simp) rfl)
      subst g5
      subst g7
      have hLS : L 10 = false := by
        cases e : L 10
        · rfl
        · exact absurd ((f10 e).1 8 (by decide)) (by rw [hL]; decide)
      have J := I0 hLS
      have l1 := Lib.hid (hd ⟨2, .data⟩ (by simp) rfl)
      obtain ⟨A5, n5, c5, R5, m5, d5, e4, r4⟩ := g2
      subst e4
      refine wpOp_step rfl (fun K' hK => ?_)
      go_simp
      refine hK _ _ ?_
      exact ⟨_, _, _, _, _, _, _, _, _, _, rfl, (fun _ => J), (kp f0), (kp f1), (fun _ => ⟨A5, n5, c5, R5, m5, d5, rfl, fun h => r4 (by rw [upd_other (by decide)] at h; exact h)⟩), (kp f3), (kp f4), (kp f5), (kp f6), (kp f7), (fun _ => ⟨upd_mono l1.out, A5, n5, c5, R5, m5, d5, rfl, rfl⟩), (fun h => by
        obtain ⟨gb, e, hlo, r⟩ := f9 (upd_ne h (by decide))
        exact ⟨gb, e, hlo, fun h6 => r (by rw [upd_other (by decide)] at h6; exact h6)⟩), (fun h => absurd hLS (by rw [upd_ne h (by decide)]; decide))⟩
    · obtain rfl := Option.some.inj ho
      have hLS : L 10 = false := by
        cases e : L 10
        · rfl
        · exact absurd ((f10 e).1 9 (by decide)) (by rw [hL]; decide)
      have J := I0 hLS
      refine wpOp_step rfl (fun K' hK => ?_)
      go_simp
      refine hK _ _ ?_
      exact ⟨_, _, _, _, _, _, _, _, _, _, rfl, (fun _ => J.alloc J.size _), (kp f0), (kp f1), (fun h => by
        obtain ⟨A5, n5, c5, R5, m5, d5, e, r⟩ := f2 (upd_ne h (by decide))
        exact ⟨A5, n5, c5, R5, m5, d5, e, fun h6 => (r (by rw [upd_other (by decide)] at h6; exact h6)).below ((Below.refl _ _).alloc (Nat.le_refl _) _) (Nat.le_refl _)⟩), (kp f3), (kp f4), (kp f5), (kp f6), (kp f7), (fun h => by
        obtain ⟨l1, r⟩ := f8 (upd_ne h (by decide))
        exact ⟨upd_mono l1, r⟩), (fun _ => ⟨ww.heap.size, rfl, J.size, fun _ => Rw.new ww 69 #[.slice none 0 0, .slice none 0 0, .int .u64 0, .int .i64 0]⟩), (fun h => absurd hLS (by rw [upd_ne h (by decide)]; decide))⟩
    · obtain rfl := Option.some.inj ho
      have g8 := f8 (hd ⟨8, .data⟩ (by simp) rfl)
      have g9 := f9 (hd ⟨9, .data⟩ (by simp) rfl)
      have lq : Hid (∀ q, q < 10 → L q = true) := Lib.hid (by
        intro q hq
        obtain rfl | rfl | rfl | rfl | rfl | rfl | rfl | rfl | rfl | rfl : q = 0 ∨ q = 1 ∨ q = 2 ∨ q = 3 ∨ q = 4 ∨ q = 5 ∨ q = 6 ∨ q = 7 ∨ q = 8 ∨ q = 9 := by omega
        · exact hd ⟨0, .phase⟩ (by simp) rfl
        · exact hd ⟨1, .phase⟩ (by simp) rfl
        · exact hd ⟨2, .phase⟩ (by simp) rfl
        · exact hd ⟨3, .phase⟩ (by simp) rfl
        · exact hd ⟨4, .phase⟩ (by simp) rfl
        · exact hd ⟨5, .phase⟩ (by simp) rfl
        · exact hd ⟨6, .phase⟩ (by simp) rfl
        · exact hd ⟨7, .phase⟩ (by simp) rfl
        · exact hd ⟨8, .phase⟩ (by simp) rfl
        · exact hd ⟨9, .phase⟩ (by simp) rfl)
      have J := I0 hL
      obtain ⟨-, A5, n5, c5, R5, m5, d5, e4, e8⟩ := g8
      subst e8
      obtain ⟨A6, n6, c6, R6, m6, d6, e4b, r4⟩ := f2 (lq.out 2 (by decide))
      have oc := r4 hL
      rw [e4] at e4b
      injection e4b with e4b
      simp at e4b
      obtain ⟨⟨rfl, rfl, rfl⟩, rfl, rfl, rfl⟩ := e4b
      subst e4
      obtain ⟨gb, e9, hlo, r9⟩ := g9
      subst e9
      have P := r9 hL
      obtain ⟨rv, ox⟩ := oc
      have zf0 : ww.frozen? ⟨gb, 0, none⟩ = false := P.frozen 0
      have zf1 : ww.frozen? ⟨gb, 1, none⟩ = false := P.frozen 1
      have zf2 : ww.frozen? ⟨gb, 2, none⟩ = false := P.frozen 2
      have zf3 : ww.frozen? ⟨gb, 3, none⟩ = false := P.frozen 3
      have zc0 : ww.cell? ⟨gb, 0, none⟩ = some (.slice none 0 0) := P.cell 0
      have zc1 : ww.cell? ⟨gb, 1, none⟩ = some (.slice none 0 0) := P.cell 1
      have zc2 : ww.cell? ⟨gb, 2, none⟩ = some (.int .u64 0) := P.cell 2
      have zc3 : ww.cell? ⟨gb, 3, none⟩ = some (.int .i64 0) := P.cell 3
      refine wpOp_step rfl (fun K' hK => ?_)
      go_simp
      refine hK _ _ ?_
      exact ⟨_, _, _, _, _, _, _, _, _, _, rfl, (fun h => absurd h (by rw [upd_self]; decide)), (kp f0), (kp f1), (fun _ => ⟨A5, n5, c5, R5, m5, d5, rfl, fun h => absurd h (by rw [upd_self]; decide)⟩), (kp f3), (kp f4), (kp f5), (kp f6), (kp f7), (fun _ => ⟨upd_mono (lq.out 2 (by decide)), A5, n5, c5, R5, m5, d5, rfl, rfl⟩), (fun _ => ⟨gb, rfl, hlo, fun h => absurd h (by rw [upd_self]; decide)⟩), (fun _ => ⟨fun q hq => upd_mono (lq.out q hq), A5, n5, c5, R5, m5, d5, rv, gb, rfl, BoxW.make ox P J hlo _ _⟩)⟩
  case hdone =>
    rintro L ac ww hall ⟨t4, t10, t11, t12, t13, t14, t15, t16, t17, t18, rfl, I0, f0, f1, f2, f3, f4, f5, f6, f7, f8, f9, f10⟩
    have e0 := f0 (hall 0 (by decide))
    have e1 := f1 (hall 1 (by decide))
    have e2 := f2 (hall 2 (by decide))
    have e3 := f3 (hall 3 (by decide))
    have e4 := f4 (hall 4 (by decide))
    have e5 := f5 (hall 5 (by decide))
    have e6 := f6 (hall 6 (by decide))
    have e7 := f7 (hall 7 (by decide))
    have e8 := f8 (hall 8 (by decide))
    have e9 := f9 (hall 9 (by decide))
    have e10 := f10 (hall 10 (by decide))
    clear f0 f1 f2 f3 f4 f5 f6 f7 f8 f9 f10
    obtain ⟨-, A5, n5, c5, R5, m5, d5, rv, gb, et, SB⟩ := e10
    subst et
    clear I0 e0 e1 e2 e3 e4 e5 e6 e7 e8 e9 hall
    rw [← hMe.out] at SB
    have HQ8 := Lib.hid q2
    have HB8 := Lib.hid B2
    clear x0 x1 x2 x3 SS KK q2 B2
    go_wp2_with fail
    refine (take_any w3 _ gb _ _ rv h ms j SB HOK.out).mono ?_
    rw [HY1.out, HY2.out]
    rintro e w6 ⟨rfl, rv6, S6⟩
    clear SB
    have h6 : y1.s.cs.length ≤ 40 := (Hps.valid_small HO2.out.1).1
    have m6 : y1.ms.length = y1.s.cs.length := HO2.out.2.1
    have hV6 := Bm.wordN_lt y1.ms true (by omega)
    have HWL := Lib.hid (Bm.word_list y1.ms m6 (Bm.wordN y1.ms true) (fun i _ => Bm.wordN_bit _ _ _))
    have HM6 := Lib.hid m6
    clear m6
    go_wp2_with fail
    refine (lazy_any w3 _ gb _ _ rv6 y1.s (Bm.wordN y1.ms true) y1.i S6 hV6 (by omega)).mono ?_
    rintro e w7 ⟨vm, rfl, om, b7⟩
    rw [HWL.out] at om
    obtain ⟨K5, q5, e9, -⟩ := om.form
    obtain ⟨p5, hp5⟩ : ∃ p5, y1.ms.length = p5 := ⟨_, rfl⟩
    rw [hp5] at e9
    subst e9
    clear hp5
    have OL := S6.own.lazy b7 om S6.low.size
    have hls := S6.low.size
    have b7s := b7.size
    have q8 := HQ8.out.keep (S6.low.trans (b7.mono hls)) hrl
    have B8 := HB8.out.trans ((S6.low.trans (b7.mono hls)).mono (by have := HB8.out.size; omega))
    clear S6 om b7
    have zf0 : w7.frozen? ⟨p + 1, 0, none⟩ = false := q8.frozen 0
    have zf1 : w7.frozen? ⟨p + 1, 1, none⟩ = false := q8.frozen 1
    have zf2 : w7.frozen? ⟨p + 1, 2, none⟩ = false := q8.frozen 2
    have zf3 : w7.frozen? ⟨p + 1, 3, none⟩ = false := q8.frozen 3
    have zc0 : w7.cell? ⟨p + 1, 0, none⟩ = some (.slice none 0 0) := q8.cell 0
    have zc1 : w7.cell? ⟨p + 1, 1, none⟩ = some (.slice none 0 0) := q8.cell 1
    have zc2 : w7.cell? ⟨p + 1, 2, none⟩ = some (.slice none 0 0) := q8.cell 2
    have zc3 : w7.cell? ⟨p + 1, 3, none⟩ = some (.int .i64 0) := q8.cell 3
    have P4 := ((((q8.put 0 (.slice A5 n5 c5)).put 1 (.slice R5 m5 d5)).put 2 (.slice K5 p5 q5)).put 3 (.int .i64 y1.i))
    have s8 : ((((w7.setCell ⟨p + 1, 0, none⟩ (.slice A5 n5 c5)).setCell ⟨p + 1, 1, none⟩ (.slice R5 m5 d5)).setCell ⟨p + 1, 2, none⟩ (.slice K5 p5 q5)).setCell ⟨p + 1, 3, none⟩ (.int .i64 y1.i)).cell? ⟨p + 1, 0, none⟩ = some (.slice A5 n5 c5) := P4.cell 0
    have s9 : ((((w7.setCell ⟨p + 1, 0, none⟩ (.slice A5 n5 c5)).setCell ⟨p + 1, 1, none⟩ (.slice R5 m5 d5)).setCell ⟨p + 1, 2, none⟩ (.slice K5 p5 q5)).setCell ⟨p + 1, 3, none⟩ (.int .i64 y1.i)).cell? ⟨p + 1, 1, none⟩ = some (.slice R5 m5 d5) := P4.cell 1
    have s10 : ((((w7.setCell ⟨p + 1, 0, none⟩ (.slice A5 n5 c5)).setCell ⟨p + 1, 1, none⟩ (.slice R5 m5 d5)).setCell ⟨p + 1, 2, none⟩ (.slice K5 p5 q5)).setCell ⟨p + 1, 3, none⟩ (.int .i64 y1.i)).cell? ⟨p + 1, 2, none⟩ = some (.slice K5 p5 q5) := P4.cell 2
    have s11 : ((((w7.setCell ⟨p + 1, 0, none⟩ (.slice A5 n5 c5)).setCell ⟨p + 1, 1, none⟩ (.slice R5 m5 d5)).setCell ⟨p + 1, 2, none⟩ (.slice K5 p5 q5)).setCell ⟨p + 1, 3, none⟩ (.int .i64 y1.i)).cell? ⟨p + 1, 3, none⟩ = some (.int .i64 y1.i) := P4.cell 3
    clear P4
    have HW := HQ.out
    have DD := Lib.hid (OwnLz.out (w := w) (g := p + 1) y1.i ⟨_, OL⟩ (by omega) (by rw [HW]; exact B8) (by omega))
    clear OL q8 B8
    go_wp2_with fail
    exact bodyPost_ret (v := .tuple #[.agg #[.slice A5 n5 c5, .slice R5 m5 d5, .slice K5 p5 q5, .int .i64 y1.i], .int .i64 y2]) (by simp [results, Try.results24, go_sem, *]) rfl ⟨_, _, _, rfl, DD.out.1, DD.out.2⟩
end Go.Proofs.Ytakdjiojahlnmaa
