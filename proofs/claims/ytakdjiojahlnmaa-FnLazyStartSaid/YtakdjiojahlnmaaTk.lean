/- What the program's LazyStart returns: for every heap. No conditions. -/
import Derived.Test.YtakdjiojahlnmaaTj
import Derived.Test.YtakdjiojahlnmaaMf
import Derived.Test.YtakdjiojahlnmaaGa
namespace Go.Proofs.Ytakdjiojahlnmaa
open Go.RowKit
set_option maxRecDepth 100000

theorem OwnHx.apart_lsw {w : World} {base g : Nat} {vc vr : Value} {rvs : List Value} {h : Hp} {cs : Array Value} (o : OwnHx w base vc vr rvs h) (hr : Rw w g 69 cs) : Apart (some g) (vc :: vr :: rvs) := fun v hv => by
  have key : some g ≠ v.ownBlock := by
    rcases List.mem_cons.1 hv with rfl | hv
    · exact row_type o.row hr (by decide)
    rcases List.mem_cons.1 hv with rfl | hv
    · exact row_type o.roots hr (by decide)
    obtain ⟨k, hk⟩ := List.mem_iff_getElem?.1 hv
    have hlt : k < h.cs.length := by rw [← o.len]; exact (List.getElem?_eq_some_iff.1 hk).1
    exact row_type (o.refs k _ v (List.getElem?_eq_getElem hlt) hk) hr (by decide)
  exact .inr (fun e => key e.symm)
theorem BoxW.make {w0 wp : World} {g : Nat} {vc vr : Value} {rvs : List Value} {h : Hp} {a0 a1 a2 a3 : Value} (o : OwnHx wp w0.heap.size vc vr rvs h) (r : Rw wp g 69 #[a0, a1, a2, a3]) (hb : Below w0.heap.size w0 wp) (hg : w0.heap.size ≤ g) (V : Nat) (i : Int) :
    BoxW w0 ((((wp.setCell ⟨g, 0, none⟩ vc).setCell ⟨g, 1, none⟩ vr).setCell ⟨g, 2, none⟩ (.int .u64 V)).setCell ⟨g, 3, none⟩ (.int .i64 i)) g vc vr rvs h V i := by
  have ap := o.apart_lsw r
  exact ⟨(((o.far (put_any wp g 0 _) ap).far (put_any _ g 1 _) ap).far (put_any _ g 2 _) ap).far (put_any _ g 3 _) ap, ap, by simpa using (((r.put 0 vc).put 1 vr).put 2 (.int .u64 V)).put 3 (.int .i64 i), (((hb.setCell (p := ⟨g, 0, none⟩) hg _).setCell (p := ⟨g, 1, none⟩) hg _).setCell (p := ⟨g, 2, none⟩) hg _).setCell (p := ⟨g, 3, none⟩) hg _, hg⟩

set_option maxHeartbeats 4000000 in
theorem lazyStart_any (A R : Option Addr) (n c m d : Nat) (h : Hp) (w : World) (hs : HS w w.heap.size A n R m h) (hn : n ≤ 1099511627776) (hm : m ≤ 1099511627776) (hnc : n ≤ c) (hmd : m ≤ d) :
    Calls Try.prog 11 #[heapV A n c R m d] w (GaveLz w (Hps.startLz h)) := by
  have B2 : Below w.heap.size w ((w.alloc (.cells #[.slice A n c, .slice R m d] 26)).alloc (.cells #[.slice none 0 0, .slice none 0 0, .slice none 0 0, .int .i64 0] 30)) := ((Below.refl _ _).alloc (Nat.le_refl _) _).alloc (by simp) _
  have q1 := (Rw.new w 26 #[.slice A n c, .slice R m d]).alloc (.cells #[.slice none 0 0, .slice none 0 0, .slice none 0 0, .int .i64 0] 30)
  have q2 := Rw.new (w.alloc (.cells #[.slice A n c, .slice R m d] 26)) 30 #[.slice none 0 0, .slice none 0 0, .slice none 0 0, .int .i64 0]
  simp only [World.size_alloc] at q2
  have s2 := hs.up B2
  have hlc := hs.cells.1
  obtain ⟨y, hy⟩ : ∃ y, Hps.startLz h = y := ⟨_, rfl⟩
  have HY := Lib.hid hy
  rw [hy]
  clear hy hs
  go_enter Try.func11, Try.ntmps11
  go_upto_region 1 with fail
  generalize (w.alloc (.cells #[.slice A n c, .slice R m d] 26)).alloc (.cells #[.slice none 0 0, .slice none 0 0, .slice none 0 0, .int .i64 0] 30) = w2 at B2 q1 q2 s2 ⊢
  obtain ⟨q, hq⟩ : ∃ q, w.heap.size = q := ⟨_, rfl⟩
  rw [hq] at B2 q1 q2 ⊢
  have HQ := Lib.hid hq
  clear hq
  have hql := q1.lt
  have hrl := q2.lt
  have x0 : w2.cell? ⟨q, 0, none⟩ = some (.slice A n c) := q1.cell 0
  have x1 : w2.cell? ⟨q, 1, none⟩ = some (.slice R m d) := q1.cell 1
  have SS := Lib.hid s2
  clear s2 q1
  cases hv : Hps.validH h
  · have HE := Lib.hid (show Hps.zeroLz = y by rw [← HY.out, Hps.startLz, if_neg (by rw [hv]; simp)])
    have HV := Lib.hid hv
    clear hv HY
    go_wp2_with fail
    refine (heapValid_any A R n c m d h _ SS.out hn hm hnc hmd).mono ?_
    rw [HV.out]
    rintro e w3 ⟨rfl, b3⟩
    have P := q2.keep b3 hrl
    have zf0 : w3.frozen? ⟨q + 1, 0, none⟩ = false := P.frozen 0
    have zf1 : w3.frozen? ⟨q + 1, 1, none⟩ = false := P.frozen 1
    have zf2 : w3.frozen? ⟨q + 1, 2, none⟩ = false := P.frozen 2
    have zf3 : w3.frozen? ⟨q + 1, 3, none⟩ = false := P.frozen 3
    have zc0 : w3.cell? ⟨q + 1, 0, none⟩ = some (.slice none 0 0) := P.cell 0
    have zc1 : w3.cell? ⟨q + 1, 1, none⟩ = some (.slice none 0 0) := P.cell 1
    have zc2 : w3.cell? ⟨q + 1, 2, none⟩ = some (.slice none 0 0) := P.cell 2
    have zc3 : w3.cell? ⟨q + 1, 3, none⟩ = some (.int .i64 0) := P.cell 3
    have P4 := ((((P.put 0 (.slice none 0 0)).put 1 (.slice none 0 0)).put 2 (.slice none 0 0)).put 3 (.int .i64 0))
    have s8 : ((((w3.setCell ⟨q + 1, 0, none⟩ (.slice none 0 0)).setCell ⟨q + 1, 1, none⟩ (.slice none 0 0)).setCell ⟨q + 1, 2, none⟩ (.slice none 0 0)).setCell ⟨q + 1, 3, none⟩ (.int .i64 0)).cell? ⟨q + 1, 0, none⟩ = some (.slice none 0 0) := P4.cell 0
    have s9 : ((((w3.setCell ⟨q + 1, 0, none⟩ (.slice none 0 0)).setCell ⟨q + 1, 1, none⟩ (.slice none 0 0)).setCell ⟨q + 1, 2, none⟩ (.slice none 0 0)).setCell ⟨q + 1, 3, none⟩ (.int .i64 0)).cell? ⟨q + 1, 1, none⟩ = some (.slice none 0 0) := P4.cell 1
    have s10 : ((((w3.setCell ⟨q + 1, 0, none⟩ (.slice none 0 0)).setCell ⟨q + 1, 1, none⟩ (.slice none 0 0)).setCell ⟨q + 1, 2, none⟩ (.slice none 0 0)).setCell ⟨q + 1, 3, none⟩ (.int .i64 0)).cell? ⟨q + 1, 2, none⟩ = some (.slice none 0 0) := P4.cell 2
    have s11 : ((((w3.setCell ⟨q + 1, 0, none⟩ (.slice none 0 0)).setCell ⟨q + 1, 1, none⟩ (.slice none 0 0)).setCell ⟨q + 1, 2, none⟩ (.slice none 0 0)).setCell ⟨q + 1, 3, none⟩ (.int .i64 0)).cell? ⟨q + 1, 3, none⟩ = some (.int .i64 0) := P4.cell 3
    clear P4
    have HW := HQ.out
    have D := Lib.hid (OwnLz.out (w := w) (g := q + 1) 0 (own_zeroLz w3 w3.heap.size (Nat.le_refl _)) (by have := b3.size; omega) (by rw [HW]; exact B2.trans (b3.mono (by have := B2.size; omega))) (by omega))
    clear P b3 x0 x1 SS q2 B2 hql hrl
    go_wp2_with fail
    obtain rfl := HE.out
    exact bodyPost_ret (v := .agg #[.slice none 0 0, .slice none 0 0, .slice none 0 0, .int .i64 0]) (by simp [results, Try.results11, go_sem, *]) rfl ⟨_, _, _, rfl, D.out.1, D.out.2⟩
  obtain ⟨h40, h4, h3⟩ := Hps.valid_small hv
  have HE := Lib.hid (show Hps.startLz h = ⟨h, Hps.reachL h.cs h.rt, 0⟩ by rw [Hps.startLz, if_pos hv, Hps.reachH, if_pos hv])
  rw [HY.out] at HE
  have HV := Lib.hid hv
  have H3 := Lib.hid h3
  have HLC := Lib.hid hlc
  have hVW := Hps.reachW_lt (h := h) (by omega)
  have HFL := Lib.hid (Hps.reach_flags (h := h) (n := h.cs.length) rfl)
  have hn40 : n ≤ 40 := by omega
  have HR := Lib.hid (rfl : Hps.reachW h = Hps.reachW h)
  obtain ⟨V, hVe⟩ : ∃ V, Hps.reachW h = V := ⟨_, rfl⟩
  replace HR := Lib.hid hVe
  rw [hVe] at hVW HFL
  clear hv HY h3 h40 h4 hVe hlc
  go_wp2_with fail
  refine (heapValid_any A R n c m d h _ SS.out hn hm hnc hmd).mono ?_
  rw [HV.out]
  rintro e w3 ⟨rfl, b3⟩
  replace q2 := q2.keep b3 hrl
  replace B2 := B2.trans (b3.mono (by have := B2.size; omega))
  replace SS := Lib.hid (SS.out.up b3)
  replace x0 := (b3.cell (p := ⟨q, 0, none⟩) hql).trans x0
  replace x1 := (b3.cell (p := ⟨q, 1, none⟩) hql).trans x1
  replace hql := Nat.lt_of_lt_of_le hql b3.size
  replace hrl := Nat.lt_of_lt_of_le hrl b3.size
  clear b3
  go_upto_region 3 with fail
  refine wp_region_inv (by kernel_rfl) (by kernel_rfl) (fun L ac ww => ∃ t3 t8 t9 t10 t11 t12 : Value, ac = { tmps := #[heapV A n c R m d, Value.pointer (some { block := q, off := 0 }), Value.pointer (some { block := q + 1, off := 0 }), t3, Value.agg #[Value.slice A n c, Value.slice R m d], Value.bool true, Value.bool false, undef, t8, t9, t10, t11, t12, undef], defers := [] } ∧ (L 6 = false → Below w3.heap.size w3 ww) ∧ (L 0 = true → t8 = .agg #[.slice A n c, .slice R m d]) ∧ (L 1 = true → ∃ (A5 : Option Addr) (n5 c5 : Nat) (R5 : Option Addr) (m5 d5 : Nat), t9 = .agg #[.slice A5 n5 c5, .slice R5 m5 d5] ∧ (L 6 = false → OwnH ww w3.heap.size (.slice A5 n5 c5) (.slice R5 m5 d5) h)) ∧ (L 2 = true → t10 = .agg #[.slice A n c, .slice R m d]) ∧ (L 3 = true → t11 = .int .u64 (V : Nat)) ∧ (L 4 = true → L 1 = true ∧ ∃ (A5 : Option Addr) (n5 c5 : Nat) (R5 : Option Addr) (m5 d5 : Nat), t9 = .agg #[.slice A5 n5 c5, .slice R5 m5 d5] ∧ t12 = .agg #[.slice A5 n5 c5, .slice R5 m5 d5, .int .u64 (V : Nat), .int .i64 0]) ∧ (L 5 = true → ∃ gb : Nat, t3 = .pointer (some ⟨gb, 0, none⟩) ∧ w3.heap.size ≤ gb ∧ (L 6 = false → Rw ww gb 69 #[.slice none 0 0, .slice none 0 0, .int .u64 0, .int .i64 0])) ∧ (L 6 = true → (∀ q, q < 6 → L q = true) ∧ ∃ (A5 : Option Addr) (n5 c5 : Nat) (R5 : Option Addr) (m5 d5 : Nat) (rv : List Value) (gb : Nat), t3 = .pointer (some ⟨gb, 0, none⟩) ∧ BoxW w3 ww gb (.slice A5 n5 c5) (.slice R5 m5 d5) rv h V (0))) ?h0 ?hstep ?hdone
  case h0 => exact ⟨_, _, _, _, _, _, rfl, fun _ => (Below.refl _ _).drew, (fun h => absurd h Bool.false_ne_true), (fun h => absurd h Bool.false_ne_true), (fun h => absurd h Bool.false_ne_true), (fun h => absurd h Bool.false_ne_true), (fun h => absurd h Bool.false_ne_true), (fun h => absurd h Bool.false_ne_true), (fun h => absurd h Bool.false_ne_true)⟩
  case hstep =>
    rintro L ac ww i o ho hL hd ⟨t3, t8, t9, t10, t11, t12, rfl, I0, f0, f1, f2, f3, f4, f5, f6⟩
    have hi : i < 7 := (Array.getElem?_eq_some_iff.1 ho).1
    obtain rfl | rfl | rfl | rfl | rfl | rfl | rfl : i = 0 ∨ i = 1 ∨ i = 2 ∨ i = 3 ∨ i = 4 ∨ i = 5 ∨ i = 6 := by omega
    · obtain rfl := Option.some.inj ho
      have hLS : L 6 = false := by
        cases e : L 6
        · rfl
        · exact absurd ((f6 e).1 0 (by decide)) (by rw [hL]; decide)
      have J := I0 hLS
      have z0 : ww.cell? ⟨q, 0, none⟩ = some (.slice A n c) := (J.cell (p := ⟨q, 0, none⟩) hql).trans x0
      have z1 : ww.cell? ⟨q, 1, none⟩ = some (.slice R m d) := (J.cell (p := ⟨q, 1, none⟩) hql).trans x1
      refine wpOp_step rfl (fun K' hK => ?_)
      go_simp
      refine hK _ _ ?_
      exact ⟨_, _, _, _, _, _, rfl, (fun _ => J), (fun _ => rfl), (fun h => by
        obtain ⟨A5, n5, c5, R5, m5, d5, e, r⟩ := f1 (upd_ne h (by decide))
        exact ⟨A5, n5, c5, R5, m5, d5, e, fun h6 => r (by rw [upd_other (by decide)] at h6; exact h6)⟩), (kp f2), (kp f3), (fun h => by
        obtain ⟨l1, r⟩ := f4 (upd_ne h (by decide))
        exact ⟨upd_mono l1, r⟩), (fun h => by
        obtain ⟨gb, e, hlo, r⟩ := f5 (upd_ne h (by decide))
        exact ⟨gb, e, hlo, fun h6 => r (by rw [upd_other (by decide)] at h6; exact h6)⟩), (fun h => absurd hLS (by rw [upd_ne h (by decide)]; decide))⟩
    · obtain rfl := Option.some.inj ho
      have g0 := f0 (hd ⟨0, .data⟩ (by simp) rfl)
      subst g0
      have hLS : L 6 = false := by
        cases e : L 6
        · rfl
        · exact absurd ((f6 e).1 1 (by decide)) (by rw [hL]; decide)
      have J := I0 hLS
      refine wpOp_step rfl (fun K' hK => ?_)
      go_simp
      refine (cloneHeap_any A R n c m d h ww (SS.out.up J) hn hm (fun cl hcl => Nat.le_trans (H3.out cl hcl) (by omega))).mono ?_
      rintro e w' ⟨vc, vr, rfl, ow, b5⟩
      obtain ⟨A5, n5, c5, R5, m5, d5, rfl, rfl⟩ := ow.slices
      refine hK _ _ ?_
      exact ⟨_, _, _, _, _, _, rfl, (fun _ => J.trans (b5.mono J.size)), (kp f0), (fun _ => ⟨A5, n5, c5, R5, m5, d5, rfl, fun _ => ow.base J.size⟩), (kp f2), (kp f3), (fun h => absurd (f4 (upd_ne h (by decide))).1 (by rw [hL]; decide)), (fun h => by
        obtain ⟨gb, e, hlo, r⟩ := f5 (upd_ne h (by decide))
        exact ⟨gb, e, hlo, fun h6 => (r (by rw [upd_other (by decide)] at h6; exact h6)).keep b5 (r (by rw [upd_other (by decide)] at h6; exact h6)).lt⟩), (fun h => absurd hLS (by rw [upd_ne h (by decide)]; decide))⟩
    · obtain rfl := Option.some.inj ho
      have hLS : L 6 = false := by
        cases e : L 6
        · rfl
        · exact absurd ((f6 e).1 2 (by decide)) (by rw [hL]; decide)
      have J := I0 hLS
      have z0 : ww.cell? ⟨q, 0, none⟩ = some (.slice A n c) := (J.cell (p := ⟨q, 0, none⟩) hql).trans x0
      have z1 : ww.cell? ⟨q, 1, none⟩ = some (.slice R m d) := (J.cell (p := ⟨q, 1, none⟩) hql).trans x1
      refine wpOp_step rfl (fun K' hK => ?_)
      go_simp
      refine hK _ _ ?_
      exact ⟨_, _, _, _, _, _, rfl, (fun _ => J), (kp f0), (fun h => by
        obtain ⟨A5, n5, c5, R5, m5, d5, e, r⟩ := f1 (upd_ne h (by decide))
        exact ⟨A5, n5, c5, R5, m5, d5, e, fun h6 => r (by rw [upd_other (by decide)] at h6; exact h6)⟩), (fun _ => rfl), (kp f3), (fun h => by
        obtain ⟨l1, r⟩ := f4 (upd_ne h (by decide))
        exact ⟨upd_mono l1, r⟩), (fun h => by
        obtain ⟨gb, e, hlo, r⟩ := f5 (upd_ne h (by decide))
        exact ⟨gb, e, hlo, fun h6 => r (by rw [upd_other (by decide)] at h6; exact h6)⟩), (fun h => absurd hLS (by rw [upd_ne h (by decide)]; decide))⟩
    · obtain rfl := Option.some.inj ho
      have g2 := f2 (hd ⟨2, .data⟩ (by simp) rfl)
      subst g2
      have hLS : L 6 = false := by
        cases e : L 6
        · rfl
        · exact absurd ((f6 e).1 3 (by decide)) (by rw [hL]; decide)
      have J := I0 hLS
      refine wpOp_step rfl (fun K' hK => ?_)
      go_simp
      refine (reachedSet_any A R n c m d h ww (SS.out.up J) HV.out).mono ?_
      rw [HR.out]
      rintro e w' ⟨rfl, b5⟩
      refine hK _ _ ?_
      exact ⟨_, _, _, _, _, _, rfl, (fun _ => J.trans (b5.mono J.size)), (kp f0), (fun h => by
        obtain ⟨A5, n5, c5, R5, m5, d5, e, r⟩ := f1 (upd_ne h (by decide))
        exact ⟨A5, n5, c5, R5, m5, d5, e, fun h6 => (r (by rw [upd_other (by decide)] at h6; exact h6)).below b5 (Nat.le_refl _)⟩), (kp f2), (fun _ => rfl), (fun h => by
        obtain ⟨l1, r⟩ := f4 (upd_ne h (by decide))
        exact ⟨upd_mono l1, r⟩), (fun h => by
        obtain ⟨gb, e, hlo, r⟩ := f5 (upd_ne h (by decide))
        exact ⟨gb, e, hlo, fun h6 => (r (by rw [upd_other (by decide)] at h6; exact h6)).keep b5 (r (by rw [upd_other (by decide)] at h6; exact h6)).lt⟩), (fun h => absurd hLS (by rw [upd_ne h (by decide)]; decide))⟩
    · obtain rfl := Option.some.inj ho
      have g1 := f1 (hd ⟨1, .data⟩ (by simp) rfl)
      have g3 := f3 (hd ⟨3, .data⟩ (by simp) rfl)
      subst g3
      have hLS : L 6 = false := by
        cases e : L 6
        · rfl
        · exact absurd ((f6 e).1 4 (by decide)) (by rw [hL]; decide)
      have J := I0 hLS
      have l1 := Lib.hid (hd ⟨1, .data⟩ (by simp) rfl)
      obtain ⟨A5, n5, c5, R5, m5, d5, e4, r4⟩ := g1
      subst e4
      refine wpOp_step rfl (fun K' hK => ?_)
      go_simp
      refine hK _ _ ?_
      exact ⟨_, _, _, _, _, _, rfl, (fun _ => J), (kp f0), (fun _ => ⟨A5, n5, c5, R5, m5, d5, rfl, fun h => r4 (by rw [upd_other (by decide)] at h; exact h)⟩), (kp f2), (kp f3), (fun _ => ⟨upd_mono l1.out, A5, n5, c5, R5, m5, d5, rfl, rfl⟩), (fun h => by
        obtain ⟨gb, e, hlo, r⟩ := f5 (upd_ne h (by decide))
        exact ⟨gb, e, hlo, fun h6 => r (by rw [upd_other (by decide)] at h6; exact h6)⟩), (fun h => absurd hLS (by rw [upd_ne h (by decide)]; decide))⟩
    · obtain rfl := Option.some.inj ho
      have hLS : L 6 = false := by
        cases e : L 6
        · rfl
        · exact absurd ((f6 e).1 5 (by decide)) (by rw [hL]; decide)
      have J := I0 hLS
      refine wpOp_step rfl (fun K' hK => ?_)
      go_simp
      refine hK _ _ ?_
      exact ⟨_, _, _, _, _, _, rfl, (fun _ => J.alloc J.size _), (kp f0), (fun h => by
        obtain ⟨A5, n5, c5, R5, m5, d5, e, r⟩ := f1 (upd_ne h (by decide))
        exact ⟨A5, n5, c5, R5, m5, d5, e, fun h6 => (r (by rw [upd_other (by decide)] at h6; exact h6)).below ((Below.refl _ _).alloc (Nat.le_refl _) _) (Nat.le_refl _)⟩), (kp f2), (kp f3), (fun h => by
        obtain ⟨l1, r⟩ := f4 (upd_ne h (by decide))
        exact ⟨upd_mono l1, r⟩), (fun _ => ⟨ww.heap.size, rfl, J.size, fun _ => Rw.new ww 69 #[.slice none 0 0, .slice none 0 0, .int .u64 0, .int .i64 0]⟩), (fun h => absurd hLS (by rw [upd_ne h (by decide)]; decide))⟩
    · obtain rfl := Option.some.inj ho
      have g4 := f4 (hd ⟨4, .data⟩ (by simp) rfl)
      have g5 := f5 (hd ⟨5, .data⟩ (by simp) rfl)
      have lq : Hid (∀ q, q < 6 → L q = true) := Lib.hid (by
        intro q hq
        obtain rfl | rfl | rfl | rfl | rfl | rfl : q = 0 ∨ q = 1 ∨ q = 2 ∨ q = 3 ∨ q = 4 ∨ q = 5 := by omega
        · exact hd ⟨0, .phase⟩ (by simp) rfl
        · exact hd ⟨1, .phase⟩ (by simp) rfl
        · exact hd ⟨2, .phase⟩ (by simp) rfl
        · exact hd ⟨3, .phase⟩ (by simp) rfl
        · exact hd ⟨4, .phase⟩ (by simp) rfl
        · exact hd ⟨5, .phase⟩ (by simp) rfl)
      have J := I0 hL
      obtain ⟨-, A5, n5, c5, R5, m5, d5, e4, e8⟩ := g4
      subst e8
      obtain ⟨A6, n6, c6, R6, m6, d6, e4b, r4⟩ := f1 (lq.out 1 (by decide))
      have oc := r4 hL
      rw [e4] at e4b
      injection e4b with e4b
      simp at e4b
      obtain ⟨⟨rfl, rfl, rfl⟩, rfl, rfl, rfl⟩ := e4b
      subst e4
      obtain ⟨gb, e9, hlo, r9⟩ := g5
      subst e9
      have P := r9 hL
      obtain ⟨rv, ox⟩ := oc
      have zf0 : ww.frozen? ⟨gb, 0, none⟩ = false := P.frozen 0
      have zf1 : ww.frozen? ⟨gb, 1, none⟩ = false := P.frozen 1
      have zf2 : ww.frozen? ⟨gb, 2, none⟩ = false := P.frozen 2
      have zf3 : ww.frozen? ⟨gb, 3, none⟩ = false := P.frozen 3
      have zc0 : ww.cell? ⟨gb, 0, none⟩ = some (.slice none 0 0) := P.cell 0
      have zc1 : ww.cell? ⟨gb, 1, none⟩ = some (.slice none 0 0) := P.cell 1
      have zc2 : ww.cell? ⟨gb, 2, none⟩ = some (.int .u64 0) := P.cell 2
      have zc3 : ww.cell? ⟨gb, 3, none⟩ = some (.int .i64 0) := P.cell 3
      refine wpOp_step rfl (fun K' hK => ?_)
      go_simp
      refine hK _ _ ?_
      exact ⟨_, _, _, _, _, _, rfl, (fun h => absurd h (by rw [upd_self]; decide)), (kp f0), (fun _ => ⟨A5, n5, c5, R5, m5, d5, rfl, fun h => absurd h (by rw [upd_self]; decide)⟩), (kp f2), (kp f3), (fun _ => ⟨upd_mono (lq.out 1 (by decide)), A5, n5, c5, R5, m5, d5, rfl, rfl⟩), (fun _ => ⟨gb, rfl, hlo, fun h => absurd h (by rw [upd_self]; decide)⟩), (fun _ => ⟨fun q hq => upd_mono (lq.out q hq), A5, n5, c5, R5, m5, d5, rv, gb, rfl, BoxW.make ox P J hlo _ _⟩)⟩
  case hdone =>
    rintro L ac ww hall ⟨t3, t8, t9, t10, t11, t12, rfl, I0, f0, f1, f2, f3, f4, f5, f6⟩
    have e0 := f0 (hall 0 (by decide))
    have e1 := f1 (hall 1 (by decide))
    have e2 := f2 (hall 2 (by decide))
    have e3 := f3 (hall 3 (by decide))
    have e4 := f4 (hall 4 (by decide))
    have e5 := f5 (hall 5 (by decide))
    have e6 := f6 (hall 6 (by decide))
    clear f0 f1 f2 f3 f4 f5 f6
    obtain ⟨-, A5, n5, c5, R5, m5, d5, rv, gb, et, SB⟩ := e6
    subst et
    clear I0 e0 e1 e2 e3 e4 e5 hall
    have hl5 := SB.low
    replace q2 := q2.keep hl5 hrl
    replace B2 := B2.trans (hl5.mono (by have := B2.size; omega))
    go_wp2_with fail
    refine (lazy_any w3 _ gb _ _ rv h V 0 SB hVW (by have := HLC.out; omega)).mono ?_
    rintro e w7 ⟨vm, rfl, om, b7⟩
    rw [HFL.out] at om
    obtain ⟨K5, q5, e9, -⟩ := om.form
    obtain ⟨p5, hp5⟩ : ∃ p5, (Hps.reachL h.cs h.rt).length = p5 := ⟨_, rfl⟩
    rw [hp5] at e9
    subst e9
    clear hp5
    have OL := SB.own.lazy b7 om SB.low.size
    have hls := SB.low.size
    have b7s := b7.size
    replace q2 := q2.keep b7 q2.lt
    replace B2 := B2.trans (b7.mono (by have := B2.size; omega))
    clear SB om b7 hl5
    have zf0 : w7.frozen? ⟨q + 1, 0, none⟩ = false := q2.frozen 0
    have zf1 : w7.frozen? ⟨q + 1, 1, none⟩ = false := q2.frozen 1
    have zf2 : w7.frozen? ⟨q + 1, 2, none⟩ = false := q2.frozen 2
    have zf3 : w7.frozen? ⟨q + 1, 3, none⟩ = false := q2.frozen 3
    have zc0 : w7.cell? ⟨q + 1, 0, none⟩ = some (.slice none 0 0) := q2.cell 0
    have zc1 : w7.cell? ⟨q + 1, 1, none⟩ = some (.slice none 0 0) := q2.cell 1
    have zc2 : w7.cell? ⟨q + 1, 2, none⟩ = some (.slice none 0 0) := q2.cell 2
    have zc3 : w7.cell? ⟨q + 1, 3, none⟩ = some (.int .i64 0) := q2.cell 3
    have P4 := ((((q2.put 0 (.slice A5 n5 c5)).put 1 (.slice R5 m5 d5)).put 2 (.slice K5 p5 q5)).put 3 (.int .i64 0))
    have s8 : ((((w7.setCell ⟨q + 1, 0, none⟩ (.slice A5 n5 c5)).setCell ⟨q + 1, 1, none⟩ (.slice R5 m5 d5)).setCell ⟨q + 1, 2, none⟩ (.slice K5 p5 q5)).setCell ⟨q + 1, 3, none⟩ (.int .i64 0)).cell? ⟨q + 1, 0, none⟩ = some (.slice A5 n5 c5) := P4.cell 0
    have s9 : ((((w7.setCell ⟨q + 1, 0, none⟩ (.slice A5 n5 c5)).setCell ⟨q + 1, 1, none⟩ (.slice R5 m5 d5)).setCell ⟨q + 1, 2, none⟩ (.slice K5 p5 q5)).setCell ⟨q + 1, 3, none⟩ (.int .i64 0)).cell? ⟨q + 1, 1, none⟩ = some (.slice R5 m5 d5) := P4.cell 1
    have s10 : ((((w7.setCell ⟨q + 1, 0, none⟩ (.slice A5 n5 c5)).setCell ⟨q + 1, 1, none⟩ (.slice R5 m5 d5)).setCell ⟨q + 1, 2, none⟩ (.slice K5 p5 q5)).setCell ⟨q + 1, 3, none⟩ (.int .i64 0)).cell? ⟨q + 1, 2, none⟩ = some (.slice K5 p5 q5) := P4.cell 2
    have s11 : ((((w7.setCell ⟨q + 1, 0, none⟩ (.slice A5 n5 c5)).setCell ⟨q + 1, 1, none⟩ (.slice R5 m5 d5)).setCell ⟨q + 1, 2, none⟩ (.slice K5 p5 q5)).setCell ⟨q + 1, 3, none⟩ (.int .i64 0)).cell? ⟨q + 1, 3, none⟩ = some (.int .i64 0) := P4.cell 3
    clear P4
    have HW := HQ.out
    have D := Lib.hid (OwnLz.out (w := w) (g := q + 1) 0 ⟨_, OL⟩ (by omega) (by rw [HW]; exact B2) (by omega))
    clear OL q2 B2 x0 x1 SS
    go_wp2_with fail
    obtain rfl := HE.out
    exact bodyPost_ret (v := .agg #[.slice A5 n5 c5, .slice R5 m5 d5, .slice K5 p5 q5, .int .i64 0]) (by simp [results, Try.results11, go_sem, *]) rfl ⟨_, _, _, rfl, D.out.1, D.out.2⟩
end Go.Proofs.Ytakdjiojahlnmaa
