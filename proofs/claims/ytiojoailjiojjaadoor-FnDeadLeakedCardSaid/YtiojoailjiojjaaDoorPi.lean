/- What the program's LeakedCells returns: for every heap, in every memory in which the table of math/bits lies as laid. -/
import Derived.Test.YtiojoailjiojjaaDoorPa
import Derived.Test.YtiojoailjiojjaaDoorCa
import Derived.Test.YtiojoailjiojjaaDoorHx
import Derived.Deep.Cut
namespace Go.Proofs.YtiojoailjiojjaaDoor
open Go.RowKit
set_option maxRecDepth 100000

namespace Hps
theorem filter_more (p : Nat → Bool) {n : Nat} (hp : ∀ i, n ≤ i → p i = false) : ∀ m, n ≤ m → (List.range m).filter p = (List.range n).filter p
  | 0, h => by obtain rfl : n = 0 := by omega
               rfl
  | m + 1, h => by
    rcases Nat.lt_or_ge m n with e | e
    · obtain rfl : n = m + 1 := by omega
      rfl
    · rw [List.range_succ, List.filter_append, filter_more p hp m e, List.filter_cons, hp m e, List.filter_nil, if_neg Bool.false_ne_true, List.append_nil]
open Classical in
theorem leak_nums {h : Hp} (hl : h.cs.length ≤ 64) : numsB (usedW h.cs &&& (18446744073709551615 - reachW h)) = leakL h := by
  have hR := reachW_lt (h := h) hl
  unfold numsB leakL
  congr 1
  rw [filter_more _ (n := h.cs.length) _ 64 hl]
  · refine List.filter_congr fun i hi => ?_
    have hin := List.mem_range.1 hi
    rw [Nat.testBit_and, show 18446744073709551615 - reachW h = 2 ^ 64 - (reachW h + 1) by omega, Nat.testBit_two_pow_sub_succ (by omega), usedW_bit]
    have hb : (reachW h).testBit i = decide (Rch h.cs h.rt i) := by
      unfold reachW
      rw [Bm.wordN_bit, reachL_at hin]
      exact decide_eq_decide.2 ⟨fun e => of_decide_eq_true (Option.some.inj e), fun e => by rw [decide_eq_true e]⟩
    rw [hb, decide_eq_true (show i < 64 by omega), Bool.true_and]
  · intro i hi
    rw [Nat.testBit_and, usedW_bit]
    have : usedAt h.cs i = false := by
      unfold usedAt
      rw [List.getElem?_eq_none hi]
    rw [this, Bool.false_and]
end Hps


set_option maxHeartbeats 4000000 in
theorem leakedCells_any (A R : Option Addr) (n c m d : Nat) (h : Hp) (w : World) (hT : TzT w) (hs : HS w w.heap.size A n R m h) (hn : n ≤ 1099511627776) (hm : m ≤ 1099511627776) (hnc : n ≤ c) (hmd : m ≤ d) :
    Calls Tryd.prog 22 #[heapV A n c R m d] w (GaveI w (Hps.leakH h)) := by
  have hlc := hs.cells.1
  have b0 : Below w.heap.size w (w.alloc (.cells #[.slice A n c, .slice R m d] 26)) := (Below.refl _ _).alloc (Nat.le_refl _) _
  have r0 := hs.up b0
  have hw0 := Rw.new w 26 #[.slice A n c, .slice R m d]
  have hT0 := hT.below b0
  cases hv : Hps.validH h
  · have HR := Lib.hid (show Hps.leakH h = [] by rw [Hps.leakH, hv]; rfl)
    have HV := Lib.hid hv
    clear hv
    go_enter Tryd.func22, Tryd.ntmps22
    go_wp2_with fail
    refine (heapValid_any _ _ _ _ _ _ h _ r0 hn hm hnc hmd).mono ?_
    rw [HV.out]
    rintro e w1 ⟨rfl, b1⟩
    have bb1 := b0.trans (b1.mono b0.size)
    go_wp2_with fail
    go_ret
    exact ⟨_, rfl, by rw [HR.out]; exact World.ownsRow_nil _ _ _ _, bb1⟩
  have h40 := (Hps.valid_iff.1 hv).2.1
  have HR := Lib.hid (show Hps.leakH h = Hps.numsB (Hps.usedW h.cs &&& (18446744073709551615 - Hps.reachW h)) by rw [Hps.leakH, hv, Hps.leak_nums (by omega)]; rfl)
  have HUL := Hps.usedW_lt (cs := h.cs) (by omega)
  have HRL := Hps.reachW_lt (h := h) (by omega)
  obtain ⟨U, hU⟩ : ∃ U, Hps.usedW h.cs = U := ⟨_, rfl⟩
  obtain ⟨RW, hRW⟩ : ∃ RW, Hps.reachW h = RW := ⟨_, rfl⟩
  rw [hU] at HUL HR
  rw [hRW] at HRL HR
  have HAN := Lib.hid (u64_andNot_nat U RW HUL HRL)
  have HU := Lib.hid hU
  have HRW := Lib.hid hRW
  have HV := Lib.hid hv
  have HLE : U &&& (18446744073709551615 - RW) < 18446744073709551616 := Nat.lt_of_le_of_lt Nat.and_le_left HUL
  obtain ⟨V, hV2⟩ : ∃ V, U &&& (18446744073709551615 - RW) = V := ⟨_, rfl⟩
  rw [hV2] at HAN HLE HR
  clear hv hU hRW hV2
  go_enter Tryd.func22, Tryd.ntmps22
  go_wp2_with fail
  refine (heapValid_any _ _ _ _ _ _ h _ r0 hn hm hnc hmd).mono ?_
  rw [HV.out]
  rintro e w2 ⟨rfl, b1⟩
  replace hT0 := hT0.below b1
  replace hw0 := hw0.keep b1 hw0.lt
  replace r0 := r0.up b1
  replace b0 := b0.trans (b1.mono b0.size)
  generalize hbq : w.heap.size = b at hw0 ⊢
  have HB := Lib.hid hbq
  clear hbq b1
  have hbl := hw0.lt
  have x0 : w2.cell? ⟨b, 0, none⟩ = some (.slice A n c) := hw0.cell 0
  have x1 : w2.cell? ⟨b, 1, none⟩ = some (.slice R m d) := hw0.cell 1
  go_upto_region 3 with fail
  refine wp_region_inv (by kernel_rfl) (by kernel_rfl) (fun L ac ww => ∃ t2 t6 t7 t8 t9 t10 t11 t12 : Value, ac = { tmps := #[heapV A n c R m d, Value.pointer (some { block := b, off := 0 }), t2, Value.agg #[Value.slice A n c, Value.slice R m d], Value.bool true, Value.bool false, t6, t7, t8, t9, t10, t11, t12], defers := [] } ∧ (Below w2.heap.size w2 ww) ∧ (L 0 = true → t6 = .pointer (some ⟨b, 0, none⟩)) ∧ (L 1 = true → t7 = .slice A n c) ∧ (L 2 = true → t8 = .int .u64 U) ∧ (L 3 = true → t9 = .agg #[.slice A n c, .slice R m d]) ∧ (L 4 = true → t10 = .int .u64 RW) ∧ (L 5 = true → t11 = .int .u64 V) ∧ (L 6 = true → OwnI ww w2.heap.size t12 (Hps.numsB V)) ∧ (L 7 = true → OwnI ww w2.heap.size t2 (Hps.numsB V))) ?h0 ?hstep ?hdone
  case h0 => exact ⟨_, _, _, _, _, _, _, _, rfl, (Below.refl _ _).drew, (fun h => absurd h Bool.false_ne_true), (fun h => absurd h Bool.false_ne_true), (fun h => absurd h Bool.false_ne_true), (fun h => absurd h Bool.false_ne_true), (fun h => absurd h Bool.false_ne_true), (fun h => absurd h Bool.false_ne_true), (fun h => absurd h Bool.false_ne_true), (fun h => absurd h Bool.false_ne_true)⟩
  case hstep =>
    rintro L ac ww i o ho hL hd ⟨t2, t6, t7, t8, t9, t10, t11, t12, rfl, I0, f0, f1, f2, f3, f4, f5, f6, f7⟩
    have hi : i < 8 := (Array.getElem?_eq_some_iff.1 ho).1
    obtain rfl | rfl | rfl | rfl | rfl | rfl | rfl | rfl : i = 0 ∨ i = 1 ∨ i = 2 ∨ i = 3 ∨ i = 4 ∨ i = 5 ∨ i = 6 ∨ i = 7 := by omega
    · obtain rfl := Option.some.inj ho
      refine wpOp_step rfl (fun K' hK => ?_)
      go_simp
      refine hK _ _ ?_
      exact ⟨_, _, _, _, _, _, _, _, rfl, (I0), (fun _ => rfl), (kp f1), (kp f2), (kp f3), (kp f4), (kp f5), (kp f6), (kp f7)⟩
    · obtain rfl := Option.some.inj ho
      have g0 := f0 (hd ⟨0, .data⟩ (by simp) rfl)
      subst g0
      have z0 : ww.cell? ⟨b, 0, none⟩ = some (.slice A n c) := (I0.cell (p := ⟨b, 0, none⟩) hbl).trans x0
      have z1 : ww.cell? ⟨b, 1, none⟩ = some (.slice R m d) := (I0.cell (p := ⟨b, 1, none⟩) hbl).trans x1
      refine wpOp_step rfl (fun K' hK => ?_)
      go_simp
      refine hK _ _ ?_
      exact ⟨_, _, _, _, _, _, _, _, rfl, (I0), (kp f0), (fun _ => rfl), (kp f2), (kp f3), (kp f4), (kp f5), (kp f6), (kp f7)⟩
    · obtain rfl := Option.some.inj ho
      have g1 := f1 (hd ⟨1, .data⟩ (by simp) rfl)
      subst g1
      refine wpOp_step rfl (fun K' hK => ?_)
      go_simp
      refine (usedSet_any _ _ _ _ ww (r0.up I0).cells (by omega)).mono ?_
      rw [HU.out]
      rintro e w' ⟨rfl, b5⟩
      refine hK _ _ ?_
      exact ⟨_, _, _, _, _, _, _, _, rfl, (I0.trans (b5.mono I0.size)), (kp f0), (kp f1), (fun _ => rfl), (kp f3), (kp f4), (kp f5), (fun h => (f6 (upd_ne h (by decide))).below b5 (Nat.le_refl _)), (fun h => (f7 (upd_ne h (by decide))).below b5 (Nat.le_refl _))⟩
    · obtain rfl := Option.some.inj ho
      have z0 : ww.cell? ⟨b, 0, none⟩ = some (.slice A n c) := (I0.cell (p := ⟨b, 0, none⟩) hbl).trans x0
      have z1 : ww.cell? ⟨b, 1, none⟩ = some (.slice R m d) := (I0.cell (p := ⟨b, 1, none⟩) hbl).trans x1
      refine wpOp_step rfl (fun K' hK => ?_)
      go_simp
      refine hK _ _ ?_
      exact ⟨_, _, _, _, _, _, _, _, rfl, (I0), (kp f0), (kp f1), (kp f2), (fun _ => rfl), (kp f4), (kp f5), (kp f6), (kp f7)⟩
    · obtain rfl := Option.some.inj ho
      have g3 := f3 (hd ⟨3, .data⟩ (by simp) rfl)
      subst g3
      refine wpOp_step rfl (fun K' hK => ?_)
      go_simp
      refine (reachedSet_any _ _ _ _ _ _ h ww (r0.up I0) HV.out).mono ?_
      rw [HRW.out]
      rintro e w' ⟨rfl, b5⟩
      refine hK _ _ ?_
      exact ⟨_, _, _, _, _, _, _, _, rfl, (I0.trans (b5.mono I0.size)), (kp f0), (kp f1), (kp f2), (kp f3), (fun _ => rfl), (kp f5), (fun h => (f6 (upd_ne h (by decide))).below b5 (Nat.le_refl _)), (fun h => (f7 (upd_ne h (by decide))).below b5 (Nat.le_refl _))⟩
    · obtain rfl := Option.some.inj ho
      have g2 := f2 (hd ⟨2, .data⟩ (by simp) rfl)
      have g4 := f4 (hd ⟨4, .data⟩ (by simp) rfl)
      subst g2
      subst g4
      have han := HAN.out
      refine wpOp_step rfl (fun K' hK => ?_)
      go_simp
      refine hK _ _ ?_
      exact ⟨_, _, _, _, _, _, _, _, rfl, (I0), (kp f0), (kp f1), (kp f2), (kp f3), (kp f4), (fun _ => rfl), (kp f6), (kp f7)⟩
    · obtain rfl := Option.some.inj ho
      have g5 := f5 (hd ⟨5, .data⟩ (by simp) rfl)
      subst g5
      refine wpOp_step rfl (fun K' hK => ?_)
      go_simp
      refine (numbers_any V ww (hT0.below I0) HLE).mono ?_
      rintro e w' ⟨v1, rfl, ow, b5⟩
      refine hK _ _ ?_
      exact ⟨_, _, _, _, _, _, _, _, rfl, (I0.trans (b5.mono I0.size)), (kp f0), (kp f1), (kp f2), (kp f3), (kp f4), (kp f5), (fun _ => ow.base I0.size), (fun h => (f7 (upd_ne h (by decide))).below b5 (Nat.le_refl _))⟩
    · obtain rfl := Option.some.inj ho
      have g6 := f6 (hd ⟨6, .data⟩ (by simp) rfl)
      have g6b := g6
      refine wpOp_step rfl (fun K' hK => ?_)
      go_simp
      refine hK _ _ ?_
      exact ⟨_, _, _, _, _, _, _, _, rfl, (I0), (kp f0), (kp f1), (kp f2), (kp f3), (kp f4), (kp f5), (kp f6), (fun _ => g6b)⟩
  case hdone =>
    rintro L ac ww hall ⟨t2, t6, t7, t8, t9, t10, t11, t12, rfl, I0, f0, f1, f2, f3, f4, f5, f6, f7⟩
    have e0 := f0 (hall 0 (by decide))
    have e1 := f1 (hall 1 (by decide))
    have e2 := f2 (hall 2 (by decide))
    have e3 := f3 (hall 3 (by decide))
    have e4 := f4 (hall 4 (by decide))
    have e5 := f5 (hall 5 (by decide))
    have e6 := f6 (hall 6 (by decide))
    have e7 := f7 (hall 7 (by decide))
    clear f0 f1 f2 f3 f4 f5 f6 f7
    have bbf := b0.trans (I0.mono b0.size)
    have hz := b0.size
    clear I0 e0 e1 e2 e3 e4 e5 e6 hall x0 x1 hw0 r0
    go_wp2_with fail
    go_ret
    exact ⟨_, rfl, by rw [HR.out]; exact e7.base hz, bbf⟩
end Go.Proofs.YtiojoailjiojjaaDoor
