/- What the program's DeadCycle returns: for every heap and every number, in every memory in which the table of math/bits lies as laid. -/
import Derived.Test.YtiojoailjiojjaaDoorRn
namespace Go.Proofs.YtiojoailjiojjaaDoor
open Go.RowKit
set_option maxRecDepth 100000

namespace Hps
theorem deadH_nil {h : Hp} {x : Int} (hu : usedCell h x = false) : deadH h x = [] := by
  rw [deadH, if_neg]
  intro q
  rw [usedCell_iff.2 q] at hu
  cases hu
end Hps

set_option maxHeartbeats 2000000 in
theorem deadCycle_any (A R : Option Addr) (n c m d : Nat) (x : Int) (h : Hp) (w : World) (hT : TzT w) (hs : HS w w.heap.size A n R m h) (hn : n ≤ 1099511627776) (hm : m ≤ 1099511627776) (hc : n ≤ c) (hd : m ≤ d) :
    Calls Tryd.prog 10 #[heapV A n c R m d, .int .i64 x] w (GaveO w (Hps.deadH h x)) := by
  have hlc := hs.cells.1
  have b0 : Below w.heap.size w (w.alloc (.cells #[.slice A n c, .slice R m d] 26)) := (Below.refl _ _).alloc (Nat.le_refl _) _
  have r0 := hs.up b0
  have hw0 := Rw.new w 26 #[.slice A n c, .slice R m d]
  cases hu : Hps.usedCell h x
  · have HR := Lib.hid (Hps.deadH_nil hu)
    have HU := Lib.hid hu
    clear hu
    go_enter Tryd.func10, Tryd.ntmps10
    go_wp2_with fail
    refine (isUsedCell_any _ _ _ _ _ _ x h _ r0 hn hm hc hd).mono ?_
    rw [HU.out]
    rintro e w1 ⟨rfl, b1⟩
    have bb1 := b0.trans (b1.mono b0.size)
    go_wp2_with fail
    go_ret
    exact ⟨_, rfl, by rw [HR.out]; exact World.ownsRow_nil _ _ _ _, bb1⟩
  · obtain ⟨hv, hx0, hua⟩ := Hps.usedCell_iff.1 hu
    obtain ⟨v, rfl⟩ := Int.eq_ofNat_of_zero_le hx0
    rw [Int.toNat_natCast] at hua
    have s1 := (Hps.valid_small hv).1
    have HR := Lib.hid (show Hps.deadH h (v : Int) = Hps.deadL h (v : Int) by rw [Hps.deadH, if_pos ⟨hv, hx0, by rw [Int.toNat_natCast]; exact hua⟩])
    have HUC := Lib.hid hu
    have HU := Lib.hid hua
    have HV := Lib.hid hv
    have HFL := Lib.hid (Bm.word_list (Hps.deadL h (v : Int)) ((Hps.deadL_len h v).trans hlc) (Bm.wordN (Hps.deadL h (v : Int)) true) fun i _ => Bm.wordN_bit _ _ _)
    obtain ⟨V, hVV⟩ : ∃ V, Bm.wordN (Hps.deadL h (v : Int)) true = V := ⟨_, rfl⟩
    have hVl : V < 18446744073709551616 := by rw [← hVV]; exact Bm.wordN_lt _ _ (by rw [Hps.deadL_len]; omega)
    have HW := Lib.hid hVV
    rw [hVV] at HFL
    clear hu hv hx0 hua hVV
    go_enter Tryd.func10, Tryd.ntmps10
    go_wp2_with fail
    refine (isUsedCell_any _ _ _ _ _ _ (v : Int) h _ r0 hn hm hc hd).mono ?_
    rw [HUC.out]
    rintro e w1 ⟨rfl, b1⟩
    have bb1 := b0.trans (b1.mono b0.size)
    have r1 := r0.up b1
    have hT1 := hT.below bb1
    have hw1 := hw0.keep b1 (by simp)
    have z0 : w1.cell? ⟨w.heap.size, 0, none⟩ = some (.slice A n c) := hw1.cell 0
    have z1 : w1.cell? ⟨w.heap.size, 1, none⟩ = some (.slice R m d) := hw1.cell 1
    clear r0 hw0
    have hwl := hw1.lt
    go_wp2_with fail
    refine wp_region_inv (by kernel_rfl) (by kernel_rfl) (fun L ac ww => ∃ t4 t9 t10 t11 t12 t13 t14 t15 : Value, ac = { tmps := #[heapV A n c R m d, .int .i64 v, .pointer (some ⟨w.heap.size, 0, none⟩), undef, t4, .agg #[.slice A n c, .slice R m d], .int .i64 v, .bool true, .bool false, t9, t10, t11, t12, t13, t14, t15], defers := [] } ∧ (Below w1.heap.size w1 ww) ∧ (L 0 = true → t9 = heapV A n c R m d) ∧ (L 1 = true → t10 = .int .i64 (v : Nat)) ∧ (L 2 = true → t11 = .int .u64 (V : Nat)) ∧ (L 3 = true → t12 = (.pointer (some ⟨w.heap.size, 0, none⟩))) ∧ (L 4 = true → t13 = .slice A n c) ∧ (L 5 = true → t14 = .int .i64 (n : Nat)) ∧ (L 6 = true → OwnO ww w1.heap.size t15 (Hps.deadL h (v : Int))) ∧ (L 7 = true → OwnO ww w1.heap.size t4 (Hps.deadL h (v : Int)))) ?h0 ?hstep ?hdone
    case h0 => exact ⟨_, _, _, _, _, _, _, _, rfl, (Below.refl _ _).drew, (fun h => absurd h Bool.false_ne_true), (fun h => absurd h Bool.false_ne_true), (fun h => absurd h Bool.false_ne_true), (fun h => absurd h Bool.false_ne_true), (fun h => absurd h Bool.false_ne_true), (fun h => absurd h Bool.false_ne_true), (fun h => absurd h Bool.false_ne_true), (fun h => absurd h Bool.false_ne_true)⟩
    case hstep =>
      rintro L ac ww i o ho hL hd ⟨t4, t9, t10, t11, t12, t13, t14, t15, rfl, I0, f0, f1, f2, f3, f4, f5, f6, f7⟩
      have hi : i < 8 := (Array.getElem?_eq_some_iff.1 ho).1
      obtain rfl | rfl | rfl | rfl | rfl | rfl | rfl | rfl : i = 0 ∨ i = 1 ∨ i = 2 ∨ i = 3 ∨ i = 4 ∨ i = 5 ∨ i = 6 ∨ i = 7 := by omega
      · obtain rfl := Option.some.inj ho
        have y0 : ww.cell? ⟨w.heap.size, 0, none⟩ = some (.slice A n c) := (I0.cell (p := ⟨w.heap.size, 0, none⟩) hwl).trans z0
        have y1 : ww.cell? ⟨w.heap.size, 1, none⟩ = some (.slice R m d) := (I0.cell (p := ⟨w.heap.size, 1, none⟩) hwl).trans z1
        refine wpOp_step rfl (fun K' hK => ?_)
        go_simp
        refine hK _ _ ?_
        exact ⟨_, _, _, _, _, _, _, _, rfl, (I0), (fun _ => rfl), (kp f1), (kp f2), (kp f3), (kp f4), (kp f5), (kp f6), (kp f7)⟩
      · obtain rfl := Option.some.inj ho
        refine wpOp_step rfl (fun K' hK => ?_)
        go_simp
        refine hK _ _ ?_
        exact ⟨_, _, _, _, _, _, _, _, rfl, (I0), (kp f0), (fun _ => rfl), (kp f2), (kp f3), (kp f4), (kp f5), (kp f6), (kp f7)⟩
      · obtain rfl := Option.some.inj ho
        have g0 := f0 (hd ⟨0, .data⟩ (by simp) rfl)
        have g1 := f1 (hd ⟨1, .data⟩ (by simp) rfl)
        subst g0
        subst g1
        refine wpOp_step rfl (fun K' hK => ?_)
        go_simp
        refine (deadSet_any A R n c m d v h ww (hT1.below I0) (r1.up I0) HV.out HU.out).mono ?_
        rw [HW.out]
        rintro e w' ⟨rfl, b5⟩
        refine hK _ _ ?_
        exact ⟨_, _, _, _, _, _, _, _, rfl, (I0.trans (b5.mono I0.size)), (kp f0), (kp f1), (fun _ => rfl), (kp f3), (kp f4), (kp f5), (fun h => (f6 (upd_ne h (by decide))).below b5 (Nat.le_refl _)), (fun h => (f7 (upd_ne h (by decide))).below b5 (Nat.le_refl _))⟩
      · obtain rfl := Option.some.inj ho
        refine wpOp_step rfl (fun K' hK => ?_)
        go_simp
        refine hK _ _ ?_
        exact ⟨_, _, _, _, _, _, _, _, rfl, (I0), (kp f0), (kp f1), (kp f2), (fun _ => rfl), (kp f4), (kp f5), (kp f6), (kp f7)⟩
      · obtain rfl := Option.some.inj ho
        have g3 := f3 (hd ⟨3, .data⟩ (by simp) rfl)
        subst g3
        have y0 : ww.cell? ⟨w.heap.size, 0, none⟩ = some (.slice A n c) := (I0.cell (p := ⟨w.heap.size, 0, none⟩) hwl).trans z0
        have y1 : ww.cell? ⟨w.heap.size, 1, none⟩ = some (.slice R m d) := (I0.cell (p := ⟨w.heap.size, 1, none⟩) hwl).trans z1
        refine wpOp_step rfl (fun K' hK => ?_)
        go_simp
        refine hK _ _ ?_
        exact ⟨_, _, _, _, _, _, _, _, rfl, (I0), (kp f0), (kp f1), (kp f2), (kp f3), (fun _ => rfl), (kp f5), (kp f6), (kp f7)⟩
      · obtain rfl := Option.some.inj ho
        have g4 := f4 (hd ⟨4, .data⟩ (by simp) rfl)
        subst g4
        refine wpOp_step rfl (fun K' hK => ?_)
        go_simp
        refine hK _ _ ?_
        exact ⟨_, _, _, _, _, _, _, _, rfl, (I0), (kp f0), (kp f1), (kp f2), (kp f3), (kp f4), (fun _ => rfl), (kp f6), (kp f7)⟩
      · obtain rfl := Option.some.inj ho
        have g2 := f2 (hd ⟨2, .data⟩ (by simp) rfl)
        have g5 := f5 (hd ⟨5, .data⟩ (by simp) rfl)
        subst g2
        subst g5
        refine wpOp_step rfl (fun K' hK => ?_)
        go_simp
        refine (cflags_any V n ww hVl (by omega)).mono ?_
        rw [HFL.out]
        rintro e w' ⟨v5, rfl, o5, b5⟩
        refine hK _ _ ?_
        exact ⟨_, _, _, _, _, _, _, _, rfl, (I0.trans (b5.mono I0.size)), (kp f0), (kp f1), (kp f2), (kp f3), (kp f4), (kp f5), (fun _ => o5.base I0.size), (fun h => (f7 (upd_ne h (by decide))).below b5 (Nat.le_refl _))⟩
      · obtain rfl := Option.some.inj ho
        have g6 := f6 (hd ⟨6, .data⟩ (by simp) rfl)
        refine wpOp_step rfl (fun K' hK => ?_)
        go_simp
        refine hK _ _ ?_
        exact ⟨_, _, _, _, _, _, _, _, rfl, (I0), (kp f0), (kp f1), (kp f2), (kp f3), (kp f4), (kp f5), (kp f6), (fun _ => g6)⟩
    case hdone =>
      rintro L ac ww hall ⟨t4, t9, t10, t11, t12, t13, t14, t15, rfl, I0, f0, f1, f2, f3, f4, f5, f6, f7⟩
      have e0 := f0 (hall 0 (by decide))
      have e1 := f1 (hall 1 (by decide))
      have e2 := f2 (hall 2 (by decide))
      have e3 := f3 (hall 3 (by decide))
      have e4 := f4 (hall 4 (by decide))
      have e5 := f5 (hall 5 (by decide))
      have e6 := f6 (hall 6 (by decide))
      have e7 := f7 (hall 7 (by decide))
      clear f0 f1 f2 f3 f4 f5 f6 f7
      clear e0 e1 e2 e3 e4 e5 e6
      go_wp2
      go_ret
      exact ⟨_, rfl, by rw [HR.out]; exact e7.base bb1.size, bb1.trans (I0.mono bb1.size)⟩
end Go.Proofs.YtiojoailjiojjaaDoor
