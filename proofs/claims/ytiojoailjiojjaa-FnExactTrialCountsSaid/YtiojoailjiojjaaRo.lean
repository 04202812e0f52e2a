/- What the program's isUsedCell and CellsFrom return: for every heap and every number. No conditions. -/
import Derived.Test.YtiojoailjiojjaaRa
import Derived.Test.YtiojoailjiojjaaHs
import Derived.Test.YtiojoailjiojjaaGa
namespace Go.Proofs.Ytiojoailjiojjaa
open Go.RowKit
set_option maxRecDepth 100000

namespace Hps
theorem outW_eq {h : Hp} {V : Nat} {s : List Bool} (hb : ∀ i, V.testBit i = decide (s[i]? = some true)) : ∀ i, outW h V i = outTo h s i
  | 0 => rfl
  | i + 1 => by
    rw [outW, outTo, outW_eq hb i, hb i]
    by_cases q : s[i]? = some true
    · rw [if_pos q, if_pos (decide_eq_true q)]
    · rw [if_neg q, if_neg (by rw [decide_eq_false q]; decide)]
      all_goals (cases h.cs[i]? <;> rfl)
/-- a used cell of a valid heap -/
def usedCell (h : Hp) (x : Int) : Bool := validH h && hasB (usedW h.cs) x
theorem usedCell_iff {h : Hp} {x : Int} : usedCell h x = true ↔ validH h = true ∧ 0 ≤ x ∧ usedAt h.cs x.toNat = true := by
  unfold usedCell hasB
  rw [usedW_bit]
  simp
theorem fromH_nil {h : Hp} {x : Int} (hu : usedCell h x = false) : fromH h x = [] := by
  rw [fromH, if_neg]
  intro q
  rw [usedCell_iff.2 q] at hu
  cases hu
end Hps

set_option maxHeartbeats 1000000 in
theorem isUsedCell_any (A R : Option Addr) (n c m d : Nat) (x : Int) (h : Hp) (w : World) (hs : HS w w.heap.size A n R m h) (hn : n ≤ 1099511627776) (hm : m ≤ 1099511627776) (hc : n ≤ c) (hd : m ≤ d) :
    Calls Try.prog 41 #[heapV A n c R m d, .int .i64 x] w fun e w' => e = .returned (.bool (Hps.usedCell h x)) ∧ Below w.heap.size w w' := by
  have hlc := hs.cells.1
  have b0 : Below w.heap.size w (w.alloc (.cells #[.slice A n c, .slice R m d] 26)) := (Below.refl _ _).alloc (Nat.le_refl _) _
  have r0 := hs.up b0
  have hw0 := Rw.new w 26 #[.slice A n c, .slice R m d]
  cases hv : Hps.validH h
  · have HR := Lib.hid (show Hps.usedCell h x = false by rw [Hps.usedCell, hv]; rfl)
    have HV := Lib.hid hv
    clear hv
    go_enter Try.func41, Try.ntmps41
    go_wp2_with fail
    refine (heapValid_any _ _ _ _ _ _ h _ r0 hn hm hc hd).mono ?_
    rw [HV.out]
    rintro e w1 ⟨rfl, b1⟩
    have bb1 := b0.trans (b1.mono b0.size)
    go_wp2_with fail
    go_ret
    exact ⟨by rw [HR.out]; rfl, bb1⟩
  · have HR := Lib.hid (show Hps.usedCell h x = Hps.hasB (Hps.usedW h.cs) x by rw [Hps.usedCell, hv]; rfl)
    have s1 := (Hps.valid_small hv).1
    have hUl := Hps.usedW_lt (cs := h.cs) (by omega)
    have HV := Lib.hid hv
    obtain ⟨U, hU⟩ : ∃ U, Hps.usedW h.cs = U := ⟨_, rfl⟩
    have HU := Lib.hid hU
    rw [hU] at hUl HR
    obtain ⟨bb, hbb⟩ : ∃ bb, Hps.hasB U x = bb := ⟨_, rfl⟩
    have HB := Lib.hid hbb
    rw [hbb] at HR
    clear hv hU hbb
    go_enter Try.func41, Try.ntmps41
    go_wp2_with fail
    refine (heapValid_any _ _ _ _ _ _ h _ r0 hn hm hc hd).mono ?_
    rw [HV.out]
    rintro e w1 ⟨rfl, b1⟩
    have bb1 := b0.trans (b1.mono b0.size)
    have r1 := r0.up b1
    have hw1 := hw0.keep b1 (by simp)
    have z0 : w1.cell? ⟨w.heap.size, 0, none⟩ = some (.slice A n c) := hw1.cell 0
    clear r0 hw0
    go_wp2_with fail
    refine (usedSet_any _ _ _ h.cs w1 r1.cells (by omega)).mono ?_
    rw [HU.out]
    rintro e w2 ⟨rfl, b2⟩
    have bb2 := bb1.trans (b2.mono bb1.size)
    go_wp2_with fail
    refine (has_any U x w2 hUl).mono ?_
    rw [HB.out]
    rintro e w3 ⟨rfl, rfl⟩
    go_wp2_with fail
    go_ret
    exact ⟨by rw [HR.out]; rfl, bb2⟩

set_option maxHeartbeats 2000000 in
theorem cellsFrom_any (A R : Option Addr) (n c m d : Nat) (x : Int) (h : Hp) (w : World) (hs : HS w w.heap.size A n R m h) (hn : n ≤ 1099511627776) (hm : m ≤ 1099511627776) (hc : n ≤ c) (hd : m ≤ d) :
    Calls Try.prog 14 #[heapV A n c R m d, .int .i64 x] w (GaveO w (Hps.fromH h x)) := by
  have hlc := hs.cells.1
  have b0 : Below w.heap.size w (w.alloc (.cells #[.slice A n c, .slice R m d] 26)) := (Below.refl _ _).alloc (Nat.le_refl _) _
  have r0 := hs.up b0
  have hw0 := Rw.new w 26 #[.slice A n c, .slice R m d]
  cases hu : Hps.usedCell h x
  · have HR := Lib.hid (Hps.fromH_nil hu)
    have HU := Lib.hid hu
    clear hu
    go_enter Try.func14, Try.ntmps14
    go_wp2_with fail
    refine (isUsedCell_any _ _ _ _ _ _ x h _ r0 hn hm hc hd).mono ?_
    rw [HU.out]
    rintro e w1 ⟨rfl, b1⟩
    have bb1 := b0.trans (b1.mono b0.size)
    go_wp2_with fail
    go_ret
    exact ⟨_, rfl, by rw [HR.out]; exact World.ownsRow_nil _ _ _ _, bb1⟩
  · obtain ⟨hv, hx0, hua⟩ := Hps.usedCell_iff.1 hu
    obtain ⟨v, rfl⟩ := Int.eq_ofNat_of_zero_le hx0
    rw [Int.toNat_natCast] at hua
    have s1 := (Hps.valid_small hv).1
    have HR := Lib.hid (show Hps.fromH h (v : Int) = Hps.reachL h.cs [(v : Int)] by rw [Hps.fromH, if_pos ⟨hv, hx0, by rw [Int.toNat_natCast]; exact hua⟩])
    have HU := Lib.hid hu
    have HG := Lib.hid ((Hps.OkG.valid hv).one hua)
    have HFL := Lib.hid (Hps.reach_flags (h := ⟨h.cs, [(v : Int)]⟩) hlc)
    obtain ⟨V, hVV⟩ : ∃ V, Hps.reachW ⟨h.cs, [(v : Int)]⟩ = V := ⟨_, rfl⟩
    have hVl : V < 18446744073709551616 := by rw [← hVV]; exact Hps.reachW_lt (by simp only; omega)
    have HW := Lib.hid hVV
    rw [hVV] at HFL
    clear hu hv hx0 hua hVV
    go_enter Try.func14, Try.ntmps14
    go_wp2_with fail
    refine (isUsedCell_any _ _ _ _ _ _ (v : Int) h _ r0 hn hm hc hd).mono ?_
    rw [HU.out]
    rintro e w1 ⟨rfl, b1⟩
    have bb1 := b0.trans (b1.mono b0.size)
    have r1 := r0.up b1
    have hw1 := hw0.keep b1 (by simp)
    have z0 : w1.cell? ⟨w.heap.size, 0, none⟩ = some (.slice A n c) := hw1.cell 0
    have z1 : w1.cell? ⟨w.heap.size, 1, none⟩ = some (.slice R m d) := hw1.cell 1
    clear r0 hw0
    have hwl := hw1.lt
    go_wp2_with fail
    refine wp_region_inv (by kernel_rfl) (by kernel_rfl) (fun L ac ww => ∃ t4 t9 t10 t11 t12 t13 t14 t15 t16 t17 : Value, ac = { tmps := #[heapV A n c R m d, .int .i64 v, .pointer (some ⟨w.heap.size, 0, none⟩), undef, t4, .agg #[.slice A n c, .slice R m d], .int .i64 v, .bool true, .bool false, t9, t10, t11, t12, t13, t14, t15, t16, t17], defers := [] } ∧ (Below w1.heap.size w1 ww) ∧ (L 0 = true → t9 = (.pointer (some ⟨w.heap.size, 0, none⟩))) ∧ (L 1 = true → t10 = .slice A n c) ∧ (L 2 = true → t11 = .int .i64 (v : Nat)) ∧ (L 3 = true → OwnI ww w1.heap.size t12 [(v : Int)]) ∧ (L 4 = true → t13 = .int .u64 (V : Nat)) ∧ (L 5 = true → t14 = (.pointer (some ⟨w.heap.size, 0, none⟩))) ∧ (L 6 = true → t15 = .slice A n c) ∧ (L 7 = true → t16 = .int .i64 (n : Nat)) ∧ (L 8 = true → OwnO ww w1.heap.size t17 (Hps.reachL h.cs [(v : Int)])) ∧ (L 9 = true → OwnO ww w1.heap.size t4 (Hps.reachL h.cs [(v : Int)]))) ?h0 ?hstep ?hdone
    case h0 => exact ⟨_, _, _, _, _, _, _, _, _, _, rfl, (Below.refl _ _).drew, (fun h => absurd h Bool.false_ne_true), (fun h => absurd h Bool.false_ne_true), (fun h => absurd h Bool.false_ne_true), (fun h => absurd h Bool.false_ne_true), (fun h => absurd h Bool.false_ne_true), (fun h => absurd h Bool.false_ne_true), (fun h => absurd h Bool.false_ne_true), (fun h => absurd h Bool.false_ne_true), (fun h => absurd h Bool.false_ne_true), (fun h => absurd h Bool.false_ne_true)⟩
    case hstep =>
      rintro L ac ww i o ho hL hd ⟨t4, t9, t10, t11, t12, t13, t14, t15, t16, t17, rfl, I0, f0, f1, f2, f3, f4, f5, f6, f7, f8, f9⟩
      have hi : i < 10 := (Array.getElem?_eq_some_iff.1 ho).1
      obtain rfl | rfl | rfl | rfl | rfl | rfl | rfl | rfl | rfl | rfl : i = 0 ∨ i = 1 ∨ i = 2 ∨ i = 3 ∨ i = 4 ∨ i = 5 ∨ i = 6 ∨ i = 7 ∨ i = 8 ∨ i = 9 := by omega
      · obtain rfl := Option.some.inj ho
        refine wpOp_step rfl (fun K' hK => ?_)
        go_simp
        refine hK _ _ ?_
        exact ⟨_, _, _, _, _, _, _, _, _, _, rfl, (I0), (fun _ => rfl), (kp f1), (kp f2), (kp f3), (kp f4), (kp f5), (kp f6), (kp f7), (kp f8), (kp f9)⟩
      · obtain rfl := Option.some.inj ho
        have g0 := f0 (hd ⟨0, .data⟩ (by simp) rfl)
        subst g0
        have y0 : ww.cell? ⟨w.heap.size, 0, none⟩ = some (.slice A n c) := (I0.cell (p := ⟨w.heap.size, 0, none⟩) hwl).trans z0
        have y1 : ww.cell? ⟨w.heap.size, 1, none⟩ = some (.slice R m d) := (I0.cell (p := ⟨w.heap.size, 1, none⟩) hwl).trans z1
        refine wpOp_step rfl (fun K' hK => ?_)
        go_simp
        refine hK _ _ ?_
        exact ⟨_, _, _, _, _, _, _, _, _, _, rfl, (I0), (kp f0), (fun _ => rfl), (kp f2), (kp f3), (kp f4), (kp f5), (kp f6), (kp f7), (kp f8), (kp f9)⟩
      · obtain rfl := Option.some.inj ho
        refine wpOp_step rfl (fun K' hK => ?_)
        go_simp
        refine hK _ _ ?_
        exact ⟨_, _, _, _, _, _, _, _, _, _, rfl, (I0), (kp f0), (kp f1), (fun _ => rfl), (kp f3), (kp f4), (kp f5), (kp f6), (kp f7), (kp f8), (kp f9)⟩
      · obtain rfl := Option.some.inj ho
        have g2 := f2 (hd ⟨2, .data⟩ (by simp) rfl)
        subst g2
        refine wpOp_step rfl (fun K' hK => ?_)
        go_simp
        refine hK _ _ ?_
        have o5 := own_oneI ww (v : Int) w1.heap.size I0.size
        exact ⟨_, _, _, _, _, _, _, _, _, _, rfl, (I0.alloc I0.size _), (kp f0), (kp f1), (kp f2), (fun _ => o5), (kp f4), (kp f5), (kp f6), (kp f7), (fun h => (f8 (upd_ne h (by decide))).below ((Below.refl ww.heap.size ww).alloc (Nat.le_refl _) _) (Nat.le_refl _)), (fun h => (f9 (upd_ne h (by decide))).below ((Below.refl ww.heap.size ww).alloc (Nat.le_refl _) _) (Nat.le_refl _))⟩
      · obtain rfl := Option.some.inj ho
        have g1 := f1 (hd ⟨1, .data⟩ (by simp) rfl)
        have g3 := f3 (hd ⟨3, .data⟩ (by simp) rfl)
        subst g1
        obtain ⟨A5, c5, e5, _⟩ := g3.form
        subst e5
        refine wpOp_step rfl (fun K' hK => ?_)
        go_simp
        refine (ledTo_any A A5 n c 1 c5 ⟨h.cs, [(v : Int)]⟩ ww (r1.up I0).cells g3.reads HG.out).mono ?_
        rw [HW.out]
        rintro e w' ⟨rfl, b5⟩
        refine hK _ _ ?_
        exact ⟨_, _, _, _, _, _, _, _, _, _, rfl, (I0.trans (b5.mono I0.size)), (kp f0), (kp f1), (kp f2), (fun h => (f3 (upd_ne h (by decide))).below b5 (Nat.le_refl _)), (fun _ => rfl), (kp f5), (kp f6), (kp f7), (fun h => (f8 (upd_ne h (by decide))).below b5 (Nat.le_refl _)), (fun h => (f9 (upd_ne h (by decide))).below b5 (Nat.le_refl _))⟩
      · obtain rfl := Option.some.inj ho
        refine wpOp_step rfl (fun K' hK => ?_)
        go_simp
        refine hK _ _ ?_
        exact ⟨_, _, _, _, _, _, _, _, _, _, rfl, (I0), (kp f0), (kp f1), (kp f2), (kp f3), (kp f4), (fun _ => rfl), (kp f6), (kp f7), (kp f8), (kp f9)⟩
      · obtain rfl := Option.some.inj ho
        have g5 := f5 (hd ⟨5, .data⟩ (by simp) rfl)
        subst g5
        have y0 : ww.cell? ⟨w.heap.size, 0, none⟩ = some (.slice A n c) := (I0.cell (p := ⟨w.heap.size, 0, none⟩) hwl).trans z0
        have y1 : ww.cell? ⟨w.heap.size, 1, none⟩ = some (.slice R m d) := (I0.cell (p := ⟨w.heap.size, 1, none⟩) hwl).trans z1
        refine wpOp_step rfl (fun K' hK => ?_)
        go_simp
        refine hK _ _ ?_
        exact ⟨_, _, _, _, _, _, _, _, _, _, rfl, (I0), (kp f0), (kp f1), (kp f2), (kp f3), (kp f4), (kp f5), (fun _ => rfl), (kp f7), (kp f8), (kp f9)⟩
      · obtain rfl := Option.some.inj ho
        have g6 := f6 (hd ⟨6, .data⟩ (by simp) rfl)
        subst g6
        refine wpOp_step rfl (fun K' hK => ?_)
        go_simp
        refine hK _ _ ?_
        exact ⟨_, _, _, _, _, _, _, _, _, _, rfl, (I0), (kp f0), (kp f1), (kp f2), (kp f3), (kp f4), (kp f5), (kp f6), (fun _ => rfl), (kp f8), (kp f9)⟩
      · obtain rfl := Option.some.inj ho
        have g4 := f4 (hd ⟨4, .data⟩ (by simp) rfl)
        have g7 := f7 (hd ⟨7, .data⟩ (by simp) rfl)
        subst g4
        subst g7
        refine wpOp_step rfl (fun K' hK => ?_)
        go_simp
        refine (cflags_any V n ww hVl (by omega)).mono ?_
        rw [HFL.out]
        rintro e w' ⟨v5, rfl, o5, b5⟩
        refine hK _ _ ?_
        exact ⟨_, _, _, _, _, _, _, _, _, _, rfl, (I0.trans (b5.mono I0.size)), (kp f0), (kp f1), (kp f2), (fun h => (f3 (upd_ne h (by decide))).below b5 (Nat.le_refl _)), (kp f4), (kp f5), (kp f6), (kp f7), (fun _ => o5.base I0.size), (fun h => (f9 (upd_ne h (by decide))).below b5 (Nat.le_refl _))⟩
      · obtain rfl := Option.some.inj ho
        have g8 := f8 (hd ⟨8, .data⟩ (by simp) rfl)
        refine wpOp_step rfl (fun K' hK => ?_)
        go_simp
        refine hK _ _ ?_
        exact ⟨_, _, _, _, _, _, _, _, _, _, rfl, (I0), (kp f0), (kp f1), (kp f2), (kp f3), (kp f4), (kp f5), (kp f6), (kp f7), (kp f8), (fun _ => g8)⟩
    case hdone =>
      rintro L ac ww hall ⟨t4, t9, t10, t11, t12, t13, t14, t15, t16, t17, rfl, I0, f0, f1, f2, f3, f4, f5, f6, f7, f8, f9⟩
      have e0 := f0 (hall 0 (by decide))
      have e1 := f1 (hall 1 (by decide))
      have e2 := f2 (hall 2 (by decide))
      have e3 := f3 (hall 3 (by decide))
      have e4 := f4 (hall 4 (by decide))
      have e5 := f5 (hall 5 (by decide))
      have e6 := f6 (hall 6 (by decide))
      have e7 := f7 (hall 7 (by decide))
      have e8 := f8 (hall 8 (by decide))
      have e9 := f9 (hall 9 (by decide))
      clear f0 f1 f2 f3 f4 f5 f6 f7 f8 f9
      clear e0 e1 e2 e3 e4 e5 e6 e7 e8
      go_wp2
      go_ret
      exact ⟨_, rfl, by rw [HR.out]; exact e9.base bb1.size, bb1.trans (I0.mono bb1.size)⟩

end Go.Proofs.Ytiojoailjiojjaa
