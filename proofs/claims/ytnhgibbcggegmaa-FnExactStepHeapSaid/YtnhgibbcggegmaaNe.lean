/- The exact laws of CommandPossible and StepHeap return true, over the program's contracts. No conditions. -/
import Derived.Test.YtnhgibbcggegmaaNd
import Derived.Test.YtnhgibbcggegmaaKz
import Derived.Test.YtnhgibbcggegmaaKk
import Derived.Test.YtnhgibbcggegmaaGa
import Derived.Deep.Cut
namespace Go.Proofs.Ytnhgibbcggegmaa
open Go.RowKit
set_option maxRecDepth 100000

theorem size_small {h : Hp} (hz : sizeH h ≤ 1048576) : h.cs.length ≤ 1048576 ∧ h.rt.length ≤ 1048576 ∧ ∀ cl ∈ h.cs, cl.r.length ≤ 1048576 := by
  unfold sizeH at hz
  exact ⟨by omega, by omega, fun cl hcl => by have := refN_mem hcl; omega⟩
theorem OwnHx.apart_box {w : World} {base g : Nat} {vc vr : Value} {rvs : List Value} {h : Hp} {cs : Array Value} (o : OwnHx w base vc vr rvs h) (hr : Rw w g 26 cs) : Apart (some g) (vc :: vr :: rvs) := fun v hv => by
  right
  intro e
  simp only [List.mem_cons] at hv
  rcases hv with rfl | rfl | hv
  · exact row_type o.row hr (by decide) e.symm
  · exact row_type o.roots hr (by decide) e.symm
  · obtain ⟨i, hi⟩ := List.mem_iff_getElem?.1 hv
    have hlt := (List.getElem?_eq_some_iff.1 hi).1
    have hc := List.getElem?_eq_getElem (show i < h.cs.length by rw [← o.len]; exact hlt)
    exact row_type (o.refs i _ v hc hi) hr (by decide) e.symm
theorem OwnHx.put2 {w : World} {base g : Nat} {vc vr : Value} {rvs : List Value} {h : Hp} {cs : Array Value} (o : OwnHx w base vc vr rvs h) (hr : Rw w g 26 cs) (x y : Value) : OwnHx ((w.setCell ⟨g, 0, none⟩ x).setCell ⟨g, 1, none⟩ y) base vc vr rvs h :=
  (o.far (only_put (g := g) (World.grownBy.refl _ _) 0 x) (o.apart_box hr)).far (only_put (g := g) (World.grownBy.refl _ _) 1 y) (o.apart_box hr)

set_option maxHeartbeats 8000000 in
theorem exactCommandPossible_walk (A R : Option Addr) (n c m d : Nat) (h : Hp) (o : Cm) (w : World) (hs : HS w w.heap.size A n R m h) (hn : n ≤ 9223372036854775807) (hm : m ≤ 9223372036854775807) (hb : ∀ cl ∈ h.cs, cl.r.length ≤ 9223372036854775807) :
    Calls Try.prog 6 #[heapV A n c R m d, cmV o] w fun e w' => e = .returned (.bool true) ∧ Below w.heap.size w w' := by
  have b0 : Below w.heap.size w ((w.alloc (.cells #[.slice A n c, .slice R m d] 48)).alloc (.cells #[.int .i64 o.op, .int .i64 o.a, .int .i64 o.b, .int .i64 o.c] 49)) := ((Below.refl _ _).alloc (Nat.le_refl _) _).alloc (by simp) _
  have s0 := hs.up b0
  have q0 := (Rw.new w 48 #[.slice A n c, .slice R m d]).alloc (.cells #[.int .i64 o.op, .int .i64 o.a, .int .i64 o.b, .int .i64 o.c] 49)
  have q1 := Rw.new (w.alloc (.cells #[.slice A n c, .slice R m d] 48)) 49 #[.int .i64 o.op, .int .i64 o.a, .int .i64 o.b, .int .i64 o.c]
  rw [World.size_alloc] at q1
  have hlc := hs.cells.1
  have hlr := hs.roots.1
  go_enter Try.func6, Try.ntmps6
  go_wp2_with fail
  refine (szHeap_any _ _ _ _ _ _ h _ _ s0 (by omega) (by omega) hn hm hb).mono ?_
  rintro e w1 ⟨rfl, b1⟩
  replace q0 := q0.keep b1 q0.lt
  replace q1 := q1.keep b1 q1.lt
  have bbk := b0.trans (b1.mono b0.size)
  clear b1 s0 b0
  by_cases hz : sizeH h ≤ 1048576
  case neg =>
    have HL : leftOf 1048576 (sizeH h) = -1 := by rw [leftOf, if_neg (by omega)]
    rw [HL]
    go_wp2_with fail
    go_ret
    exact ⟨rfl, bbk⟩
  have HL : leftOf 1048576 (sizeH h) = 1048576 - (sizeH h : Int) := by rw [leftOf, if_pos (by omega)]
  rw [HL]
  obtain ⟨z1, z2, z3⟩ := size_small hz
  rw [hlc] at z1
  rw [hlr] at z2
  have Z3 := Lib.hid (fun cl (hcl : cl ∈ h.cs) => show cl.r.length ≤ 1099511627776 by have := z3 cl hcl; omega)
  obtain ⟨lz, hlz⟩ : ∃ lz : Int, (1048576 : Int) - (sizeH h : Int) = lz := ⟨_, rfl⟩
  have hlz0 : decide (lz < 0) = false := decide_eq_false (by omega)
  rw [hlz]
  obtain ⟨ga, hga⟩ : ∃ ga, w.heap.size = ga := ⟨_, rfl⟩
  rw [hga] at q0 q1 ⊢
  have HGA := Lib.hid hga
  have hgl := q0.lt
  have hgb := q1.lt
  have xa0 : w1.cell? ⟨ga, 0, none⟩ = some (.slice A n c) := q0.cell 0
  have xa1 : w1.cell? ⟨ga, 1, none⟩ = some (.slice R m d) := q0.cell 1
  have xb0 : w1.cell? ⟨ga + 1, 0, none⟩ = some (.int .i64 o.op) := q1.cell 0
  have xb1 : w1.cell? ⟨ga + 1, 1, none⟩ = some (.int .i64 o.a) := q1.cell 1
  have xb2 : w1.cell? ⟨ga + 1, 2, none⟩ = some (.int .i64 o.b) := q1.cell 2
  have xb3 : w1.cell? ⟨ga + 1, 3, none⟩ = some (.int .i64 o.c) := q1.cell 3
  clear HL hlz hz z3 hb hlc hlr hga
  obtain ⟨v, hv⟩ : ∃ v, Hps.canH h o = v := ⟨_, rfl⟩
  have HV := Lib.hid hv
  clear hv
  have hvv : (v != v) = false := by cases v <;> rfl
  go_upto_region 5 with fail
  refine wp_region_inv (by kernel_rfl) (by kernel_rfl) (fun L ac ww => ∃ t6 t14 t15 t16 t17 t18 : Value, ac = { tmps := #[heapV A n c R m d, cmV o, Value.pointer (some { block := ga, off := 0 }), Value.pointer (some { block := ga + 1, off := 0 }), Value.bool false, Value.int IntKind.i64 lz, t6, undef, undef, Value.agg #[Value.slice A n c, Value.slice R m d], Value.int IntKind.i64 1048576, Value.int IntKind.i64 lz, Value.int IntKind.i64 lz, Value.bool false, t14, t15, t16, t17, t18, undef, undef, undef, undef, undef, undef, undef, undef, undef, undef, undef, undef, undef, undef], defers := [] } ∧ (Below w1.heap.size w1 ww) ∧ (L 0 = true → t14 = .agg #[.slice A n c, .slice R m d]) ∧ (L 1 = true → (L 4 = true ∨ ∃ u1 u2 : Nat, t15 = .agg #[.slice (some ⟨u1, 0, none⟩) n n, .slice (some ⟨u2, 0, none⟩) m m] ∧ HS ww ww.heap.size (some ⟨u1, 0, none⟩) n (some ⟨u2, 0, none⟩) m h)) ∧ (L 2 = true → t16 = .agg #[.int .i64 o.op, .int .i64 o.a, .int .i64 o.b, .int .i64 o.c]) ∧ (L 3 = true → t17 = .agg #[.int .i64 o.op, .int .i64 o.a, .int .i64 o.b, .int .i64 o.c]) ∧ (L 4 = true → t18 = .bool v) ∧ (L 5 = true → t6 = .bool v)) ?h0 ?hstep ?hdone
  case h0 => exact ⟨_, _, _, _, _, _, rfl, (Below.refl _ _).drew, (fun h => absurd h Bool.false_ne_true), (fun h => absurd h Bool.false_ne_true), (fun h => absurd h Bool.false_ne_true), (fun h => absurd h Bool.false_ne_true), (fun h => absurd h Bool.false_ne_true), (fun h => absurd h Bool.false_ne_true)⟩
  case hstep =>
    rintro L ac ww i o ho hL hd ⟨t6, t14, t15, t16, t17, t18, rfl, I0, f0, f1, f2, f3, f4, f5⟩
    have hi : i < 6 := (Array.getElem?_eq_some_iff.1 ho).1
    obtain rfl | rfl | rfl | rfl | rfl | rfl : i = 0 ∨ i = 1 ∨ i = 2 ∨ i = 3 ∨ i = 4 ∨ i = 5 := by omega
    · obtain rfl := Option.some.inj ho
      have y0 : ww.cell? ⟨ga, 0, none⟩ = some (.slice A n c) := (I0.cell (p := ⟨ga, 0, none⟩) hgl).trans xa0
      have y1 : ww.cell? ⟨ga, 1, none⟩ = some (.slice R m d) := (I0.cell (p := ⟨ga, 1, none⟩) hgl).trans xa1
      refine wpOp_step rfl (fun K' hK => ?_)
      go_simp
      refine hK _ _ ?_
      exact ⟨_, _, _, _, _, _, rfl, (I0), (fun _ => rfl), (fun h => (f1 (upd_ne h (by decide))).imp (fun e => upd_keep e) id), (kp f2), (kp f3), (kp f4), (kp f5)⟩
    · obtain rfl := Option.some.inj ho
      have g0 := f0 (hd ⟨0, .data⟩ (by simp) rfl)
      subst g0
      refine wpOp_step rfl (fun K' hK => ?_)
      go_simp
      refine (toHeap_any _ _ _ _ _ _ h ww (hs.up (bbk.trans (I0.mono bbk.size))) (by omega) (by omega) Z3.out).mono ?_
      rintro e w' ⟨u1, u2, rfl, ⟨rv, ow⟩, b5⟩
      have hr9 := ow.reads
      refine hK _ _ ?_
      exact ⟨_, _, _, _, _, _, rfl, (I0.trans (b5.mono I0.size)), (kp f0), (fun _ => .inr ⟨u1, u2, rfl, hr9⟩), (kp f2), (kp f3), (kp f4), (kp f5)⟩
    · obtain rfl := Option.some.inj ho
      have y0 : ww.cell? ⟨ga + 1, 0, none⟩ = some (.int .i64 o.op) := (I0.cell (p := ⟨ga + 1, 0, none⟩) hgb).trans xb0
      have y1 : ww.cell? ⟨ga + 1, 1, none⟩ = some (.int .i64 o.a) := (I0.cell (p := ⟨ga + 1, 1, none⟩) hgb).trans xb1
      have y2 : ww.cell? ⟨ga + 1, 2, none⟩ = some (.int .i64 o.b) := (I0.cell (p := ⟨ga + 1, 2, none⟩) hgb).trans xb2
      have y3 : ww.cell? ⟨ga + 1, 3, none⟩ = some (.int .i64 o.c) := (I0.cell (p := ⟨ga + 1, 3, none⟩) hgb).trans xb3
      refine wpOp_step rfl (fun K' hK => ?_)
      go_simp
      refine hK _ _ ?_
      exact ⟨_, _, _, _, _, _, rfl, (I0), (kp f0), (fun h => (f1 (upd_ne h (by decide))).imp (fun e => upd_keep e) id), (fun _ => rfl), (kp f3), (kp f4), (kp f5)⟩
    · obtain rfl := Option.some.inj ho
      have g2 := f2 (hd ⟨2, .data⟩ (by simp) rfl)
      subst g2
      refine wpOp_step rfl (fun K' hK => ?_)
      go_simp
      refine (toCommand_any o ww).mono ?_
      rintro e w' ⟨rfl, b5⟩
      refine hK _ _ ?_
      exact ⟨_, _, _, _, _, _, rfl, (I0.trans (b5.mono I0.size)), (kp f0), (fun h => (f1 (upd_ne h (by decide))).imp (fun e => upd_keep e) (fun ⟨u1, u2, e, q⟩ => ⟨u1, u2, e, q.up b5⟩)), (kp f2), (fun _ => rfl), (kp f4), (kp f5)⟩
    · obtain rfl := Option.some.inj ho
      have g1 := f1 (hd ⟨1, .data⟩ (by simp) rfl)
      have g3 := f3 (hd ⟨3, .data⟩ (by simp) rfl)
      subst g3
      rcases g1 with q | ⟨u1, u2, rfl, hr9⟩
      · rw [hL] at q
        cases q
      refine wpOp_step rfl (fun K' hK => ?_)
      go_simp
      refine (mCommandPossible_any _ _ _ _ _ _ h o ww (hr9) (by omega) (by omega)).mono ?_
      rw [HV.out]
      rintro e w' ⟨rfl, b5⟩
      refine hK _ _ ?_
      exact ⟨_, _, _, _, _, _, rfl, (I0.trans (b5.mono I0.size)), (kp f0), (fun _ => .inl upd_self), (kp f2), (kp f3), (fun _ => rfl), (kp f5)⟩
    · obtain rfl := Option.some.inj ho
      have g4 := f4 (hd ⟨4, .data⟩ (by simp) rfl)
      subst g4
      refine wpOp_step rfl (fun K' hK => ?_)
      go_simp
      refine hK _ _ ?_
      exact ⟨_, _, _, _, _, _, rfl, (I0), (kp f0), (fun h => (f1 (upd_ne h (by decide))).imp (fun e => upd_keep e) id), (kp f2), (kp f3), (kp f4), (fun _ => rfl)⟩
  case hdone =>
    rintro L ac ww hall ⟨t6, t14, t15, t16, t17, t18, rfl, I0, f0, f1, f2, f3, f4, f5⟩
    have e0 := f0 (hall 0 (by decide))
    have e1 := f1 (hall 1 (by decide))
    have e2 := f2 (hall 2 (by decide))
    have e3 := f3 (hall 3 (by decide))
    have e4 := f4 (hall 4 (by decide))
    have e5 := f5 (hall 5 (by decide))
    clear f0 f1 f2 f3 f4 f5
    have ht6 := e5
    clear e0 e1 e2 e3 e4
    have bb1 := bbk.trans (I0.mono bbk.size)
    replace q0 := q0.keep I0 q0.lt
    replace q1 := q1.keep I0 q1.lt
    subst ht6
    clear xa0 xa1 xb0 xb1 xb2 xb3 hgl hgb bbk hall I0
    have s1 := hs.up bb1
    have xa0 : ww.cell? ⟨ga, 0, none⟩ = some (.slice A n c) := q0.cell 0
    have xa1 : ww.cell? ⟨ga, 1, none⟩ = some (.slice R m d) := q0.cell 1
    go_wp2_with fail
    refine (toHeap_any _ _ _ _ _ _ h _ s1 (by omega) (by omega) Z3.out).mono ?_
    rintro e w2 ⟨g1, g2, rfl, ⟨rvs, own⟩, b2⟩
    have bA : Below w2.heap.size w2 (w2.alloc (.cells #[.slice (some ⟨g1, 0, none⟩) n n, .slice (some ⟨g2, 0, none⟩) m m] 26)) := (Below.refl _ _).alloc (Nat.le_refl _) _
    have rx := own.reads.up bA
    have qx := Rw.new w2 26 #[.slice (some ⟨g1, 0, none⟩) n n, .slice (some ⟨g2, 0, none⟩) m m]
    replace q0 := (q0.keep b2 q0.lt).alloc (.cells #[.slice (some ⟨g1, 0, none⟩) n n, .slice (some ⟨g2, 0, none⟩) m m] 26)
    replace q1 := (q1.keep b2 q1.lt).alloc (.cells #[.slice (some ⟨g1, 0, none⟩) n n, .slice (some ⟨g2, 0, none⟩) m m] 26)
    have bbk := (bb1.trans (b2.mono bb1.size)).trans (bA.mono (bb1.trans (b2.mono bb1.size)).size)
    clear own bA b2 s1 xa0 xa1
    go_upto_region 7 with fail
    generalize w2.alloc (.cells #[.slice (some ⟨g1, 0, none⟩) n n, .slice (some ⟨g2, 0, none⟩) m m] 26) = w3 at rx qx q0 q1 bbk ⊢
    obtain ⟨gx, hgxe⟩ : ∃ gx, w2.heap.size = gx := ⟨_, rfl⟩
    rw [hgxe] at qx ⊢
    have hgx := qx.lt
    have hgl := q0.lt
    have hgb := q1.lt
    have xc0 : w3.cell? ⟨gx, 0, none⟩ = some (.slice (some ⟨g1, 0, none⟩) n n) := qx.cell 0
    have xc1 : w3.cell? ⟨gx, 1, none⟩ = some (.slice (some ⟨g2, 0, none⟩) m m) := qx.cell 1
    have xb0 : w3.cell? ⟨ga + 1, 0, none⟩ = some (.int .i64 o.op) := q1.cell 0
    have xb1 : w3.cell? ⟨ga + 1, 1, none⟩ = some (.int .i64 o.a) := q1.cell 1
    have xb2 : w3.cell? ⟨ga + 1, 2, none⟩ = some (.int .i64 o.b) := q1.cell 2
    have xb3 : w3.cell? ⟨ga + 1, 3, none⟩ = some (.int .i64 o.c) := q1.cell 3
    clear hgxe bb1
    refine wp_region_inv (by kernel_rfl) (by kernel_rfl) (fun L ac ww => ∃ t8 t21 t22 t23 t24 : Value, ac = { tmps := #[heapV A n c R m d, cmV o, Value.pointer (some { block := ga, off := 0 }), Value.pointer (some { block := ga + 1, off := 0 }), Value.bool false, Value.int IntKind.i64 lz, Value.bool v, Value.pointer (some { block := gx, off := 0 }), t8, Value.agg #[Value.slice A n c, Value.slice R m d], Value.int IntKind.i64 1048576, Value.int IntKind.i64 lz, Value.int IntKind.i64 lz, Value.bool false, t14, t15, t16, t17, t18, Value.agg #[Value.slice A n c, Value.slice R m d], heapV (some { block := g1, off := 0 }) n n (some { block := g2, off := 0 }) m m, t21, t22, t23, t24, undef, undef, undef, undef, undef, undef, undef, undef], defers := [] } ∧ (Below w3.heap.size w3 ww) ∧ (L 0 = true → t21 = .agg #[.slice (some ⟨g1, 0, none⟩) n n, .slice (some ⟨g2, 0, none⟩) m m]) ∧ (L 1 = true → t22 = .agg #[.int .i64 o.op, .int .i64 o.a, .int .i64 o.b, .int .i64 o.c]) ∧ (L 2 = true → t23 = .agg #[.int .i64 o.op, .int .i64 o.a, .int .i64 o.b, .int .i64 o.c]) ∧ (L 3 = true → t24 = .bool v) ∧ (L 4 = true → t8 = .bool v)) ?h0 ?hstep ?hdone
    case h0 => exact ⟨_, _, _, _, _, rfl, (Below.refl _ _).drew, (fun h => absurd h Bool.false_ne_true), (fun h => absurd h Bool.false_ne_true), (fun h => absurd h Bool.false_ne_true), (fun h => absurd h Bool.false_ne_true), (fun h => absurd h Bool.false_ne_true)⟩
    case hstep =>
      rintro L ac ww i o ho hL hd ⟨t8, t21, t22, t23, t24, rfl, I0, f0, f1, f2, f3, f4⟩
      have hi : i < 5 := (Array.getElem?_eq_some_iff.1 ho).1
      obtain rfl | rfl | rfl | rfl | rfl : i = 0 ∨ i = 1 ∨ i = 2 ∨ i = 3 ∨ i = 4 := by omega
      · obtain rfl := Option.some.inj ho
        have y0 : ww.cell? ⟨gx, 0, none⟩ = some (.slice (some ⟨g1, 0, none⟩) n n) := (I0.cell (p := ⟨gx, 0, none⟩) hgx).trans xc0
        have y1 : ww.cell? ⟨gx, 1, none⟩ = some (.slice (some ⟨g2, 0, none⟩) m m) := (I0.cell (p := ⟨gx, 1, none⟩) hgx).trans xc1
        refine wpOp_step rfl (fun K' hK => ?_)
        go_simp
        refine hK _ _ ?_
        exact ⟨_, _, _, _, _, rfl, (I0), (fun _ => rfl), (kp f1), (kp f2), (kp f3), (kp f4)⟩
      · obtain rfl := Option.some.inj ho
        have y0 : ww.cell? ⟨ga + 1, 0, none⟩ = some (.int .i64 o.op) := (I0.cell (p := ⟨ga + 1, 0, none⟩) hgb).trans xb0
        have y1 : ww.cell? ⟨ga + 1, 1, none⟩ = some (.int .i64 o.a) := (I0.cell (p := ⟨ga + 1, 1, none⟩) hgb).trans xb1
        have y2 : ww.cell? ⟨ga + 1, 2, none⟩ = some (.int .i64 o.b) := (I0.cell (p := ⟨ga + 1, 2, none⟩) hgb).trans xb2
        have y3 : ww.cell? ⟨ga + 1, 3, none⟩ = some (.int .i64 o.c) := (I0.cell (p := ⟨ga + 1, 3, none⟩) hgb).trans xb3
        refine wpOp_step rfl (fun K' hK => ?_)
        go_simp
        refine hK _ _ ?_
        exact ⟨_, _, _, _, _, rfl, (I0), (kp f0), (fun _ => rfl), (kp f2), (kp f3), (kp f4)⟩
      · obtain rfl := Option.some.inj ho
        have g1 := f1 (hd ⟨1, .data⟩ (by simp) rfl)
        subst g1
        refine wpOp_step rfl (fun K' hK => ?_)
        go_simp
        refine (toCommand_any o ww).mono ?_
        rintro e w' ⟨rfl, b5⟩
        refine hK _ _ ?_
        exact ⟨_, _, _, _, _, rfl, (I0.trans (b5.mono I0.size)), (kp f0), (kp f1), (fun _ => rfl), (kp f3), (kp f4)⟩
      · obtain rfl := Option.some.inj ho
        have g0 := f0 (hd ⟨0, .data⟩ (by simp) rfl)
        have g2 := f2 (hd ⟨2, .data⟩ (by simp) rfl)
        subst g0
        subst g2
        refine wpOp_step rfl (fun K' hK => ?_)
        go_simp
        refine (commandPossible_any _ _ _ _ _ _ h o ww (rx.up I0) (by omega) (by omega) (Nat.le_refl _) (Nat.le_refl _)).mono ?_
        rw [HV.out]
        rintro e w' ⟨rfl, b5⟩
        refine hK _ _ ?_
        exact ⟨_, _, _, _, _, rfl, (I0.trans (b5.mono I0.size)), (kp f0), (kp f1), (kp f2), (fun _ => rfl), (kp f4)⟩
      · obtain rfl := Option.some.inj ho
        have g3 := f3 (hd ⟨3, .data⟩ (by simp) rfl)
        subst g3
        refine wpOp_step rfl (fun K' hK => ?_)
        go_simp
        refine hK _ _ ?_
        exact ⟨_, _, _, _, _, rfl, (I0), (kp f0), (kp f1), (kp f2), (kp f3), (fun _ => rfl)⟩
    case hdone =>
      rintro L ac ww hall ⟨t8, t21, t22, t23, t24, rfl, I0, f0, f1, f2, f3, f4⟩
      have e0 := f0 (hall 0 (by decide))
      have e1 := f1 (hall 1 (by decide))
      have e2 := f2 (hall 2 (by decide))
      have e3 := f3 (hall 3 (by decide))
      have e4 := f4 (hall 4 (by decide))
      clear f0 f1 f2 f3 f4
      have ht8 := e4
      clear e0 e1 e2 e3
      subst ht8
      replace bbk := bbk.trans (I0.mono bbk.size)
      replace q0 := q0.keep I0 q0.lt
      replace qx := qx.keep I0 qx.lt
      replace rx := rx.up I0
      clear xb0 xb1 xb2 xb3 xc0 xc1 hgl hgb hgx q1 hall I0
      have hgx := qx.lt
      have hgl := q0.lt
      have xa0 : ww.cell? ⟨ga, 0, none⟩ = some (.slice A n c) := q0.cell 0
      have xa1 : ww.cell? ⟨ga, 1, none⟩ = some (.slice R m d) := q0.cell 1
      have xc0 : ww.cell? ⟨gx, 0, none⟩ = some (.slice (some ⟨g1, 0, none⟩) n n) := qx.cell 0
      have xc1 : ww.cell? ⟨gx, 1, none⟩ = some (.slice (some ⟨g2, 0, none⟩) m m) := qx.cell 1
      generalize ww = w9 at *
      go_upto_region 10 with fail
      refine wp_region_inv (by kernel_rfl) (by kernel_rfl) (fun L ac ww => ∃ t28 t29 t30 t31 t32 : Value, ac = { tmps := #[heapV A n c R m d, cmV o, Value.pointer (some { block := ga, off := 0 }), Value.pointer (some { block := ga + 1, off := 0 }), Value.bool false, Value.int IntKind.i64 lz, Value.bool v, Value.pointer (some { block := gx, off := 0 }), Value.bool v, Value.agg #[Value.slice A n c, Value.slice R m d], Value.int IntKind.i64 1048576, Value.int IntKind.i64 lz, Value.int IntKind.i64 lz, Value.bool false, t14, t15, t16, t17, t18, Value.agg #[Value.slice A n c, Value.slice R m d], heapV (some { block := g1, off := 0 }) n n (some { block := g2, off := 0 }) m m, t21, t22, t23, t24, Value.bool v, Value.bool v, Value.bool false, t28, t29, t30, t31, t32], defers := [] } ∧ (Below w9.heap.size w9 ww) ∧ (L 0 = true → t28 = .agg #[.slice (some ⟨g1, 0, none⟩) n n, .slice (some ⟨g2, 0, none⟩) m m]) ∧ (L 1 = true → t29 = .agg #[.slice A n c, .slice R m d]) ∧ (L 2 = true → ∃ u1 u2 : Nat, t30 = .agg #[.slice (some ⟨u1, 0, none⟩) n n, .slice (some ⟨u2, 0, none⟩) m m] ∧ HS ww ww.heap.size (some ⟨u1, 0, none⟩) n (some ⟨u2, 0, none⟩) m h) ∧ (L 3 = true → t31 = .bool true) ∧ (L 4 = true → t32 = .bool false)) ?h0 ?hstep ?hdone
      case h0 => exact ⟨_, _, _, _, _, rfl, (Below.refl _ _).drew, (fun h => absurd h Bool.false_ne_true), (fun h => absurd h Bool.false_ne_true), (fun h => absurd h Bool.false_ne_true), (fun h => absurd h Bool.false_ne_true), (fun h => absurd h Bool.false_ne_true)⟩
      case hstep =>
        rintro L ac ww i o ho hL hd ⟨t28, t29, t30, t31, t32, rfl, I0, f0, f1, f2, f3, f4⟩
        have hi : i < 5 := (Array.getElem?_eq_some_iff.1 ho).1
        obtain rfl | rfl | rfl | rfl | rfl : i = 0 ∨ i = 1 ∨ i = 2 ∨ i = 3 ∨ i = 4 := by omega
        · obtain rfl := Option.some.inj ho
          have y0 : ww.cell? ⟨gx, 0, none⟩ = some (.slice (some ⟨g1, 0, none⟩) n n) := (I0.cell (p := ⟨gx, 0, none⟩) hgx).trans xc0
          have y1 : ww.cell? ⟨gx, 1, none⟩ = some (.slice (some ⟨g2, 0, none⟩) m m) := (I0.cell (p := ⟨gx, 1, none⟩) hgx).trans xc1
          refine wpOp_step rfl (fun K' hK => ?_)
          go_simp
          refine hK _ _ ?_
          exact ⟨_, _, _, _, _, rfl, (I0), (fun _ => rfl), (kp f1), (kp f2), (kp f3), (kp f4)⟩
        · obtain rfl := Option.some.inj ho
          have y0 : ww.cell? ⟨ga, 0, none⟩ = some (.slice A n c) := (I0.cell (p := ⟨ga, 0, none⟩) hgl).trans xa0
          have y1 : ww.cell? ⟨ga, 1, none⟩ = some (.slice R m d) := (I0.cell (p := ⟨ga, 1, none⟩) hgl).trans xa1
          refine wpOp_step rfl (fun K' hK => ?_)
          go_simp
          refine hK _ _ ?_
          exact ⟨_, _, _, _, _, rfl, (I0), (kp f0), (fun _ => rfl), (kp f2), (kp f3), (kp f4)⟩
        · obtain rfl := Option.some.inj ho
          have g1 := f1 (hd ⟨1, .data⟩ (by simp) rfl)
          subst g1
          refine wpOp_step rfl (fun K' hK => ?_)
          go_simp
          refine (toHeap_any _ _ _ _ _ _ h ww (hs.up (bbk.trans (I0.mono bbk.size))) (by omega) (by omega) Z3.out).mono ?_
          rintro e w' ⟨u1, u2, rfl, ⟨rv, ow⟩, b5⟩
          have hr9 := ow.reads
          refine hK _ _ ?_
          exact ⟨_, _, _, _, _, rfl, (I0.trans (b5.mono I0.size)), (kp f0), (kp f1), (fun _ => ⟨u1, u2, rfl, hr9⟩), (kp f3), (kp f4)⟩
        · obtain rfl := Option.some.inj ho
          have g0 := f0 (hd ⟨0, .data⟩ (by simp) rfl)
          have g2 := f2 (hd ⟨2, .data⟩ (by simp) rfl)
          subst g0
          obtain ⟨u1, u2, rfl, hr9⟩ := g2
          refine wpOp_step rfl (fun K' hK => ?_)
          go_simp
          refine (eqHeap_any _ _ _ _ _ _ _ _ _ _ _ _ h h ww (rx.up I0) hr9 (by omega) (by omega) (by omega) (by omega) Z3.out Z3.out).mono ?_
          rw [decide_eq_true rfl]
          rintro e w' ⟨rfl, b5⟩
          refine hK _ _ ?_
          exact ⟨_, _, _, _, _, rfl, (I0.trans (b5.mono I0.size)), (kp f0), (kp f1), (fun _ => ⟨u1, u2, rfl, hr9.up b5⟩), (fun _ => rfl), (kp f4)⟩
        · obtain rfl := Option.some.inj ho
          have g3 := f3 (hd ⟨3, .data⟩ (by simp) rfl)
          subst g3
          refine wpOp_step rfl (fun K' hK => ?_)
          go_simp
          refine hK _ _ ?_
          exact ⟨_, _, _, _, _, rfl, (I0), (kp f0), (kp f1), (kp f2), (kp f3), (fun _ => rfl)⟩
      case hdone =>
        rintro L ac ww hall ⟨t28, t29, t30, t31, t32, rfl, I0, f0, f1, f2, f3, f4⟩
        have e0 := f0 (hall 0 (by decide))
        have e1 := f1 (hall 1 (by decide))
        have e2 := f2 (hall 2 (by decide))
        have e3 := f3 (hall 3 (by decide))
        have e4 := f4 (hall 4 (by decide))
        clear f0 f1 f2 f3 f4
        subst e3 e4
        clear e0 e1 e2
        have bbf := bbk.trans (I0.mono bbk.size)
        go_wp2_with fail
        go_ret
        exact ⟨rfl, bbf⟩
end Go.Proofs.Ytnhgibbcggegmaa
