/- The exact law of FreePlace returns true: for every heap. No conditions. -/
import Derived.Test.YthmddmddcdofaaaKr
import Derived.Test.YthmddmddcdofaaaUr
import Derived.Test.YthmddmddcdofaaaUb
namespace Go.Proofs.Ythmddmddcdofaaa
open Go.RowKit
set_option maxRecDepth 100000 in
set_option maxHeartbeats 4000000 in
theorem exactFreePlace_walk (A R : Option Addr) (n c m d : Nat) (h : Hp) (w : World) (hs : HS w w.heap.size A n R m h) (hn : n ≤ 9223372036854775807) (hm : m ≤ 9223372036854775807) (hb : ∀ cl ∈ h.cs, cl.r.length ≤ 9223372036854775807) :
    Calls Try.prog 4 #[heapV A n c R m d] w fun e w' => e = .returned (.bool true) ∧ Below w.heap.size w w' := by
  have b0 : Below w.heap.size w (w.alloc (.cells #[.slice A n c, .slice R m d] 35)) := (Below.refl _ _).alloc (Nat.le_refl _) _
  have s0 := hs.up b0
  have q0 := Rw.new w 35 #[.slice A n c, .slice R m d]
  have hlc := hs.cells.1
  have hlr := hs.roots.1
  go_enter Try.func4, Try.ntmps4
  go_wp2_with fail
  refine (szHeap_any _ _ _ _ _ _ h _ _ s0 (by omega) (by omega) hn hm hb).mono ?_
  rintro e w1 ⟨rfl, b1⟩
  replace q0 := q0.keep b1 q0.lt
  replace b0 := b0.trans (b1.mono b0.size)
  clear b1 s0
  by_cases hz : sizeH h ≤ 1048576
  case neg =>
    have HL : leftOf 1048576 (sizeH h) = -1 := by rw [leftOf, if_neg (by omega)]
    rw [HL]
    go_wp2_with fail
    go_ret
    exact ⟨rfl, b0⟩
  have HL : leftOf 1048576 (sizeH h) = 1048576 - (sizeH h : Int) := by rw [leftOf, if_pos (by omega)]
  rw [HL]
  obtain ⟨z1, z2, z3⟩ := small_size hz
  rw [hlc] at z1
  rw [hlr] at z2
  have Z3 := Lib.hid (fun cl (hcl : cl ∈ h.cs) => show cl.r.length ≤ 1099511627776 by have := z3 cl hcl; omega)
  obtain ⟨lz, hlz⟩ : ∃ lz : Int, (1048576 : Int) - (sizeH h : Int) = lz := ⟨_, rfl⟩
  have hlz0 : decide (lz < 0) = false := decide_eq_false (by omega)
  rw [hlz]
  have s1 := hs.up b0
  have x0 : w1.cell? ⟨w.heap.size, 0, none⟩ = some (.slice A n c) := q0.cell 0
  have x1 : w1.cell? ⟨w.heap.size, 1, none⟩ = some (.slice R m d) := q0.cell 1
  clear HL hlz hz z3 hb hlc hlr
  go_wp2_with fail
  refine (toHeap_any _ _ _ _ _ _ h _ s1 (by omega) (by omega) Z3.out).mono ?_
  rintro e w2 ⟨g1, g2, rfl, ⟨rvs, own⟩, b2⟩
  have r2 := own.reads
  have q2 := q0.keep b2 q0.lt
  have bb2 := b0.trans (b2.mono b0.size)
  clear own x0 x1 s1 b2
  go_wp2_with fail
  refine (mFreePlace_any _ _ _ _ _ _ h _ r2 (by omega) (by omega)).mono ?_
  obtain ⟨v, hv⟩ : ∃ v, Hps.placeF h = v := ⟨_, rfl⟩
  rw [hv]
  have HV := Lib.hid hv
  clear hv
  rintro e w3 ⟨rfl, b3⟩
  have q3 := q2.keep b3 q2.lt
  have bb3 := bb2.trans (b3.mono bb2.size)
  have s3 := hs.up bb3
  have x0 : w3.cell? ⟨w.heap.size, 0, none⟩ = some (.slice A n c) := q3.cell 0
  have x1 : w3.cell? ⟨w.heap.size, 1, none⟩ = some (.slice R m d) := q3.cell 1
  clear r2 q2 b3 bb2 q0 b0
  go_wp2_with fail
  refine (toHeap_any _ _ _ _ _ _ h _ s3 (by omega) (by omega) Z3.out).mono ?_
  rintro e w4 ⟨g3, g4, rfl, ⟨rvs2, own⟩, b4⟩
  have bA : Below w4.heap.size w4 (w4.alloc (.cells #[.slice (some ⟨g3, 0, none⟩) n n, .slice (some ⟨g4, 0, none⟩) m m] 26)) := (Below.refl _ _).alloc (Nat.le_refl _) _
  have r5 := own.reads.up bA
  have bx5 := Rw.new w4 26 #[.slice (some ⟨g3, 0, none⟩) n n, .slice (some ⟨g4, 0, none⟩) m m]
  have q5 := (q3.keep b4 q3.lt).alloc (.cells #[.slice (some ⟨g3, 0, none⟩) n n, .slice (some ⟨g4, 0, none⟩) m m] 26)
  have bb5 := (bb3.trans (b4.mono bb3.size)).trans (bA.mono (bb3.trans (b4.mono bb3.size)).size)
  clear own x0 x1 s3 b4 q3 bb3 bA
  go_upto_region 7 with fail
  generalize w4.alloc (.cells #[.slice (some ⟨g3, 0, none⟩) n n, .slice (some ⟨g4, 0, none⟩) m m] 26) = w5 at r5 bx5 q5 bb5 ⊢
  generalize w4.heap.size = b at bx5 ⊢
  have x0 : w5.cell? ⟨b, 0, none⟩ = some (.slice (some ⟨g3, 0, none⟩) n n) := bx5.cell 0
  have x1 : w5.cell? ⟨b, 1, none⟩ = some (.slice (some ⟨g4, 0, none⟩) m m) := bx5.cell 1
  go_wp2_with fail
  refine (freePlace_any _ _ _ _ _ _ h _ r5 (by omega) (by omega) (Nat.le_refl _) (Nat.le_refl _)).mono ?_
  rw [HV.out]
  rintro e w6 ⟨rfl, b6⟩
  have r6 := r5.up b6
  have bx6 := bx5.keep b6 bx5.lt
  have q6 := q5.keep b6 q5.lt
  have bb6 := bb5.trans (b6.mono bb5.size)
  clear r5 bx5 q5 bb5 b6 x0 x1
  have hvv : (v != v) = false := by simp
  have hbl := bx6.lt
  have hql := q6.lt
  have x0 : w6.cell? ⟨b, 0, none⟩ = some (.slice (some ⟨g3, 0, none⟩) n n) := bx6.cell 0
  have x1 : w6.cell? ⟨b, 1, none⟩ = some (.slice (some ⟨g4, 0, none⟩) m m) := bx6.cell 1
  have y0 : w6.cell? ⟨w.heap.size, 0, none⟩ = some (.slice A n c) := q6.cell 0
  have y1 : w6.cell? ⟨w.heap.size, 1, none⟩ = some (.slice R m d) := q6.cell 1
  go_upto_region 10 with fail
  refine wp_region_inv (by kernel_rfl) (by kernel_rfl) (fun L ac ww => ∃ t22 t23 t24 t25 t26 : Value, ac = { tmps := #[heapV A n c R m d, Value.pointer (some { block := w.heap.size, off := 0 }), Value.bool false, Value.int IntKind.i64 lz, Value.int IntKind.i64 v, Value.pointer (some { block := b, off := 0 }), Value.int IntKind.i64 v, Value.agg #[Value.slice A n c, Value.slice R m d], Value.int IntKind.i64 1048576, Value.int IntKind.i64 lz, Value.int IntKind.i64 lz, Value.bool false, Value.agg #[Value.slice A n c, Value.slice R m d], heapV (some { block := g1, off := 0 }) n n (some { block := g2, off := 0 }) m m, Value.int IntKind.i64 v, Value.agg #[Value.slice A n c, Value.slice R m d], heapV (some { block := g3, off := 0 }) n n (some { block := g4, off := 0 }) m m, Value.agg #[Value.slice (some { block := g3, off := 0 }) n n, Value.slice (some { block := g4, off := 0 }) m m], Value.int IntKind.i64 v, Value.int IntKind.i64 v, Value.int IntKind.i64 v, Value.bool false, t22, t23, t24, t25, t26], defers := [] } ∧ (Below w6.heap.size w6 ww) ∧ (L 0 = true → t22 = .agg #[.slice (some ⟨g3, 0, none⟩) n n, .slice (some ⟨g4, 0, none⟩) m m]) ∧ (L 1 = true → t23 = .agg #[.slice A n c, .slice R m d]) ∧ (L 2 = true → ∃ u1 u2 : Nat, t24 = .agg #[.slice (some ⟨u1, 0, none⟩) n n, .slice (some ⟨u2, 0, none⟩) m m] ∧ HS ww ww.heap.size (some ⟨u1, 0, none⟩) n (some ⟨u2, 0, none⟩) m h) ∧ (L 3 = true → t25 = .bool true) ∧ (L 4 = true → t26 = .bool false)) ?h0 ?hstep ?hdone
  case h0 => exact ⟨_, _, _, _, _, rfl, (Below.refl _ _).drew, (fun h => absurd h Bool.false_ne_true), (fun h => absurd h Bool.false_ne_true), (fun h => absurd h Bool.false_ne_true), (fun h => absurd h Bool.false_ne_true), (fun h => absurd h Bool.false_ne_true)⟩
  case hstep =>
    rintro L ac ww i o ho hL hd ⟨t22, t23, t24, t25, t26, rfl, I0, f0, f1, f2, f3, f4⟩
    have hi : i < 5 := (Array.getElem?_eq_some_iff.1 ho).1
    obtain rfl | rfl | rfl | rfl | rfl : i = 0 ∨ i = 1 ∨ i = 2 ∨ i = 3 ∨ i = 4 := by omega
    · obtain rfl := Option.some.inj ho
      have y0 : ww.cell? ⟨b, 0, none⟩ = some (.slice (some ⟨g3, 0, none⟩) n n) := (I0.cell (p := ⟨b, 0, none⟩) hbl).trans x0
      have y1 : ww.cell? ⟨b, 1, none⟩ = some (.slice (some ⟨g4, 0, none⟩) m m) := (I0.cell (p := ⟨b, 1, none⟩) hbl).trans x1
      refine wpOp_step rfl (fun K' hK => ?_)
      go_simp
      refine hK _ _ ?_
      exact ⟨_, _, _, _, _, rfl, (I0), (fun _ => rfl), (kp f1), (kp f2), (kp f3), (kp f4)⟩
    · obtain rfl := Option.some.inj ho
      have z0 : ww.cell? ⟨w.heap.size, 0, none⟩ = some (.slice A n c) := (I0.cell (p := ⟨w.heap.size, 0, none⟩) hql).trans y0
      have z1 : ww.cell? ⟨w.heap.size, 1, none⟩ = some (.slice R m d) := (I0.cell (p := ⟨w.heap.size, 1, none⟩) hql).trans y1
      refine wpOp_step rfl (fun K' hK => ?_)
      go_simp
      refine hK _ _ ?_
      exact ⟨_, _, _, _, _, rfl, (I0), (kp f0), (fun _ => rfl), (kp f2), (kp f3), (kp f4)⟩
    · obtain rfl := Option.some.inj ho
      have g1 := f1 (hd ⟨1, .data⟩ (by simp) rfl)
      subst g1
      refine wpOp_step rfl (fun K' hK => ?_)
      go_simp
      refine (toHeap_any _ _ _ _ _ _ h ww (hs.up (bb6.trans (I0.mono bb6.size))) (by omega) (by omega) Z3.out).mono ?_
      rintro e w' ⟨u1, u2, rfl, ⟨rv, ow⟩, b5⟩
      have hr9 := ow.reads
      refine hK _ _ ?_
      exact ⟨_, _, _, _, _, rfl, (I0.trans (b5.mono I0.size)), (kp f0), (kp f1), (fun _ => ⟨u1, u2, rfl, hr9⟩), (kp f3), (kp f4)⟩
    · obtain rfl := Option.some.inj ho
      have g0 := f0 (hd ⟨0, .data⟩ (by simp) rfl)
      have g2 := f2 (hd ⟨2, .data⟩ (by simp) rfl)
      subst g0
      obtain ⟨u1, u2, rfl, hr9⟩ := g2
      refine wpOp_step rfl (fun K' hK => ?_)
      go_simp
      refine (eqHeap_any _ _ _ _ _ _ _ _ _ _ _ _ h h ww (r6.up I0) hr9 (by omega) (by omega) (by omega) (by omega) Z3.out Z3.out).mono ?_
      rw [decide_eq_true rfl]
      rintro e w' ⟨rfl, b5⟩
      refine hK _ _ ?_
      exact ⟨_, _, _, _, _, rfl, (I0.trans (b5.mono I0.size)), (kp f0), (kp f1), (fun _ => ⟨u1, u2, rfl, hr9.up b5⟩), (fun _ => rfl), (kp f4)⟩
    · obtain rfl := Option.some.inj ho
      have g3 := f3 (hd ⟨3, .data⟩ (by simp) rfl)
      subst g3
      refine wpOp_step rfl (fun K' hK => ?_)
      go_simp
      refine hK _ _ ?_
      exact ⟨_, _, _, _, _, rfl, (I0), (kp f0), (kp f1), (kp f2), (kp f3), (fun _ => rfl)⟩
  case hdone =>
    rintro L ac ww hall ⟨t22, t23, t24, t25, t26, rfl, I0, f0, f1, f2, f3, f4⟩
    have e0 := f0 (hall 0 (by decide))
    have e1 := f1 (hall 1 (by decide))
    have e2 := f2 (hall 2 (by decide))
    have e3 := f3 (hall 3 (by decide))
    have e4 := f4 (hall 4 (by decide))
    clear f0 f1 f2 f3 f4
    subst e3 e4
    clear e0 e1 e2
    have bbf := bb6.trans (I0.mono bb6.size)
    go_wp2_with fail
    go_ret
    exact ⟨rfl, bbf⟩

end Go.Proofs.Ythmddmddcdofaaa
