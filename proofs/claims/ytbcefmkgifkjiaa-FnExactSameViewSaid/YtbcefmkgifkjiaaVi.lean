/- The exact law of SameView returns true: for all heaps. No conditions. -/
import Derived.Test.YtbcefmkgifkjiaaKr
import Derived.Test.YtbcefmkgifkjiaaVs
import Derived.Deep.Cut
namespace Go.Proofs.Ytbcefmkgifkjiaa
open Go.RowKit
set_option maxRecDepth 100000

set_option maxHeartbeats 8000000 in
theorem exactSameView_walk (A R B T : Option Addr) (n c m d p e q f : Nat) (h k : Hp) (w : World) (hs : HS w w.heap.size A n R m h) (ks : HS w w.heap.size B p T q k) (hn : n ≤ 9223372036854775807) (hm : m ≤ 9223372036854775807) (hb : ∀ cl ∈ h.cs, cl.r.length ≤ 9223372036854775807)
    (hp : p ≤ 9223372036854775807) (hq : q ≤ 9223372036854775807) (kb : ∀ cl ∈ k.cs, cl.r.length ≤ 9223372036854775807) :
    Calls Try.prog 8 #[heapV A n c R m d, heapV B p e T q f] w fun x w' => x = .returned (.bool true) ∧ Below w.heap.size w w' := by
  have b0 : Below w.heap.size w ((w.alloc (.cells #[.slice A n c, .slice R m d] 52)).alloc (.cells #[.slice B p e, .slice T q f] 52)) := ((Below.refl _ _).alloc (Nat.le_refl _) _).alloc (by simp) _
  have q0 := (Rw.new w 52 #[.slice A n c, .slice R m d]).alloc (.cells #[.slice B p e, .slice T q f] 52)
  have q1 := Rw.new (w.alloc (.cells #[.slice A n c, .slice R m d] 52)) 52 #[.slice B p e, .slice T q f]
  rw [World.size_alloc] at q1
  have s0 := hs.up b0
  have hlc := hs.cells.1
  have hlr := hs.roots.1
  have klc := ks.cells.1
  have klr := ks.roots.1
  go_enter Try.func8, Try.ntmps8
  go_wp2_with fail
  refine (szHeap_any _ _ _ _ _ _ h _ _ s0 (by omega) (by omega) hn hm hb).mono ?_
  rintro _ w1 ⟨rfl, b1⟩
  replace q0 := q0.keep b1 q0.lt
  replace q1 := q1.keep b1 q1.lt
  replace b0 := b0.trans (b1.mono b0.size)
  clear b1 s0
  by_cases hz : (sizeH h : Int) ≤ 1048576
  case neg =>
    have HLn : leftOf 1048576 (sizeH h) = -1 := by rw [leftOf, if_neg (by omega)]
    rw [HLn]
    go_wp2_with fail
    go_ret
    exact ⟨rfl, b0⟩
  have HLn : leftOf 1048576 (sizeH h) = 1048576 - (sizeH h : Int) := by rw [leftOf, if_pos hz]
  rw [HLn]
  obtain ⟨z1, z2, z3⟩ := small_size (show sizeH h ≤ 1048576 by omega)
  rw [hlc] at z1
  rw [hlr] at z2
  have Z3 := Lib.hid (fun cl (hcl : cl ∈ h.cs) => show cl.r.length ≤ 1099511627776 by have := z3 cl hcl; omega)
  obtain ⟨lz, hlz⟩ : ∃ lz : Int, (1048576 : Int) - (sizeH h : Int) = lz := ⟨_, rfl⟩
  have hlz0 : decide (lz < 0) = false := decide_eq_false (by omega)
  have hlz1 : 0 ≤ lz ∧ lz ≤ 1048576 := by omega
  rw [hlz]
  have s1 := ks.up b0
  have x0 : w1.cell? ⟨w.heap.size, 0, none⟩ = some (.slice A n c) := q0.cell 0
  have x1 : w1.cell? ⟨w.heap.size, 1, none⟩ = some (.slice R m d) := q0.cell 1
  have y0 : w1.cell? ⟨w.heap.size + 1, 0, none⟩ = some (.slice B p e) := q1.cell 0
  have y1 : w1.cell? ⟨w.heap.size + 1, 1, none⟩ = some (.slice T q f) := q1.cell 1
  clear HLn hlz hz z3 hb hlc hlr
  go_wp2_with fail
  refine (szHeap_any _ _ _ _ _ _ k _ _ s1 (by omega) (by omega) hp hq kb).mono ?_
  rintro _ w2 ⟨rfl, b1⟩
  replace q0 := q0.keep b1 q0.lt
  replace q1 := q1.keep b1 q1.lt
  replace b0 := b0.trans (b1.mono b0.size)
  clear b1 s1 x0 x1 y0 y1
  by_cases hz : (sizeH k : Int) ≤ lz
  case neg =>
    have HLn : leftOf lz (sizeH k) = -1 := by rw [leftOf, if_neg (by omega)]
    rw [HLn]
    go_wp2_with fail
    go_ret
    exact ⟨rfl, b0⟩
  have HLn : leftOf lz (sizeH k) = lz - (sizeH k : Int) := by rw [leftOf, if_pos hz]
  rw [HLn]
  obtain ⟨k1, k2, k3⟩ := small_size (show sizeH k ≤ 1048576 by omega)
  rw [klc] at k1
  rw [klr] at k2
  have K3 := Lib.hid (fun cl (hcl : cl ∈ k.cs) => show cl.r.length ≤ 1099511627776 by have := k3 cl hcl; omega)
  obtain ⟨ly, hly⟩ : ∃ ly : Int, lz - (sizeH k : Int) = ly := ⟨_, rfl⟩
  have hly0 : decide (ly < 0) = false := decide_eq_false (by omega)
  rw [hly]
  have x0 : w2.cell? ⟨w.heap.size, 0, none⟩ = some (.slice A n c) := q0.cell 0
  have x1 : w2.cell? ⟨w.heap.size, 1, none⟩ = some (.slice R m d) := q0.cell 1
  have y0 : w2.cell? ⟨w.heap.size + 1, 0, none⟩ = some (.slice B p e) := q1.cell 0
  have y1 : w2.cell? ⟨w.heap.size + 1, 1, none⟩ = some (.slice T q f) := q1.cell 1
  clear HLn hly hz k3 kb klc klr
  obtain ⟨v, hv⟩ : ∃ v, Hps.sameV h k = v := ⟨_, rfl⟩
  have HV := Lib.hid hv
  have hq0 := q0.lt
  have hq1 := q1.lt
  clear hv
  go_upto_region 8 with fail
  refine wp_region_inv (by kernel_rfl) (by kernel_rfl) (fun L ac ww => ∃ t6 t20 t21 t22 t23 t24 : Value, ac = { tmps := #[heapV A n c R m d, heapV B p e T q f, Value.pointer (some { block := w.heap.size, off := 0 }), Value.pointer (some { block := w.heap.size + 1, off := 0 }), Value.bool false, Value.int IntKind.i64 ly, t6, undef, undef, undef, Value.agg #[Value.slice A n c, Value.slice R m d], Value.int IntKind.i64 1048576, Value.int IntKind.i64 lz, Value.int IntKind.i64 lz, Value.bool false, Value.agg #[Value.slice B p e, Value.slice T q f], Value.int IntKind.i64 lz, Value.int IntKind.i64 ly, Value.int IntKind.i64 ly, Value.bool false, t20, t21, t22, t23, t24, undef, undef, undef, undef, undef, undef, undef, undef, undef, undef, undef, undef, undef, undef, undef, undef, undef, undef, undef, undef], defers := [] } ∧ (Below w2.heap.size w2 ww) ∧ (L 0 = true → t20 = .agg #[.slice A n c, .slice R m d]) ∧ (L 1 = true → ∃ u1 u2 : Nat, t21 = .agg #[.slice (some ⟨u1, 0, none⟩) n n, .slice (some ⟨u2, 0, none⟩) m m] ∧ HS ww ww.heap.size (some ⟨u1, 0, none⟩) n (some ⟨u2, 0, none⟩) m h) ∧ (L 2 = true → t22 = .agg #[.slice B p e, .slice T q f]) ∧ (L 3 = true → ∃ u1 u2 : Nat, t23 = .agg #[.slice (some ⟨u1, 0, none⟩) p p, .slice (some ⟨u2, 0, none⟩) q q] ∧ HS ww ww.heap.size (some ⟨u1, 0, none⟩) p (some ⟨u2, 0, none⟩) q k) ∧ (L 4 = true → t24 = .bool v) ∧ (L 5 = true → t6 = .bool v)) ?h0 ?hstep ?hdone
  case h0 => exact ⟨_, _, _, _, _, _, rfl, (Below.refl _ _).drew, (fun h => absurd h Bool.false_ne_true), (fun h => absurd h Bool.false_ne_true), (fun h => absurd h Bool.false_ne_true), (fun h => absurd h Bool.false_ne_true), (fun h => absurd h Bool.false_ne_true), (fun h => absurd h Bool.false_ne_true)⟩
  case hstep =>
    rintro L ac ww i o ho hL hd ⟨t6, t20, t21, t22, t23, t24, rfl, I0, f0, f1, f2, f3, f4, f5⟩
    have hi : i < 6 := (Array.getElem?_eq_some_iff.1 ho).1
    obtain rfl | rfl | rfl | rfl | rfl | rfl : i = 0 ∨ i = 1 ∨ i = 2 ∨ i = 3 ∨ i = 4 ∨ i = 5 := by omega
    · obtain rfl := Option.some.inj ho
      have z0 : ww.cell? ⟨w.heap.size, 0, none⟩ = some (.slice A n c) := (I0.cell (p := ⟨w.heap.size, 0, none⟩) hq0).trans x0
      have z1 : ww.cell? ⟨w.heap.size, 1, none⟩ = some (.slice R m d) := (I0.cell (p := ⟨w.heap.size, 1, none⟩) hq0).trans x1
      refine wpOp_step rfl (fun K' hK => ?_)
      go_simp
      refine hK _ _ ?_
      exact ⟨_, _, _, _, _, _, rfl, (I0), (fun _ => rfl), (fun h => f1 (upd_ne h (by decide))), (fun h => f2 (upd_ne h (by decide))), (fun h => f3 (upd_ne h (by decide))), (fun h => f4 (upd_ne h (by decide))), (fun h => f5 (upd_ne h (by decide)))⟩
    · obtain rfl := Option.some.inj ho
      have g0 := f0 (hd ⟨0, .data⟩ (by simp) rfl)
      subst g0
      refine wpOp_step rfl (fun K' hK => ?_)
      go_simp
      refine (toHeap_any _ _ _ _ _ _ h ww (hs.up (b0.trans (I0.mono b0.size))) (by omega) (by omega) Z3.out).mono ?_
      rintro _ w' ⟨u1, u2, rfl, ⟨rv, ow⟩, b5⟩
      have hr9 := ow.reads
      refine hK _ _ ?_
      exact ⟨_, _, _, _, _, _, rfl, (I0.trans (b5.mono I0.size)), (fun h => f0 (upd_ne h (by decide))), (fun _ => ⟨u1, u2, rfl, hr9⟩), (fun h => f2 (upd_ne h (by decide))), (fun h => by
        obtain ⟨u3, u4, e3, hr3⟩ := f3 (upd_ne h (by decide))
        exact ⟨u3, u4, e3, hr3.up b5⟩), (fun h => f4 (upd_ne h (by decide))), (fun h => f5 (upd_ne h (by decide)))⟩
    · obtain rfl := Option.some.inj ho
      have z0 : ww.cell? ⟨w.heap.size + 1, 0, none⟩ = some (.slice B p e) := (I0.cell (p := ⟨w.heap.size + 1, 0, none⟩) hq1).trans y0
      have z1 : ww.cell? ⟨w.heap.size + 1, 1, none⟩ = some (.slice T q f) := (I0.cell (p := ⟨w.heap.size + 1, 1, none⟩) hq1).trans y1
      refine wpOp_step rfl (fun K' hK => ?_)
      go_simp
      refine hK _ _ ?_
      exact ⟨_, _, _, _, _, _, rfl, (I0), (fun h => f0 (upd_ne h (by decide))), (fun h => f1 (upd_ne h (by decide))), (fun _ => rfl), (fun h => f3 (upd_ne h (by decide))), (fun h => f4 (upd_ne h (by decide))), (fun h => f5 (upd_ne h (by decide)))⟩
    · obtain rfl := Option.some.inj ho
      have g2 := f2 (hd ⟨2, .data⟩ (by simp) rfl)
      subst g2
      refine wpOp_step rfl (fun K' hK => ?_)
      go_simp
      refine (toHeap_any _ _ _ _ _ _ k ww (ks.up (b0.trans (I0.mono b0.size))) (by omega) (by omega) K3.out).mono ?_
      rintro _ w' ⟨u1, u2, rfl, ⟨rv, ow⟩, b5⟩
      have hr9 := ow.reads
      refine hK _ _ ?_
      exact ⟨_, _, _, _, _, _, rfl, (I0.trans (b5.mono I0.size)), (fun h => f0 (upd_ne h (by decide))), (fun h => by
        obtain ⟨u3, u4, e3, hr3⟩ := f1 (upd_ne h (by decide))
        exact ⟨u3, u4, e3, hr3.up b5⟩), (fun h => f2 (upd_ne h (by decide))), (fun _ => ⟨u1, u2, rfl, hr9⟩), (fun h => f4 (upd_ne h (by decide))), (fun h => f5 (upd_ne h (by decide)))⟩
    · obtain rfl := Option.some.inj ho
      have g1 := f1 (hd ⟨1, .data⟩ (by simp) rfl)
      have g3 := f3 (hd ⟨3, .data⟩ (by simp) rfl)
      obtain ⟨u1, u2, rfl, hr1⟩ := g1
      obtain ⟨u3, u4, rfl, hr3⟩ := g3
      refine wpOp_step rfl (fun K' hK => ?_)
      go_simp
      refine (mSameView_any _ _ _ _ _ _ _ _ _ _ _ _ h k ww hr1 hr3 (by omega) (by omega) (by omega) (by omega)).mono ?_
      rw [HV.out]
      rintro _ w' ⟨rfl, b5⟩
      refine hK _ _ ?_
      exact ⟨_, _, _, _, _, _, rfl, (I0.trans (b5.mono I0.size)), (fun h => f0 (upd_ne h (by decide))), (fun _ => ⟨u1, u2, rfl, hr1.up b5⟩), (fun h => f2 (upd_ne h (by decide))), (fun _ => ⟨u3, u4, rfl, hr3.up b5⟩), (fun _ => rfl), (fun h => f5 (upd_ne h (by decide)))⟩
    · obtain rfl := Option.some.inj ho
      have g4 := f4 (hd ⟨4, .data⟩ (by simp) rfl)
      subst g4
      refine wpOp_step rfl (fun K' hK => ?_)
      go_simp
      refine hK _ _ ?_
      exact ⟨_, _, _, _, _, _, rfl, (I0), (fun h => f0 (upd_ne h (by decide))), (fun h => f1 (upd_ne h (by decide))), (fun h => f2 (upd_ne h (by decide))), (fun h => f3 (upd_ne h (by decide))), (fun h => f4 (upd_ne h (by decide))), (fun _ => rfl)⟩
  case hdone =>
    rintro L ac ww hall ⟨t6, t20, t21, t22, t23, t24, rfl, I0, f0, f1, f2, f3, f4, f5⟩
    have e0 := f0 (hall 0 (by decide))
    have e1 := f1 (hall 1 (by decide))
    have e2 := f2 (hall 2 (by decide))
    have e3 := f3 (hall 3 (by decide))
    have e4 := f4 (hall 4 (by decide))
    have e5 := f5 (hall 5 (by decide))
    clear f0 f1 f2 f3 f4 f5
    subst e4 e5
    replace q0 := q0.keep I0 q0.lt
    replace q1 := q1.keep I0 q1.lt
    replace b0 := b0.trans (I0.mono b0.size)
    clear e0 e1 e2 e3 hall x0 x1 y0 y1 I0
    generalize ww = w3 at q0 q1 b0 ⊢
    have x0 : w3.cell? ⟨w.heap.size, 0, none⟩ = some (.slice A n c) := q0.cell 0
    have x1 : w3.cell? ⟨w.heap.size, 1, none⟩ = some (.slice R m d) := q0.cell 1
    have y0 : w3.cell? ⟨w.heap.size + 1, 0, none⟩ = some (.slice B p e) := q1.cell 0
    have y1 : w3.cell? ⟨w.heap.size + 1, 1, none⟩ = some (.slice T q f) := q1.cell 1
    have s3 := hs.up b0
    go_wp2_with fail
    refine (toHeap_any _ _ _ _ _ _ h _ s3 (by omega) (by omega) Z3.out).mono ?_
    rintro _ w4 ⟨g1, g2, rfl, ⟨rvs, own⟩, b4⟩
    have bA : Below w4.heap.size w4 (w4.alloc (.cells #[.slice (some ⟨g1, 0, none⟩) n n, .slice (some ⟨g2, 0, none⟩) m m] 26)) := (Below.refl _ _).alloc (Nat.le_refl _) _
    have r5 := own.reads.up bA
    have bx := Rw.new w4 26 #[.slice (some ⟨g1, 0, none⟩) n n, .slice (some ⟨g2, 0, none⟩) m m]
    replace q0 := (q0.keep b4 q0.lt).alloc (.cells #[.slice (some ⟨g1, 0, none⟩) n n, .slice (some ⟨g2, 0, none⟩) m m] 26)
    replace q1 := (q1.keep b4 q1.lt).alloc (.cells #[.slice (some ⟨g1, 0, none⟩) n n, .slice (some ⟨g2, 0, none⟩) m m] 26)
    replace b0 := (b0.trans (b4.mono b0.size)).trans (bA.mono (b0.trans (b4.mono b0.size)).size)
    clear own s3 b4 bA x0 x1 y0 y1
    go_upto_region 10 with fail
    generalize w4.alloc (.cells #[.slice (some ⟨g1, 0, none⟩) n n, .slice (some ⟨g2, 0, none⟩) m m] 26) = w5 at r5 bx q0 q1 b0 ⊢
    generalize w4.heap.size = ba at bx ⊢
    have x0 : w5.cell? ⟨w.heap.size, 0, none⟩ = some (.slice A n c) := q0.cell 0
    have x1 : w5.cell? ⟨w.heap.size, 1, none⟩ = some (.slice R m d) := q0.cell 1
    have y0 : w5.cell? ⟨w.heap.size + 1, 0, none⟩ = some (.slice B p e) := q1.cell 0
    have y1 : w5.cell? ⟨w.heap.size + 1, 1, none⟩ = some (.slice T q f) := q1.cell 1
    have s5 := ks.up b0
    go_wp2_with fail
    refine (toHeap_any _ _ _ _ _ _ k _ s5 (by omega) (by omega) K3.out).mono ?_
    rintro _ w6 ⟨g3, g4, rfl, ⟨rvs2, own⟩, b4⟩
    have bA : Below w6.heap.size w6 (w6.alloc (.cells #[.slice (some ⟨g3, 0, none⟩) p p, .slice (some ⟨g4, 0, none⟩) q q] 26)) := (Below.refl _ _).alloc (Nat.le_refl _) _
    have r7 := own.reads.up bA
    have by_ := Rw.new w6 26 #[.slice (some ⟨g3, 0, none⟩) p p, .slice (some ⟨g4, 0, none⟩) q q]
    replace r5 := (r5.up b4).up bA
    replace bx := (bx.keep b4 bx.lt).alloc (.cells #[.slice (some ⟨g3, 0, none⟩) p p, .slice (some ⟨g4, 0, none⟩) q q] 26)
    replace q0 := (q0.keep b4 q0.lt).alloc (.cells #[.slice (some ⟨g3, 0, none⟩) p p, .slice (some ⟨g4, 0, none⟩) q q] 26)
    replace q1 := (q1.keep b4 q1.lt).alloc (.cells #[.slice (some ⟨g3, 0, none⟩) p p, .slice (some ⟨g4, 0, none⟩) q q] 26)
    replace b0 := (b0.trans (b4.mono b0.size)).trans (bA.mono (b0.trans (b4.mono b0.size)).size)
    clear own s5 b4 bA x0 x1 y0 y1
    go_upto_region 11 with fail
    generalize w6.alloc (.cells #[.slice (some ⟨g3, 0, none⟩) p p, .slice (some ⟨g4, 0, none⟩) q q] 26) = w7 at r5 r7 bx by_ q0 q1 b0 ⊢
    generalize w6.heap.size = bb at by_ ⊢
    have x0 : w7.cell? ⟨ba, 0, none⟩ = some (.slice (some ⟨g1, 0, none⟩) n n) := bx.cell 0
    have x1 : w7.cell? ⟨ba, 1, none⟩ = some (.slice (some ⟨g2, 0, none⟩) m m) := bx.cell 1
    have y0 : w7.cell? ⟨bb, 0, none⟩ = some (.slice (some ⟨g3, 0, none⟩) p p) := by_.cell 0
    have y1 : w7.cell? ⟨bb, 1, none⟩ = some (.slice (some ⟨g4, 0, none⟩) q q) := by_.cell 1
    go_wp2_with fail
    refine (sameView_any _ _ _ _ _ _ _ _ _ _ _ _ h k _ r5 r7 (by omega) (by omega) (Nat.le_refl _) (Nat.le_refl _) (by omega) (by omega) (Nat.le_refl _) (Nat.le_refl _)).mono ?_
    rw [HV.out]
    rintro _ w8 ⟨rfl, b4⟩
    replace r5 := r5.up b4
    replace r7 := r7.up b4
    replace bx := bx.keep b4 bx.lt
    replace by_ := by_.keep b4 by_.lt
    replace q0 := q0.keep b4 q0.lt
    replace q1 := q1.keep b4 q1.lt
    replace b0 := b0.trans (b4.mono b0.size)
    have hvv : (v != v) = false := by cases v <;> rfl
    clear b4 x0 x1 y0 y1
    have hq0 := q0.lt
    have hq1 := q1.lt
    have hba := bx.lt
    have hbb := by_.lt
    have x0 : w8.cell? ⟨w.heap.size, 0, none⟩ = some (.slice A n c) := q0.cell 0
    have x1 : w8.cell? ⟨w.heap.size, 1, none⟩ = some (.slice R m d) := q0.cell 1
    have y0 : w8.cell? ⟨w.heap.size + 1, 0, none⟩ = some (.slice B p e) := q1.cell 0
    have y1 : w8.cell? ⟨w.heap.size + 1, 1, none⟩ = some (.slice T q f) := q1.cell 1
    have u0 : w8.cell? ⟨ba, 0, none⟩ = some (.slice (some ⟨g1, 0, none⟩) n n) := bx.cell 0
    have u1 : w8.cell? ⟨ba, 1, none⟩ = some (.slice (some ⟨g2, 0, none⟩) m m) := bx.cell 1
    have v0 : w8.cell? ⟨bb, 0, none⟩ = some (.slice (some ⟨g3, 0, none⟩) p p) := by_.cell 0
    have v1 : w8.cell? ⟨bb, 1, none⟩ = some (.slice (some ⟨g4, 0, none⟩) q q) := by_.cell 1
    go_upto_region 14 with fail
    refine wp_region_inv (by kernel_rfl) (by kernel_rfl) (fun L ac ww => ∃ t35 t36 t37 t38 t39 : Value, ac = { tmps := #[heapV A n c R m d, heapV B p e T q f, Value.pointer (some { block := w.heap.size, off := 0 }), Value.pointer (some { block := w.heap.size + 1, off := 0 }), Value.bool false, Value.int IntKind.i64 ly, Value.bool v, Value.pointer (some { block := ba, off := 0 }), Value.pointer (some { block := bb, off := 0 }), Value.bool v, Value.agg #[Value.slice A n c, Value.slice R m d], Value.int IntKind.i64 1048576, Value.int IntKind.i64 lz, Value.int IntKind.i64 lz, Value.bool false, Value.agg #[Value.slice B p e, Value.slice T q f], Value.int IntKind.i64 lz, Value.int IntKind.i64 ly, Value.int IntKind.i64 ly, Value.bool false, t20, t21, t22, t23, Value.bool v, Value.agg #[Value.slice A n c, Value.slice R m d], heapV (some { block := g1, off := 0 }) n n (some { block := g2, off := 0 }) m m, Value.agg #[Value.slice B p e, Value.slice T q f], heapV (some { block := g3, off := 0 }) p p (some { block := g4, off := 0 }) q q, Value.agg #[Value.slice (some { block := g1, off := 0 }) n n, Value.slice (some { block := g2, off := 0 }) m m], Value.agg #[Value.slice (some { block := g3, off := 0 }) p p, Value.slice (some { block := g4, off := 0 }) q q], Value.bool v, Value.bool v, Value.bool v, Value.bool false, t35, t36, t37, t38, t39, undef, undef, undef, undef, undef], defers := [] } ∧ (Below w8.heap.size w8 ww) ∧ (L 0 = true → t35 = .agg #[.slice (some ⟨g1, 0, none⟩) n n, .slice (some ⟨g2, 0, none⟩) m m]) ∧ (L 1 = true → t36 = .agg #[.slice A n c, .slice R m d]) ∧ (L 2 = true → ∃ u1 u2 : Nat, t37 = .agg #[.slice (some ⟨u1, 0, none⟩) n n, .slice (some ⟨u2, 0, none⟩) m m] ∧ HS ww ww.heap.size (some ⟨u1, 0, none⟩) n (some ⟨u2, 0, none⟩) m h) ∧ (L 3 = true → t38 = .bool true) ∧ (L 4 = true → t39 = .bool false)) ?h0 ?hstep ?hdone
    case h0 => exact ⟨_, _, _, _, _, rfl, (Below.refl _ _).drew, (fun h => absurd h Bool.false_ne_true), (fun h => absurd h Bool.false_ne_true), (fun h => absurd h Bool.false_ne_true), (fun h => absurd h Bool.false_ne_true), (fun h => absurd h Bool.false_ne_true)⟩
    case hstep =>
      rintro L ac ww i o ho hL hd ⟨t35, t36, t37, t38, t39, rfl, I0, f0, f1, f2, f3, f4⟩
      have hi : i < 5 := (Array.getElem?_eq_some_iff.1 ho).1
      obtain rfl | rfl | rfl | rfl | rfl : i = 0 ∨ i = 1 ∨ i = 2 ∨ i = 3 ∨ i = 4 := by omega
      · obtain rfl := Option.some.inj ho
        have z0 : ww.cell? ⟨ba, 0, none⟩ = some (.slice (some ⟨g1, 0, none⟩) n n) := (I0.cell (p := ⟨ba, 0, none⟩) hba).trans u0
        have z1 : ww.cell? ⟨ba, 1, none⟩ = some (.slice (some ⟨g2, 0, none⟩) m m) := (I0.cell (p := ⟨ba, 1, none⟩) hba).trans u1
        refine wpOp_step rfl (fun K' hK => ?_)
        go_simp
        refine hK _ _ ?_
        exact ⟨_, _, _, _, _, rfl, (I0), (fun _ => rfl), (fun h => f1 (upd_ne h (by decide))), (fun h => f2 (upd_ne h (by decide))), (fun h => f3 (upd_ne h (by decide))), (fun h => f4 (upd_ne h (by decide)))⟩
      · obtain rfl := Option.some.inj ho
        have z0 : ww.cell? ⟨w.heap.size, 0, none⟩ = some (.slice A n c) := (I0.cell (p := ⟨w.heap.size, 0, none⟩) hq0).trans x0
        have z1 : ww.cell? ⟨w.heap.size, 1, none⟩ = some (.slice R m d) := (I0.cell (p := ⟨w.heap.size, 1, none⟩) hq0).trans x1
        refine wpOp_step rfl (fun K' hK => ?_)
        go_simp
        refine hK _ _ ?_
        exact ⟨_, _, _, _, _, rfl, (I0), (fun h => f0 (upd_ne h (by decide))), (fun _ => rfl), (fun h => f2 (upd_ne h (by decide))), (fun h => f3 (upd_ne h (by decide))), (fun h => f4 (upd_ne h (by decide)))⟩
      · obtain rfl := Option.some.inj ho
        have g1 := f1 (hd ⟨1, .data⟩ (by simp) rfl)
        subst g1
        refine wpOp_step rfl (fun K' hK => ?_)
        go_simp
        refine (toHeap_any _ _ _ _ _ _ h ww (hs.up (b0.trans (I0.mono b0.size))) (by omega) (by omega) Z3.out).mono ?_
        rintro _ w' ⟨u1, u2, rfl, ⟨rv, ow⟩, b5⟩
        have hr9 := ow.reads
        refine hK _ _ ?_
        exact ⟨_, _, _, _, _, rfl, (I0.trans (b5.mono I0.size)), (fun h => f0 (upd_ne h (by decide))), (fun h => f1 (upd_ne h (by decide))), (fun _ => ⟨u1, u2, rfl, hr9⟩), (fun h => f3 (upd_ne h (by decide))), (fun h => f4 (upd_ne h (by decide)))⟩
      · obtain rfl := Option.some.inj ho
        have g0 := f0 (hd ⟨0, .data⟩ (by simp) rfl)
        have g2 := f2 (hd ⟨2, .data⟩ (by simp) rfl)
        subst g0
        obtain ⟨u5, u6, rfl, hr9⟩ := g2
        refine wpOp_step rfl (fun K' hK => ?_)
        go_simp
        refine (eqHeap_any _ _ _ _ _ _ _ _ _ _ _ _ h h ww (r5.up I0) hr9 (by omega) (by omega) (by omega) (by omega) Z3.out Z3.out).mono ?_
        rw [decide_eq_true rfl]
        rintro _ w' ⟨rfl, b5⟩
        refine hK _ _ ?_
        exact ⟨_, _, _, _, _, rfl, (I0.trans (b5.mono I0.size)), (fun h => f0 (upd_ne h (by decide))), (fun h => f1 (upd_ne h (by decide))), (fun _ => ⟨u5, u6, rfl, hr9.up b5⟩), (fun _ => rfl), (fun h => f4 (upd_ne h (by decide)))⟩
      · obtain rfl := Option.some.inj ho
        have g3 := f3 (hd ⟨3, .data⟩ (by simp) rfl)
        subst g3
        refine wpOp_step rfl (fun K' hK => ?_)
        go_simp
        refine hK _ _ ?_
        exact ⟨_, _, _, _, _, rfl, (I0), (fun h => f0 (upd_ne h (by decide))), (fun h => f1 (upd_ne h (by decide))), (fun h => f2 (upd_ne h (by decide))), (fun h => f3 (upd_ne h (by decide))), (fun _ => rfl)⟩
    case hdone =>
      rintro L ac ww hall ⟨t35, t36, t37, t38, t39, rfl, I0, f0, f1, f2, f3, f4⟩
      have e0 := f0 (hall 0 (by decide))
      have e1 := f1 (hall 1 (by decide))
      have e2 := f2 (hall 2 (by decide))
      have e3 := f3 (hall 3 (by decide))
      have e4 := f4 (hall 4 (by decide))
      clear f0 f1 f2 f3 f4
      subst e3 e4
      replace r7 := r7.up I0
      replace by_ := by_.keep I0 by_.lt
      replace q1 := q1.keep I0 q1.lt
      replace b0 := b0.trans (I0.mono b0.size)
      clear e0 e1 e2 hall x0 x1 y0 y1 u0 u1 v0 v1 I0 r5 bx q0 hq0 hq1 hba hbb
      generalize ww = w9 at r7 by_ q1 b0 ⊢
      have hq1 := q1.lt
      have hbb := by_.lt
      have y0 : w9.cell? ⟨w.heap.size + 1, 0, none⟩ = some (.slice B p e) := q1.cell 0
      have y1 : w9.cell? ⟨w.heap.size + 1, 1, none⟩ = some (.slice T q f) := q1.cell 1
      have v0 : w9.cell? ⟨bb, 0, none⟩ = some (.slice (some ⟨g3, 0, none⟩) p p) := by_.cell 0
      have v1 : w9.cell? ⟨bb, 1, none⟩ = some (.slice (some ⟨g4, 0, none⟩) q q) := by_.cell 1
      go_upto_region 16 with fail
      refine wp_region_inv (by kernel_rfl) (by kernel_rfl) (fun L ac ww => ∃ t40 t41 t42 t43 t44 : Value, ac = { tmps := #[heapV A n c R m d, heapV B p e T q f, Value.pointer (some { block := w.heap.size, off := 0 }), Value.pointer (some { block := w.heap.size + 1, off := 0 }), Value.bool false, Value.int IntKind.i64 ly, Value.bool v, Value.pointer (some { block := ba, off := 0 }), Value.pointer (some { block := bb, off := 0 }), Value.bool v, Value.agg #[Value.slice A n c, Value.slice R m d], Value.int IntKind.i64 1048576, Value.int IntKind.i64 lz, Value.int IntKind.i64 lz, Value.bool false, Value.agg #[Value.slice B p e, Value.slice T q f], Value.int IntKind.i64 lz, Value.int IntKind.i64 ly, Value.int IntKind.i64 ly, Value.bool false, t20, t21, t22, t23, Value.bool v, Value.agg #[Value.slice A n c, Value.slice R m d], heapV (some { block := g1, off := 0 }) n n (some { block := g2, off := 0 }) m m, Value.agg #[Value.slice B p e, Value.slice T q f], heapV (some { block := g3, off := 0 }) p p (some { block := g4, off := 0 }) q q, Value.agg #[Value.slice (some { block := g1, off := 0 }) n n, Value.slice (some { block := g2, off := 0 }) m m], Value.agg #[Value.slice (some { block := g3, off := 0 }) p p, Value.slice (some { block := g4, off := 0 }) q q], Value.bool v, Value.bool v, Value.bool v, Value.bool false, t35, t36, t37, Value.bool true, Value.bool false, t40, t41, t42, t43, t44], defers := [] } ∧ (Below w9.heap.size w9 ww) ∧ (L 0 = true → t40 = .agg #[.slice (some ⟨g3, 0, none⟩) p p, .slice (some ⟨g4, 0, none⟩) q q]) ∧ (L 1 = true → t41 = .agg #[.slice B p e, .slice T q f]) ∧ (L 2 = true → ∃ u1 u2 : Nat, t42 = .agg #[.slice (some ⟨u1, 0, none⟩) p p, .slice (some ⟨u2, 0, none⟩) q q] ∧ HS ww ww.heap.size (some ⟨u1, 0, none⟩) p (some ⟨u2, 0, none⟩) q k) ∧ (L 3 = true → t43 = .bool true) ∧ (L 4 = true → t44 = .bool false)) ?h0 ?hstep ?hdone
      case h0 => exact ⟨_, _, _, _, _, rfl, (Below.refl _ _).drew, (fun h => absurd h Bool.false_ne_true), (fun h => absurd h Bool.false_ne_true), (fun h => absurd h Bool.false_ne_true), (fun h => absurd h Bool.false_ne_true), (fun h => absurd h Bool.false_ne_true)⟩
      case hstep =>
        rintro L ac ww i o ho hL hd ⟨t40, t41, t42, t43, t44, rfl, I0, f0, f1, f2, f3, f4⟩
        have hi : i < 5 := (Array.getElem?_eq_some_iff.1 ho).1
        obtain rfl | rfl | rfl | rfl | rfl : i = 0 ∨ i = 1 ∨ i = 2 ∨ i = 3 ∨ i = 4 := by omega
        · obtain rfl := Option.some.inj ho
          have z0 : ww.cell? ⟨bb, 0, none⟩ = some (.slice (some ⟨g3, 0, none⟩) p p) := (I0.cell (p := ⟨bb, 0, none⟩) hbb).trans v0
          have z1 : ww.cell? ⟨bb, 1, none⟩ = some (.slice (some ⟨g4, 0, none⟩) q q) := (I0.cell (p := ⟨bb, 1, none⟩) hbb).trans v1
          refine wpOp_step rfl (fun K' hK => ?_)
          go_simp
          refine hK _ _ ?_
          exact ⟨_, _, _, _, _, rfl, (I0), (fun _ => rfl), (fun h => f1 (upd_ne h (by decide))), (fun h => f2 (upd_ne h (by decide))), (fun h => f3 (upd_ne h (by decide))), (fun h => f4 (upd_ne h (by decide)))⟩
        · obtain rfl := Option.some.inj ho
          have z0 : ww.cell? ⟨w.heap.size + 1, 0, none⟩ = some (.slice B p e) := (I0.cell (p := ⟨w.heap.size + 1, 0, none⟩) hq1).trans y0
          have z1 : ww.cell? ⟨w.heap.size + 1, 1, none⟩ = some (.slice T q f) := (I0.cell (p := ⟨w.heap.size + 1, 1, none⟩) hq1).trans y1
          refine wpOp_step rfl (fun K' hK => ?_)
          go_simp
          refine hK _ _ ?_
          exact ⟨_, _, _, _, _, rfl, (I0), (fun h => f0 (upd_ne h (by decide))), (fun _ => rfl), (fun h => f2 (upd_ne h (by decide))), (fun h => f3 (upd_ne h (by decide))), (fun h => f4 (upd_ne h (by decide)))⟩
        · obtain rfl := Option.some.inj ho
          have g1 := f1 (hd ⟨1, .data⟩ (by simp) rfl)
          subst g1
          refine wpOp_step rfl (fun K' hK => ?_)
          go_simp
          refine (toHeap_any _ _ _ _ _ _ k ww (ks.up (b0.trans (I0.mono b0.size))) (by omega) (by omega) K3.out).mono ?_
          rintro _ w' ⟨u1, u2, rfl, ⟨rv, ow⟩, b5⟩
          have hr9 := ow.reads
          refine hK _ _ ?_
          exact ⟨_, _, _, _, _, rfl, (I0.trans (b5.mono I0.size)), (fun h => f0 (upd_ne h (by decide))), (fun h => f1 (upd_ne h (by decide))), (fun _ => ⟨u1, u2, rfl, hr9⟩), (fun h => f3 (upd_ne h (by decide))), (fun h => f4 (upd_ne h (by decide)))⟩
        · obtain rfl := Option.some.inj ho
          have g0 := f0 (hd ⟨0, .data⟩ (by simp) rfl)
          have g2 := f2 (hd ⟨2, .data⟩ (by simp) rfl)
          subst g0
          obtain ⟨u5, u6, rfl, hr9⟩ := g2
          refine wpOp_step rfl (fun K' hK => ?_)
          go_simp
          refine (eqHeap_any _ _ _ _ _ _ _ _ _ _ _ _ k k ww (r7.up I0) hr9 (by omega) (by omega) (by omega) (by omega) K3.out K3.out).mono ?_
          rw [decide_eq_true rfl]
          rintro _ w' ⟨rfl, b5⟩
          refine hK _ _ ?_
          exact ⟨_, _, _, _, _, rfl, (I0.trans (b5.mono I0.size)), (fun h => f0 (upd_ne h (by decide))), (fun h => f1 (upd_ne h (by decide))), (fun _ => ⟨u5, u6, rfl, hr9.up b5⟩), (fun _ => rfl), (fun h => f4 (upd_ne h (by decide)))⟩
        · obtain rfl := Option.some.inj ho
          have g3 := f3 (hd ⟨3, .data⟩ (by simp) rfl)
          subst g3
          refine wpOp_step rfl (fun K' hK => ?_)
          go_simp
          refine hK _ _ ?_
          exact ⟨_, _, _, _, _, rfl, (I0), (fun h => f0 (upd_ne h (by decide))), (fun h => f1 (upd_ne h (by decide))), (fun h => f2 (upd_ne h (by decide))), (fun h => f3 (upd_ne h (by decide))), (fun _ => rfl)⟩
      case hdone =>
        rintro L ac ww hall ⟨t40, t41, t42, t43, t44, rfl, I0, f0, f1, f2, f3, f4⟩
        have e0 := f0 (hall 0 (by decide))
        have e1 := f1 (hall 1 (by decide))
        have e2 := f2 (hall 2 (by decide))
        have e3 := f3 (hall 3 (by decide))
        have e4 := f4 (hall 4 (by decide))
        clear f0 f1 f2 f3 f4
        subst e3 e4
        have bbf := b0.trans (I0.mono b0.size)
        clear e0 e1 e2
        go_wp2_with fail
        go_ret
        exact ⟨rfl, bbf⟩
end Go.Proofs.Ytbcefmkgifkjiaa
