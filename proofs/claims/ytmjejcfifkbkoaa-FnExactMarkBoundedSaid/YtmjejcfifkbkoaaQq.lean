/- The exact law of MarkBounded returns true: for every heap and every number. No conditions. -/
import Derived.Test.YtmjejcfifkbkoaaKr
import Derived.Test.YtmjejcfifkbkoaaBo
import Derived.Test.YtmjejcfifkbkoaaQk
namespace Go.Proofs.Ytmjejcfifkbkoaa
open Go.RowKit
theorem boundH_small (h : Hp) (x : Int) (hz : h.cs.length ≤ 1048576) : (Hps.boundH h x).1.length ≤ 1048576 := by
  by_cases hok : Hps.validH h = true ∧ 1 ≤ x ∧ x ≤ 40
  · rw [(Hps.bound_marks hok.1 hok.2.1 hok.2.2).1, Hps.reachH, if_pos hok.1, Hps.reachL_len]
    exact hz
  · rw [Hps.bound_no hok]
    simp
theorem markKH_posQ (h : Hp) : 0 ≤ markKH 1 h := by
  simp only [markKH, mkK]
  omega

set_option maxRecDepth 100000 in
set_option maxHeartbeats 4000000 in
theorem exactMarkBounded_walk (A R : Option Addr) (n c m d : Nat) (x : Int) (h : Hp) (w : World) (hs : HS w w.heap.size A n R m h) (hn : n ≤ 9223372036854775807) (hm : m ≤ 9223372036854775807) (hb : ∀ cl ∈ h.cs, cl.r.length ≤ 9223372036854775807) :
    Calls Try.prog 12 #[heapV A n c R m d, .int .i64 x] w fun e w' => e = .returned (.bool true) ∧ Below w.heap.size w w' := by
  have b0 : Below w.heap.size w (w.alloc (.cells #[.slice A n c, .slice R m d] 64)) := (Below.refl _ _).alloc (Nat.le_refl _) _
  have s0 := hs.up b0
  have q0 := Rw.new w 64 #[.slice A n c, .slice R m d]
  have hlc := hs.cells.1
  have hlr := hs.roots.1
  go_enter Try.func12, Try.ntmps12
  go_wp2_with fail
  refine (szHeap_any _ _ _ _ _ _ h _ _ s0 (by omega) (by omega) hn hm hb).mono ?_
  rintro e w1 ⟨rfl, b1⟩
  replace q0 := q0.keep b1 q0.lt
  replace b0 := b0.trans (b1.mono b0.size)
  clear b1 s0
  by_cases hz : sizeH h ≤ 1048576
  case neg =>
    have HL : leftOf 1048576 (sizeH h) = -1 := by rw [leftOf, if_neg (by omega)]
    rw [HL]
    go_wp2_with fail
    go_ret
    exact ⟨rfl, b0⟩
  have HL : leftOf 1048576 (sizeH h) = 1048576 - (sizeH h : Int) := by rw [leftOf, if_pos (by omega)]
  rw [HL]
  obtain ⟨z1, z2, z3⟩ := small_size hz
  rw [hlc] at z1
  rw [hlr] at z2
  have Z3 := Lib.hid (fun cl (hcl : cl ∈ h.cs) => show cl.r.length ≤ 1099511627776 by have := z3 cl hcl; omega)
  obtain ⟨lz, hlz⟩ : ∃ lz : Int, (1048576 : Int) - (sizeH h : Int) = lz := ⟨_, rfl⟩
  have hlz0 : decide (lz < 0) = false := decide_eq_false (by omega)
  rw [hlz]
  have s1 := hs.up b0
  have x0 : w1.cell? ⟨w.heap.size, 0, none⟩ = some (.slice A n c) := q0.cell 0
  have x1 : w1.cell? ⟨w.heap.size, 1, none⟩ = some (.slice R m d) := q0.cell 1
  have ZL := Lib.hid (show h.cs.length ≤ 1048576 by rw [hlc]; exact z1)
  have HSZ := Lib.hid hz
  clear HL hlz hz z3 hb hlc hlr
  go_wp2_with fail
  refine (toHeap_any _ _ _ _ _ _ h _ s1 (by omega) (by omega) Z3.out).mono ?_
  rintro e w2 ⟨g1, g2, rfl, ⟨rvs, own⟩, b2⟩
  have r2 := own.reads
  have q2 := q0.keep b2 q0.lt
  have bb2 := b0.trans (b2.mono b0.size)
  clear own x0 x1 s1 b2
  go_wp2_with fail
  refine (mMarkBounded_any _ _ _ _ _ _ x h _ r2 (by omega) (by omega)).mono ?_
  obtain ⟨xs, hxs⟩ : ∃ xs, (Hps.boundH h x).1 = xs := ⟨_, rfl⟩
  obtain ⟨y, hys⟩ : ∃ y, (Hps.boundH h x).2 = y := ⟨_, rfl⟩
  have hyy : (y != y) = false := by simp
  have hxl : xs.length ≤ 1048576 := by rw [← hxs]; exact boundH_small h x ZL.out
  rw [hxs, hys]
  have HX := Lib.hid hxs
  have HY := Lib.hid hys
  clear hxs hys
  rintro e w3 ⟨v0, rfl, o0, b3⟩
  obtain ⟨A0, c0, rfl, -⟩ := o0.form
  have q3 := q2.keep b3 q2.lt
  have bb3 := bb2.trans (b3.mono bb2.size)
  have s3 := hs.up bb3
  have x0 : w3.cell? ⟨w.heap.size, 0, none⟩ = some (.slice A n c) := q3.cell 0
  have x1 : w3.cell? ⟨w.heap.size, 1, none⟩ = some (.slice R m d) := q3.cell 1
  clear r2 q2 b3 bb2 q0 b0
  go_wp2_with fail
  refine (toHeap_any _ _ _ _ _ _ h _ s3 (by omega) (by omega) Z3.out).mono ?_
  rintro e w4 ⟨g3, g4, rfl, ⟨rvs2, own⟩, b4⟩
  have bA : Below w4.heap.size w4 (w4.alloc (.cells #[.slice (some ⟨g3, 0, none⟩) n n, .slice (some ⟨g4, 0, none⟩) m m] 28)) := (Below.refl _ _).alloc (Nat.le_refl _) _
  have SX0 := Lib.hid (fun u (hu : u ∈ (Value.slice (some ⟨g3, 0, none⟩) n n) :: (Value.slice (some ⟨g4, 0, none⟩) m m) :: rvs2) => show (Value.slice A0 xs.length c0).ownBlock = none ∨ (Value.slice A0 xs.length c0).ownBlock ≠ u.ownBlock by
    cases e : (Value.slice A0 xs.length c0).ownBlock with
    | none => exact .inl rfl
    | some k =>
      right
      intro e'
      have h1 := (World.ownsRow.lt o0 k e).2
      have h2 := (own.blocks hu e'.symm).1
      omega)
  have SB := Lib.hid (fun u (hu : u ∈ (Value.slice (some ⟨g3, 0, none⟩) n n) :: (Value.slice (some ⟨g4, 0, none⟩) m m) :: rvs2) k (hk : u.ownBlock = some k) => own.blocks hu hk)
  have hw3 := bb3.size
  have hq3 := q3.lt
  have hw4 : w.heap.size < w4.heap.size := Nat.lt_of_lt_of_le hq3 b4.size
  have o5 := (o0.below b4 (Nat.le_refl _)).below bA (Nat.le_refl _)
  have own5 := own.below bA (Nat.le_refl _)
  have bx5 := Rw.new w4 28 #[.slice (some ⟨g3, 0, none⟩) n n, .slice (some ⟨g4, 0, none⟩) m m]
  have q5 := (q3.keep b4 q3.lt).alloc (.cells #[.slice (some ⟨g3, 0, none⟩) n n, .slice (some ⟨g4, 0, none⟩) m m] 28)
  have bb5 := (bb3.trans (b4.mono bb3.size)).trans (bA.mono (bb3.trans (b4.mono bb3.size)).size)
  have h45 : w4.heap.size ≤ (w4.alloc (.cells #[.slice (some ⟨g3, 0, none⟩) n n, .slice (some ⟨g4, 0, none⟩) m m] 28)).heap.size := by simp
  clear own x0 x1 s3 b4 q3 bb3 bA o0
  go_upto_region 7 with fail
  generalize w4.alloc (.cells #[.slice (some ⟨g3, 0, none⟩) n n, .slice (some ⟨g4, 0, none⟩) m m] 28) = w5 at o5 own5 bx5 q5 bb5 h45 ⊢
  have SBB := Lib.hid h45
  have SZ5 := Lib.hid hw4
  obtain ⟨b, hbe⟩ : ∃ b, w4.heap.size = b := ⟨_, rfl⟩
  rw [hbe] at bx5 ⊢
  clear h45 hbe
  have x0 : w5.cell? ⟨b, 0, none⟩ = some (.slice (some ⟨g3, 0, none⟩) n n) := bx5.cell 0
  have x1 : w5.cell? ⟨b, 1, none⟩ = some (.slice (some ⟨g4, 0, none⟩) m m) := bx5.cell 1
  have r5 := own5.reads
  go_wp2_with fail
  refine (markBounded_any _ _ _ _ _ _ x h _ r5 (by omega) (by omega) (Nat.le_refl _) (Nat.le_refl _)).mono ?_
  rw [HX.out, HY.out]
  rintro e w6 ⟨v1, rfl, o1, b6⟩
  obtain ⟨A1, c1, rfl, -⟩ := o1.form
  have SX1 := Lib.hid (fun u (hu : u ∈ (Value.slice (some ⟨g3, 0, none⟩) n n) :: (Value.slice (some ⟨g4, 0, none⟩) m m) :: rvs2) => show (Value.slice A1 xs.length c1).ownBlock = none ∨ (Value.slice A1 xs.length c1).ownBlock ≠ u.ownBlock by
    cases e : (Value.slice A1 xs.length c1).ownBlock with
    | none => exact .inl rfl
    | some k =>
      right
      intro e'
      have h1 := (World.ownsRow.lt o1 k e).1
      have h2 := (SB.out u hu k e'.symm).2
      have := SBB.out
      omega)
  have S01 := sep_ofO o5 o1 (Nat.le_refl _)
  have own6 := own5.below b6 (Nat.le_refl _)
  have o0 := o5.below b6 (Nat.le_refl _)
  have bx6 := bx5.keep b6 bx5.lt
  have q6 := q5.keep b6 q5.lt
  have bb6 := bb5.trans (b6.mono bb5.size)
  have h1b := Lib.hid (fun k (hk : (Value.slice A1 xs.length c1).ownBlock = some k) => show w.heap.size ≤ k by have := (World.ownsRow.lt o1 k hk).1; have := bb5.size; omega)
  clear r5 own5 bx5 q5 bb5 b6 x0 x1 o5
  go_wp2_with fail
  refine (eqBoolS_any _ _ _ _ _ _ xs xs _ o1.reads o0.reads (by omega) (by omega)).mono ?_
  rw [decide_eq_true rfl]
  rintro e w7 ⟨rfl, b7⟩
  have own7 := own6.below b7 (Nat.le_refl _)
  have r6 := own7.reads
  replace o0 := o0.below b7 (Nat.le_refl _)
  replace o1 := o1.below b7 (Nat.le_refl _)
  have bx7 := bx6.keep b7 bx6.lt
  have q7 := q6.keep b7 q6.lt
  have bb7 := bb6.trans (b7.mono bb6.size)
  clear own6 bx6 q6 bb6 b7
  have hbl := bx7.lt
  have hql := q7.lt
  have x0 : w7.cell? ⟨b, 0, none⟩ = some (.slice (some ⟨g3, 0, none⟩) n n) := bx7.cell 0
  have x1 : w7.cell? ⟨b, 1, none⟩ = some (.slice (some ⟨g4, 0, none⟩) m m) := bx7.cell 1
  have y0 : w7.cell? ⟨w.heap.size, 0, none⟩ = some (.slice A n c) := q7.cell 0
  have y1 : w7.cell? ⟨w.heap.size, 1, none⟩ = some (.slice R m d) := q7.cell 1
  go_upto_region 10 with fail
  refine wp_region_inv (by kernel_rfl) (by kernel_rfl) (fun L ac ww => ∃ t45 t46 t47 t48 t49 : Value, ac = { tmps := #[heapV A n c R m d, Value.int IntKind.i64 x, Value.pointer (some { block := w.heap.size, off := 0 }), undef, Value.bool false, Value.int IntKind.i64 lz, Value.slice A0 xs.length c0, Value.int IntKind.i64 y, Value.pointer (some { block := b, off := 0 }), Value.slice A1 xs.length c1, Value.int IntKind.i64 y, undef, undef, undef, undef, undef, Value.agg #[Value.slice A n c, Value.slice R m d], Value.int IntKind.i64 1048576, Value.int IntKind.i64 lz, Value.int IntKind.i64 lz, Value.bool false, Value.tuple #[Value.slice A0 xs.length c0, Value.int IntKind.i64 y], Value.agg #[Value.slice A n c, Value.slice R m d], heapV (some { block := g1, off := 0 }) n n (some { block := g2, off := 0 }) m m, Value.int IntKind.i64 x, Value.tuple #[Value.slice A0 xs.length c0, Value.int IntKind.i64 y], Value.slice A0 xs.length c0, Value.int IntKind.i64 y, Value.agg #[Value.slice A n c, Value.slice R m d], heapV (some { block := g3, off := 0 }) n n (some { block := g4, off := 0 }) m m, Value.tuple #[Value.slice A1 xs.length c1, Value.int IntKind.i64 y], Value.agg #[Value.slice (some { block := g3, off := 0 }) n n, Value.slice (some { block := g4, off := 0 }) m m], Value.int IntKind.i64 x, Value.tuple #[Value.slice A1 xs.length c1, Value.int IntKind.i64 y], Value.slice A1 xs.length c1, Value.int IntKind.i64 y, Value.slice A1 xs.length c1, Value.slice A0 xs.length c0, Value.bool true, Value.bool false, Value.bool false, Value.int IntKind.i64 y, Value.int IntKind.i64 y, Value.bool false, Value.bool false, t45, t46, t47, t48, t49, undef, undef, undef, undef, undef, undef, undef, undef, undef, undef, undef, undef, undef, undef, undef, undef, undef, undef, undef, undef, undef, undef, undef, undef, undef, undef, undef, undef, undef, undef, undef, undef, undef, undef, undef, undef, undef, undef, undef, undef, undef, undef, undef, undef, undef, undef, undef, undef, undef, undef, undef], defers := [] } ∧ (Below w7.heap.size w7 ww) ∧ (L 0 = true → t45 = .agg #[.slice (some ⟨g3, 0, none⟩) n n, .slice (some ⟨g4, 0, none⟩) m m]) ∧ (L 1 = true → t46 = .agg #[.slice A n c, .slice R m d]) ∧ (L 2 = true → ∃ u1 u2 : Nat, t47 = .agg #[.slice (some ⟨u1, 0, none⟩) n n, .slice (some ⟨u2, 0, none⟩) m m] ∧ HS ww ww.heap.size (some ⟨u1, 0, none⟩) n (some ⟨u2, 0, none⟩) m h) ∧ (L 3 = true → t48 = .bool true) ∧ (L 4 = true → t49 = .bool false)) ?h0 ?hstep ?hdone
  case h0 => exact ⟨_, _, _, _, _, rfl, (Below.refl _ _).drew, (fun h => absurd h Bool.false_ne_true), (fun h => absurd h Bool.false_ne_true), (fun h => absurd h Bool.false_ne_true), (fun h => absurd h Bool.false_ne_true), (fun h => absurd h Bool.false_ne_true)⟩
  case hstep =>
    rintro L ac ww i o ho hL hd ⟨t45, t46, t47, t48, t49, rfl, I0, f0, f1, f2, f3, f4⟩
    have hi : i < 5 := (Array.getElem?_eq_some_iff.1 ho).1
    obtain rfl | rfl | rfl | rfl | rfl : i = 0 ∨ i = 1 ∨ i = 2 ∨ i = 3 ∨ i = 4 := by omega
    · obtain rfl := Option.some.inj ho
      have y0 : ww.cell? ⟨b, 0, none⟩ = some (.slice (some ⟨g3, 0, none⟩) n n) := (I0.cell (p := ⟨b, 0, none⟩) hbl).trans x0
      have y1 : ww.cell? ⟨b, 1, none⟩ = some (.slice (some ⟨g4, 0, none⟩) m m) := (I0.cell (p := ⟨b, 1, none⟩) hbl).trans x1
      refine wpOp_step rfl (fun K' hK => ?_)
      go_simp
      refine hK _ _ ?_
      exact ⟨_, _, _, _, _, rfl, (I0), (fun _ => rfl), (kp f1), (kp f2), (kp f3), (kp f4)⟩
    · obtain rfl := Option.some.inj ho
      have z0 : ww.cell? ⟨w.heap.size, 0, none⟩ = some (.slice A n c) := (I0.cell (p := ⟨w.heap.size, 0, none⟩) hql).trans y0
      have z1 : ww.cell? ⟨w.heap.size, 1, none⟩ = some (.slice R m d) := (I0.cell (p := ⟨w.heap.size, 1, none⟩) hql).trans y1
      refine wpOp_step rfl (fun K' hK => ?_)
      go_simp
      refine hK _ _ ?_
      exact ⟨_, _, _, _, _, rfl, (I0), (kp f0), (fun _ => rfl), (kp f2), (kp f3), (kp f4)⟩
    · obtain rfl := Option.some.inj ho
      have g1 := f1 (hd ⟨1, .data⟩ (by simp) rfl)
      subst g1
      refine wpOp_step rfl (fun K' hK => ?_)
      go_simp
      refine (toHeap_any _ _ _ _ _ _ h ww (hs.up (bb7.trans (I0.mono bb7.size))) (by omega) (by omega) Z3.out).mono ?_
      rintro e w' ⟨u1, u2, rfl, ⟨rv, ow⟩, b5⟩
      have hr9 := ow.reads
      refine hK _ _ ?_
      exact ⟨_, _, _, _, _, rfl, (I0.trans (b5.mono I0.size)), (kp f0), (kp f1), (fun _ => ⟨u1, u2, rfl, hr9⟩), (kp f3), (kp f4)⟩
    · obtain rfl := Option.some.inj ho
      have g0 := f0 (hd ⟨0, .data⟩ (by simp) rfl)
      have g2 := f2 (hd ⟨2, .data⟩ (by simp) rfl)
      subst g0
      obtain ⟨u1, u2, rfl, hr9⟩ := g2
      refine wpOp_step rfl (fun K' hK => ?_)
      go_simp
      refine (eqHeap_any _ _ _ _ _ _ _ _ _ _ _ _ h h ww (r6.up I0) hr9 (by omega) (by omega) (by omega) (by omega) Z3.out Z3.out).mono ?_
      rw [decide_eq_true rfl]
      rintro e w' ⟨rfl, b5⟩
      refine hK _ _ ?_
      exact ⟨_, _, _, _, _, rfl, (I0.trans (b5.mono I0.size)), (kp f0), (kp f1), (fun _ => ⟨u1, u2, rfl, hr9.up b5⟩), (fun _ => rfl), (kp f4)⟩
    · obtain rfl := Option.some.inj ho
      have g3 := f3 (hd ⟨3, .data⟩ (by simp) rfl)
      subst g3
      refine wpOp_step rfl (fun K' hK => ?_)
      go_simp
      refine hK _ _ ?_
      exact ⟨_, _, _, _, _, rfl, (I0), (kp f0), (kp f1), (kp f2), (kp f3), (fun _ => rfl)⟩
  case hdone =>
    rintro L ac ww hall ⟨t45, t46, t47, t48, t49, rfl, I0, f0, f1, f2, f3, f4⟩
    have e0 := f0 (hall 0 (by decide))
    have e1 := f1 (hall 1 (by decide))
    have e2 := f2 (hall 2 (by decide))
    have e3 := f3 (hall 3 (by decide))
    have e4 := f4 (hall 4 (by decide))
    clear f0 f1 f2 f3 f4
    subst e3 e4
    clear e0 e1 e2
    have bb8 := bb7.trans (I0.mono bb7.size)
    replace o0 := o0.below I0 (Nat.le_refl _)
    replace o1 := o1.below I0 (Nat.le_refl _)
    have own8 := own7.below I0 (Nat.le_refl _)
    have bx8 := bx7.keep I0 bx7.lt
    have q8 := q7.keep I0 q7.lt
    have x0 : ww.cell? ⟨b, 0, none⟩ = some (.slice (some ⟨g3, 0, none⟩) n n) := bx8.cell 0
    have x1 : ww.cell? ⟨b, 1, none⟩ = some (.slice (some ⟨g4, 0, none⟩) m m) := bx8.cell 1
    clear I0 own7 bx7 q7 bb7 y0 y1 hbl r6
    go_wp2_with fail
    refine (markHeap_any _ _ rvs2 h _ _ _ own8 (by omega) (by omega) (by have := HSZ.out; omega)).mono ?_
    rintro e w9 ⟨rfl, m9, t9⟩
    clear m9
    have p0 := row_touched o0 t9 SX0.out
    have p1 := row_touched o1 t9 SX1.out
    have bb9 : Below w.heap.size w w9 := t9.below bb8 bb8.size (fun u hu k hk => by have := (SB.out u hu k hk).1; omega)
    have q9 := q8.touched t9 (fun u hu e => by have := (SB.out u hu _ e).1; omega)
    obtain ⟨kv, hkv⟩ : ∃ kv, markKH 1 h = kv := ⟨_, rfl⟩
    have hk0 : decide (kv < 0) = false := by rw [← hkv]; exact decide_eq_false (by have := markKH_posQ h; omega)
    rw [hkv]
    have P0 : OwnO w9 w2.heap.size (.slice A0 xs.length c0) xs := p0
    have P1 : OwnO w9 w5.heap.size (.slice A1 xs.length c1) xs := p1
    clear hkv t9 own8 bx8 q8 bb8 o0 o1 p0 p1 x0 x1
    go_wp2_with fail
    refine (eqBoolS_any _ _ _ _ _ _ xs xs _ P1.reads P0.reads (by omega) (by omega)).mono ?_
    rw [decide_eq_true rfl]
    rintro e w10 ⟨rfl, b10⟩
    replace P0 := P0.below b10 (Nat.le_refl _)
    replace P1 := P1.below b10 (Nat.le_refl _)
    have q10 := q9.keep b10 q9.lt
    have bb10 := bb9.trans (b10.mono bb9.size)
    clear b10 bb9 q9
    go_wp2_with fail
    refine (markBoolS_any _ xs _ _ _ P1 (by omega) (by omega) (by omega)).mono ?_
    rintro e w11 ⟨rfl, m11, g11⟩
    replace P0 := P0.far g11 S01
    have bb11 : Below w.heap.size w w11 := bb10.grown g11 bb10.size h1b.out
    have q11 := q10.far g11 (fun e => by
      have h1 := (World.ownsRow.lt P1 _ e.symm).1
      have := SBB.out
      have := SZ5.out
      omega)
    have hq0 : decide ((1 : Int) + (xs.length : Int) < 0) = false := decide_eq_false (by omega)
    clear P1 g11 q10 bb10
    go_wp2_with fail
    refine (heldBoolS_any _ _ _ _ _ m11.reads (by omega) (by omega) (by omega)).mono ?_
    rintro e w' ⟨rfl, rfl⟩
    have x0 : w11.cell? ⟨w.heap.size, 0, none⟩ = some (.slice A n c) := q11.cell 0
    have x1 : w11.cell? ⟨w.heap.size, 1, none⟩ = some (.slice R m d) := q11.cell 1
    go_wp2_with fail
    refine (toHeap_any _ _ _ _ _ _ h _ (hs.up bb11) (by omega) (by omega) Z3.out).mono ?_
    rintro e w12 ⟨g5, g6, rfl, ⟨rvs3, own⟩, b12⟩
    have bb12 := bb11.trans (b12.mono bb11.size)
    replace P0 := P0.below b12 (Nat.le_refl _)
    have m12 := m11.below b12 (Nat.le_refl _)
    have r12 := own.reads
    clear own m11 b12 x0 x1 q11 bb11
    go_wp2_with fail
    refine (markBounded_any _ _ _ _ _ _ x h _ r12 (by omega) (by omega) (Nat.le_refl _) (Nat.le_refl _)).mono ?_
    rw [HX.out, HY.out]
    rintro e w13 ⟨v2, rfl, o2, b13⟩
    obtain ⟨A2, c2, rfl, -⟩ := o2.form
    have bb13 := bb12.trans (b13.mono bb12.size)
    replace P0 := P0.below b13 (Nat.le_refl _)
    have m13 := m12.below b13 (Nat.le_refl _)
    clear r12 m12 b13 bb12
    go_wp2_with fail
    refine (eqBoolS_any _ _ _ _ _ _ xs xs _ o2.reads P0.reads (by omega) (by omega)).mono ?_
    rw [decide_eq_true rfl]
    rintro e w14 ⟨rfl, b14⟩
    have bb14 := bb13.trans (b14.mono bb13.size)
    have m14 := m13.below b14 (Nat.le_refl _)
    clear m13 b14 bb13 o2 P0
    go_wp2_with fail
    refine (heldBoolS_any _ _ _ _ _ m14.reads (by omega) (by omega) (by omega)).mono ?_
    rintro e w' ⟨rfl, rfl⟩
    go_wp2_with fail
    go_ret
    exact ⟨rfl, bb14⟩
end Go.Proofs.Ytmjejcfifkbkoaa
