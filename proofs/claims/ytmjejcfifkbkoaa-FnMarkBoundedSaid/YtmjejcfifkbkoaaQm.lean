/- What the draws of chapter 12 return. No conditions. -/
import Derived.Test.YtmjejcfifkbkoaaKo
import Derived.Test.YtmjejcfifkbkoaaGa
import Derived.Deep.Cut
namespace Go.Proofs.Ytmjejcfifkbkoaa
open Go.RowKit
set_option maxRecDepth 100000

/-- from block lo on nothing has changed -/
def StayB (lo : Nat) (w w' : World) : Prop := w.heap.size ≤ w'.heap.size ∧ ∀ j, lo ≤ j → j < w.heap.size → w'.heap[j]? = w.heap[j]?
theorem StayB.refl (lo : Nat) (w : World) : StayB lo w w := ⟨Nat.le_refl _, fun _ _ _ => rfl⟩
theorem StayB.grown {lo gr : Nat} {w w1 w2 : World} (h : StayB lo w w1) (hg : w1.grownBy w2 (some gr)) (hl : gr < lo) : StayB lo w w2 :=
  ⟨Nat.le_trans h.1 hg.size, fun j h1 h2 => (hg.block j (Nat.lt_of_lt_of_le h2 h.1) (fun e => by have := Option.some.inj e; omega)).trans (h.2 j h1 h2)⟩
theorem StayB.put {lo g : Nat} {w w1 : World} (h : StayB lo w w1) (hl : g < lo) (i : Nat) (v : Value) : StayB lo w (w1.setCell ⟨g, i, none⟩ v) :=
  ⟨by simpa using h.1, fun j h1 h2 => (Below.heap_setCell w1 ⟨g, i, none⟩ v j (by show j ≠ g; omega)).trans (h.2 j h1 h2)⟩
theorem StayB.rw {lo g : Nat} {w w1 : World} {t : TypeId} {cs : Array Value} (h : StayB lo w w1) (hr : Rw w g t cs) (hl : lo ≤ g) : Rw w1 g t cs := (h.2 g hl hr.lt).trans hr
theorem HF.stayB {lo : Nat} {w w1 : World} {A R : Option Addr} {n m : Nat} {h : Hp} (hf : HF w lo A n R m h) (hs : StayB lo w w1) : HF w1 lo A n R m h :=
  fun w' h1 h2 => hf w' (Nat.le_trans hs.1 h1) fun j h3 h4 => (h2 j h3 (Nat.lt_of_lt_of_le h4 hs.1)).trans (hs.2 j h3 h4)
theorem HF.lowerB {lo lo' : Nat} {w : World} {A R : Option Addr} {n m : Nat} {h : Hp} (hf : HF w lo A n R m h) (hl : lo' ≤ lo) : HF w lo' A n R m h :=
  fun w' h1 h2 => hf w' h1 fun j h3 h4 => h2 j (by omega) h4


set_option maxHeartbeats 1000000 in
theorem drawMarkDepth_any (A : Option Addr) (n c : Nat) (w : World) (h : Bytes w w.heap.size A n) (hc : n ≤ c) (hn : n ≤ 9223372036854775807) :
    Calls Try.prog 34 #[.slice A n c] w (DrawnH w) := by
  have b0 : Below w.heap.size w (w.alloc (.cells #[.slice none 0 0, .slice none 0 0] 28)) := (Below.refl _ _).alloc (Nat.le_refl _) _
  have h0 := (h.keep fun p hp => b0.cell hp).more b0.size
  have r0 := Rw.new w 28 #[.slice none 0 0, .slice none 0 0]
  go_enter Try.func34, Try.ntmps34
  go_wp2_with fail
  refine (open_any _ _ _ _ h0 hc hn).mono ?_
  rintro e w1 ⟨rfl, hr1, b1⟩
  have r1 := r0.keep b1 r0.lt
  have hz := r0.lt
  have bb1 := b0.trans (b1.mono b0.size)
  have hs0 := b0.size
  generalize w.alloc (.cells #[.slice none 0 0, .slice none 0 0] 28) = w0 at b0 h0 r0 hr1 b1 r1 hz bb1 hs0 ⊢
  go_wp2_with fail
  refine (l20Heap_any _ _ 12 _ hr1 (by omega) (by omega) (by omega)).mono ?_
  rintro e w2 ⟨A2, nn, c2, R2, m, d2, hh, rfl, hc1, hc2, HFx, -, hsm, -, g2⟩
  have r2 := r1.far g2 (fun e => by injection e with e; omega)
  have bb2 : Below w.heap.size w w2 := bb1.grown g2 bb1.size (fun k hk => by injection hk; omega)
  have x0 : w2.cell? ⟨w.heap.size, 0, none⟩ = some (.slice none 0 0) := r2.cell 0
  have x1 : w2.cell? ⟨w.heap.size, 1, none⟩ = some (.slice none 0 0) := r2.cell 1
  have x2 : w2.frozen? ⟨w.heap.size, 0, none⟩ = false := r2.frozen 0
  have x3 : w2.frozen? ⟨w.heap.size, 1, none⟩ = false := r2.frozen 1
  have y0 : ((w2.setCell ⟨w.heap.size, 0, none⟩ (.slice A2 nn c2)).setCell ⟨w.heap.size, 1, none⟩ (.slice R2 m d2)).cell? ⟨w.heap.size, 0, none⟩ = some (.slice A2 nn c2) := ((r2.put 0 (.slice A2 nn c2)).put 1 (.slice R2 m d2)).cell 0
  have y1 : ((w2.setCell ⟨w.heap.size, 0, none⟩ (.slice A2 nn c2)).setCell ⟨w.heap.size, 1, none⟩ (.slice R2 m d2)).cell? ⟨w.heap.size, 1, none⟩ = some (.slice R2 m d2) := ((r2.put 0 (.slice A2 nn c2)).put 1 (.slice R2 m d2)).cell 1
  have bS : w1.heap.size ≤ w1.heap.size ∧ w.heap.size < w1.heap.size := ⟨Nat.le_refl _, by have := b1.size; omega⟩
  have HSx := Lib.hid (HFx ((w2.setCell ⟨w.heap.size, 0, none⟩ (.slice A2 nn c2)).setCell ⟨w.heap.size, 1, none⟩ (.slice R2 m d2)) (by simp) (fun j hj hk => by
    rw [Below.heap_setCell _ ⟨w.heap.size, 1, none⟩ _ j (by show j ≠ w.heap.size; omega), Below.heap_setCell _ ⟨w.heap.size, 0, none⟩ _ j (by show j ≠ w.heap.size; omega)]))
  have BF := Lib.hid ((bb2.setCell (p := ⟨w.heap.size, 0, none⟩) (Nat.le_refl _) (.slice A2 nn c2)).setCell (p := ⟨w.heap.size, 1, none⟩) (Nat.le_refl _) (.slice R2 m d2))
  clear HFx g2 r2 r1 r0 bb1 bb2 b0 b1 h0 hr1
  go_wp2_with fail
  exact bodyPost_ret (v := .agg #[.slice A2 nn c2, .slice R2 m d2]) (by simp [results, Try.results34, go_sem, *]) rfl ⟨A2, nn, c2, R2, m, d2, hh, rfl, hc1, hc2, HSx.out, hsm, BF.out⟩

/-- a heap and a number have been drawn, and can be read -/
def DrawnP (w : World) (e : Ending) (w' : World) : Prop :=
  ∃ (A : Option Addr) (nn c : Nat) (R : Option Addr) (m d : Nat) (h : Hp) (x : Int), e = .returned (.tuple #[heapV A nn c R m d, .int .i64 x]) ∧ nn ≤ c ∧ m ≤ d ∧ HS w' w'.heap.size A nn R m h ∧ SmallH h ∧ Below w.heap.size w w'

set_option maxHeartbeats 8000000 in
theorem drawMarkBounded_any (A : Option Addr) (n c : Nat) (w : World) (h : Bytes w w.heap.size A n) (hc : n ≤ c) (hn : n ≤ 9223372036854775807) :
    Calls Try.prog 40 #[.slice A n c] w (DrawnP w) := by
  have b0 : Below w.heap.size w (w.alloc (.cells #[.slice none 0 0, .slice none 0 0] 28)) := (Below.refl _ _).alloc (Nat.le_refl _) _
  have h0 := (h.keep fun p hp => b0.cell hp).more b0.size
  have r0 := Rw.new w 28 #[.slice none 0 0, .slice none 0 0]
  have hz0 : (w.alloc (.cells #[.slice none 0 0, .slice none 0 0] 28)).heap.size = w.heap.size + 1 := by simp
  go_enter Try.func40, Try.ntmps40
  go_wp2_with fail
  refine (open_any _ _ _ _ h0 hc hn).mono ?_
  rintro e w1 ⟨rfl, hr1, b1⟩
  have r1 := r0.keep b1 r0.lt
  have bb1 := b0.trans (b1.mono b0.size)
  have hgr := hr1.lt
  rw [hz0] at hr1 hgr ⊢
  clear b0 h0 r0 b1 hz0
  go_wp2_with fail
  refine (l20Heap_any _ _ 14 _ hr1 (by omega) (by omega) (by omega)).mono ?_
  rintro e w2 ⟨A1, nn, c1, R1, m, d1, hh, rfl, hc1, hd1, HFx, -, hsm, hr2, g2⟩
  have r2 := r1.far g2 (fun e => by injection e with e; omega)
  have bb2 : Below w.heap.size w w2 := bb1.grown g2 bb1.size (fun k hk => by injection hk; omega)
  have hs2 := g2.size
  have bA : Below w2.heap.size w2 (w2.alloc (.cells #[.slice A1 nn c1, .slice R1 m d1] 28)) := (Below.refl _ _).alloc (Nat.le_refl _) _
  have bx := Rw.new w2 28 #[.slice A1 nn c1, .slice R1 m d1]
  have HFy := HFx.stayB (w1 := w2.alloc (.cells #[.slice A1 nn c1, .slice R1 m d1] 28)) ⟨bA.size, fun j _ h2 => bA.block j h2⟩
  have hr3 := hr2.below bA hr2.lt
  have r3 := r2.alloc (.cells #[.slice A1 nn c1, .slice R1 m d1] 28)
  have bb3 := bb2.trans (bA.mono bb2.size)
  have hz3 : (w2.alloc (.cells #[.slice A1 nn c1, .slice R1 m d1] 28)).heap.size = w2.heap.size + 1 := by simp
  clear r2 hr2 HFx g2 bb2 bA r1 hr1 bb1
  go_upto_region 3 with fail
  generalize w2.alloc (.cells #[.slice A1 nn c1, .slice R1 m d1] 28) = w3 at bx HFy hr3 r3 bb3 hz3 ⊢
  obtain ⟨LO, hLO⟩ : ∃ LO, w1.heap.size = LO := ⟨_, rfl⟩
  rw [hLO] at HFy hgr hs2
  have hbl : LO ≤ w2.heap.size := hs2
  generalize w2.heap.size = b at bx hz3 hbl ⊢
  obtain ⟨G, hG⟩ : ∃ G, w.heap.size = G := ⟨_, rfl⟩
  rw [hG] at hgr r3 hr3 bb3 ⊢
  have HGe := Lib.hid hG
  have hl3 : LO ≤ w3.heap.size := by omega
  clear hG hLO hs2
  have hrB := hr3.below (Below.refl w3.heap.size w3).drew hr3.lt
  refine wp_region_inv (by kernel_rfl) (by kernel_rfl) (fun L ac ww => ∃ t3 t10 t11 t12 t13 t14 t15 t16 t17 t18 t19 t20 t21 : Value, ac = { tmps := #[Value.slice A n c, undef, Value.pointer (some { block := G, off := 0 }), t3, Value.pointer (some { block := G + 1, off := 0 }), Value.pointer (some { block := b, off := 0 }), Value.slice A n c, Value.pointer (some { block := G + 1, off := 0 }), Value.pointer (some { block := G + 1, off := 0 }), heapV A1 nn c1 R1 m d1, t10, t11, t12, t13, t14, t15, t16, t17, t18, t19, t20, t21], defers := [] } ∧ (StayB LO w3 ww) ∧ (Below G w ww) ∧ (L 2 = false → L 7 = false → Rd ww (G + 1) (0 + 700)) ∧ (L 7 = false → Rd ww (G + 1) ((0 + 700) + 1)) ∧ (G + 1 < ww.heap.size) ∧ (L 12 = false → Rw ww G 28 #[.slice none 0 0, .slice none 0 0]) ∧ (L 0 = true → t10 = heapV A1 nn c1 R1 m d1) ∧ (L 1 = true → t11 = .pointer (some ⟨G + 1, 0, none⟩)) ∧ (L 2 = true → (∃ a : Int, t12 = .int .i64 a)) ∧ (L 3 = true → ∃ a : Int, t13 = .int .i64 a) ∧ (L 4 = true → ∃ (g : Nat) (a : Int), t14 = .slice (some ⟨g, 0, none⟩) 5 5 ∧ Rw ww g 3 #[.int .i64 1, .int .i64 a, .int .i64 40, .int .i64 0, .int .i64 41] ∧ LO ≤ g) ∧ (L 5 = true → ∃ g : Nat, t15 = .slice (some ⟨g, 0, none⟩) 8 8 ∧ Rw ww g 3 #[.int .i64 0, .int .i64 0, .int .i64 1, .int .i64 1, .int .i64 1, .int .i64 2, .int .i64 3, .int .i64 4] ∧ LO ≤ g) ∧ (L 6 = true → t16 = .pointer (some ⟨G + 1, 0, none⟩)) ∧ (L 7 = true → (∃ k : Nat, t17 = .int .i64 k ∧ k < 8) ∧ L 2 = true) ∧ (L 8 = true → ∃ g k : Nat, t18 = .pointer (some ⟨g, k, none⟩) ∧ k < 8 ∧ Rw ww g 3 #[.int .i64 0, .int .i64 0, .int .i64 1, .int .i64 1, .int .i64 1, .int .i64 2, .int .i64 3, .int .i64 4] ∧ LO ≤ g) ∧ (L 9 = true → ∃ k : Nat, t19 = .int .i64 k ∧ k < 5) ∧ (L 10 = true → ∃ (g k : Nat) (a : Int), t20 = .pointer (some ⟨g, k, none⟩) ∧ k < 5 ∧ Rw ww g 3 #[.int .i64 1, .int .i64 a, .int .i64 40, .int .i64 0, .int .i64 41] ∧ LO ≤ g) ∧ (L 11 = true → ∃ a : Int, t21 = .int .i64 a) ∧ (L 12 = true → Rw ww G 28 #[.slice A1 nn c1, .slice R1 m d1]) ∧ (L 13 = true → ∃ a : Int, t3 = .int .i64 a)) ?h0 ?hstep ?hdone
  case h0 => exact ⟨_, _, _, _, _, _, _, _, _, _, _, _, _, rfl, StayB.refl _ _, bb3.drew, fun _ _ => hrB, fun _ => hrB.more (by omega), hrB.lt, fun _ => r3, (fun h => absurd h Bool.false_ne_true), (fun h => absurd h Bool.false_ne_true), (fun h => absurd h Bool.false_ne_true), (fun h => absurd h Bool.false_ne_true), (fun h => absurd h Bool.false_ne_true), (fun h => absurd h Bool.false_ne_true), (fun h => absurd h Bool.false_ne_true), (fun h => absurd h Bool.false_ne_true), (fun h => absurd h Bool.false_ne_true), (fun h => absurd h Bool.false_ne_true), (fun h => absurd h Bool.false_ne_true), (fun h => absurd h Bool.false_ne_true), (fun h => absurd h Bool.false_ne_true), (fun h => absurd h Bool.false_ne_true)⟩
  case hstep =>
    rintro L ac ww i o ho hL hd ⟨t3, t10, t11, t12, t13, t14, t15, t16, t17, t18, t19, t20, t21, rfl, I0, I1, I2, I3, I4, I5, f0, f1, f2, f3, f4, f5, f6, f7, f8, f9, f10, f11, f12, f13⟩
    have hi : i < 14 := (Array.getElem?_eq_some_iff.1 ho).1
    obtain rfl | rfl | rfl | rfl | rfl | rfl | rfl | rfl | rfl | rfl | rfl | rfl | rfl | rfl : i = 0 ∨ i = 1 ∨ i = 2 ∨ i = 3 ∨ i = 4 ∨ i = 5 ∨ i = 6 ∨ i = 7 ∨ i = 8 ∨ i = 9 ∨ i = 10 ∨ i = 11 ∨ i = 12 ∨ i = 13 := by omega
    · obtain rfl := Option.some.inj ho
      have xb := I0.rw bx hbl
      have y0 := xb.cell 0
      have y1 := xb.cell 1
      simp at y0 y1
      refine wpOp_step rfl (fun K' hK => ?_)
      go_simp
      refine hK _ _ ?_
      exact ⟨_, _, _, _, _, _, _, _, _, _, _, _, _, rfl, (I0), (I1), (fun h1 h2 => I2 ((upd_other (by decide)).symm.trans h1) ((upd_other (by decide)).symm.trans h2)), (fun h => I3 ((upd_other (by decide)).symm.trans h)), (I4), (fun h => I5 ((upd_other (by decide)).symm.trans h)), (fun _ => rfl), (kp f1), (kp f2), (kp f3), (kp f4), (kp f5), (kp f6), (fun h => ⟨(f7 (upd_ne h (by decide))).1, upd_mono (f7 (upd_ne h (by decide))).2⟩), (kp f8), (kp f9), (kp f10), (kp f11), (kp f12), (kp f13)⟩
    · obtain rfl := Option.some.inj ho
      refine wpOp_step rfl (fun K' hK => ?_)
      go_simp
      refine hK _ _ ?_
      exact ⟨_, _, _, _, _, _, _, _, _, _, _, _, _, rfl, (I0), (I1), (fun h1 h2 => I2 ((upd_other (by decide)).symm.trans h1) ((upd_other (by decide)).symm.trans h2)), (fun h => I3 ((upd_other (by decide)).symm.trans h)), (I4), (fun h => I5 ((upd_other (by decide)).symm.trans h)), (kp f0), (fun _ => rfl), (kp f2), (kp f3), (kp f4), (kp f5), (kp f6), (fun h => ⟨(f7 (upd_ne h (by decide))).1, upd_mono (f7 (upd_ne h (by decide))).2⟩), (kp f8), (kp f9), (kp f10), (kp f11), (kp f12), (kp f13)⟩
    · obtain rfl := Option.some.inj ho
      have g1 := f1 (hd ⟨1, .data⟩ (by simp) rfl)
      subst g1
      have hL7 : L 7 = false := by
        cases e : L 7
        · rfl
        · exact absurd (f7 e).2 (by rw [hL]; decide)
      refine wpOp_step rfl (fun K' hK => ?_)
      go_simp
      refine (pick_any (G + 1) (0 + 700) 4 ww (I2 hL hL7) (by omega) (by omega)).mono ?_
      rintro e w' ⟨a, rfl, ha0, ha1, hr6, g6⟩
      have hs : StayB LO ww w' := (StayB.refl LO ww).grown g6 (by omega)
      refine hK _ _ ?_
      exact ⟨_, _, _, _, _, _, _, _, _, _, _, _, _, rfl, (I0.grown g6 (by omega)), (I1.grown g6 (by have := I1.size; have := HGe.out; omega) (fun k hk => by have := Option.some.inj hk; omega)), (fun h => absurd (upd_self.symm.trans h) (by decide)), (fun _ => hr6), (hr6.lt), (fun h => by
        have r := I5 ((upd_other (by decide)).symm.trans h)
        exact r.far g6 (fun e => by have := Option.some.inj e; omega)), (kp f0), (kp f1), (fun _ => ⟨a, rfl⟩), (kp f3), (fun h => by
        obtain ⟨g, a, e, r, hl⟩ := f4 (upd_ne h (by decide))
        exact ⟨g, a, e, hs.rw r hl, hl⟩), (fun h => by
        obtain ⟨g, e, r, hl⟩ := f5 (upd_ne h (by decide))
        exact ⟨g, e, hs.rw r hl, hl⟩), (kp f6), (fun h => absurd (f7 (upd_ne h (by decide))).2 (by rw [hL]; decide)), (fun h => by
        obtain ⟨g, k, e, hk, r, hl⟩ := f8 (upd_ne h (by decide))
        exact ⟨g, k, e, hk, hs.rw r hl, hl⟩), (kp f9), (fun h => by
        obtain ⟨g, k, a, e, hk, r, hl⟩ := f10 (upd_ne h (by decide))
        exact ⟨g, k, a, e, hk, hs.rw r hl, hl⟩), (kp f11), (fun h => by
        have r := f12 (upd_ne h (by decide))
        exact r.far g6 (fun e => by have := Option.some.inj e; omega)), (kp f13)⟩
    · obtain rfl := Option.some.inj ho
      have g2 := f2 (hd ⟨2, .data⟩ (by simp) rfl)
      obtain ⟨a, rfl⟩ := g2
      refine wpOp_step rfl (fun K' hK => ?_)
      go_simp
      refine hK _ _ ?_
      exact ⟨_, _, _, _, _, _, _, _, _, _, _, _, _, rfl, (I0), (I1), (fun h1 h2 => I2 ((upd_other (by decide)).symm.trans h1) ((upd_other (by decide)).symm.trans h2)), (fun h => I3 ((upd_other (by decide)).symm.trans h)), (I4), (fun h => I5 ((upd_other (by decide)).symm.trans h)), (kp f0), (kp f1), (fun _ => ⟨a, rfl⟩), (fun _ => ⟨_, rfl⟩), (kp f4), (kp f5), (kp f6), (fun h => ⟨(f7 (upd_ne h (by decide))).1, upd_mono (f7 (upd_ne h (by decide))).2⟩), (kp f8), (kp f9), (kp f10), (kp f11), (kp f12), (kp f13)⟩
    · obtain rfl := Option.some.inj ho
      have g3 := f3 (hd ⟨3, .data⟩ (by simp) rfl)
      obtain ⟨a, rfl⟩ := g3
      have hs : StayB LO ww (ww.alloc (.cells #[.int .i64 1, .int .i64 a, .int .i64 40, .int .i64 0, .int .i64 41] 3)) := ⟨by simp, fun j _ h2 => Below.heap_alloc ww _ j h2⟩
      have bS : Below ww.heap.size ww (ww.alloc (.cells #[.int .i64 1, .int .i64 a, .int .i64 40, .int .i64 0, .int .i64 41] 3)) := (Below.refl _ _).alloc (Nat.le_refl _) _
      have hll : LO ≤ ww.heap.size := by have := I0.1; omega
      have hgw : G + 1 < ww.heap.size := I4
      refine wpOp_step rfl (fun K' hK => ?_)
      go_simp
      refine hK _ _ ?_
      exact ⟨_, _, _, _, _, _, _, _, _, _, _, _, _, rfl, (⟨Nat.le_trans I0.1 hs.1, fun j h1 h2 => (hs.2 j h1 (Nat.lt_of_lt_of_le h2 I0.1)).trans (I0.2 j h1 h2)⟩), (I1.trans (bS.mono (by omega))), (fun h1 h2 => (I2 ((upd_other (by decide)).symm.trans h1) ((upd_other (by decide)).symm.trans h2)).below bS hgw), (fun h => (I3 ((upd_other (by decide)).symm.trans h)).below bS hgw), (Nat.lt_of_lt_of_le I4 bS.size), (fun h => (I5 ((upd_other (by decide)).symm.trans h)).alloc _), (kp f0), (kp f1), (kp f2), (fun _ => ⟨a, rfl⟩), (fun _ => ⟨ww.heap.size, a, rfl, Rw.new ww _ _, hll⟩), (fun h => by
        obtain ⟨g, e, r, hl⟩ := f5 (upd_ne h (by decide))
        exact ⟨g, e, hs.rw r hl, hl⟩), (kp f6), (fun h => ⟨(f7 (upd_ne h (by decide))).1, upd_mono (f7 (upd_ne h (by decide))).2⟩), (fun h => by
        obtain ⟨g, k, e, hk, r, hl⟩ := f8 (upd_ne h (by decide))
        exact ⟨g, k, e, hk, hs.rw r hl, hl⟩), (kp f9), (fun h => by
        obtain ⟨g, k, a, e, hk, r, hl⟩ := f10 (upd_ne h (by decide))
        exact ⟨g, k, a, e, hk, hs.rw r hl, hl⟩), (kp f11), (fun h => (f12 (upd_ne h (by decide))).alloc _), (kp f13)⟩
    · obtain rfl := Option.some.inj ho
      have hs : StayB LO ww (ww.alloc (.cells #[.int .i64 0, .int .i64 0, .int .i64 1, .int .i64 1, .int .i64 1, .int .i64 2, .int .i64 3, .int .i64 4] 3)) := ⟨by simp, fun j _ h2 => Below.heap_alloc ww _ j h2⟩
      have bS : Below ww.heap.size ww (ww.alloc (.cells #[.int .i64 0, .int .i64 0, .int .i64 1, .int .i64 1, .int .i64 1, .int .i64 2, .int .i64 3, .int .i64 4] 3)) := (Below.refl _ _).alloc (Nat.le_refl _) _
      have hll : LO ≤ ww.heap.size := by have := I0.1; omega
      have hgw : G + 1 < ww.heap.size := I4
      refine wpOp_step rfl (fun K' hK => ?_)
      go_simp
      refine hK _ _ ?_
      exact ⟨_, _, _, _, _, _, _, _, _, _, _, _, _, rfl, (⟨Nat.le_trans I0.1 hs.1, fun j h1 h2 => (hs.2 j h1 (Nat.lt_of_lt_of_le h2 I0.1)).trans (I0.2 j h1 h2)⟩), (I1.trans (bS.mono (by omega))), (fun h1 h2 => (I2 ((upd_other (by decide)).symm.trans h1) ((upd_other (by decide)).symm.trans h2)).below bS hgw), (fun h => (I3 ((upd_other (by decide)).symm.trans h)).below bS hgw), (Nat.lt_of_lt_of_le I4 bS.size), (fun h => (I5 ((upd_other (by decide)).symm.trans h)).alloc _), (kp f0), (kp f1), (kp f2), (kp f3), (fun h => by
        obtain ⟨g, a, e, r, hl⟩ := f4 (upd_ne h (by decide))
        exact ⟨g, a, e, hs.rw r hl, hl⟩), (fun _ => ⟨ww.heap.size, rfl, Rw.new ww _ _, hll⟩), (kp f6), (fun h => ⟨(f7 (upd_ne h (by decide))).1, upd_mono (f7 (upd_ne h (by decide))).2⟩), (fun h => by
        obtain ⟨g, k, e, hk, r, hl⟩ := f8 (upd_ne h (by decide))
        exact ⟨g, k, e, hk, hs.rw r hl, hl⟩), (kp f9), (fun h => by
        obtain ⟨g, k, a, e, hk, r, hl⟩ := f10 (upd_ne h (by decide))
        exact ⟨g, k, a, e, hk, hs.rw r hl, hl⟩), (kp f11), (fun h => (f12 (upd_ne h (by decide))).alloc _), (kp f13)⟩
    · obtain rfl := Option.some.inj ho
      refine wpOp_step rfl (fun K' hK => ?_)
      go_simp
      refine hK _ _ ?_
      exact ⟨_, _, _, _, _, _, _, _, _, _, _, _, _, rfl, (I0), (I1), (fun h1 h2 => I2 ((upd_other (by decide)).symm.trans h1) ((upd_other (by decide)).symm.trans h2)), (fun h => I3 ((upd_other (by decide)).symm.trans h)), (I4), (fun h => I5 ((upd_other (by decide)).symm.trans h)), (kp f0), (kp f1), (kp f2), (kp f3), (kp f4), (kp f5), (fun _ => rfl), (fun h => ⟨(f7 (upd_ne h (by decide))).1, upd_mono (f7 (upd_ne h (by decide))).2⟩), (kp f8), (kp f9), (kp f10), (kp f11), (kp f12), (kp f13)⟩
    · obtain rfl := Option.some.inj ho
      have g6 := f6 (hd ⟨6, .data⟩ (by simp) rfl)
      subst g6
      refine wpOp_step rfl (fun K' hK => ?_)
      go_simp
      refine (pick_any (G + 1) ((0 + 700) + 1) 8 ww (I3 hL) (by omega) (by omega)).mono ?_
      rintro e w' ⟨a, rfl, ha0, ha1, hr6, g6⟩
      have hs : StayB LO ww w' := (StayB.refl LO ww).grown g6 (by omega)
      obtain ⟨k, rfl⟩ : ∃ k : Nat, a = k := ⟨a.toNat, by omega⟩
      have hk8 : k < 8 := by omega
      refine hK _ _ ?_
      exact ⟨_, _, _, _, _, _, _, _, _, _, _, _, _, rfl, (I0.grown g6 (by omega)), (I1.grown g6 (by have := I1.size; have := HGe.out; omega) (fun k hk => by have := Option.some.inj hk; omega)), (fun _ h => absurd (upd_self.symm.trans h) (by decide)), (fun h => absurd (upd_self.symm.trans h) (by decide)), (hr6.lt), (fun h => by
        have r := I5 ((upd_other (by decide)).symm.trans h)
        exact r.far g6 (fun e => by have := Option.some.inj e; omega)), (kp f0), (kp f1), (kp f2), (kp f3), (fun h => by
        obtain ⟨g, a, e, r, hl⟩ := f4 (upd_ne h (by decide))
        exact ⟨g, a, e, hs.rw r hl, hl⟩), (fun h => by
        obtain ⟨g, e, r, hl⟩ := f5 (upd_ne h (by decide))
        exact ⟨g, e, hs.rw r hl, hl⟩), (kp f6), (fun _ => ⟨⟨k, rfl, hk8⟩, upd_mono (hd ⟨2, .chain⟩ (by simp) rfl)⟩), (fun h => by
        obtain ⟨g, k, e, hk, r, hl⟩ := f8 (upd_ne h (by decide))
        exact ⟨g, k, e, hk, hs.rw r hl, hl⟩), (kp f9), (fun h => by
        obtain ⟨g, k, a, e, hk, r, hl⟩ := f10 (upd_ne h (by decide))
        exact ⟨g, k, a, e, hk, hs.rw r hl, hl⟩), (kp f11), (fun h => by
        have r := f12 (upd_ne h (by decide))
        exact r.far g6 (fun e => by have := Option.some.inj e; omega)), (kp f13)⟩
    · obtain rfl := Option.some.inj ho
      have g5 := f5 (hd ⟨5, .data⟩ (by simp) rfl)
      have g7 := f7 (hd ⟨7, .data⟩ (by simp) rfl)
      obtain ⟨g, rfl, r, hl⟩ := g5
      obtain ⟨⟨k, rfl, hk⟩, -⟩ := g7
      have hk1 : (k : Int) < 8 := by omega
      refine wpOp_step rfl (fun K' hK => ?_)
      go_simp
      refine hK _ _ ?_
      exact ⟨_, _, _, _, _, _, _, _, _, _, _, _, _, rfl, (I0), (I1), (fun h1 h2 => I2 ((upd_other (by decide)).symm.trans h1) ((upd_other (by decide)).symm.trans h2)), (fun h => I3 ((upd_other (by decide)).symm.trans h)), (I4), (fun h => I5 ((upd_other (by decide)).symm.trans h)), (kp f0), (kp f1), (kp f2), (kp f3), (kp f4), (fun _ => ⟨g, rfl, r, hl⟩), (kp f6), (fun h => ⟨⟨k, rfl, hk⟩, upd_mono (f7 (upd_ne h (by decide))).2⟩), (fun _ => ⟨g, k, by first | rfl | simp, hk, r, hl⟩), (kp f9), (kp f10), (kp f11), (kp f12), (kp f13)⟩
    · obtain rfl := Option.some.inj ho
      have g8 := f8 (hd ⟨8, .data⟩ (by simp) rfl)
      obtain ⟨g, k, rfl, hk, r, hl⟩ := g8
      obtain ⟨j, hj, hcj⟩ : ∃ j : Nat, j < 5 ∧ ww.cell? ⟨g, k, none⟩ = some (.int .i64 j) := by
        have hc := r.cell k
        obtain rfl | rfl | rfl | rfl | rfl | rfl | rfl | rfl : k = 0 ∨ k = 1 ∨ k = 2 ∨ k = 3 ∨ k = 4 ∨ k = 5 ∨ k = 6 ∨ k = 7 := by omega
        · exact ⟨0, by omega, hc⟩
        · exact ⟨0, by omega, hc⟩
        · exact ⟨1, by omega, hc⟩
        · exact ⟨1, by omega, hc⟩
        · exact ⟨1, by omega, hc⟩
        · exact ⟨2, by omega, hc⟩
        · exact ⟨3, by omega, hc⟩
        · exact ⟨4, by omega, hc⟩
      refine wpOp_step rfl (fun K' hK => ?_)
      go_simp
      refine hK _ _ ?_
      exact ⟨_, _, _, _, _, _, _, _, _, _, _, _, _, rfl, (I0), (I1), (fun h1 h2 => I2 ((upd_other (by decide)).symm.trans h1) ((upd_other (by decide)).symm.trans h2)), (fun h => I3 ((upd_other (by decide)).symm.trans h)), (I4), (fun h => I5 ((upd_other (by decide)).symm.trans h)), (kp f0), (kp f1), (kp f2), (kp f3), (kp f4), (kp f5), (kp f6), (fun h => ⟨(f7 (upd_ne h (by decide))).1, upd_mono (f7 (upd_ne h (by decide))).2⟩), (fun _ => ⟨g, k, rfl, hk, r, hl⟩), (fun _ => ⟨j, rfl, hj⟩), (kp f10), (kp f11), (kp f12), (kp f13)⟩
    · obtain rfl := Option.some.inj ho
      have g4 := f4 (hd ⟨4, .data⟩ (by simp) rfl)
      have g9 := f9 (hd ⟨9, .data⟩ (by simp) rfl)
      obtain ⟨g, a, rfl, r, hl⟩ := g4
      obtain ⟨k, rfl, hk⟩ := g9
      have hk1 : (k : Int) < 5 := by omega
      refine wpOp_step rfl (fun K' hK => ?_)
      go_simp
      refine hK _ _ ?_
      exact ⟨_, _, _, _, _, _, _, _, _, _, _, _, _, rfl, (I0), (I1), (fun h1 h2 => I2 ((upd_other (by decide)).symm.trans h1) ((upd_other (by decide)).symm.trans h2)), (fun h => I3 ((upd_other (by decide)).symm.trans h)), (I4), (fun h => I5 ((upd_other (by decide)).symm.trans h)), (kp f0), (kp f1), (kp f2), (kp f3), (fun _ => ⟨g, a, rfl, r, hl⟩), (kp f5), (kp f6), (fun h => ⟨(f7 (upd_ne h (by decide))).1, upd_mono (f7 (upd_ne h (by decide))).2⟩), (kp f8), (fun _ => ⟨k, rfl, hk⟩), (fun _ => ⟨g, k, a, by first | rfl | simp, hk, r, hl⟩), (kp f11), (kp f12), (kp f13)⟩
    · obtain rfl := Option.some.inj ho
      have g10 := f10 (hd ⟨10, .data⟩ (by simp) rfl)
      obtain ⟨g, k, a, rfl, hk, r, hl⟩ := g10
      obtain ⟨j, hcj⟩ : ∃ j : Int, ww.cell? ⟨g, k, none⟩ = some (.int .i64 j) := by
        have hc := r.cell k
        obtain rfl | rfl | rfl | rfl | rfl : k = 0 ∨ k = 1 ∨ k = 2 ∨ k = 3 ∨ k = 4 := by omega
        · exact ⟨_, hc⟩
        · exact ⟨_, hc⟩
        · exact ⟨_, hc⟩
        · exact ⟨_, hc⟩
        · exact ⟨_, hc⟩
      refine wpOp_step rfl (fun K' hK => ?_)
      go_simp
      refine hK _ _ ?_
      exact ⟨_, _, _, _, _, _, _, _, _, _, _, _, _, rfl, (I0), (I1), (fun h1 h2 => I2 ((upd_other (by decide)).symm.trans h1) ((upd_other (by decide)).symm.trans h2)), (fun h => I3 ((upd_other (by decide)).symm.trans h)), (I4), (fun h => I5 ((upd_other (by decide)).symm.trans h)), (kp f0), (kp f1), (kp f2), (kp f3), (kp f4), (kp f5), (kp f6), (fun h => ⟨(f7 (upd_ne h (by decide))).1, upd_mono (f7 (upd_ne h (by decide))).2⟩), (kp f8), (kp f9), (fun _ => ⟨g, k, a, rfl, hk, r, hl⟩), (fun _ => ⟨j, rfl⟩), (kp f12), (kp f13)⟩
    · obtain rfl := Option.some.inj ho
      have g0 := f0 (hd ⟨0, .data⟩ (by simp) rfl)
      subst g0
      have rz := I5 hL
      have u0 := rz.cell 0
      have u1 := rz.cell 1
      have v0 := rz.frozen 0
      have v1 := rz.frozen 1
      simp at u0 u1
      have hs : StayB LO ww ((ww.setCell ⟨G, 0, none⟩ (.slice A1 nn c1)).setCell ⟨G, 1, none⟩ (.slice R1 m d1)) := ((StayB.refl LO ww).put (by omega) 0 _).put (by omega) 1 _
      have pw : ww.grownBy ((ww.setCell ⟨G, 0, none⟩ (.slice A1 nn c1)).setCell ⟨G, 1, none⟩ (.slice R1 m d1)) (some G) := World.grownBy.trans (put_any ww G 0 _) (put_any _ G 1 _)
      refine wpOp_step rfl (fun K' hK => ?_)
      go_simp
      refine hK _ _ ?_
      exact ⟨_, _, _, _, _, _, _, _, _, _, _, _, _, rfl, ((I0.put (by omega) 0 _).put (by omega) 1 _), (I1.grown pw (by have := I1.size; have := HGe.out; omega) (fun k hk => by have := Option.some.inj hk; omega)), (fun _ h => absurd ((hd ⟨7, .chain⟩ (by simp) rfl).symm.trans ((upd_other (by decide)).symm.trans h)) (by decide)), (fun h => absurd ((hd ⟨7, .chain⟩ (by simp) rfl).symm.trans ((upd_other (by decide)).symm.trans h)) (by decide)), (Nat.lt_of_lt_of_le I4 pw.size), (fun h => absurd (upd_self.symm.trans h) (by decide)), (kp f0), (kp f1), (kp f2), (kp f3), (fun h => by
        obtain ⟨g, a, e, r, hl⟩ := f4 (upd_ne h (by decide))
        exact ⟨g, a, e, hs.rw r hl, hl⟩), (fun h => by
        obtain ⟨g, e, r, hl⟩ := f5 (upd_ne h (by decide))
        exact ⟨g, e, hs.rw r hl, hl⟩), (kp f6), (fun h => ⟨(f7 (upd_ne h (by decide))).1, upd_mono (f7 (upd_ne h (by decide))).2⟩), (fun h => by
        obtain ⟨g, k, e, hk, r, hl⟩ := f8 (upd_ne h (by decide))
        exact ⟨g, k, e, hk, hs.rw r hl, hl⟩), (kp f9), (fun h => by
        obtain ⟨g, k, a, e, hk, r, hl⟩ := f10 (upd_ne h (by decide))
        exact ⟨g, k, a, e, hk, hs.rw r hl, hl⟩), (kp f11), (fun _ => (rz.put 0 _).put 1 _), (kp f13)⟩
    · obtain rfl := Option.some.inj ho
      have g11 := f11 (hd ⟨11, .data⟩ (by simp) rfl)
      obtain ⟨a, rfl⟩ := g11
      refine wpOp_step rfl (fun K' hK => ?_)
      go_simp
      refine hK _ _ ?_
      exact ⟨_, _, _, _, _, _, _, _, _, _, _, _, _, rfl, (I0), (I1), (fun h1 h2 => I2 ((upd_other (by decide)).symm.trans h1) ((upd_other (by decide)).symm.trans h2)), (fun h => I3 ((upd_other (by decide)).symm.trans h)), (I4), (fun h => I5 ((upd_other (by decide)).symm.trans h)), (kp f0), (kp f1), (kp f2), (kp f3), (kp f4), (kp f5), (kp f6), (fun h => ⟨(f7 (upd_ne h (by decide))).1, upd_mono (f7 (upd_ne h (by decide))).2⟩), (kp f8), (kp f9), (kp f10), (fun _ => ⟨a, rfl⟩), (kp f12), (fun _ => ⟨_, rfl⟩)⟩
  case hdone =>
    rintro L ac ww hall ⟨t3, t10, t11, t12, t13, t14, t15, t16, t17, t18, t19, t20, t21, rfl, I0, I1, I2, I3, I4, I5, f0, f1, f2, f3, f4, f5, f6, f7, f8, f9, f10, f11, f12, f13⟩
    have e0 := f0 (hall 0 (by decide))
    have e1 := f1 (hall 1 (by decide))
    have e2 := f2 (hall 2 (by decide))
    have e3 := f3 (hall 3 (by decide))
    have e4 := f4 (hall 4 (by decide))
    have e5 := f5 (hall 5 (by decide))
    have e6 := f6 (hall 6 (by decide))
    have e7 := f7 (hall 7 (by decide))
    have e8 := f8 (hall 8 (by decide))
    have e9 := f9 (hall 9 (by decide))
    have e10 := f10 (hall 10 (by decide))
    have e11 := f11 (hall 11 (by decide))
    have e12 := f12 (hall 12 (by decide))
    have e13 := f13 (hall 13 (by decide))
    clear f0 f1 f2 f3 f4 f5 f6 f7 f8 f9 f10 f11 f12 f13
    obtain ⟨x, rfl⟩ := e13
    have q0 := e12.cell 0
    have q1 := e12.cell 1
    simp at q0 q1
    have HFz := Lib.hid ((HFy.stayB I0) ww (Nat.le_refl _) (fun _ _ _ => rfl))
    have G1 := Lib.hid I1
    clear I0 I1 I2 I3 I4 I5 e0 e1 e2 e3 e4 e5 e6 e7 e8 e9 e10 e11 e12 HFy hall
    go_wp2_with fail
    exact bodyPost_ret (v := .tuple #[.agg #[.slice A1 nn c1, .slice R1 m d1], .int .i64 x]) (by simp [results, Try.results40, go_sem, *]) rfl ⟨A1, nn, c1, R1, m, d1, hh, x, rfl, hc1, hd1, HFz.out, hsm, by rw [HGe.out]; exact G1.out⟩
end Go.Proofs.Ytmjejcfifkbkoaa
