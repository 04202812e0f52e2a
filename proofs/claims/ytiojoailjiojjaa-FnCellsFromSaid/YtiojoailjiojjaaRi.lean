/- What l20Suspect and the draws of a heap and a cell return. No conditions. -/
import Derived.Test.YtiojoailjiojjaaKo
namespace Go.Proofs.Ytiojoailjiojjaa
open Go.RowKit
set_option maxRecDepth 100000

/-- from block lo on nothing has changed -/
def SameB (lo : Nat) (w w' : World) : Prop := w.heap.size ≤ w'.heap.size ∧ ∀ j, lo ≤ j → j < w.heap.size → w'.heap[j]? = w.heap[j]?
theorem SameB.refl (lo : Nat) (w : World) : SameB lo w w := ⟨Nat.le_refl _, fun _ _ _ => rfl⟩
theorem SameB.grown {lo gr : Nat} {w w1 w2 : World} (h : SameB lo w w1) (hg : w1.grownBy w2 (some gr)) (hl : gr < lo) : SameB lo w w2 :=
  ⟨Nat.le_trans h.1 hg.size, fun j h1 h2 => (hg.block j (Nat.lt_of_lt_of_le h2 h.1) (fun e => by have := Option.some.inj e; omega)).trans (h.2 j h1 h2)⟩
theorem SameB.put {lo g : Nat} {w w1 : World} (h : SameB lo w w1) (hl : g < lo) (i : Nat) (v : Value) : SameB lo w (w1.setCell ⟨g, i, none⟩ v) :=
  ⟨by simpa using h.1, fun j h1 h2 => (Below.heap_setCell w1 ⟨g, i, none⟩ v j (by show j ≠ g; omega)).trans (h.2 j h1 h2)⟩
theorem SameB.rw {lo g : Nat} {w w1 : World} {t : TypeId} {cs : Array Value} (h : SameB lo w w1) (hr : Rw w g t cs) (hl : lo ≤ g) : Rw w1 g t cs := (h.2 g hl hr.lt).trans hr
theorem HF.sameB {lo : Nat} {w w1 : World} {A R : Option Addr} {n m : Nat} {h : Hp} (hf : HF w lo A n R m h) (hs : SameB lo w w1) : HF w1 lo A n R m h :=
  fun w' h1 h2 => hf w' (Nat.le_trans hs.1 h1) fun j h3 h4 => (h2 j h3 (Nat.lt_of_lt_of_le h4 hs.1)).trans (hs.2 j h3 h4)
theorem HF.lower {lo lo' : Nat} {w : World} {A R : Option Addr} {n m : Nat} {h : Hp} (hf : HF w lo A n R m h) (hl : lo' ≤ lo) : HF w lo' A n R m h :=
  fun w' h1 h2 => hf w' h1 fun j h3 h4 => h2 j (by omega) h4

/-- a heap and a number have been drawn -/
def DrewS (w : World) (gr N : Nat) (e : Ending) (w' : World) : Prop :=
  ∃ (A : Option Addr) (nn c : Nat) (R : Option Addr) (m d : Nat) (h : Hp) (x : Int), e = .returned (.tuple #[heapV A nn c R m d, .int .i64 x]) ∧ nn ≤ c ∧ m ≤ d ∧ HF w' w.heap.size A nn R m h ∧ SmallH h ∧ Rd w' gr (N + 702) ∧ w.grownBy w' (some gr)

set_option maxHeartbeats 8000000 in
theorem l20Suspect_any (gr N : Nat) (w : World) (h : Rd w gr N) (hN : N ≤ 10000) :
    Calls Try.prog 40 #[.pointer (some ⟨gr, 0, none⟩)] w (DrewS w gr N) := by
  have hgl := h.lt
  have b0 : Below w.heap.size w (w.alloc (.cells #[.slice none 0 0, .slice none 0 0] 26)) := (Below.refl _ _).alloc (Nat.le_refl _) _
  have r2 := Rw.new w 26 #[.slice none 0 0, .slice none 0 0]
  have hz : (w.alloc (.cells #[.slice none 0 0, .slice none 0 0] 26)).heap.size = w.heap.size + 1 := by simp
  have h0 := h.below b0 hgl
  go_enter Try.func40, Try.ntmps40
  go_upto_region 1 with fail
  generalize w.alloc (.cells #[.slice none 0 0, .slice none 0 0] 26) = w0 at b0 r2 hz h0 ⊢
  go_wp2_with fail
  refine (l20Heap_any gr N 14 _ h0 (by omega) (by omega) (by omega)).mono ?_
  rintro e w1 ⟨A1, nn, c1, R1, m, d1, hh, rfl, hc1, hd1, HFx, -, hsm, hr1, g1⟩
  have r2' := r2.far g1 (fun e => by injection e with e; omega)
  rw [hz] at HFx
  have bA : Below w1.heap.size w1 (w1.alloc (.cells #[.slice A1 nn c1, .slice R1 m d1] 26)) := (Below.refl _ _).alloc (Nat.le_refl _) _
  have bx := Rw.new w1 26 #[.slice A1 nn c1, .slice R1 m d1]
  have hs1 := g1.size
  have gg : w.grownBy (w1.alloc (.cells #[.slice A1 nn c1, .slice R1 m d1] 26)) (some gr) := grown_below (World.grownBy.trans (grown_below (World.grownBy.refl w (some gr)) b0) g1) (bA.mono (by omega))
  have HFy := HFx.sameB (w1 := w1.alloc (.cells #[.slice A1 nn c1, .slice R1 m d1] 26)) ⟨bA.size, fun j _ h2 => bA.block j h2⟩
  have hrA := hr1.below bA hr1.lt
  have hnn : nn ≤ 41 := by
    have h1 := (HFy _ (Nat.le_refl _) (fun _ _ _ => rfl)).cells.1
    have h2 := hsm.1
    omega
  replace r2' := r2'.alloc (.cells #[.slice A1 nn c1, .slice R1 m d1] 26)
  clear r2 hr1 g1 HFx h0 b0
  go_upto_region 2 with fail
  generalize w1.alloc (.cells #[.slice A1 nn c1, .slice R1 m d1] 26) = w3 at bA bx gg HFy hrA r2' ⊢
  obtain ⟨b, hb⟩ : ∃ b, w1.heap.size = b := ⟨_, rfl⟩
  rw [hb] at bx bA ⊢
  have hbl : w.heap.size + 1 ≤ b := by omega
  obtain ⟨G, hG⟩ : ∃ G, w.heap.size = G := ⟨_, rfl⟩
  rw [hG] at hgl r2' hbl HFy ⊢
  have HGe := Lib.hid hG
  clear hG hb hs1 hz bA
  have hrB := hrA.below (Below.refl w.heap.size w3).drew (by rw [HGe.out]; exact hgl)
  refine wp_region_inv (by kernel_rfl) (by kernel_rfl) (fun L ac ww => ∃ t3 t7 t8 t9 t10 t11 t12 t13 t14 t15 t16 t17 : Value, ac = { tmps := #[Value.pointer (some { block := gr, off := 0 }), undef, Value.pointer (some { block := G, off := 0 }), t3, Value.pointer (some { block := b, off := 0 }), Value.pointer (some { block := gr, off := 0 }), heapV A1 nn c1 R1 m d1, t7, t8, t9, t10, t11, t12, t13, t14, t15, t16, t17], defers := [] } ∧ (SameB (G + 1) w3 ww) ∧ (w.grownBy ww (some gr)) ∧ (L 6 = false → L 8 = false → Rd ww gr (N + 700)) ∧ (L 8 = false → Rd ww gr ((N + 700) + 1)) ∧ (Rd ww gr ((N + 700) + 2)) ∧ (L 11 = false → Rw ww G 26 #[.slice none 0 0, .slice none 0 0]) ∧ (L 0 = true → t7 = heapV A1 nn c1 R1 m d1) ∧ (L 1 = true → t8 = .pointer (some ⟨gr, 0, none⟩)) ∧ (L 2 = true → t9 = .pointer (some ⟨b, 0, none⟩)) ∧ (L 3 = true → t10 = .slice A1 nn c1) ∧ (L 4 = true → t11 = .int .i64 (nn : Nat)) ∧ (L 5 = true → t12 = .int .i64 ((nn : Int) + 1)) ∧ (L 6 = true → ∃ a : Int, t13 = .int .i64 a) ∧ (L 7 = true → t14 = .pointer (some ⟨gr, 0, none⟩)) ∧ (L 8 = true → (∃ a : Int, t15 = .int .i64 a) ∧ L 6 = true) ∧ (L 9 = true → ∃ a : Int, t16 = .int .i64 a) ∧ (L 10 = true → ∃ a : Int, t17 = .int .i64 a) ∧ (L 11 = true → Rw ww G 26 #[.slice A1 nn c1, .slice R1 m d1]) ∧ (L 12 = true → ∃ a : Int, t3 = .int .i64 a)) ?h0 ?hstep ?hdone
  case h0 => exact ⟨_, _, _, _, _, _, _, _, _, _, _, _, rfl, SameB.refl _ _, grown_below gg (Below.refl _ _).drew, fun _ _ => hrB, fun _ => hrB.more (by omega), hrB.more (by omega), fun _ => r2', (fun h => absurd h Bool.false_ne_true), (fun h => absurd h Bool.false_ne_true), (fun h => absurd h Bool.false_ne_true), (fun h => absurd h Bool.false_ne_true), (fun h => absurd h Bool.false_ne_true), (fun h => absurd h Bool.false_ne_true), (fun h => absurd h Bool.false_ne_true), (fun h => absurd h Bool.false_ne_true), (fun h => absurd h Bool.false_ne_true), (fun h => absurd h Bool.false_ne_true), (fun h => absurd h Bool.false_ne_true), (fun h => absurd h Bool.false_ne_true), (fun h => absurd h Bool.false_ne_true)⟩
  case hstep =>
    rintro L ac ww i o ho hL hd ⟨t3, t7, t8, t9, t10, t11, t12, t13, t14, t15, t16, t17, rfl, I0, I1, I2, I3, I4, I5, f0, f1, f2, f3, f4, f5, f6, f7, f8, f9, f10, f11, f12⟩
    have hi : i < 13 := (Array.getElem?_eq_some_iff.1 ho).1
    obtain rfl | rfl | rfl | rfl | rfl | rfl | rfl | rfl | rfl | rfl | rfl | rfl | rfl : i = 0 ∨ i = 1 ∨ i = 2 ∨ i = 3 ∨ i = 4 ∨ i = 5 ∨ i = 6 ∨ i = 7 ∨ i = 8 ∨ i = 9 ∨ i = 10 ∨ i = 11 ∨ i = 12 := by omega
    · obtain rfl := Option.some.inj ho
      have xb := I0.rw bx hbl
      have y0 := xb.cell 0
      have y1 := xb.cell 1
      simp at y0 y1
      refine wpOp_step rfl (fun K' hK => ?_)
      go_simp
      refine hK _ _ ?_
      exact ⟨_, _, _, _, _, _, _, _, _, _, _, _, rfl, (I0), (I1), (fun h1 h2 => I2 ((upd_other (by decide)).symm.trans h1) ((upd_other (by decide)).symm.trans h2)), (fun h => I3 ((upd_other (by decide)).symm.trans h)), (I4), (fun h => I5 ((upd_other (by decide)).symm.trans h)), (fun _ => rfl), (kp f1), (kp f2), (kp f3), (kp f4), (kp f5), (kp f6), (kp f7), (fun h => ⟨(f8 (upd_ne h (by decide))).1, upd_mono (f8 (upd_ne h (by decide))).2⟩), (kp f9), (kp f10), (kp f11), (kp f12)⟩
    · obtain rfl := Option.some.inj ho
      refine wpOp_step rfl (fun K' hK => ?_)
      go_simp
      refine hK _ _ ?_
      exact ⟨_, _, _, _, _, _, _, _, _, _, _, _, rfl, (I0), (I1), (fun h1 h2 => I2 ((upd_other (by decide)).symm.trans h1) ((upd_other (by decide)).symm.trans h2)), (fun h => I3 ((upd_other (by decide)).symm.trans h)), (I4), (fun h => I5 ((upd_other (by decide)).symm.trans h)), (kp f0), (fun _ => rfl), (kp f2), (kp f3), (kp f4), (kp f5), (kp f6), (kp f7), (fun h => ⟨(f8 (upd_ne h (by decide))).1, upd_mono (f8 (upd_ne h (by decide))).2⟩), (kp f9), (kp f10), (kp f11), (kp f12)⟩
    · obtain rfl := Option.some.inj ho
      refine wpOp_step rfl (fun K' hK => ?_)
      go_simp
      refine hK _ _ ?_
      exact ⟨_, _, _, _, _, _, _, _, _, _, _, _, rfl, (I0), (I1), (fun h1 h2 => I2 ((upd_other (by decide)).symm.trans h1) ((upd_other (by decide)).symm.trans h2)), (fun h => I3 ((upd_other (by decide)).symm.trans h)), (I4), (fun h => I5 ((upd_other (by decide)).symm.trans h)), (kp f0), (kp f1), (fun _ => rfl), (kp f3), (kp f4), (kp f5), (kp f6), (kp f7), (fun h => ⟨(f8 (upd_ne h (by decide))).1, upd_mono (f8 (upd_ne h (by decide))).2⟩), (kp f9), (kp f10), (kp f11), (kp f12)⟩
    · obtain rfl := Option.some.inj ho
      have g2 := f2 (hd ⟨2, .data⟩ (by simp) rfl)
      subst g2
      have xb := I0.rw bx hbl
      have y0 := xb.cell 0
      simp at y0
      refine wpOp_step rfl (fun K' hK => ?_)
      go_simp
      refine hK _ _ ?_
      exact ⟨_, _, _, _, _, _, _, _, _, _, _, _, rfl, (I0), (I1), (fun h1 h2 => I2 ((upd_other (by decide)).symm.trans h1) ((upd_other (by decide)).symm.trans h2)), (fun h => I3 ((upd_other (by decide)).symm.trans h)), (I4), (fun h => I5 ((upd_other (by decide)).symm.trans h)), (kp f0), (kp f1), (kp f2), (fun _ => rfl), (kp f4), (kp f5), (kp f6), (kp f7), (fun h => ⟨(f8 (upd_ne h (by decide))).1, upd_mono (f8 (upd_ne h (by decide))).2⟩), (kp f9), (kp f10), (kp f11), (kp f12)⟩
    · obtain rfl := Option.some.inj ho
      have g3 := f3 (hd ⟨3, .data⟩ (by simp) rfl)
      subst g3
      refine wpOp_step rfl (fun K' hK => ?_)
      go_simp
      refine hK _ _ ?_
      exact ⟨_, _, _, _, _, _, _, _, _, _, _, _, rfl, (I0), (I1), (fun h1 h2 => I2 ((upd_other (by decide)).symm.trans h1) ((upd_other (by decide)).symm.trans h2)), (fun h => I3 ((upd_other (by decide)).symm.trans h)), (I4), (fun h => I5 ((upd_other (by decide)).symm.trans h)), (kp f0), (kp f1), (kp f2), (kp f3), (fun _ => rfl), (kp f5), (kp f6), (kp f7), (fun h => ⟨(f8 (upd_ne h (by decide))).1, upd_mono (f8 (upd_ne h (by decide))).2⟩), (kp f9), (kp f10), (kp f11), (kp f12)⟩
    · obtain rfl := Option.some.inj ho
      have g4 := f4 (hd ⟨4, .data⟩ (by simp) rfl)
      subst g4
      have hw1 : IntKind.i64.wrap ((nn : Int) + 1) = (nn : Int) + 1 := IntWalk.i64_in _ (by omega)
      refine wpOp_step rfl (fun K' hK => ?_)
      go_simp
      refine hK _ _ ?_
      exact ⟨_, _, _, _, _, _, _, _, _, _, _, _, rfl, (I0), (I1), (fun h1 h2 => I2 ((upd_other (by decide)).symm.trans h1) ((upd_other (by decide)).symm.trans h2)), (fun h => I3 ((upd_other (by decide)).symm.trans h)), (I4), (fun h => I5 ((upd_other (by decide)).symm.trans h)), (kp f0), (kp f1), (kp f2), (kp f3), (kp f4), (fun _ => rfl), (kp f6), (kp f7), (fun h => ⟨(f8 (upd_ne h (by decide))).1, upd_mono (f8 (upd_ne h (by decide))).2⟩), (kp f9), (kp f10), (kp f11), (kp f12)⟩
    · obtain rfl := Option.some.inj ho
      have g1 := f1 (hd ⟨1, .data⟩ (by simp) rfl)
      have g5 := f5 (hd ⟨5, .data⟩ (by simp) rfl)
      subst g1
      subst g5
      have hL8 : L 8 = false := by
        cases e : L 8
        · rfl
        · exact absurd (f8 e).2 (by rw [hL]; decide)
      refine wpOp_step rfl (fun K' hK => ?_)
      go_simp
      refine (pick_any gr (N + 700) ((nn : Int) + 1) ww (I2 hL hL8) (by omega) (by omega)).mono ?_
      rintro e w' ⟨a, rfl, -, -, hr6, g6⟩
      refine hK _ _ ?_
      exact ⟨_, _, _, _, _, _, _, _, _, _, _, _, rfl, (I0.grown g6 (by omega)), (World.grownBy.trans I1 g6), (fun h => absurd (upd_self.symm.trans h) (by decide)), (fun _ => hr6), (hr6.more (by omega)), (fun h => by
        have r := I5 ((upd_other (by decide)).symm.trans h)
        exact r.far g6 (fun e => by have := Option.some.inj e; omega)), (kp f0), (kp f1), (kp f2), (kp f3), (kp f4), (kp f5), (fun _ => ⟨a, rfl⟩), (kp f7), (fun h => absurd (f8 (upd_ne h (by decide))).2 (by rw [hL]; decide)), (kp f9), (kp f10), (fun h => by
        have r := f11 (upd_ne h (by decide))
        exact r.far g6 (fun e => by have := Option.some.inj e; omega)), (kp f12)⟩
    · obtain rfl := Option.some.inj ho
      refine wpOp_step rfl (fun K' hK => ?_)
      go_simp
      refine hK _ _ ?_
      exact ⟨_, _, _, _, _, _, _, _, _, _, _, _, rfl, (I0), (I1), (fun h1 h2 => I2 ((upd_other (by decide)).symm.trans h1) ((upd_other (by decide)).symm.trans h2)), (fun h => I3 ((upd_other (by decide)).symm.trans h)), (I4), (fun h => I5 ((upd_other (by decide)).symm.trans h)), (kp f0), (kp f1), (kp f2), (kp f3), (kp f4), (kp f5), (kp f6), (fun _ => rfl), (fun h => ⟨(f8 (upd_ne h (by decide))).1, upd_mono (f8 (upd_ne h (by decide))).2⟩), (kp f9), (kp f10), (kp f11), (kp f12)⟩
    · obtain rfl := Option.some.inj ho
      have g7 := f7 (hd ⟨7, .data⟩ (by simp) rfl)
      subst g7
      refine wpOp_step rfl (fun K' hK => ?_)
      go_simp
      refine (pick_any gr ((N + 700) + 1) 14 ww (I3 hL) (by omega) (by omega)).mono ?_
      rintro e w' ⟨a, rfl, -, -, hr6, g6⟩
      refine hK _ _ ?_
      exact ⟨_, _, _, _, _, _, _, _, _, _, _, _, rfl, (I0.grown g6 (by omega)), (World.grownBy.trans I1 g6), (fun _ h => absurd (upd_self.symm.trans h) (by decide)), (fun h => absurd (upd_self.symm.trans h) (by decide)), (hr6.more (by omega)), (fun h => by
        have r := I5 ((upd_other (by decide)).symm.trans h)
        exact r.far g6 (fun e => by have := Option.some.inj e; omega)), (kp f0), (kp f1), (kp f2), (kp f3), (kp f4), (kp f5), (kp f6), (kp f7), (fun _ => ⟨⟨a, rfl⟩, upd_mono (hd ⟨6, .chain⟩ (by simp) rfl)⟩), (kp f9), (kp f10), (fun h => by
        have r := f11 (upd_ne h (by decide))
        exact r.far g6 (fun e => by have := Option.some.inj e; omega)), (kp f12)⟩
    · obtain rfl := Option.some.inj ho
      have g8 := f8 (hd ⟨8, .data⟩ (by simp) rfl)
      obtain ⟨⟨a, rfl⟩, -⟩ := g8
      refine wpOp_step rfl (fun K' hK => ?_)
      go_simp
      refine hK _ _ ?_
      exact ⟨_, _, _, _, _, _, _, _, _, _, _, _, rfl, (I0), (I1), (fun h1 h2 => I2 ((upd_other (by decide)).symm.trans h1) ((upd_other (by decide)).symm.trans h2)), (fun h => I3 ((upd_other (by decide)).symm.trans h)), (I4), (fun h => I5 ((upd_other (by decide)).symm.trans h)), (kp f0), (kp f1), (kp f2), (kp f3), (kp f4), (kp f5), (kp f6), (kp f7), (fun _ => ⟨⟨a, rfl⟩, upd_mono (f8 (hd ⟨8, .data⟩ (by simp) rfl)).2⟩), (fun _ => ⟨_, rfl⟩), (kp f10), (kp f11), (kp f12)⟩
    · obtain rfl := Option.some.inj ho
      have g6 := f6 (hd ⟨6, .data⟩ (by simp) rfl)
      have g9 := f9 (hd ⟨9, .data⟩ (by simp) rfl)
      obtain ⟨a6, rfl⟩ := g6
      obtain ⟨a9, rfl⟩ := g9
      refine wpOp_step rfl (fun K' hK => ?_)
      go_simp
      refine hK _ _ ?_
      exact ⟨_, _, _, _, _, _, _, _, _, _, _, _, rfl, (I0), (I1), (fun h1 h2 => I2 ((upd_other (by decide)).symm.trans h1) ((upd_other (by decide)).symm.trans h2)), (fun h => I3 ((upd_other (by decide)).symm.trans h)), (I4), (fun h => I5 ((upd_other (by decide)).symm.trans h)), (kp f0), (kp f1), (kp f2), (kp f3), (kp f4), (kp f5), (fun _ => ⟨a6, rfl⟩), (kp f7), (fun h => ⟨(f8 (upd_ne h (by decide))).1, upd_mono (f8 (upd_ne h (by decide))).2⟩), (fun _ => ⟨a9, rfl⟩), (fun _ => ⟨_, rfl⟩), (kp f11), (kp f12)⟩
    · obtain rfl := Option.some.inj ho
      have g0 := f0 (hd ⟨0, .data⟩ (by simp) rfl)
      subst g0
      have rz := I5 hL
      have u0 := rz.cell 0
      have u1 := rz.cell 1
      have v0 := rz.frozen 0
      have v1 := rz.frozen 1
      simp at u0 u1
      have hgw : gr < w.heap.size := by rw [HGe.out]; exact hgl
      have bS : Below w.heap.size ww ((ww.setCell ⟨G, 0, none⟩ (.slice A1 nn c1)).setCell ⟨G, 1, none⟩ (.slice R1 m d1)) := ((Below.refl _ _).setCell (p := ⟨G, 0, none⟩) (by show _ ≤ G; rw [HGe.out]; exact Nat.le_refl _) _).setCell (p := ⟨G, 1, none⟩) (by show _ ≤ G; rw [HGe.out]; exact Nat.le_refl _) _
      refine wpOp_step rfl (fun K' hK => ?_)
      go_simp
      refine hK _ _ ?_
      exact ⟨_, _, _, _, _, _, _, _, _, _, _, _, rfl, ((I0.put (by omega) 0 _).put (by omega) 1 _), (grown_below I1 bS), (fun h1 h2 => (I2 ((upd_other (by decide)).symm.trans h1) ((upd_other (by decide)).symm.trans h2)).below bS hgw), (fun h => (I3 ((upd_other (by decide)).symm.trans h)).below bS hgw), (I4.below bS hgw), (fun h => absurd (upd_self.symm.trans h) (by decide)), (kp f0), (kp f1), (kp f2), (kp f3), (kp f4), (kp f5), (kp f6), (kp f7), (fun h => ⟨(f8 (upd_ne h (by decide))).1, upd_mono (f8 (upd_ne h (by decide))).2⟩), (kp f9), (kp f10), (fun _ => (rz.put 0 _).put 1 _), (kp f12)⟩
    · obtain rfl := Option.some.inj ho
      have g10 := f10 (hd ⟨10, .data⟩ (by simp) rfl)
      obtain ⟨a10, rfl⟩ := g10
      refine wpOp_step rfl (fun K' hK => ?_)
      go_simp
      refine hK _ _ ?_
      exact ⟨_, _, _, _, _, _, _, _, _, _, _, _, rfl, (I0), (I1), (fun h1 h2 => I2 ((upd_other (by decide)).symm.trans h1) ((upd_other (by decide)).symm.trans h2)), (fun h => I3 ((upd_other (by decide)).symm.trans h)), (I4), (fun h => I5 ((upd_other (by decide)).symm.trans h)), (kp f0), (kp f1), (kp f2), (kp f3), (kp f4), (kp f5), (kp f6), (kp f7), (fun h => ⟨(f8 (upd_ne h (by decide))).1, upd_mono (f8 (upd_ne h (by decide))).2⟩), (kp f9), (fun _ => ⟨a10, rfl⟩), (kp f11), (fun _ => ⟨_, rfl⟩)⟩
  case hdone =>
    rintro L ac ww hall ⟨t3, t7, t8, t9, t10, t11, t12, t13, t14, t15, t16, t17, rfl, I0, I1, I2, I3, I4, I5, f0, f1, f2, f3, f4, f5, f6, f7, f8, f9, f10, f11, f12⟩
    have e0 := f0 (hall 0 (by decide))
    have e1 := f1 (hall 1 (by decide))
    have e2 := f2 (hall 2 (by decide))
    have e3 := f3 (hall 3 (by decide))
    have e4 := f4 (hall 4 (by decide))
    have e5 := f5 (hall 5 (by decide))
    have e6 := f6 (hall 6 (by decide))
    have e7 := f7 (hall 7 (by decide))
    have e8 := f8 (hall 8 (by decide))
    have e9 := f9 (hall 9 (by decide))
    have e10 := f10 (hall 10 (by decide))
    have e11 := f11 (hall 11 (by decide))
    have e12 := f12 (hall 12 (by decide))
    clear f0 f1 f2 f3 f4 f5 f6 f7 f8 f9 f10 f11 f12
    obtain ⟨x, rfl⟩ := e12
    have q0 := e11.cell 0
    have q1 := e11.cell 1
    simp at q0 q1
    have HFz := HFy.sameB I0
    have HFw := Lib.hid (HFz.lower (show w.heap.size ≤ G + 1 by rw [HGe.out]; omega))
    have G1 := Lib.hid I1
    have R1_ := Lib.hid I4
    clear I0 I1 I2 I3 I4 I5 e0 e1 e2 e3 e4 e5 e6 e7 e8 e9 e10 e11 HFz HFy hall
    go_wp2_with fail
    exact bodyPost_ret (v := .tuple #[.agg #[.slice A1 nn c1, .slice R1 m d1], .int .i64 x]) (by simp [results, Try.results40, go_sem, *]) rfl ⟨A1, nn, c1, R1, m, d1, hh, x, rfl, hc1, hd1, HFw.out, hsm, R1_.out, G1.out⟩

/-- a heap and a number have been drawn, and can be read -/
def DrawnS (w : World) (e : Ending) (w' : World) : Prop :=
  ∃ (A : Option Addr) (nn c : Nat) (R : Option Addr) (m d : Nat) (h : Hp) (x : Int), e = .returned (.tuple #[heapV A nn c R m d, .int .i64 x]) ∧ nn ≤ c ∧ m ≤ d ∧ HS w' w'.heap.size A nn R m h ∧ SmallH h ∧ Below w.heap.size w w'

set_option maxHeartbeats 1000000 in
theorem drawCellsFrom_any (A : Option Addr) (n c : Nat) (w : World) (h : Bytes w w.heap.size A n) (hc : n ≤ c) (hn : n ≤ 9223372036854775807) :
    Calls Try.prog 13 #[.slice A n c] w (DrawnS w) := by
  have b0 : Below w.heap.size w (w.alloc (.cells #[.slice none 0 0, .slice none 0 0] 26)) := (Below.refl _ _).alloc (Nat.le_refl _) _
  have h0 := (h.keep fun p hp => b0.cell hp).more b0.size
  have r0 := Rw.new w 26 #[.slice none 0 0, .slice none 0 0]
  go_enter Try.func13, Try.ntmps13
  go_wp2_with fail
  refine (open_any _ _ _ _ h0 hc hn).mono ?_
  rintro e w1 ⟨rfl, hr1, b1⟩
  have r1 := r0.keep b1 r0.lt
  have hz := r0.lt
  have bb1 := b0.trans (b1.mono b0.size)
  have hs0 := b0.size
  generalize w.alloc (.cells #[.slice none 0 0, .slice none 0 0] 26) = w0 at b0 h0 r0 hr1 b1 r1 hz bb1 hs0 ⊢
  go_wp2_with fail
  refine (l20Suspect_any _ _ _ hr1 (by omega)).mono ?_
  rintro e w2 ⟨A2, nn, c2, R2, m, d2, hh, x, rfl, hc1, hc2, HFx, hsm, -, g2⟩
  have r2 := r1.far g2 (fun e => by injection e with e; omega)
  have bb2 : Below w.heap.size w w2 := bb1.grown g2 bb1.size (fun k hk => by injection hk; omega)
  have x0 : w2.cell? ⟨w.heap.size, 0, none⟩ = some (.slice none 0 0) := r2.cell 0
  have x1 : w2.cell? ⟨w.heap.size, 1, none⟩ = some (.slice none 0 0) := r2.cell 1
  have x2 : w2.frozen? ⟨w.heap.size, 0, none⟩ = false := r2.frozen 0
  have x3 : w2.frozen? ⟨w.heap.size, 1, none⟩ = false := r2.frozen 1
  have y0 : ((w2.setCell ⟨w.heap.size, 0, none⟩ (.slice A2 nn c2)).setCell ⟨w.heap.size, 1, none⟩ (.slice R2 m d2)).cell? ⟨w.heap.size, 0, none⟩ = some (.slice A2 nn c2) := ((r2.put 0 (.slice A2 nn c2)).put 1 (.slice R2 m d2)).cell 0
  have y1 : ((w2.setCell ⟨w.heap.size, 0, none⟩ (.slice A2 nn c2)).setCell ⟨w.heap.size, 1, none⟩ (.slice R2 m d2)).cell? ⟨w.heap.size, 1, none⟩ = some (.slice R2 m d2) := ((r2.put 0 (.slice A2 nn c2)).put 1 (.slice R2 m d2)).cell 1
  have bS : w1.heap.size ≤ w1.heap.size ∧ w.heap.size < w1.heap.size := ⟨Nat.le_refl _, by have := b1.size; omega⟩
  have HSx := Lib.hid (HFx ((w2.setCell ⟨w.heap.size, 0, none⟩ (.slice A2 nn c2)).setCell ⟨w.heap.size, 1, none⟩ (.slice R2 m d2)) (by simp) (fun j hj hk => by
    rw [Below.heap_setCell _ ⟨w.heap.size, 1, none⟩ _ j (by show j ≠ w.heap.size; omega), Below.heap_setCell _ ⟨w.heap.size, 0, none⟩ _ j (by show j ≠ w.heap.size; omega)]))
  have BF := Lib.hid ((bb2.setCell (p := ⟨w.heap.size, 0, none⟩) (Nat.le_refl _) (.slice A2 nn c2)).setCell (p := ⟨w.heap.size, 1, none⟩) (Nat.le_refl _) (.slice R2 m d2))
  clear HFx g2 r2 r1 r0 bb1 bb2 b0 b1 h0 hr1
  go_wp2_with fail
  exact bodyPost_ret (v := .tuple #[.agg #[.slice A2 nn c2, .slice R2 m d2], .int .i64 x]) (by simp [results, Try.results13, go_sem, *]) rfl ⟨A2, nn, c2, R2, m, d2, hh, x, rfl, hc1, hc2, HSx.out, hsm, BF.out⟩

end Go.Proofs.Ytiojoailjiojjaa
