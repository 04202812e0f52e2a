/- For every list of bytes the law FnCountedValid returns true (P55), over the program's contract. No conditions. -/
import Derived.Test.YtijgfpcpkmpdpaaCh
import Derived.Test.YtijgfpcpkmpdpaaPh
import Derived.Test.YtijgfpcpkmpdpaaGa
import Derived.StillTailTactics
namespace Go.Proofs.Ytijgfpcpkmpdpaa
open Go.RowKit
set_option maxRecDepth 100000

namespace Hps
theorem more_bad2 {h : Hp} {l : List Int} {x : Int} (h1 : okCt h l = true) (hx : l[0]? = some x) : okCt h (l.set 0 (x + 1)) = false ∧ 0 ≤ x ∧ x ≤ 1000000000 := by
  obtain ⟨hv, hl⟩ := okCt_iff.1 h1
  refine ⟨more_bad hl hx, ?_⟩
  have hlt := (List.getElem?_eq_some_iff.1 hx).1
  rw [hl, counts_len] at hlt
  rw [hl, counts_at hlt] at hx
  have hx2 := Option.some.inj hx
  obtain ⟨t1, t2, t3⟩ := valid_small hv
  have hr := refsTo_len (h := h) (fun cl hcl => by have := t3 cl hcl; omega) _ (Nat.le_refl _)
  rw [refsTo_all] at hr
  have := count_le_len (refsOf h) ((0 : Nat) : Int)
  omega
end Hps


set_option maxHeartbeats 8000000 in
theorem countedValidLaw_walk (A0 : Option Addr) (n0 c0 : Nat) (w : World) (hby : Bytes w w.heap.size A0 n0) (hc0 : n0 ≤ c0) (hn0 : n0 ≤ 9223372036854775807) :
    Calls Try.prog 8 #[.slice A0 n0 c0] w fun e w' => e = .returned (.bool true) ∧ Below w.heap.size w w' := by
  by_cases hs : n0 ≤ 1048576
  case neg =>
    have hs' : (1048576 : Int) < (n0 : Int) := by omega
    go_enter Try.func8, Try.ntmps8
    go_wp2
    go_ret
    exact ⟨rfl, Below.refl _ _⟩
  have hs' : decide ((1048576 : Int) < (n0 : Int)) = false := by simp; omega
  go_enter Try.func8, Try.ntmps8
  go_wp2_with fail
  refine (drawCountedValid_any _ _ _ _ hby hc0 hn0).mono ?_
  rintro e w1 ⟨A, nn, c, R, m, d, K, p, q, h, l, rfl, hnc, hmd, hpq, hsr, hkr, hsm, hl41, b1⟩
  have hnn := hsm.1
  have hmm := hsm.2.1
  have hlc := hsr.cells.1
  have hlr := hsr.roots.1
  have hlk := hkr.1
  obtain ⟨v, hv⟩ : ∃ v, Hps.okCt h l = v := ⟨_, rfl⟩
  have HV := Lib.hid hv
  have hvv : (v != v) = false := by cases v <;> rfl
  have bA : Below w1.heap.size w1 (w1.alloc (.cells #[.slice A nn c, .slice R m d, .slice K p q] 50)) := (Below.refl _ _).alloc (Nat.le_refl _) _
  have bx := Rw.new w1 50 #[.slice A nn c, .slice R m d, .slice K p q]
  replace hsr := hsr.up bA
  replace hkr := hkr.up bA
  have bb := b1.trans (bA.mono b1.size)
  have hn41 : nn ≤ 41 := by omega
  have hm4 : m ≤ 4 := by omega
  have hp41 : p ≤ 41 := by omega
  have HLC := Lib.hid hlc
  have HLK := Lib.hid hlk
  clear hv bA b1 hsm hnn hmm hlc hlr hlk hby hl41
  go_upto_region 4 with fail
  generalize w1.alloc (.cells #[.slice A nn c, .slice R m d, .slice K p q] 50) = w2 at bx hsr hkr bb ⊢
  generalize w1.heap.size = b at bx ⊢
  have x0 : w2.cell? ⟨b, 0, none⟩ = some (.slice A nn c) := bx.cell 0
  have x1 : w2.cell? ⟨b, 1, none⟩ = some (.slice R m d) := bx.cell 1
  have x2 : w2.cell? ⟨b, 2, none⟩ = some (.slice K p q) := bx.cell 2
  go_wp2_with fail
  refine (countedValid_any _ _ _ _ _ _ _ _ _ h l _ hsr hkr (by omega) (by omega) (by omega) hnc hmd).mono ?_
  rw [HV.out]
  rintro e w3 ⟨rfl, b3⟩
  replace bx := bx.keep b3 bx.lt
  replace hsr := hsr.up b3
  replace hkr := hkr.up b3
  replace bb := bb.trans (b3.mono bb.size)
  clear x0 x1 x2 b3
  have x0 : w3.cell? ⟨b, 0, none⟩ = some (.slice A nn c) := bx.cell 0
  have x1 : w3.cell? ⟨b, 1, none⟩ = some (.slice R m d) := bx.cell 1
  have x2 : w3.cell? ⟨b, 2, none⟩ = some (.slice K p q) := bx.cell 2
  go_wp2_with fail
  refine (mCountedValid_any _ _ _ _ _ _ _ _ _ h l _ hsr hkr (by omega) (by omega) (by omega)).mono ?_
  rw [HV.out]
  rintro e w4 ⟨rfl, b3⟩
  replace bx := bx.keep b3 bx.lt
  replace hsr := hsr.up b3
  replace hkr := hkr.up b3
  replace bb := bb.trans (b3.mono bb.size)
  clear x0 x1 x2 b3
  have x0 : w4.cell? ⟨b, 0, none⟩ = some (.slice A nn c) := bx.cell 0
  have x1 : w4.cell? ⟨b, 1, none⟩ = some (.slice R m d) := bx.cell 1
  have x2 : w4.cell? ⟨b, 2, none⟩ = some (.slice K p q) := bx.cell 2
  cases v
  · go_wp2_with fail
    refine (alive_any _).mono ?_
    rintro e w5 ⟨rfl, b5⟩
    go_wp2_with fail
    go_ret
    exact ⟨rfl, bb.trans (b5.mono bb.size)⟩
  by_cases hp0 : p = 0
  · have hp0' : ((p : Int) == 0) = true := by simp [hp0]
    go_wp2_with fail
    refine (alive_any _).mono ?_
    rintro e w5 ⟨rfl, b5⟩
    go_wp2_with fail
    go_ret
    exact ⟨rfl, bb.trans (b5.mono bb.size)⟩
  have hp0' : ((p : Int) == 0) = false := by rw [beq_eq_false_iff_ne]; omega
  have HB := Lib.hid (fun x hx => Hps.more_bad2 (h := h) (l := l) (x := x) HV.out hx)
  have hbl := bx.lt
  go_upto_region 9 with fail
  refine wp_region_inv (by kernel_rfl) (by kernel_rfl) (fun L ac ww => ∃ t5 t26 t27 t28 t29 t30 t31 t32 : Value, ac = { tmps := #[Value.slice A0 n0 c0, undef, Value.bool false, Value.pointer (some { block := b, off := 0 }), Value.bool true, t5, Value.slice A0 n0 c0, Value.int IntKind.i64 ↑n0, Value.bool false, Value.slice A0 n0 c0, ctV A nn c R m d K p q, Value.agg #[Value.slice A nn c, Value.slice R m d, Value.slice K p q], Value.bool true, Value.bool true, Value.agg #[Value.slice A nn c, Value.slice R m d, Value.slice K p q], Value.bool true, Value.bool false, Value.bool true, Value.bool false, Value.bool false, Value.pointer (some { block := b, off := 2 }), Value.slice K p q, Value.int IntKind.i64 ↑p, Value.bool false, Value.bool false, undef, t26, t27, t28, t29, t30, t31, t32, undef, undef, undef, undef, undef, undef, undef, undef, undef, undef, undef], defers := [] } ∧ (Below w4.heap.size w4 ww) ∧ (L 0 = true → t26 = .pointer (some ⟨b, 0, none⟩)) ∧ (L 1 = true → t27 = .agg #[.slice A nn c, .slice R m d]) ∧ (L 2 = true → ∃ g2 : Nat, t28 = .slice (some ⟨g2, 0, none⟩) 0 0 ∧ (L 5 = false → OwnI ww w4.heap.size t28 [])) ∧ (L 3 = true → t29 = .pointer (some ⟨b, 2, none⟩)) ∧ (L 4 = true → t30 = .slice K p q) ∧ (L 5 = true → ∃ (A8 : Option Addr) (c8 : Nat), t31 = .slice A8 p c8 ∧ OwnI ww w4.heap.size t31 l) ∧ (L 6 = true → t32 = .agg #[.slice A nn c, .slice R m d, t31] ∧ L 5 = true) ∧ (L 7 = true → ∃ g7 : Nat, t5 = .pointer (some ⟨g7, 0, none⟩) ∧ w4.heap.size ≤ g7 ∧ (L 8 = false → Rw ww g7 50 #[.slice none 0 0, .slice none 0 0, .slice none 0 0])) ∧ (L 8 = true → (∀ q, q < 8 → L q = true) ∧ ∃ g7 : Nat, t5 = .pointer (some ⟨g7, 0, none⟩) ∧ w4.heap.size ≤ g7 ∧ Rw ww g7 50 #[.slice A nn c, .slice R m d, t31])) ?h0 ?hstep ?hdone
  case h0 => exact ⟨_, _, _, _, _, _, _, _, rfl, (Below.refl _ _).drew, (fun h => absurd h Bool.false_ne_true), (fun h => absurd h Bool.false_ne_true), (fun h => absurd h Bool.false_ne_true), (fun h => absurd h Bool.false_ne_true), (fun h => absurd h Bool.false_ne_true), (fun h => absurd h Bool.false_ne_true), (fun h => absurd h Bool.false_ne_true), (fun h => absurd h Bool.false_ne_true), (fun h => absurd h Bool.false_ne_true)⟩
  case hstep =>
    rintro L ac ww i o ho hL hd ⟨t5, t26, t27, t28, t29, t30, t31, t32, rfl, I0, f0, f1, f2, f3, f4, f5, f6, f7, f8⟩
    have hi : i < 9 := (Array.getElem?_eq_some_iff.1 ho).1
    obtain rfl | rfl | rfl | rfl | rfl | rfl | rfl | rfl | rfl : i = 0 ∨ i = 1 ∨ i = 2 ∨ i = 3 ∨ i = 4 ∨ i = 5 ∨ i = 6 ∨ i = 7 ∨ i = 8 := by omega
    · obtain rfl := Option.some.inj ho
      refine wpOp_step rfl (fun K' hK => ?_)
      go_simp
      refine hK _ _ ?_
      exact ⟨_, _, _, _, _, _, _, _, rfl, (I0), (fun _ => rfl), (kp f1), (fun h => by
        obtain ⟨g2, e2, r2⟩ := f2 (upd_ne h (by decide))
        exact ⟨g2, e2, fun h5 => r2 (by rw [upd_other (by decide)] at h5; exact h5)⟩), (kp f3), (kp f4), (kp f5), (fun h => ⟨(f6 (upd_ne h (by decide))).1, upd_mono (f6 (upd_ne h (by decide))).2⟩), (fun h => by
        obtain ⟨g7, e7, hg7, r7⟩ := f7 (upd_ne h (by decide))
        exact ⟨g7, e7, hg7, fun h8 => r7 (by rw [upd_other (by decide)] at h8; exact h8)⟩), (fun h => absurd ((f8 (upd_ne h (by decide))).1 0 (by decide)) (by rw [hL]; decide))⟩
    · obtain rfl := Option.some.inj ho
      have g0 := f0 (hd ⟨0, .data⟩ (by simp) rfl)
      subst g0
      have y0 : ww.cell? ⟨b, 0, none⟩ = some (.slice A nn c) := (I0.cell (p := ⟨b, 0, none⟩) hbl).trans x0
      have y1 : ww.cell? ⟨b, 1, none⟩ = some (.slice R m d) := (I0.cell (p := ⟨b, 1, none⟩) hbl).trans x1
      refine wpOp_step rfl (fun K' hK => ?_)
      go_simp
      refine hK _ _ ?_
      exact ⟨_, _, _, _, _, _, _, _, rfl, (I0), (kp f0), (fun _ => rfl), (fun h => by
        obtain ⟨g2, e2, r2⟩ := f2 (upd_ne h (by decide))
        exact ⟨g2, e2, fun h5 => r2 (by rw [upd_other (by decide)] at h5; exact h5)⟩), (kp f3), (kp f4), (kp f5), (fun h => ⟨(f6 (upd_ne h (by decide))).1, upd_mono (f6 (upd_ne h (by decide))).2⟩), (fun h => by
        obtain ⟨g7, e7, hg7, r7⟩ := f7 (upd_ne h (by decide))
        exact ⟨g7, e7, hg7, fun h8 => r7 (by rw [upd_other (by decide)] at h8; exact h8)⟩), (fun h => absurd ((f8 (upd_ne h (by decide))).1 1 (by decide)) (by rw [hL]; decide))⟩
    · obtain rfl := Option.some.inj ho
      have b5 : Below ww.heap.size ww (ww.alloc (.cells #[] 3)) := (Below.refl _ _).alloc (Nat.le_refl _) _
      have n5 := (own_noneI ww w4.heap.size I0.size)
      refine wpOp_step rfl (fun K' hK => ?_)
      go_simp
      refine hK _ _ ?_
      exact ⟨_, _, _, _, _, _, _, _, rfl, (I0.alloc I0.size _), (kp f0), (kp f1), (fun _ => ⟨_, rfl, fun _ => n5⟩), (kp f3), (kp f4), (fun h => by
        obtain ⟨A8, c8, e8, r8⟩ := f5 (upd_ne h (by decide))
        exact ⟨A8, c8, e8, r8.below b5 (Nat.le_refl _)⟩), (fun h => ⟨(f6 (upd_ne h (by decide))).1, upd_mono (f6 (upd_ne h (by decide))).2⟩), (fun h => by
        obtain ⟨g7, e7, hg7, r7⟩ := f7 (upd_ne h (by decide))
        exact ⟨g7, e7, hg7, fun h8 => (r7 (by rw [upd_other (by decide)] at h8; exact h8)).keep b5 (r7 (by rw [upd_other (by decide)] at h8; exact h8)).lt⟩), (fun h => absurd ((f8 (upd_ne h (by decide))).1 2 (by decide)) (by rw [hL]; decide))⟩
    · obtain rfl := Option.some.inj ho
      refine wpOp_step rfl (fun K' hK => ?_)
      go_simp
      refine hK _ _ ?_
      exact ⟨_, _, _, _, _, _, _, _, rfl, (I0), (kp f0), (kp f1), (fun h => by
        obtain ⟨g2, e2, r2⟩ := f2 (upd_ne h (by decide))
        exact ⟨g2, e2, fun h5 => r2 (by rw [upd_other (by decide)] at h5; exact h5)⟩), (fun _ => rfl), (kp f4), (kp f5), (fun h => ⟨(f6 (upd_ne h (by decide))).1, upd_mono (f6 (upd_ne h (by decide))).2⟩), (fun h => by
        obtain ⟨g7, e7, hg7, r7⟩ := f7 (upd_ne h (by decide))
        exact ⟨g7, e7, hg7, fun h8 => r7 (by rw [upd_other (by decide)] at h8; exact h8)⟩), (fun h => absurd ((f8 (upd_ne h (by decide))).1 3 (by decide)) (by rw [hL]; decide))⟩
    · obtain rfl := Option.some.inj ho
      have g3 := f3 (hd ⟨3, .data⟩ (by simp) rfl)
      subst g3
      have y2 : ww.cell? ⟨b, 2, none⟩ = some (.slice K p q) := (I0.cell (p := ⟨b, 2, none⟩) hbl).trans x2
      refine wpOp_step rfl (fun K' hK => ?_)
      go_simp
      refine hK _ _ ?_
      exact ⟨_, _, _, _, _, _, _, _, rfl, (I0), (kp f0), (kp f1), (fun h => by
        obtain ⟨g2, e2, r2⟩ := f2 (upd_ne h (by decide))
        exact ⟨g2, e2, fun h5 => r2 (by rw [upd_other (by decide)] at h5; exact h5)⟩), (kp f3), (fun _ => rfl), (kp f5), (fun h => ⟨(f6 (upd_ne h (by decide))).1, upd_mono (f6 (upd_ne h (by decide))).2⟩), (fun h => by
        obtain ⟨g7, e7, hg7, r7⟩ := f7 (upd_ne h (by decide))
        exact ⟨g7, e7, hg7, fun h8 => r7 (by rw [upd_other (by decide)] at h8; exact h8)⟩), (fun h => absurd ((f8 (upd_ne h (by decide))).1 4 (by decide)) (by rw [hL]; decide))⟩
    · obtain rfl := Option.some.inj ho
      have g2 := f2 (hd ⟨2, .data⟩ (by simp) rfl)
      have g4 := f4 (hd ⟨4, .data⟩ (by simp) rfl)
      subst g4
      obtain ⟨g2, e2, r2⟩ := g2
      subst e2
      have o5 := r2 hL
      refine wpOp_step rfl (fun K' hK => ?_)
      refine app_stepI rfl (.tmp 28) (.tmp 30) rfl w4.heap.size _ [] rfl o5 K p q ww.heap.size l rfl (hkr.up I0) (by simp; omega) I0.size ?_
      intro v' w' o9 g9 s9
      obtain ⟨A8, c8, e8, -⟩ := o9.form
      rw [List.nil_append, HLK.out] at e8
      subst e8
      have bG : Below w4.heap.size w4 w' := I0.grown g9 I0.size (fun k hk => (World.ownsRow.lt o5 k hk).1)
      have hg9 : ∀ j, j < ww.heap.size → some j ≠ (Value.slice (some ⟨g2, 0, none⟩) 0 0).ownBlock → w'.heap[j]? = ww.heap[j]? := g9.block
      refine hK _ _ ?_
      exact ⟨_, _, _, _, _, _, _, _, rfl, (bG), (kp f0), (kp f1), (fun _ => ⟨g2, rfl, fun h => absurd h (by rw [upd_self]; decide)⟩), (kp f3), (kp f4), (fun _ => ⟨A8, c8, rfl, OwnI.cast (List.nil_append l) o9⟩), (fun h => absurd (f6 (upd_ne h (by decide))).2 (by rw [hL]; decide)), (fun h => by
        obtain ⟨g7, e7, hg7, r7⟩ := f7 (upd_ne h (by decide))
        exact ⟨g7, e7, hg7, fun h8 => Rw.far (r7 (by rw [upd_other (by decide)] at h8; exact h8)) g9 (row_type o5 (r7 (by rw [upd_other (by decide)] at h8; exact h8)) (by decide))⟩), (fun h => absurd ((f8 (upd_ne h (by decide))).1 5 (by decide)) (by rw [hL]; decide))⟩
    · obtain rfl := Option.some.inj ho
      have g1 := f1 (hd ⟨1, .data⟩ (by simp) rfl)
      have g5 := f5 (hd ⟨5, .data⟩ (by simp) rfl)
      subst g1
      have l5 := Lib.hid (hd ⟨5, .data⟩ (by simp) rfl)
      obtain ⟨A8, c8, e8, r8⟩ := g5
      subst e8
      refine wpOp_step rfl (fun K' hK => ?_)
      go_simp
      refine hK _ _ ?_
      exact ⟨_, _, _, _, _, _, _, _, rfl, (I0), (kp f0), (kp f1), (fun h => by
        obtain ⟨g2, e2, r2⟩ := f2 (upd_ne h (by decide))
        exact ⟨g2, e2, fun h5 => r2 (by rw [upd_other (by decide)] at h5; exact h5)⟩), (kp f3), (kp f4), (fun _ => ⟨A8, c8, rfl, r8⟩), (fun _ => ⟨rfl, upd_mono l5.out⟩), (fun h => by
        obtain ⟨g7, e7, hg7, r7⟩ := f7 (upd_ne h (by decide))
        exact ⟨g7, e7, hg7, fun h8 => r7 (by rw [upd_other (by decide)] at h8; exact h8)⟩), (fun h => absurd ((f8 (upd_ne h (by decide))).1 6 (by decide)) (by rw [hL]; decide))⟩
    · obtain rfl := Option.some.inj ho
      have b5 : Below ww.heap.size ww (ww.alloc (.cells #[.slice none 0 0, .slice none 0 0, .slice none 0 0] 50)) := (Below.refl _ _).alloc (Nat.le_refl _) _
      have r7n := Rw.new ww 50 #[.slice none 0 0, .slice none 0 0, .slice none 0 0]
      refine wpOp_step rfl (fun K' hK => ?_)
      go_simp
      refine hK _ _ ?_
      exact ⟨_, _, _, _, _, _, _, _, rfl, (I0.alloc I0.size _), (kp f0), (kp f1), (fun h => by
        obtain ⟨g2, e2, r2⟩ := f2 (upd_ne h (by decide))
        exact ⟨g2, e2, fun h5 => (r2 (by rw [upd_other (by decide)] at h5; exact h5)).below b5 (Nat.le_refl _)⟩), (kp f3), (kp f4), (fun h => by
        obtain ⟨A8, c8, e8, r8⟩ := f5 (upd_ne h (by decide))
        exact ⟨A8, c8, e8, r8.below b5 (Nat.le_refl _)⟩), (fun h => ⟨(f6 (upd_ne h (by decide))).1, upd_mono (f6 (upd_ne h (by decide))).2⟩), (fun _ => ⟨_, rfl, I0.size, fun _ => r7n⟩), (fun h => absurd ((f8 (upd_ne h (by decide))).1 7 (by decide)) (by rw [hL]; decide))⟩
    · obtain rfl := Option.some.inj ho
      have g6 := f6 (hd ⟨6, .data⟩ (by simp) rfl)
      have g7 := f7 (hd ⟨7, .data⟩ (by simp) rfl)
      have lq : Hid (∀ q, q < 8 → L q = true) := Lib.hid (by
        intro q hq
        obtain rfl | rfl | rfl | rfl | rfl | rfl | rfl | rfl : q = 0 ∨ q = 1 ∨ q = 2 ∨ q = 3 ∨ q = 4 ∨ q = 5 ∨ q = 6 ∨ q = 7 := by omega
        · exact hd ⟨0, .phase⟩ (by simp) rfl
        · exact hd ⟨1, .phase⟩ (by simp) rfl
        · exact hd ⟨2, .phase⟩ (by simp) rfl
        · exact hd ⟨3, .phase⟩ (by simp) rfl
        · exact hd ⟨4, .phase⟩ (by simp) rfl
        · exact hd ⟨5, .phase⟩ (by simp) rfl
        · exact hd ⟨6, .phase⟩ (by simp) rfl
        · exact hd ⟨7, .phase⟩ (by simp) rfl)
      obtain ⟨e6, -⟩ := g6
      subst e6
      obtain ⟨A8, c8, e8, r8⟩ := f5 (lq.out 5 (by decide))
      subst e8
      obtain ⟨g7, e7, hg7, r7⟩ := g7
      subst e7
      have P := r7 hL
      have zf0 : ww.frozen? ⟨g7, 0, none⟩ = false := P.frozen 0
      have zf1 : ww.frozen? ⟨g7, 1, none⟩ = false := P.frozen 1
      have zf2 : ww.frozen? ⟨g7, 2, none⟩ = false := P.frozen 2
      have zc0 : ww.cell? ⟨g7, 0, none⟩ = some (.slice none 0 0) := P.cell 0
      have zc1 : ww.cell? ⟨g7, 1, none⟩ = some (.slice none 0 0) := P.cell 1
      have zc2 : ww.cell? ⟨g7, 2, none⟩ = some (.slice none 0 0) := P.cell 2
      have ne7 : (Value.slice A8 p c8).ownBlock = none ∨ (Value.slice A8 p c8).ownBlock ≠ some g7 := .inr (row_type r8 P (by decide)).symm
      have P4 := ((P.put 0 (.slice A nn c)).put 1 (.slice R m d)).put 2 (.slice A8 p c8)
      have o9 := ((r8.far (put_any ww g7 0 (.slice A nn c)) ne7).far (put_any _ g7 1 (.slice R m d)) ne7).far (put_any _ g7 2 (.slice A8 p c8)) ne7
      refine wpOp_step rfl (fun K' hK => ?_)
      go_simp
      refine hK _ _ ?_
      exact ⟨_, _, _, _, _, _, _, _, rfl, (((I0.setCell (p := ⟨g7, 0, none⟩) hg7 _).setCell (p := ⟨g7, 1, none⟩) hg7 _).setCell (p := ⟨g7, 2, none⟩) hg7 _), (kp f0), (kp f1), (fun h => by
        obtain ⟨g2, e2, r2⟩ := f2 (upd_ne h (by decide))
        exact ⟨g2, e2, fun h5 => absurd (lq.out 5 (by decide)) (by rw [upd_other (by decide)] at h5; rw [h5]; decide)⟩), (kp f3), (kp f4), (fun _ => ⟨A8, c8, rfl, o9⟩), (fun _ => ⟨rfl, upd_mono (lq.out 5 (by decide))⟩), (fun _ => ⟨g7, rfl, hg7, fun h => absurd h (by rw [upd_self]; decide)⟩), (fun _ => ⟨fun q hq => upd_mono (lq.out q hq), g7, rfl, hg7, P4⟩)⟩
  case hdone =>
    rintro L ac ww hall ⟨t5, t26, t27, t28, t29, t30, t31, t32, rfl, I0, f0, f1, f2, f3, f4, f5, f6, f7, f8⟩
    have e0 := f0 (hall 0 (by decide))
    have e1 := f1 (hall 1 (by decide))
    have e2 := f2 (hall 2 (by decide))
    have e3 := f3 (hall 3 (by decide))
    have e4 := f4 (hall 4 (by decide))
    have e5 := f5 (hall 5 (by decide))
    have e6 := f6 (hall 6 (by decide))
    have e7 := f7 (hall 7 (by decide))
    have e8 := f8 (hall 8 (by decide))
    clear f0 f1 f2 f3 f4 f5 f6 f7 f8
    obtain ⟨-, g7, rfl, hg7, P⟩ := e8
    obtain ⟨A8, c8, rfl, r8⟩ := e5
    have HSR := Lib.hid (fun (w9 : World) (hB : Below w4.heap.size ww w9) => hsr.up (I0.trans hB))
    have hz0 := bb.size
    replace bb := bb.trans (I0.mono bb.size)
    have hz4 := bx.lt
    clear I0 e0 e1 e2 e3 e4 e6 e7 hall x0 x1 x2
    obtain ⟨gk, rfl⟩ : ∃ gk, A8 = some ⟨gk, 0, none⟩ := by
      obtain ⟨A1, c1, e, h1⟩ := r8.form
      injection e with e1 e2 e3
      obtain ⟨g, e4, -, -⟩ := h1 (by omega)
      exact ⟨g, e1.trans e4⟩
    obtain ⟨g', o', x, e1, _, hx, cx⟩ := r8.reads.at_ (k := 0) (by omega)
    injection e1 with e1
    injection e1 with e1 e2
    subst e1 e2
    rw [Nat.zero_add] at cx
    have fx : ww.frozen? ⟨gk, 0, none⟩ = false := r8.frozen HLK.out 0
    have OX := Lib.hid (fun y => r8.put' (j := 0) HLK.out y)
    have hgk := World.ownsRow.lt r8 gk rfl
    have hne : g7 ≠ gk := fun e => row_type r8 P (by decide) (by rw [e]; rfl)
    have y2 : ww.cell? ⟨g7, 2, none⟩ = some (.slice (some ⟨gk, 0, none⟩) p c8) := P.cell 2
    have hp1 : (0 : Int) < p := by omega
    have hp1n : 0 < p := by omega
    have hxr := HB.out x hx
    have PH := Lib.hid P
    clear hsr hkr bx P
    generalize ww = w6 at *
    go_upto_region 10 with fail
    have hw : IntKind.i64.wrap (x + 1) = x + 1 := IntWalk.i64_in _ (by omega)
    go_still_tail 7, (by kernel_rfl)
    change wpList _ _ _ _ _ w6.drew
    have bD : Below w6.heap.size w6 w6.drew := (Below.refl _ _).drew
    have O2 := OX.out (x + 1)
    have O3 : OwnI (w6.drew.setCell ⟨gk, 0, none⟩ (.int .i64 (x + 1))) w4.heap.size (.slice (some ⟨gk, 0, none⟩) p c8) (l.set 0 (x + 1)) := (r8.below bD (Nat.le_refl _)).put' (j := 0) HLK.out (x + 1)
    have P3 := (PH.out.keep bD PH.out.lt).other hne (i := 0) (.int .i64 (x + 1))
    have bF : Below w4.heap.size w6 (w6.drew.setCell ⟨gk, 0, none⟩ (.int .i64 (x + 1))) := ((Below.refl _ _).drew).setCell (p := ⟨gk, 0, none⟩) hgk.1 _
    have B9 := bb.trans (bF.mono hz0)
    have S9 := HSR.out _ bF
    have cd : w6.drew.cell? ⟨gk, 0, none⟩ = some (.int .i64 x) := cx
    have fd : w6.drew.frozen? ⟨gk, 0, none⟩ = false := fx
    clear O2 OX cx fx bb bF bD y2
    generalize w6.drew = w9 at O3 P3 B9 S9 cd fd ⊢
    go_upto_region 11 with fail
    generalize w9.setCell ⟨gk, 0, none⟩ (.int .i64 (x + 1)) = w7 at O3 P3 B9 S9 ⊢
    have z0 : w7.cell? ⟨g7, 0, none⟩ = some (.slice A nn c) := P3.cell 0
    have z1 : w7.cell? ⟨g7, 1, none⟩ = some (.slice R m d) := P3.cell 1
    have z2 : w7.cell? ⟨g7, 2, none⟩ = some (.slice (some ⟨gk, 0, none⟩) p c8) := P3.cell 2
    have HX := Lib.hid hxr.1
    clear hxr
    go_wp2_with fail
    refine (countedValid_any A R (some ⟨gk, 0, none⟩) nn c m d p c8 h (l.set 0 (x + 1)) _ S9 O3.reads (by omega) (by omega) (by omega) hnc hmd).mono ?_
    rw [HX.out]
    rintro e w8 ⟨rfl, b8⟩
    have bb8 := B9.trans (b8.mono B9.size)
    go_wp2_with fail
    go_ret
    exact ⟨rfl, bb8⟩
end Go.Proofs.Ytijgfpcpkmpdpaa
