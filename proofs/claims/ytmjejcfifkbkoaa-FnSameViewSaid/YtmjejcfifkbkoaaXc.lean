/- What the draw of SameView returns: two heaps that a call can read. No conditions. -/
import Derived.Test.YtmjejcfifkbkoaaNb
import Derived.Test.YtmjejcfifkbkoaaVk
import Derived.Deep.Cut
import Derived.BigQuiet
namespace Go.Proofs.Ytmjejcfifkbkoaa
open Go.RowKit
set_option maxRecDepth 100000

/-- two heaps have been drawn -/
def DrawnV (w : World) (e : Ending) (w' : World) : Prop :=
  ∃ (A : Option Addr) (n c : Nat) (R : Option Addr) (m d : Nat) (A' : Option Addr) (n' c' : Nat) (R' : Option Addr) (m' d' : Nat) (a b : Hp), e = .returned (.tuple #[heapV A n c R m d, heapV A' n' c' R' m' d']) ∧ n ≤ c ∧ m ≤ d ∧ n' ≤ c' ∧ m' ≤ d' ∧
    HS w' w'.heap.size A n R m a ∧ HS w' w'.heap.size A' n' R' m' b ∧ n ≤ 41 ∧ m ≤ 4 ∧ n' ≤ 41 ∧ m' ≤ 4 ∧ Below w.heap.size w w'
/-- few cells and roots -/
def Few (h : Hp) : Prop := h.cs.length ≤ 41 ∧ h.rt.length ≤ 4
theorem copy_few {h : Hp} (hf : Few h) : Few (Hps.copyH h) := by
  unfold Hps.copyH
  split
  · next hv => exact ⟨by simp only [Hps.moveH, List.length_map]; exact Nat.le_trans (Hps.order_len h) hf.1, by simp only [Hps.moveH, List.length_map]; exact hf.2⟩
  · exact ⟨by simp, by simp⟩
theorem slide_few {h : Hp} (hf : Few h) : Few (Hps.slideH h) := by
  unfold Hps.slideH
  split
  · next hv => exact ⟨by simp only [Hps.moveH, List.length_map]; exact Nat.le_trans ((Hps.lives_slide hv).len hv) hf.1, by simp only [Hps.moveH, List.length_map]; exact hf.2⟩
  · exact ⟨by simp, by simp⟩
theorem step_few {h : Hp} (o : Cm) : Few (Hps.stepH h o).1 := by
  cases hv : (Hps.validH h && Hps.okCm o)
  · rw [Hps.stepH, if_neg (by rw [hv]; decide)]
    exact ⟨by decide, by decide⟩
  · rw [Bool.and_eq_true] at hv
    obtain ⟨s1, s2, -⟩ := Hps.valid_small (Hps.stepH_valid hv.1 hv.2)
    exact ⟨by omega, by omega⟩

/-- a box of a heap lies apart from the heap of the call's own -/
theorem OwnHx.apart_box {w : World} {base g : Nat} {vc vr : Value} {rvs : List Value} {h : Hp} {cs : Array Value} (o : OwnHx w base vc vr rvs h) (hr : Rw w g 28 cs) : Apart (some g) (vc :: vr :: rvs) := fun v hv => by
  have key : some g ≠ v.ownBlock := by
    rcases List.mem_cons.1 hv with rfl | hv
    · exact row_type o.row hr (by decide)
    rcases List.mem_cons.1 hv with rfl | hv
    · exact row_type o.roots hr (by decide)
    obtain ⟨k, hk⟩ := List.mem_iff_getElem?.1 hv
    have hlt : k < h.cs.length := by rw [← o.len]; exact (List.getElem?_eq_some_iff.1 hk).1
    exact row_type (o.refs k _ v (List.getElem?_eq_getElem hlt) hk) hr (by decide)
  exact .inr (fun e => key e.symm)

set_option maxHeartbeats 16000000 in
theorem drawSameView_any (A : Option Addr) (n c : Nat) (w : World) (h : Bytes w w.heap.size A n) (hc : n ≤ c) (hn : n ≤ 9223372036854775807) :
    Calls Try.prog 22 #[.slice A n c] w (DrawnV w) := by
  have b0 : Below w.heap.size w ((w.alloc (.cells #[.slice none 0 0, .slice none 0 0] 28)).alloc (.cells #[.slice none 0 0, .slice none 0 0] 28)) := ((Below.refl _ _).alloc (Nat.le_refl _) _).alloc (by simp) _
  have r2 := (Rw.new w 28 #[.slice none 0 0, .slice none 0 0]).alloc (.cells #[.slice none 0 0, .slice none 0 0] 28)
  have r3 := Rw.new (w.alloc (.cells #[.slice none 0 0, .slice none 0 0] 28)) 28 #[.slice none 0 0, .slice none 0 0]
  have hz : ((w.alloc (.cells #[.slice none 0 0, .slice none 0 0] 28)).alloc (.cells #[.slice none 0 0, .slice none 0 0] 28)).heap.size = w.heap.size + 2 := by simp
  rw [World.size_alloc] at r3
  have h0 := (h.keep fun p hp => b0.cell hp).more b0.size
  go_enter Try.func22, Try.ntmps22
  go_upto_region 1 with fail
  generalize (w.alloc (.cells #[.slice none 0 0, .slice none 0 0] 28)).alloc (.cells #[.slice none 0 0, .slice none 0 0] 28) = w0 at b0 r2 r3 hz h0 ⊢
  go_wp2_with fail
  refine (open_any _ _ _ _ h0 hc hn).mono ?_
  rintro e w1 ⟨rfl, hr1, b1⟩
  have hs0 := b0.size
  have bb1 := b0.trans (b1.mono b0.size)
  have hs1 := b1.size
  have hg1 := hr1.lt
  replace r2 := r2.keep b1 r2.lt
  replace r3 := r3.keep b1 r3.lt
  rw [hz] at hr1 hg1 ⊢
  obtain ⟨G, hG⟩ : ∃ G, w.heap.size = G := ⟨_, rfl⟩
  rw [hG] at r2 r3 hr1 hg1 ⊢
  clear b0 h0
  go_wp2_with fail
  refine (l20Heap_any _ _ 14 _ hr1 (by omega) (by omega) (by omega)).mono ?_
  rintro e w2 ⟨A2, nn, c2, R2, m, d2, hh, rfl, hc1, hc2, HFx, -, hsm, hr2, g2⟩
  have hfw : Few hh := ⟨hsm.1, hsm.2.1⟩
  have hn41 : nn ≤ 41 := by rw [← HFx.reads.cells.1]; exact hsm.1
  have hm4 : m ≤ 4 := by rw [← HFx.reads.roots.1]; exact hsm.2.1
  replace r2 := (r2.far g2 (fun e => by have := Option.some.inj e; omega)).alloc (.cells #[.slice A2 nn c2, .slice R2 m d2] 28)
  replace r3 := (r3.far g2 (fun e => by have := Option.some.inj e; omega)).alloc (.cells #[.slice A2 nn c2, .slice R2 m d2] 28)
  have bA : Below w2.heap.size w2 (w2.alloc (.cells #[.slice A2 nn c2, .slice R2 m d2] 28)) := (Below.refl _ _).alloc (Nat.le_refl _) _
  have bb2 : Below w.heap.size w w2 := bb1.grown g2 bb1.size (fun k hk => by injection hk; omega)
  have bb3 := bb2.trans (bA.mono bb2.size)
  have hz2 := g2.size
  have x3 := Rw.new w2 28 #[.slice A2 nn c2, .slice R2 m d2]
  have HF3 := HFx.below bA (Nat.le_refl _)
  have hr3 := hr2.below bA hr2.lt
  clear HFx hsm g2 hr2 bb1 bb2 b1 hr1 bA
  go_upto_region 3 with fail
  generalize w2.alloc (.cells #[.slice A2 nn c2, .slice R2 m d2] 28) = w3 at r2 r3 bb3 x3 HF3 hr3 ⊢
  obtain ⟨b, hb⟩ : ∃ b, w2.heap.size = b := ⟨_, rfl⟩
  rw [hb] at x3 hz2 ⊢
  obtain ⟨lo, hlo'⟩ : ∃ lo, w1.heap.size = lo := ⟨_, rfl⟩
  rw [hlo'] at HF3 hz2 hg1
  have hlo : G + 2 < lo := hg1
  clear hb hlo' hs0 hs1
  go_wp2_with fail
  refine (pick_any _ _ 4 _ hr3 (by omega) (by omega)).mono ?_
  rintro e w4 ⟨s, rfl, hs0, hs1, hr4, g4⟩
  have r4 := r2.far g4 (fun e => by have := Option.some.inj e; omega)
  have r5 := r3.far g4 (fun e => by have := Option.some.inj e; omega)
  have x4 := x3.far g4 (fun e => by have := Option.some.inj e; omega)
  have HFa := HF3.far g4 hlo
  have bb4 : Below w.heap.size w w4 := bb3.grown g4 bb3.size (fun k hk => by have := Option.some.inj hk; omega)
  have hb4 := x4.lt
  have hg4 := hr4.lt
  clear r2 r3 x3 HF3 hr3 bb3 g4
  obtain rfl | rfl | rfl | rfl : s = 0 ∨ s = 1 ∨ s = 2 ∨ s = 3 := by omega
  · go_upto_region 5 with fail
    refine wp_region_inv (by kernel_rfl) (by kernel_rfl) (fun L ac ww => ∃ t16 t17 t18 : Value, ac = { tmps := #[Value.slice A n c, undef, Value.pointer (some { block := G, off := 0 }), Value.pointer (some { block := G + 1, off := 0 }), Value.pointer (some { block := G + 2, off := 0 }), Value.pointer (some { block := b, off := 0 }), undef, undef, Value.slice A n c, Value.pointer (some { block := G + 2, off := 0 }), Value.pointer (some { block := G + 2, off := 0 }), heapV A2 nn c2 R2 m d2, Value.pointer (some { block := G + 2, off := 0 }), Value.int IntKind.i64 0, Value.bool true, Value.bool true, t16, t17, t18, undef, undef, undef, undef, undef, undef, undef, undef, undef, undef, undef, undef, undef, undef, undef, undef, undef, undef, undef], defers := [] } ∧ (L 2 = false → Below w4.heap.size w4 ww) ∧ (L 3 = false → w4.grownBy ww (some (G + 2))) ∧ (L 2 = true → L 1 = true) ∧ (L 0 = true → t16 = .agg #[.slice A2 nn c2, .slice R2 m d2]) ∧ (L 1 = true → t17 = .pointer (some ⟨G + 2, 0, none⟩)) ∧ (L 2 = true → ∃ A3 n3 c3 R3 m3 d3 hb, t18 = .agg #[.slice A3 n3 c3, .slice R3 m3 d3] ∧ n3 ≤ c3 ∧ m3 ≤ d3 ∧ n3 ≤ 41 ∧ m3 ≤ 4 ∧ (L 3 = false → HF ww w4.heap.size A3 n3 R3 m3 hb)) ∧ (L 3 = true → (∀ p, p < 3 → L p = true) ∧ ∃ A3 n3 c3 R3 m3 d3 hb wp, t18 = .agg #[.slice A3 n3 c3, .slice R3 m3 d3] ∧ n3 ≤ c3 ∧ m3 ≤ d3 ∧ n3 ≤ 41 ∧ m3 ≤ 4 ∧ HF wp w4.heap.size A3 n3 R3 m3 hb ∧ w4.grownBy wp (some (G + 2)) ∧ (L 4 = false → ww = ((wp.setCell ⟨G, 0, none⟩ (.slice A2 nn c2)).setCell ⟨G, 1, none⟩ (.slice R2 m d2)))) ∧ (L 4 = true → (∀ p, p < 4 → L p = true) ∧ ∃ A3 n3 c3 R3 m3 d3 hb wp, t18 = .agg #[.slice A3 n3 c3, .slice R3 m3 d3] ∧ n3 ≤ c3 ∧ m3 ≤ d3 ∧ n3 ≤ 41 ∧ m3 ≤ 4 ∧ HF wp w4.heap.size A3 n3 R3 m3 hb ∧ w4.grownBy wp (some (G + 2)) ∧ ww = ((((wp.setCell ⟨G, 0, none⟩ (.slice A2 nn c2)).setCell ⟨G, 1, none⟩ (.slice R2 m d2)).setCell ⟨G + 1, 0, none⟩ (.slice A3 n3 c3)).setCell ⟨G + 1, 1, none⟩ (.slice R3 m3 d3)))) ?h0 ?hstep ?hdone
    case h0 => exact ⟨_, _, _, rfl, fun _ => (Below.refl _ _).drew, fun _ => grown_below (World.grownBy.refl _ _) (Below.refl _ _).drew, fun h => absurd h Bool.false_ne_true, (fun h => absurd h Bool.false_ne_true), (fun h => absurd h Bool.false_ne_true), (fun h => absurd h Bool.false_ne_true), (fun h => absurd h Bool.false_ne_true), (fun h => absurd h Bool.false_ne_true)⟩
    case hstep =>
      rintro L ac ww i o ho hL hd ⟨t16, t17, t18, rfl, I0, I1, I2, f0, f1, f2, f3, f4⟩
      have hi : i < 5 := (Array.getElem?_eq_some_iff.1 ho).1
      obtain rfl | rfl | rfl | rfl | rfl : i = 0 ∨ i = 1 ∨ i = 2 ∨ i = 3 ∨ i = 4 := by omega
      · obtain rfl := Option.some.inj ho
        have hL3 : L 3 = false := by
          cases e : L 3
          · rfl
          · exact absurd ((f3 e).1 0 (by decide)) (by rw [hL]; decide)
        have J := I1 hL3
        have bx := x4.far J (fun e => by have := Option.some.inj e; omega)
        have y0 := bx.cell 0
        have y1 := bx.cell 1
        simp only [List.getElem?_toArray, List.getElem?_cons_zero, List.getElem?_cons_succ] at y0 y1
        refine wpOp_step rfl (fun K' hK => ?_)
        go_simp
        refine hK _ _ ?_
        exact ⟨_, _, _, rfl, (fun h => I0 (by rw [upd_other (by decide)] at h; exact h)), (fun _ => J), (fun h => upd_mono (I2 (upd_ne h (by decide)))), (fun _ => rfl), (kp f1), (fun h => by
          obtain ⟨A3, n3, c3, R3, m3, d3, hb, e, k1, k2, k3, k4, r⟩ := f2 (upd_ne h (by decide))
          exact ⟨A3, n3, c3, R3, m3, d3, hb, e, k1, k2, k3, k4, fun h3 => r (by rw [upd_other (by decide)] at h3; exact h3)⟩), (fun h => absurd ((f3 (upd_ne h (by decide))).1 0 (by decide)) (by rw [hL]; decide)), (fun h => absurd ((f4 (upd_ne h (by decide))).1 0 (by decide)) (by rw [hL]; decide))⟩
      · obtain rfl := Option.some.inj ho
        have hL3 : L 3 = false := by
          cases e : L 3
          · rfl
          · exact absurd ((f3 e).1 1 (by decide)) (by rw [hL]; decide)
        have J := I1 hL3
        refine wpOp_step rfl (fun K' hK => ?_)
        go_simp
        refine hK _ _ ?_
        exact ⟨_, _, _, rfl, (fun h => I0 (by rw [upd_other (by decide)] at h; exact h)), (fun _ => J), (fun h => upd_mono (I2 (upd_ne h (by decide)))), (kp f0), (fun _ => rfl), (fun h => by
          obtain ⟨A3, n3, c3, R3, m3, d3, hb, e, k1, k2, k3, k4, r⟩ := f2 (upd_ne h (by decide))
          exact ⟨A3, n3, c3, R3, m3, d3, hb, e, k1, k2, k3, k4, fun h3 => r (by rw [upd_other (by decide)] at h3; exact h3)⟩), (fun h => absurd ((f3 (upd_ne h (by decide))).1 1 (by decide)) (by rw [hL]; decide)), (fun h => absurd ((f4 (upd_ne h (by decide))).1 1 (by decide)) (by rw [hL]; decide))⟩
      · obtain rfl := Option.some.inj ho
        have g1 := f1 (hd ⟨1, .data⟩ (by simp) rfl)
        subst g1
        have hL3 : L 3 = false := by
          cases e : L 3
          · rfl
          · exact absurd ((f3 e).1 2 (by decide)) (by rw [hL]; decide)
        have J := I1 hL3
        have hzw := J.size
        refine wpOp_step rfl (fun K' hK => ?_)
        go_simp
        have J2 := I0 hL
        refine (l20Heap_any _ _ 14 ww (hr4.below J2 hr4.lt) (by omega) (by omega) (by omega)).mono ?_
        rintro e w' ⟨A3, n3, c3, R3, m3, d3, hb, rfl, k1, k2, HF3, -, hsm3, -, g3⟩
        unfold heapV
        refine hK _ _ ?_
        exact ⟨_, _, _, rfl, (fun h => absurd h (by rw [upd_self]; decide)), (fun _ => World.grownBy.trans J g3), (fun _ => upd_mono (hd ⟨1, .data⟩ (by simp) rfl)), (kp f0), (kp f1), (fun _ => ⟨A3, n3, c3, R3, m3, d3, hb, rfl, k1, k2, by have h1 := HF3.reads.cells.1; have h2 := hsm3.1; omega, by have h1 := HF3.reads.roots.1; have h2 := hsm3.2.1; omega, fun _ => HF3.more hzw⟩), (fun h => absurd ((f3 (upd_ne h (by decide))).1 2 (by decide)) (by rw [hL]; decide)), (fun h => absurd ((f4 (upd_ne h (by decide))).1 2 (by decide)) (by rw [hL]; decide))⟩
      · obtain rfl := Option.some.inj ho
        have g0 := f0 (hd ⟨0, .data⟩ (by simp) rfl)
        subst g0
        have lq : Hid (∀ p, p < 3 → L p = true) := Lib.hid (by
          intro p hp
          obtain rfl | rfl | rfl : p = 0 ∨ p = 1 ∨ p = 2 := by omega
          · exact hd ⟨0, .data⟩ (by simp) rfl
          · exact I2 (hd ⟨2, .chain⟩ (by simp) rfl)
          · exact hd ⟨2, .chain⟩ (by simp) rfl)
        have J := I1 hL
        obtain ⟨A3, n3, c3, R3, m3, d3, hb, e2, k1, k2, k3, k4, HF3⟩ := f2 (lq.out 2 (by decide))
        subst e2
        have p2 := r4.far J (fun e => by have := Option.some.inj e; omega)
        have y0 := p2.cell 0
        have y1 := p2.cell 1
        simp only [List.getElem?_toArray, List.getElem?_cons_zero, List.getElem?_cons_succ] at y0 y1
        have u0 : ww.frozen? ⟨G, 0, none⟩ = false := p2.frozen 0
        have u1 : ww.frozen? ⟨G, 1, none⟩ = false := p2.frozen 1
        refine wpOp_step rfl (fun K' hK => ?_)
        go_simp
        refine hK _ _ ?_
        exact ⟨_, _, _, rfl, (fun h => absurd (lq.out 2 (by decide)) (by rw [upd_other (by decide)] at h; rw [h]; decide)), (fun h => absurd h (by rw [upd_self]; decide)), (fun h => upd_mono (I2 (upd_ne h (by decide)))), (kp f0), (kp f1), (fun _ => ⟨A3, n3, c3, R3, m3, d3, hb, rfl, k1, k2, k3, k4, fun h => absurd h (by rw [upd_self]; decide)⟩), (fun _ => ⟨fun p hp => upd_mono (lq.out p hp), A3, n3, c3, R3, m3, d3, hb, ww, rfl, k1, k2, k3, k4, HF3 hL, J, fun _ => rfl⟩), (fun h => absurd ((f4 (upd_ne h (by decide))).1 3 (by decide)) (by rw [hL]; decide))⟩
      · obtain rfl := Option.some.inj ho
        have l3 := hd ⟨3, .chain⟩ (by simp) rfl
        obtain ⟨lp, A3, n3, c3, R3, m3, d3, hb, wp, e2, k1, k2, k3, k4, HF3, J, ew⟩ := f3 l3
        have lq : Hid (∀ p, p < 4 → L p = true) := Lib.hid (fun p hp => by
          rcases Nat.lt_or_ge p 3 with h | h
          · exact lp p h
          · obtain rfl : p = 3 := by omega
            exact l3)
        clear l3 lp
        have ew := ew hL
        subst ew
        subst e2
        have p3 := Rw.other (g' := G) (i := 1) (Rw.other (g' := G) (i := 0) (r5.far J (fun e => by have := Option.some.inj e; omega)) (by omega) (.slice A2 nn c2)) (by omega) (.slice R2 m d2)
        have y0 := p3.cell 0
        have y1 := p3.cell 1
        simp only [List.getElem?_toArray, List.getElem?_cons_zero, List.getElem?_cons_succ] at y0 y1
        have u0 : ((wp.setCell ⟨G, 0, none⟩ (.slice A2 nn c2)).setCell ⟨G, 1, none⟩ (.slice R2 m d2)).frozen? ⟨G + 1, 0, none⟩ = false := p3.frozen 0
        have u1 : ((wp.setCell ⟨G, 0, none⟩ (.slice A2 nn c2)).setCell ⟨G, 1, none⟩ (.slice R2 m d2)).frozen? ⟨G + 1, 1, none⟩ = false := p3.frozen 1
        refine wpOp_step rfl (fun K' hK => ?_)
        go_simp
        refine hK _ _ ?_
        exact ⟨_, _, _, rfl, (fun h => absurd (lq.out 2 (by decide)) (by rw [upd_other (by decide)] at h; rw [h]; decide)), (fun h => absurd (lq.out 3 (by decide)) (by rw [upd_other (by decide)] at h; rw [h]; decide)), (fun h => upd_mono (I2 (upd_ne h (by decide)))), (kp f0), (kp f1), (fun _ => ⟨A3, n3, c3, R3, m3, d3, hb, rfl, k1, k2, k3, k4, fun h => absurd (lq.out 3 (by decide)) (by rw [upd_other (by decide)] at h; rw [h]; decide)⟩), (fun _ => ⟨fun p hp => upd_mono (lq.out p (by omega)), A3, n3, c3, R3, m3, d3, hb, wp, rfl, k1, k2, k3, k4, HF3, J, fun h => absurd h (by rw [upd_self]; decide)⟩), (fun _ => ⟨fun p hp => upd_mono (lq.out p hp), A3, n3, c3, R3, m3, d3, hb, wp, rfl, k1, k2, k3, k4, HF3, J, rfl⟩)⟩
    case hdone =>
      rintro L ac ww hall ⟨t16, t17, t18, rfl, I0, I1, I2, f0, f1, f2, f3, f4⟩
      have e0 := f0 (hall 0 (by decide))
      have e1 := f1 (hall 1 (by decide))
      have e2 := f2 (hall 2 (by decide))
      have e3 := f3 (hall 3 (by decide))
      have e4 := f4 (hall 4 (by decide))
      clear f0 f1 f2 f3 f4
      obtain ⟨-, A3, n3, c3, R3, m3, d3, hb, wp, rfl, k1, k2, k3, k4, HF3, J, rfl⟩ := e4
      clear I0 I1 I2 e0 e1 e2 e3 hall
      have p2 := ((r4.far J (fun e => by have := Option.some.inj e; omega)).put 0 (.slice A2 nn c2)).put 1 (.slice R2 m d2)
      have p2b := Rw.other (g' := G + 1) (i := 1) (Rw.other (g' := G + 1) (i := 0) p2 (by omega) (.slice A3 n3 c3)) (by omega) (.slice R3 m3 d3)
      have p3 := ((Rw.other (g' := G) (i := 1) (Rw.other (g' := G) (i := 0) (r5.far J (fun e => by have := Option.some.inj e; omega)) (by omega) (.slice A2 nn c2)) (by omega) (.slice R2 m d2)).put 0 (.slice A3 n3 c3)).put 1 (.slice R3 m3 d3)
      have y0 := p2b.cell 0
      have y1 := p2b.cell 1
      have z0 := p3.cell 0
      have z1 := p3.cell 1
      simp only [List.setIfInBounds_toArray, List.set_cons_zero, List.set_cons_succ, List.getElem?_toArray, List.getElem?_cons_zero, List.getElem?_cons_succ] at y0 y1 z0 z1
      have sm := fun (lo : Nat) (hl : G + 2 < lo) => ((((Same.refl lo wp).put (g := G) (by omega) 0 (.slice A2 nn c2)).put (g := G) (by omega) 1 (.slice R2 m d2)).put (g := G + 1) (by omega) 0 (.slice A3 n3 c3)).put (g := G + 1) (by omega) 1 (.slice R3 m3 d3)
      have HA := Lib.hid ((HFa.far J hlo).same (sm lo hlo)).reads
      have HB := Lib.hid (HF3.same (sm _ (by omega))).reads
      have BF := Lib.hid (((((bb4.grown J bb4.size (fun k hk => by have := Option.some.inj hk; omega)).setCell (p := ⟨G, 0, none⟩) (by show w.heap.size ≤ G; omega) (.slice A2 nn c2)).setCell (p := ⟨G, 1, none⟩) (by show w.heap.size ≤ G; omega) (.slice R2 m d2)).setCell (p := ⟨G + 1, 0, none⟩) (by show w.heap.size ≤ G + 1; omega) (.slice A3 n3 c3)).setCell (p := ⟨G + 1, 1, none⟩) (by show w.heap.size ≤ G + 1; omega) (.slice R3 m3 d3))
      clear p2 p2b p3 sm HF3 J HFa r4 r5 x4 hr4 bb4
      go_wp2_with fail
      exact bodyPost_ret (v := .tuple #[.agg #[.slice A2 nn c2, .slice R2 m d2], .agg #[.slice A3 n3 c3, .slice R3 m3 d3]]) (by simp [results, Try.results22, go_sem, *]) rfl ⟨A2, nn, c2, R2, m, d2, A3, n3, c3, R3, m3, d3, hh, hb, rfl, hc1, hc2, k1, k2, HA.out, HB.out, hn41, hm4, k3, k4, BF.out⟩
  · go_upto_region 7 with fail
    refine wp_region_inv (by kernel_rfl) (by kernel_rfl) (fun L ac ww => ∃ t21 t22 t23 : Value, ac = { tmps := #[Value.slice A n c, undef, Value.pointer (some { block := G, off := 0 }), Value.pointer (some { block := G + 1, off := 0 }), Value.pointer (some { block := G + 2, off := 0 }), Value.pointer (some { block := b, off := 0 }), undef, undef, Value.slice A n c, Value.pointer (some { block := G + 2, off := 0 }), Value.pointer (some { block := G + 2, off := 0 }), heapV A2 nn c2 R2 m d2, Value.pointer (some { block := G + 2, off := 0 }), Value.int IntKind.i64 1, Value.bool false, Value.bool false, undef, undef, undef, Value.bool true, Value.bool true, t21, t22, t23, undef, undef, undef, undef, undef, undef, undef, undef, undef, undef, undef, undef, undef, undef], defers := [] } ∧ (L 2 = false → Below w4.heap.size w4 ww) ∧ (L 3 = false → w4.grownBy ww (some (G + 2))) ∧ (L 2 = true → L 1 = true) ∧ (L 0 = true → t21 = .agg #[.slice A2 nn c2, .slice R2 m d2]) ∧ (L 1 = true → t22 = .agg #[.slice A2 nn c2, .slice R2 m d2]) ∧ (L 2 = true → ∃ A3 n3 c3 R3 m3 d3 hb, t23 = .agg #[.slice A3 n3 c3, .slice R3 m3 d3] ∧ n3 ≤ c3 ∧ m3 ≤ d3 ∧ n3 ≤ 41 ∧ m3 ≤ 4 ∧ (L 3 = false → HF ww w4.heap.size A3 n3 R3 m3 hb)) ∧ (L 3 = true → (∀ p, p < 3 → L p = true) ∧ ∃ A3 n3 c3 R3 m3 d3 hb wp, t23 = .agg #[.slice A3 n3 c3, .slice R3 m3 d3] ∧ n3 ≤ c3 ∧ m3 ≤ d3 ∧ n3 ≤ 41 ∧ m3 ≤ 4 ∧ HF wp w4.heap.size A3 n3 R3 m3 hb ∧ w4.grownBy wp (some (G + 2)) ∧ (L 4 = false → ww = ((wp.setCell ⟨G, 0, none⟩ (.slice A2 nn c2)).setCell ⟨G, 1, none⟩ (.slice R2 m d2)))) ∧ (L 4 = true → (∀ p, p < 4 → L p = true) ∧ ∃ A3 n3 c3 R3 m3 d3 hb wp, t23 = .agg #[.slice A3 n3 c3, .slice R3 m3 d3] ∧ n3 ≤ c3 ∧ m3 ≤ d3 ∧ n3 ≤ 41 ∧ m3 ≤ 4 ∧ HF wp w4.heap.size A3 n3 R3 m3 hb ∧ w4.grownBy wp (some (G + 2)) ∧ ww = ((((wp.setCell ⟨G, 0, none⟩ (.slice A2 nn c2)).setCell ⟨G, 1, none⟩ (.slice R2 m d2)).setCell ⟨G + 1, 0, none⟩ (.slice A3 n3 c3)).setCell ⟨G + 1, 1, none⟩ (.slice R3 m3 d3)))) ?h0 ?hstep ?hdone
    case h0 => exact ⟨_, _, _, rfl, fun _ => (Below.refl _ _).drew, fun _ => grown_below (World.grownBy.refl _ _) (Below.refl _ _).drew, fun h => absurd h Bool.false_ne_true, (fun h => absurd h Bool.false_ne_true), (fun h => absurd h Bool.false_ne_true), (fun h => absurd h Bool.false_ne_true), (fun h => absurd h Bool.false_ne_true), (fun h => absurd h Bool.false_ne_true)⟩
    case hstep =>
      rintro L ac ww i o ho hL hd ⟨t21, t22, t23, rfl, I0, I1, I2, f0, f1, f2, f3, f4⟩
      have hi : i < 5 := (Array.getElem?_eq_some_iff.1 ho).1
      obtain rfl | rfl | rfl | rfl | rfl : i = 0 ∨ i = 1 ∨ i = 2 ∨ i = 3 ∨ i = 4 := by omega
      · obtain rfl := Option.some.inj ho
        have hL3 : L 3 = false := by
          cases e : L 3
          · rfl
          · exact absurd ((f3 e).1 0 (by decide)) (by rw [hL]; decide)
        have J := I1 hL3
        have bx := x4.far J (fun e => by have := Option.some.inj e; omega)
        have y0 := bx.cell 0
        have y1 := bx.cell 1
        simp only [List.getElem?_toArray, List.getElem?_cons_zero, List.getElem?_cons_succ] at y0 y1
        refine wpOp_step rfl (fun K' hK => ?_)
        go_simp
        refine hK _ _ ?_
        exact ⟨_, _, _, rfl, (fun h => I0 (by rw [upd_other (by decide)] at h; exact h)), (fun _ => J), (fun h => upd_mono (I2 (upd_ne h (by decide)))), (fun _ => rfl), (kp f1), (fun h => by
          obtain ⟨A3, n3, c3, R3, m3, d3, hb, e, k1, k2, k3, k4, r⟩ := f2 (upd_ne h (by decide))
          exact ⟨A3, n3, c3, R3, m3, d3, hb, e, k1, k2, k3, k4, fun h3 => r (by rw [upd_other (by decide)] at h3; exact h3)⟩), (fun h => absurd ((f3 (upd_ne h (by decide))).1 0 (by decide)) (by rw [hL]; decide)), (fun h => absurd ((f4 (upd_ne h (by decide))).1 0 (by decide)) (by rw [hL]; decide))⟩
      · obtain rfl := Option.some.inj ho
        have hL3 : L 3 = false := by
          cases e : L 3
          · rfl
          · exact absurd ((f3 e).1 1 (by decide)) (by rw [hL]; decide)
        have J := I1 hL3
        have bx := x4.far J (fun e => by have := Option.some.inj e; omega)
        have y0 := bx.cell 0
        have y1 := bx.cell 1
        simp only [List.getElem?_toArray, List.getElem?_cons_zero, List.getElem?_cons_succ] at y0 y1
        refine wpOp_step rfl (fun K' hK => ?_)
        go_simp
        refine hK _ _ ?_
        exact ⟨_, _, _, rfl, (fun h => I0 (by rw [upd_other (by decide)] at h; exact h)), (fun _ => J), (fun h => upd_mono (I2 (upd_ne h (by decide)))), (kp f0), (fun _ => rfl), (fun h => by
          obtain ⟨A3, n3, c3, R3, m3, d3, hb, e, k1, k2, k3, k4, r⟩ := f2 (upd_ne h (by decide))
          exact ⟨A3, n3, c3, R3, m3, d3, hb, e, k1, k2, k3, k4, fun h3 => r (by rw [upd_other (by decide)] at h3; exact h3)⟩), (fun h => absurd ((f3 (upd_ne h (by decide))).1 1 (by decide)) (by rw [hL]; decide)), (fun h => absurd ((f4 (upd_ne h (by decide))).1 1 (by decide)) (by rw [hL]; decide))⟩
      · obtain rfl := Option.some.inj ho
        have g1 := f1 (hd ⟨1, .data⟩ (by simp) rfl)
        subst g1
        have hL3 : L 3 = false := by
          cases e : L 3
          · rfl
          · exact absurd ((f3 e).1 2 (by decide)) (by rw [hL]; decide)
        have J := I1 hL3
        refine wpOp_step rfl (fun K' hK => ?_)
        go_simp
        refine (mCopyHeap_any _ _ _ _ _ _ hh ww (HFa.far J hlo).reads (by omega) (by omega)).mono ?_
        rintro e w' ⟨vc3, vr3, rfl, ⟨rvs3, ow⟩, b3⟩
        obtain ⟨A3, n3, c3, R3, m3, d3, rfl, rfl⟩ := OwnH.slices ⟨rvs3, ow⟩
        obtain ⟨u1, u2, k1, k2⟩ := ow.caps
        have kf := copy_few hfw
        have hzw := J.size
        refine hK _ _ ?_
        exact ⟨_, _, _, rfl, (fun h => absurd h (by rw [upd_self]; decide)), (fun _ => grown_below J (b3.mono hzw)), (fun _ => upd_mono (hd ⟨1, .data⟩ (by simp) rfl)), (kp f0), (kp f1), (fun _ => ⟨A3, n3, c3, R3, m3, d3, _, rfl, k1, k2, by have := kf.1; omega, by have := kf.2; omega, fun _ => ow.hf hzw⟩), (fun h => absurd ((f3 (upd_ne h (by decide))).1 2 (by decide)) (by rw [hL]; decide)), (fun h => absurd ((f4 (upd_ne h (by decide))).1 2 (by decide)) (by rw [hL]; decide))⟩
      · obtain rfl := Option.some.inj ho
        have g0 := f0 (hd ⟨0, .data⟩ (by simp) rfl)
        subst g0
        have lq : Hid (∀ p, p < 3 → L p = true) := Lib.hid (by
          intro p hp
          obtain rfl | rfl | rfl : p = 0 ∨ p = 1 ∨ p = 2 := by omega
          · exact hd ⟨0, .data⟩ (by simp) rfl
          · exact I2 (hd ⟨2, .chain⟩ (by simp) rfl)
          · exact hd ⟨2, .chain⟩ (by simp) rfl)
        have J := I1 hL
        obtain ⟨A3, n3, c3, R3, m3, d3, hb, e2, k1, k2, k3, k4, HF3⟩ := f2 (lq.out 2 (by decide))
        subst e2
        have p2 := r4.far J (fun e => by have := Option.some.inj e; omega)
        have y0 := p2.cell 0
        have y1 := p2.cell 1
        simp only [List.getElem?_toArray, List.getElem?_cons_zero, List.getElem?_cons_succ] at y0 y1
        have u0 : ww.frozen? ⟨G, 0, none⟩ = false := p2.frozen 0
        have u1 : ww.frozen? ⟨G, 1, none⟩ = false := p2.frozen 1
        refine wpOp_step rfl (fun K' hK => ?_)
        go_simp
        refine hK _ _ ?_
        exact ⟨_, _, _, rfl, (fun h => absurd (lq.out 2 (by decide)) (by rw [upd_other (by decide)] at h; rw [h]; decide)), (fun h => absurd h (by rw [upd_self]; decide)), (fun h => upd_mono (I2 (upd_ne h (by decide)))), (kp f0), (kp f1), (fun _ => ⟨A3, n3, c3, R3, m3, d3, hb, rfl, k1, k2, k3, k4, fun h => absurd h (by rw [upd_self]; decide)⟩), (fun _ => ⟨fun p hp => upd_mono (lq.out p hp), A3, n3, c3, R3, m3, d3, hb, ww, rfl, k1, k2, k3, k4, HF3 hL, J, fun _ => rfl⟩), (fun h => absurd ((f4 (upd_ne h (by decide))).1 3 (by decide)) (by rw [hL]; decide))⟩
      · obtain rfl := Option.some.inj ho
        have l3 := hd ⟨3, .chain⟩ (by simp) rfl
        obtain ⟨lp, A3, n3, c3, R3, m3, d3, hb, wp, e2, k1, k2, k3, k4, HF3, J, ew⟩ := f3 l3
        have lq : Hid (∀ p, p < 4 → L p = true) := Lib.hid (fun p hp => by
          rcases Nat.lt_or_ge p 3 with h | h
          · exact lp p h
          · obtain rfl : p = 3 := by omega
            exact l3)
        clear l3 lp
        have ew := ew hL
        subst ew
        subst e2
        have p3 := Rw.other (g' := G) (i := 1) (Rw.other (g' := G) (i := 0) (r5.far J (fun e => by have := Option.some.inj e; omega)) (by omega) (.slice A2 nn c2)) (by omega) (.slice R2 m d2)
        have y0 := p3.cell 0
        have y1 := p3.cell 1
        simp only [List.getElem?_toArray, List.getElem?_cons_zero, List.getElem?_cons_succ] at y0 y1
        have u0 : ((wp.setCell ⟨G, 0, none⟩ (.slice A2 nn c2)).setCell ⟨G, 1, none⟩ (.slice R2 m d2)).frozen? ⟨G + 1, 0, none⟩ = false := p3.frozen 0
        have u1 : ((wp.setCell ⟨G, 0, none⟩ (.slice A2 nn c2)).setCell ⟨G, 1, none⟩ (.slice R2 m d2)).frozen? ⟨G + 1, 1, none⟩ = false := p3.frozen 1
        refine wpOp_step rfl (fun K' hK => ?_)
        go_simp
        refine hK _ _ ?_
        exact ⟨_, _, _, rfl, (fun h => absurd (lq.out 2 (by decide)) (by rw [upd_other (by decide)] at h; rw [h]; decide)), (fun h => absurd (lq.out 3 (by decide)) (by rw [upd_other (by decide)] at h; rw [h]; decide)), (fun h => upd_mono (I2 (upd_ne h (by decide)))), (kp f0), (kp f1), (fun _ => ⟨A3, n3, c3, R3, m3, d3, hb, rfl, k1, k2, k3, k4, fun h => absurd (lq.out 3 (by decide)) (by rw [upd_other (by decide)] at h; rw [h]; decide)⟩), (fun _ => ⟨fun p hp => upd_mono (lq.out p (by omega)), A3, n3, c3, R3, m3, d3, hb, wp, rfl, k1, k2, k3, k4, HF3, J, fun h => absurd h (by rw [upd_self]; decide)⟩), (fun _ => ⟨fun p hp => upd_mono (lq.out p hp), A3, n3, c3, R3, m3, d3, hb, wp, rfl, k1, k2, k3, k4, HF3, J, rfl⟩)⟩
    case hdone =>
      rintro L ac ww hall ⟨t21, t22, t23, rfl, I0, I1, I2, f0, f1, f2, f3, f4⟩
      have e0 := f0 (hall 0 (by decide))
      have e1 := f1 (hall 1 (by decide))
      have e2 := f2 (hall 2 (by decide))
      have e3 := f3 (hall 3 (by decide))
      have e4 := f4 (hall 4 (by decide))
      clear f0 f1 f2 f3 f4
      obtain ⟨-, A3, n3, c3, R3, m3, d3, hb, wp, rfl, k1, k2, k3, k4, HF3, J, rfl⟩ := e4
      clear I0 I1 I2 e0 e1 e2 e3 hall
      have p2 := ((r4.far J (fun e => by have := Option.some.inj e; omega)).put 0 (.slice A2 nn c2)).put 1 (.slice R2 m d2)
      have p2b := Rw.other (g' := G + 1) (i := 1) (Rw.other (g' := G + 1) (i := 0) p2 (by omega) (.slice A3 n3 c3)) (by omega) (.slice R3 m3 d3)
      have p3 := ((Rw.other (g' := G) (i := 1) (Rw.other (g' := G) (i := 0) (r5.far J (fun e => by have := Option.some.inj e; omega)) (by omega) (.slice A2 nn c2)) (by omega) (.slice R2 m d2)).put 0 (.slice A3 n3 c3)).put 1 (.slice R3 m3 d3)
      have y0 := p2b.cell 0
      have y1 := p2b.cell 1
      have z0 := p3.cell 0
      have z1 := p3.cell 1
      simp only [List.setIfInBounds_toArray, List.set_cons_zero, List.set_cons_succ, List.getElem?_toArray, List.getElem?_cons_zero, List.getElem?_cons_succ] at y0 y1 z0 z1
      have sm := fun (lo : Nat) (hl : G + 2 < lo) => ((((Same.refl lo wp).put (g := G) (by omega) 0 (.slice A2 nn c2)).put (g := G) (by omega) 1 (.slice R2 m d2)).put (g := G + 1) (by omega) 0 (.slice A3 n3 c3)).put (g := G + 1) (by omega) 1 (.slice R3 m3 d3)
      have HA := Lib.hid ((HFa.far J hlo).same (sm lo hlo)).reads
      have HB := Lib.hid (HF3.same (sm _ (by omega))).reads
      have BF := Lib.hid (((((bb4.grown J bb4.size (fun k hk => by have := Option.some.inj hk; omega)).setCell (p := ⟨G, 0, none⟩) (by show w.heap.size ≤ G; omega) (.slice A2 nn c2)).setCell (p := ⟨G, 1, none⟩) (by show w.heap.size ≤ G; omega) (.slice R2 m d2)).setCell (p := ⟨G + 1, 0, none⟩) (by show w.heap.size ≤ G + 1; omega) (.slice A3 n3 c3)).setCell (p := ⟨G + 1, 1, none⟩) (by show w.heap.size ≤ G + 1; omega) (.slice R3 m3 d3))
      clear p2 p2b p3 sm HF3 J HFa r4 r5 x4 hr4 bb4
      go_wp2_with fail
      exact bodyPost_ret (v := .tuple #[.agg #[.slice A2 nn c2, .slice R2 m d2], .agg #[.slice A3 n3 c3, .slice R3 m3 d3]]) (by simp [results, Try.results22, go_sem, *]) rfl ⟨A2, nn, c2, R2, m, d2, A3, n3, c3, R3, m3, d3, hh, hb, rfl, hc1, hc2, k1, k2, HA.out, HB.out, hn41, hm4, k3, k4, BF.out⟩
  · go_upto_region 9 with fail
    refine wp_region_inv (by kernel_rfl) (by kernel_rfl) (fun L ac ww => ∃ t26 t27 t28 : Value, ac = { tmps := #[Value.slice A n c, undef, Value.pointer (some { block := G, off := 0 }), Value.pointer (some { block := G + 1, off := 0 }), Value.pointer (some { block := G + 2, off := 0 }), Value.pointer (some { block := b, off := 0 }), undef, undef, Value.slice A n c, Value.pointer (some { block := G + 2, off := 0 }), Value.pointer (some { block := G + 2, off := 0 }), heapV A2 nn c2 R2 m d2, Value.pointer (some { block := G + 2, off := 0 }), Value.int IntKind.i64 2, Value.bool false, Value.bool false, undef, undef, undef, Value.bool false, Value.bool false, undef, undef, undef, Value.bool true, Value.bool true, t26, t27, t28, undef, undef, undef, undef, undef, undef, undef, undef, undef], defers := [] } ∧ (L 2 = false → Below w4.heap.size w4 ww) ∧ (L 3 = false → w4.grownBy ww (some (G + 2))) ∧ (L 2 = true → L 1 = true) ∧ (L 0 = true → t26 = .agg #[.slice A2 nn c2, .slice R2 m d2]) ∧ (L 1 = true → t27 = .agg #[.slice A2 nn c2, .slice R2 m d2]) ∧ (L 2 = true → ∃ A3 n3 c3 R3 m3 d3 hb, t28 = .agg #[.slice A3 n3 c3, .slice R3 m3 d3] ∧ n3 ≤ c3 ∧ m3 ≤ d3 ∧ n3 ≤ 41 ∧ m3 ≤ 4 ∧ (L 3 = false → HF ww w4.heap.size A3 n3 R3 m3 hb)) ∧ (L 3 = true → (∀ p, p < 3 → L p = true) ∧ ∃ A3 n3 c3 R3 m3 d3 hb wp, t28 = .agg #[.slice A3 n3 c3, .slice R3 m3 d3] ∧ n3 ≤ c3 ∧ m3 ≤ d3 ∧ n3 ≤ 41 ∧ m3 ≤ 4 ∧ HF wp w4.heap.size A3 n3 R3 m3 hb ∧ w4.grownBy wp (some (G + 2)) ∧ (L 4 = false → ww = ((wp.setCell ⟨G, 0, none⟩ (.slice A2 nn c2)).setCell ⟨G, 1, none⟩ (.slice R2 m d2)))) ∧ (L 4 = true → (∀ p, p < 4 → L p = true) ∧ ∃ A3 n3 c3 R3 m3 d3 hb wp, t28 = .agg #[.slice A3 n3 c3, .slice R3 m3 d3] ∧ n3 ≤ c3 ∧ m3 ≤ d3 ∧ n3 ≤ 41 ∧ m3 ≤ 4 ∧ HF wp w4.heap.size A3 n3 R3 m3 hb ∧ w4.grownBy wp (some (G + 2)) ∧ ww = ((((wp.setCell ⟨G, 0, none⟩ (.slice A2 nn c2)).setCell ⟨G, 1, none⟩ (.slice R2 m d2)).setCell ⟨G + 1, 0, none⟩ (.slice A3 n3 c3)).setCell ⟨G + 1, 1, none⟩ (.slice R3 m3 d3)))) ?h0 ?hstep ?hdone
    case h0 => exact ⟨_, _, _, rfl, fun _ => (Below.refl _ _).drew, fun _ => grown_below (World.grownBy.refl _ _) (Below.refl _ _).drew, fun h => absurd h Bool.false_ne_true, (fun h => absurd h Bool.false_ne_true), (fun h => absurd h Bool.false_ne_true), (fun h => absurd h Bool.false_ne_true), (fun h => absurd h Bool.false_ne_true), (fun h => absurd h Bool.false_ne_true)⟩
    case hstep =>
      rintro L ac ww i o ho hL hd ⟨t26, t27, t28, rfl, I0, I1, I2, f0, f1, f2, f3, f4⟩
      have hi : i < 5 := (Array.getElem?_eq_some_iff.1 ho).1
      obtain rfl | rfl | rfl | rfl | rfl : i = 0 ∨ i = 1 ∨ i = 2 ∨ i = 3 ∨ i = 4 := by omega
      · obtain rfl := Option.some.inj ho
        have hL3 : L 3 = false := by
          cases e : L 3
          · rfl
          · exact absurd ((f3 e).1 0 (by decide)) (by rw [hL]; decide)
        have J := I1 hL3
        have bx := x4.far J (fun e => by have := Option.some.inj e; omega)
        have y0 := bx.cell 0
        have y1 := bx.cell 1
        simp only [List.getElem?_toArray, List.getElem?_cons_zero, List.getElem?_cons_succ] at y0 y1
        refine wpOp_step rfl (fun K' hK => ?_)
        go_simp
        refine hK _ _ ?_
        exact ⟨_, _, _, rfl, (fun h => I0 (by rw [upd_other (by decide)] at h; exact h)), (fun _ => J), (fun h => upd_mono (I2 (upd_ne h (by decide)))), (fun _ => rfl), (kp f1), (fun h => by
          obtain ⟨A3, n3, c3, R3, m3, d3, hb, e, k1, k2, k3, k4, r⟩ := f2 (upd_ne h (by decide))
          exact ⟨A3, n3, c3, R3, m3, d3, hb, e, k1, k2, k3, k4, fun h3 => r (by rw [upd_other (by decide)] at h3; exact h3)⟩), (fun h => absurd ((f3 (upd_ne h (by decide))).1 0 (by decide)) (by rw [hL]; decide)), (fun h => absurd ((f4 (upd_ne h (by decide))).1 0 (by decide)) (by rw [hL]; decide))⟩
      · obtain rfl := Option.some.inj ho
        have hL3 : L 3 = false := by
          cases e : L 3
          · rfl
          · exact absurd ((f3 e).1 1 (by decide)) (by rw [hL]; decide)
        have J := I1 hL3
        have bx := x4.far J (fun e => by have := Option.some.inj e; omega)
        have y0 := bx.cell 0
        have y1 := bx.cell 1
        simp only [List.getElem?_toArray, List.getElem?_cons_zero, List.getElem?_cons_succ] at y0 y1
        refine wpOp_step rfl (fun K' hK => ?_)
        go_simp
        refine hK _ _ ?_
        exact ⟨_, _, _, rfl, (fun h => I0 (by rw [upd_other (by decide)] at h; exact h)), (fun _ => J), (fun h => upd_mono (I2 (upd_ne h (by decide)))), (kp f0), (fun _ => rfl), (fun h => by
          obtain ⟨A3, n3, c3, R3, m3, d3, hb, e, k1, k2, k3, k4, r⟩ := f2 (upd_ne h (by decide))
          exact ⟨A3, n3, c3, R3, m3, d3, hb, e, k1, k2, k3, k4, fun h3 => r (by rw [upd_other (by decide)] at h3; exact h3)⟩), (fun h => absurd ((f3 (upd_ne h (by decide))).1 1 (by decide)) (by rw [hL]; decide)), (fun h => absurd ((f4 (upd_ne h (by decide))).1 1 (by decide)) (by rw [hL]; decide))⟩
      · obtain rfl := Option.some.inj ho
        have g1 := f1 (hd ⟨1, .data⟩ (by simp) rfl)
        subst g1
        have hL3 : L 3 = false := by
          cases e : L 3
          · rfl
          · exact absurd ((f3 e).1 2 (by decide)) (by rw [hL]; decide)
        have J := I1 hL3
        refine wpOp_step rfl (fun K' hK => ?_)
        go_simp
        refine (mSlideHeap_any _ _ _ _ _ _ hh ww (HFa.far J hlo).reads (by omega) (by omega)).mono ?_
        rintro e w' ⟨vc3, vr3, rfl, ⟨rvs3, ow⟩, b3⟩
        obtain ⟨A3, n3, c3, R3, m3, d3, rfl, rfl⟩ := OwnH.slices ⟨rvs3, ow⟩
        obtain ⟨u1, u2, k1, k2⟩ := ow.caps
        have kf := slide_few hfw
        have hzw := J.size
        refine hK _ _ ?_
        exact ⟨_, _, _, rfl, (fun h => absurd h (by rw [upd_self]; decide)), (fun _ => grown_below J (b3.mono hzw)), (fun _ => upd_mono (hd ⟨1, .data⟩ (by simp) rfl)), (kp f0), (kp f1), (fun _ => ⟨A3, n3, c3, R3, m3, d3, _, rfl, k1, k2, by have := kf.1; omega, by have := kf.2; omega, fun _ => ow.hf hzw⟩), (fun h => absurd ((f3 (upd_ne h (by decide))).1 2 (by decide)) (by rw [hL]; decide)), (fun h => absurd ((f4 (upd_ne h (by decide))).1 2 (by decide)) (by rw [hL]; decide))⟩
      · obtain rfl := Option.some.inj ho
        have g0 := f0 (hd ⟨0, .data⟩ (by simp) rfl)
        subst g0
        have lq : Hid (∀ p, p < 3 → L p = true) := Lib.hid (by
          intro p hp
          obtain rfl | rfl | rfl : p = 0 ∨ p = 1 ∨ p = 2 := by omega
          · exact hd ⟨0, .data⟩ (by simp) rfl
          · exact I2 (hd ⟨2, .chain⟩ (by simp) rfl)
          · exact hd ⟨2, .chain⟩ (by simp) rfl)
        have J := I1 hL
        obtain ⟨A3, n3, c3, R3, m3, d3, hb, e2, k1, k2, k3, k4, HF3⟩ := f2 (lq.out 2 (by decide))
        subst e2
        have p2 := r4.far J (fun e => by have := Option.some.inj e; omega)
        have y0 := p2.cell 0
        have y1 := p2.cell 1
        simp only [List.getElem?_toArray, List.getElem?_cons_zero, List.getElem?_cons_succ] at y0 y1
        have u0 : ww.frozen? ⟨G, 0, none⟩ = false := p2.frozen 0
        have u1 : ww.frozen? ⟨G, 1, none⟩ = false := p2.frozen 1
        refine wpOp_step rfl (fun K' hK => ?_)
        go_simp
        refine hK _ _ ?_
        exact ⟨_, _, _, rfl, (fun h => absurd (lq.out 2 (by decide)) (by rw [upd_other (by decide)] at h; rw [h]; decide)), (fun h => absurd h (by rw [upd_self]; decide)), (fun h => upd_mono (I2 (upd_ne h (by decide)))), (kp f0), (kp f1), (fun _ => ⟨A3, n3, c3, R3, m3, d3, hb, rfl, k1, k2, k3, k4, fun h => absurd h (by rw [upd_self]; decide)⟩), (fun _ => ⟨fun p hp => upd_mono (lq.out p hp), A3, n3, c3, R3, m3, d3, hb, ww, rfl, k1, k2, k3, k4, HF3 hL, J, fun _ => rfl⟩), (fun h => absurd ((f4 (upd_ne h (by decide))).1 3 (by decide)) (by rw [hL]; decide))⟩
      · obtain rfl := Option.some.inj ho
        have l3 := hd ⟨3, .chain⟩ (by simp) rfl
        obtain ⟨lp, A3, n3, c3, R3, m3, d3, hb, wp, e2, k1, k2, k3, k4, HF3, J, ew⟩ := f3 l3
        have lq : Hid (∀ p, p < 4 → L p = true) := Lib.hid (fun p hp => by
          rcases Nat.lt_or_ge p 3 with h | h
          · exact lp p h
          · obtain rfl : p = 3 := by omega
            exact l3)
        clear l3 lp
        have ew := ew hL
        subst ew
        subst e2
        have p3 := Rw.other (g' := G) (i := 1) (Rw.other (g' := G) (i := 0) (r5.far J (fun e => by have := Option.some.inj e; omega)) (by omega) (.slice A2 nn c2)) (by omega) (.slice R2 m d2)
        have y0 := p3.cell 0
        have y1 := p3.cell 1
        simp only [List.getElem?_toArray, List.getElem?_cons_zero, List.getElem?_cons_succ] at y0 y1
        have u0 : ((wp.setCell ⟨G, 0, none⟩ (.slice A2 nn c2)).setCell ⟨G, 1, none⟩ (.slice R2 m d2)).frozen? ⟨G + 1, 0, none⟩ = false := p3.frozen 0
        have u1 : ((wp.setCell ⟨G, 0, none⟩ (.slice A2 nn c2)).setCell ⟨G, 1, none⟩ (.slice R2 m d2)).frozen? ⟨G + 1, 1, none⟩ = false := p3.frozen 1
        refine wpOp_step rfl (fun K' hK => ?_)
        go_simp
        refine hK _ _ ?_
        exact ⟨_, _, _, rfl, (fun h => absurd (lq.out 2 (by decide)) (by rw [upd_other (by decide)] at h; rw [h]; decide)), (fun h => absurd (lq.out 3 (by decide)) (by rw [upd_other (by decide)] at h; rw [h]; decide)), (fun h => upd_mono (I2 (upd_ne h (by decide)))), (kp f0), (kp f1), (fun _ => ⟨A3, n3, c3, R3, m3, d3, hb, rfl, k1, k2, k3, k4, fun h => absurd (lq.out 3 (by decide)) (by rw [upd_other (by decide)] at h; rw [h]; decide)⟩), (fun _ => ⟨fun p hp => upd_mono (lq.out p (by omega)), A3, n3, c3, R3, m3, d3, hb, wp, rfl, k1, k2, k3, k4, HF3, J, fun h => absurd h (by rw [upd_self]; decide)⟩), (fun _ => ⟨fun p hp => upd_mono (lq.out p hp), A3, n3, c3, R3, m3, d3, hb, wp, rfl, k1, k2, k3, k4, HF3, J, rfl⟩)⟩
    case hdone =>
      rintro L ac ww hall ⟨t26, t27, t28, rfl, I0, I1, I2, f0, f1, f2, f3, f4⟩
      have e0 := f0 (hall 0 (by decide))
      have e1 := f1 (hall 1 (by decide))
      have e2 := f2 (hall 2 (by decide))
      have e3 := f3 (hall 3 (by decide))
      have e4 := f4 (hall 4 (by decide))
      clear f0 f1 f2 f3 f4
      obtain ⟨-, A3, n3, c3, R3, m3, d3, hb, wp, rfl, k1, k2, k3, k4, HF3, J, rfl⟩ := e4
      clear I0 I1 I2 e0 e1 e2 e3 hall
      have p2 := ((r4.far J (fun e => by have := Option.some.inj e; omega)).put 0 (.slice A2 nn c2)).put 1 (.slice R2 m d2)
      have p2b := Rw.other (g' := G + 1) (i := 1) (Rw.other (g' := G + 1) (i := 0) p2 (by omega) (.slice A3 n3 c3)) (by omega) (.slice R3 m3 d3)
      have p3 := ((Rw.other (g' := G) (i := 1) (Rw.other (g' := G) (i := 0) (r5.far J (fun e => by have := Option.some.inj e; omega)) (by omega) (.slice A2 nn c2)) (by omega) (.slice R2 m d2)).put 0 (.slice A3 n3 c3)).put 1 (.slice R3 m3 d3)
      have y0 := p2b.cell 0
      have y1 := p2b.cell 1
      have z0 := p3.cell 0
      have z1 := p3.cell 1
      simp only [List.setIfInBounds_toArray, List.set_cons_zero, List.set_cons_succ, List.getElem?_toArray, List.getElem?_cons_zero, List.getElem?_cons_succ] at y0 y1 z0 z1
      have sm := fun (lo : Nat) (hl : G + 2 < lo) => ((((Same.refl lo wp).put (g := G) (by omega) 0 (.slice A2 nn c2)).put (g := G) (by omega) 1 (.slice R2 m d2)).put (g := G + 1) (by omega) 0 (.slice A3 n3 c3)).put (g := G + 1) (by omega) 1 (.slice R3 m3 d3)
      have HA := Lib.hid ((HFa.far J hlo).same (sm lo hlo)).reads
      have HB := Lib.hid (HF3.same (sm _ (by omega))).reads
      have BF := Lib.hid (((((bb4.grown J bb4.size (fun k hk => by have := Option.some.inj hk; omega)).setCell (p := ⟨G, 0, none⟩) (by show w.heap.size ≤ G; omega) (.slice A2 nn c2)).setCell (p := ⟨G, 1, none⟩) (by show w.heap.size ≤ G; omega) (.slice R2 m d2)).setCell (p := ⟨G + 1, 0, none⟩) (by show w.heap.size ≤ G + 1; omega) (.slice A3 n3 c3)).setCell (p := ⟨G + 1, 1, none⟩) (by show w.heap.size ≤ G + 1; omega) (.slice R3 m3 d3))
      clear p2 p2b p3 sm HF3 J HFa r4 r5 x4 hr4 bb4
      go_wp2_with fail
      exact bodyPost_ret (v := .tuple #[.agg #[.slice A2 nn c2, .slice R2 m d2], .agg #[.slice A3 n3 c3, .slice R3 m3 d3]]) (by simp [results, Try.results22, go_sem, *]) rfl ⟨A2, nn, c2, R2, m, d2, A3, n3, c3, R3, m3, d3, hh, hb, rfl, hc1, hc2, k1, k2, HA.out, HB.out, hn41, hm4, k3, k4, BF.out⟩
  · go_upto_region 10 with fail
    refine wp_region_inv (by kernel_rfl) (by kernel_rfl) (fun L ac ww => ∃ t6 t7 t29 t30 t31 t32 t33 t34 t35 : Value, ac = { tmps := #[Value.slice A n c, undef, Value.pointer (some { block := G, off := 0 }), Value.pointer (some { block := G + 1, off := 0 }), Value.pointer (some { block := G + 2, off := 0 }), Value.pointer (some { block := b, off := 0 }), t6, t7, Value.slice A n c, Value.pointer (some { block := G + 2, off := 0 }), Value.pointer (some { block := G + 2, off := 0 }), heapV A2 nn c2 R2 m d2, Value.pointer (some { block := G + 2, off := 0 }), Value.int IntKind.i64 3, Value.bool false, Value.bool false, undef, undef, undef, Value.bool false, Value.bool false, undef, undef, undef, Value.bool false, Value.bool false, undef, undef, undef, t29, t30, t31, t32, t33, t34, t35, undef, undef], defers := [] } ∧ (L 2 = false → Below w4.heap.size w4 ww) ∧ (L 8 = false → w4.grownBy ww (some (G + 2))) ∧ (L 3 = true → L 2 = true) ∧ (L 0 = true → t30 = .agg #[.slice A2 nn c2, .slice R2 m d2]) ∧ (L 1 = true → t31 = .pointer (some ⟨G + 2, 0, none⟩)) ∧ (L 2 = true → ∃ o : Cm, t32 = cmV o) ∧ (L 3 = true → ∃ A3 n3 c3 R3 m3 d3 hb vb, t33 = .tuple #[.agg #[.slice A3 n3 c3, .slice R3 m3 d3], .bool vb] ∧ n3 ≤ c3 ∧ m3 ≤ d3 ∧ n3 ≤ 41 ∧ m3 ≤ 4 ∧ (L 8 = false → OwnH ww w4.heap.size (.slice A3 n3 c3) (.slice R3 m3 d3) hb)) ∧ (L 4 = true → ∃ A3 n3 c3 R3 m3 d3 hb vb, t29 = .tuple #[.agg #[.slice A3 n3 c3, .slice R3 m3 d3], .bool vb] ∧ n3 ≤ c3 ∧ m3 ≤ d3 ∧ n3 ≤ 41 ∧ m3 ≤ 4 ∧ (L 8 = false → OwnH ww w4.heap.size (.slice A3 n3 c3) (.slice R3 m3 d3) hb) ∧ L 3 = true) ∧ (L 5 = true → ∃ A3 n3 c3 R3 m3 d3 hb, t34 = .agg #[.slice A3 n3 c3, .slice R3 m3 d3] ∧ n3 ≤ c3 ∧ m3 ≤ d3 ∧ n3 ≤ 41 ∧ m3 ≤ 4 ∧ (L 8 = false → OwnH ww w4.heap.size (.slice A3 n3 c3) (.slice R3 m3 d3) hb) ∧ L 3 = true) ∧ (L 6 = true → ∃ vb : Bool, t35 = .bool vb ∧ L 3 = true) ∧ (L 7 = true → ∃ q7, t6 = .pointer (some ⟨q7, 0, none⟩) ∧ w4.heap.size ≤ q7 ∧ (L 8 = false → Rw ww q7 28 #[.slice none 0 0, .slice none 0 0])) ∧ (L 8 = true → (∀ p, p ≠ 6 → p < 8 → L p = true) ∧ ∃ A3 n3 c3 R3 m3 d3 hb q7 wp, t6 = .pointer (some ⟨q7, 0, none⟩) ∧ w4.heap.size ≤ q7 ∧ n3 ≤ c3 ∧ m3 ≤ d3 ∧ n3 ≤ 41 ∧ m3 ≤ 4 ∧ OwnH wp w4.heap.size (.slice A3 n3 c3) (.slice R3 m3 d3) hb ∧ Rw wp q7 28 #[.slice none 0 0, .slice none 0 0] ∧ w4.grownBy wp (some (G + 2)) ∧ ww = (wp.setCell ⟨q7, 0, none⟩ (.slice A3 n3 c3)).setCell ⟨q7, 1, none⟩ (.slice R3 m3 d3)) ∧ (L 9 = true → ∃ vb : Bool, t7 = .bool vb ∧ L 8 = true)) ?h0 ?hstep ?hdone
    case h0 => exact ⟨_, _, _, _, _, _, _, _, _, rfl, fun _ => (Below.refl _ _).drew, fun _ => grown_below (World.grownBy.refl _ _) (Below.refl _ _).drew, fun h => absurd h Bool.false_ne_true, (fun h => absurd h Bool.false_ne_true), (fun h => absurd h Bool.false_ne_true), (fun h => absurd h Bool.false_ne_true), (fun h => absurd h Bool.false_ne_true), (fun h => absurd h Bool.false_ne_true), (fun h => absurd h Bool.false_ne_true), (fun h => absurd h Bool.false_ne_true), (fun h => absurd h Bool.false_ne_true), (fun h => absurd h Bool.false_ne_true), (fun h => absurd h Bool.false_ne_true)⟩
    case hstep =>
      rintro L ac ww i o ho hL hd ⟨t6, t7, t29, t30, t31, t32, t33, t34, t35, rfl, I0, I1, I2, f0, f1, f2, f3, f4, f5, f6, f7, f8, f9⟩
      have hi : i < 10 := (Array.getElem?_eq_some_iff.1 ho).1
      obtain rfl | rfl | rfl | rfl | rfl | rfl | rfl | rfl | rfl | rfl : i = 0 ∨ i = 1 ∨ i = 2 ∨ i = 3 ∨ i = 4 ∨ i = 5 ∨ i = 6 ∨ i = 7 ∨ i = 8 ∨ i = 9 := by omega
      · obtain rfl := Option.some.inj ho
        have hL8 : L 8 = false := by
          cases e : L 8
          · rfl
          · exact absurd ((f8 e).1 0 (by decide) (by decide)) (by rw [hL]; decide)
        have J := I1 hL8
        have bx := x4.far J (fun e => by have := Option.some.inj e; omega)
        have y0 := bx.cell 0
        have y1 := bx.cell 1
        simp only [List.getElem?_toArray, List.getElem?_cons_zero, List.getElem?_cons_succ] at y0 y1
        refine wpOp_step rfl (fun K' hK => ?_)
        go_simp
        refine hK _ _ ?_
        exact ⟨_, _, _, _, _, _, _, _, _, rfl, (fun h => I0 (by rw [upd_other (by decide)] at h; exact h)), (fun _ => J), (fun h => upd_mono (I2 (upd_ne h (by decide)))), (fun _ => rfl), (kp f1), (kp f2), (fun h => by
          obtain ⟨A3, n3, c3, R3, m3, d3, hb, vb, e, k1, k2, k3, k4, ow⟩ := f3 (upd_ne h (by decide))
          exact ⟨A3, n3, c3, R3, m3, d3, hb, vb, e, k1, k2, k3, k4, fun h8 => ow (by rw [upd_other (by decide)] at h8; exact h8)⟩), (fun h => by
          obtain ⟨A3, n3, c3, R3, m3, d3, hb, vb, e, k1, k2, k3, k4, ow, l3⟩ := f4 (upd_ne h (by decide))
          exact ⟨A3, n3, c3, R3, m3, d3, hb, vb, e, k1, k2, k3, k4, fun h8 => ow (by rw [upd_other (by decide)] at h8; exact h8), upd_mono l3⟩), (fun h => by
          obtain ⟨A3, n3, c3, R3, m3, d3, hb, e, k1, k2, k3, k4, ow, l3⟩ := f5 (upd_ne h (by decide))
          exact ⟨A3, n3, c3, R3, m3, d3, hb, e, k1, k2, k3, k4, fun h8 => ow (by rw [upd_other (by decide)] at h8; exact h8), upd_mono l3⟩), (fun h => by
          obtain ⟨vb, e, l3⟩ := f6 (upd_ne h (by decide))
          exact ⟨vb, e, upd_mono l3⟩), (fun h => by
          obtain ⟨q7, e, hq, rq⟩ := f7 (upd_ne h (by decide))
          exact ⟨q7, e, hq, fun h8 => rq (by rw [upd_other (by decide)] at h8; exact h8)⟩), (fun h => absurd ((f8 (upd_ne h (by decide))).1 0 (by decide) (by decide)) (by rw [hL]; decide)), (fun h => by
          obtain ⟨vb, -, h8⟩ := f9 (upd_ne h (by decide))
          exact absurd ((f8 h8).1 0 (by decide) (by decide)) (by rw [hL]; decide))⟩
      · obtain rfl := Option.some.inj ho
        have hL8 : L 8 = false := by
          cases e : L 8
          · rfl
          · exact absurd ((f8 e).1 1 (by decide) (by decide)) (by rw [hL]; decide)
        have J := I1 hL8
        refine wpOp_step rfl (fun K' hK => ?_)
        go_simp
        refine hK _ _ ?_
        exact ⟨_, _, _, _, _, _, _, _, _, rfl, (fun h => I0 (by rw [upd_other (by decide)] at h; exact h)), (fun _ => J), (fun h => upd_mono (I2 (upd_ne h (by decide)))), (kp f0), (fun _ => rfl), (kp f2), (fun h => by
          obtain ⟨A3, n3, c3, R3, m3, d3, hb, vb, e, k1, k2, k3, k4, ow⟩ := f3 (upd_ne h (by decide))
          exact ⟨A3, n3, c3, R3, m3, d3, hb, vb, e, k1, k2, k3, k4, fun h8 => ow (by rw [upd_other (by decide)] at h8; exact h8)⟩), (fun h => by
          obtain ⟨A3, n3, c3, R3, m3, d3, hb, vb, e, k1, k2, k3, k4, ow, l3⟩ := f4 (upd_ne h (by decide))
          exact ⟨A3, n3, c3, R3, m3, d3, hb, vb, e, k1, k2, k3, k4, fun h8 => ow (by rw [upd_other (by decide)] at h8; exact h8), upd_mono l3⟩), (fun h => by
          obtain ⟨A3, n3, c3, R3, m3, d3, hb, e, k1, k2, k3, k4, ow, l3⟩ := f5 (upd_ne h (by decide))
          exact ⟨A3, n3, c3, R3, m3, d3, hb, e, k1, k2, k3, k4, fun h8 => ow (by rw [upd_other (by decide)] at h8; exact h8), upd_mono l3⟩), (fun h => by
          obtain ⟨vb, e, l3⟩ := f6 (upd_ne h (by decide))
          exact ⟨vb, e, upd_mono l3⟩), (fun h => by
          obtain ⟨q7, e, hq, rq⟩ := f7 (upd_ne h (by decide))
          exact ⟨q7, e, hq, fun h8 => rq (by rw [upd_other (by decide)] at h8; exact h8)⟩), (fun h => absurd ((f8 (upd_ne h (by decide))).1 1 (by decide) (by decide)) (by rw [hL]; decide)), (fun h => by
          obtain ⟨vb, -, h8⟩ := f9 (upd_ne h (by decide))
          exact absurd ((f8 h8).1 1 (by decide) (by decide)) (by rw [hL]; decide))⟩
      · obtain rfl := Option.some.inj ho
        have g1 := f1 (hd ⟨1, .data⟩ (by simp) rfl)
        subst g1
        have hL8 : L 8 = false := by
          cases e : L 8
          · rfl
          · exact absurd ((f8 e).1 2 (by decide) (by decide)) (by rw [hL]; decide)
        have J := I1 hL8
        refine wpOp_step rfl (fun K' hK => ?_)
        go_simp
        have J2 := I0 hL
        refine (l20Command_any _ _ 0 ww (hr4.below J2 hr4.lt) (by omega) (by omega) (by omega)).mono ?_
        rintro e w' ⟨o, rfl, -, -, -, g3⟩
        refine hK _ _ ?_
        exact ⟨_, _, _, _, _, _, _, _, _, rfl, (fun h => absurd h (by rw [upd_self]; decide)), (fun _ => World.grownBy.trans J g3), (fun h => upd_mono (I2 (upd_ne h (by decide)))), (kp f0), (kp f1), (fun _ => ⟨o, rfl⟩), (fun h => absurd (I2 (upd_ne h (by decide))) (by rw [hL]; decide)), (fun h => by
          obtain ⟨A3, n3, c3, R3, m3, d3, hb, vb, e, k1, k2, k3, k4, ow, l3⟩ := f4 (upd_ne h (by decide))
          exact absurd (I2 l3) (by rw [hL]; decide)), (fun h => by
          obtain ⟨A3, n3, c3, R3, m3, d3, hb, e, k1, k2, k3, k4, ow, l3⟩ := f5 (upd_ne h (by decide))
          exact absurd (I2 l3) (by rw [hL]; decide)), (fun h => by
          obtain ⟨vb, e, l3⟩ := f6 (upd_ne h (by decide))
          exact absurd (I2 l3) (by rw [hL]; decide)), (fun h => by
          obtain ⟨q7, e, hq, rq⟩ := f7 (upd_ne h (by decide))
          exact ⟨q7, e, hq, fun h8 => (rq hL8).far g3 (fun e => by have := Option.some.inj e; omega)⟩), (fun h => absurd ((f8 (upd_ne h (by decide))).1 2 (by decide) (by decide)) (by rw [hL]; decide)), (fun h => by
          obtain ⟨vb, -, h8⟩ := f9 (upd_ne h (by decide))
          exact absurd ((f8 h8).1 2 (by decide) (by decide)) (by rw [hL]; decide))⟩
      · obtain rfl := Option.some.inj ho
        have g0 := f0 (hd ⟨0, .data⟩ (by simp) rfl)
        have g2 := f2 (hd ⟨2, .data⟩ (by simp) rfl)
        subst g0
        have hL8 : L 8 = false := by
          cases e : L 8
          · rfl
          · exact absurd ((f8 e).1 3 (by decide) (by decide)) (by rw [hL]; decide)
        have J := I1 hL8
        have l2 := Lib.hid (hd ⟨2, .data⟩ (by simp) rfl)
        obtain ⟨o, e2⟩ := g2
        subst e2
        refine wpOp_step rfl (fun K' hK => ?_)
        go_simp
        refine (mStepHeap_any _ _ _ _ _ _ hh o ww (HFa.far J hlo).reads (by omega) (by omega)).mono ?_
        rintro e w' ⟨vc3, vr3, rfl, ⟨rvs3, ow⟩, b3⟩
        obtain ⟨A3, n3, c3, R3, m3, d3, rfl, rfl⟩ := OwnH.slices ⟨rvs3, ow⟩
        obtain ⟨u1, u2, k1, k2⟩ := ow.caps
        have kf := step_few (h := hh) o
        have hzw := J.size
        refine hK _ _ ?_
        exact ⟨_, _, _, _, _, _, _, _, _, rfl, (fun h => absurd l2.out (by rw [upd_other (by decide)] at h; rw [h]; decide)), (fun _ => grown_below J (b3.mono hzw)), (fun _ => upd_mono l2.out), (kp f0), (kp f1), (fun _ => ⟨o, rfl⟩), (fun _ => ⟨A3, n3, c3, R3, m3, d3, _, _, rfl, k1, k2, by have := kf.1; omega, by have := kf.2; omega, fun _ => ⟨rvs3, ow.base hzw⟩⟩), (fun h => by
          obtain ⟨A3, n3, c3, R3, m3, d3, hb, vb, e, k1, k2, k3, k4, ow, l3⟩ := f4 (upd_ne h (by decide))
          exact absurd l3 (by rw [hL]; decide)), (fun h => by
          obtain ⟨A3, n3, c3, R3, m3, d3, hb, e, k1, k2, k3, k4, ow, l3⟩ := f5 (upd_ne h (by decide))
          exact absurd l3 (by rw [hL]; decide)), (fun h => by
          obtain ⟨vb, e, l3⟩ := f6 (upd_ne h (by decide))
          exact absurd l3 (by rw [hL]; decide)), (fun h => by
          obtain ⟨q7, e, hq, rq⟩ := f7 (upd_ne h (by decide))
          exact ⟨q7, e, hq, fun h8 => (rq hL8).keep b3 (rq hL8).lt⟩), (fun h => absurd ((f8 (upd_ne h (by decide))).1 3 (by decide) (by decide)) (by rw [hL]; decide)), (fun h => by
          obtain ⟨vb, -, h8⟩ := f9 (upd_ne h (by decide))
          exact absurd ((f8 h8).1 3 (by decide) (by decide)) (by rw [hL]; decide))⟩
      · obtain rfl := Option.some.inj ho
        have g3 := f3 (hd ⟨3, .data⟩ (by simp) rfl)
        have hL8 : L 8 = false := by
          cases e : L 8
          · rfl
          · exact absurd ((f8 e).1 4 (by decide) (by decide)) (by rw [hL]; decide)
        have J := I1 hL8
        have l3 := Lib.hid (hd ⟨3, .data⟩ (by simp) rfl)
        obtain ⟨A3, n3, c3, R3, m3, d3, hb, vb, e3, k1, k2, k3, k4, ow⟩ := g3
        subst e3
        refine wpOp_step rfl (fun K' hK => ?_)
        go_simp
        refine hK _ _ ?_
        exact ⟨_, _, _, _, _, _, _, _, _, rfl, (fun h => I0 (by rw [upd_other (by decide)] at h; exact h)), (fun _ => J), (fun h => upd_mono (I2 (upd_ne h (by decide)))), (kp f0), (kp f1), (kp f2), (fun _ => ⟨A3, n3, c3, R3, m3, d3, hb, vb, rfl, k1, k2, k3, k4, fun h8 => ow (by rw [upd_other (by decide)] at h8; exact h8)⟩), (fun _ => ⟨A3, n3, c3, R3, m3, d3, hb, vb, rfl, k1, k2, k3, k4, fun h8 => ow (by rw [upd_other (by decide)] at h8; exact h8), upd_mono l3.out⟩), (fun h => by
          obtain ⟨A3, n3, c3, R3, m3, d3, hb, e, k1, k2, k3, k4, ow, l3⟩ := f5 (upd_ne h (by decide))
          exact ⟨A3, n3, c3, R3, m3, d3, hb, e, k1, k2, k3, k4, fun h8 => ow (by rw [upd_other (by decide)] at h8; exact h8), upd_mono l3⟩), (fun h => by
          obtain ⟨vb, e, l3⟩ := f6 (upd_ne h (by decide))
          exact ⟨vb, e, upd_mono l3⟩), (fun h => by
          obtain ⟨q7, e, hq, rq⟩ := f7 (upd_ne h (by decide))
          exact ⟨q7, e, hq, fun h8 => rq (by rw [upd_other (by decide)] at h8; exact h8)⟩), (fun h => absurd ((f8 (upd_ne h (by decide))).1 4 (by decide) (by decide)) (by rw [hL]; decide)), (fun h => by
          obtain ⟨vb, -, h8⟩ := f9 (upd_ne h (by decide))
          exact absurd ((f8 h8).1 4 (by decide) (by decide)) (by rw [hL]; decide))⟩
      · obtain rfl := Option.some.inj ho
        have g4 := f4 (hd ⟨4, .data⟩ (by simp) rfl)
        have hL8 : L 8 = false := by
          cases e : L 8
          · rfl
          · exact absurd ((f8 e).1 5 (by decide) (by decide)) (by rw [hL]; decide)
        have J := I1 hL8
        obtain ⟨A3, n3, c3, R3, m3, d3, hb, vb, e3, k1, k2, k3, k4, ow, l3⟩ := g4
        subst e3
        have L3 := Lib.hid l3
        clear l3
        refine wpOp_step rfl (fun K' hK => ?_)
        go_simp
        refine hK _ _ ?_
        exact ⟨_, _, _, _, _, _, _, _, _, rfl, (fun h => I0 (by rw [upd_other (by decide)] at h; exact h)), (fun _ => J), (fun h => upd_mono (I2 (upd_ne h (by decide)))), (kp f0), (kp f1), (kp f2), (fun h => by
          obtain ⟨A3, n3, c3, R3, m3, d3, hb, vb, e, k1, k2, k3, k4, ow⟩ := f3 (upd_ne h (by decide))
          exact ⟨A3, n3, c3, R3, m3, d3, hb, vb, e, k1, k2, k3, k4, fun h8 => ow (by rw [upd_other (by decide)] at h8; exact h8)⟩), (fun _ => ⟨A3, n3, c3, R3, m3, d3, hb, vb, rfl, k1, k2, k3, k4, fun h8 => ow (by rw [upd_other (by decide)] at h8; exact h8), upd_mono L3.out⟩), (fun _ => ⟨A3, n3, c3, R3, m3, d3, hb, rfl, k1, k2, k3, k4, fun h8 => ow (by rw [upd_other (by decide)] at h8; exact h8), upd_mono L3.out⟩), (fun h => by
          obtain ⟨vb, e, l3⟩ := f6 (upd_ne h (by decide))
          exact ⟨vb, e, upd_mono l3⟩), (fun h => by
          obtain ⟨q7, e, hq, rq⟩ := f7 (upd_ne h (by decide))
          exact ⟨q7, e, hq, fun h8 => rq (by rw [upd_other (by decide)] at h8; exact h8)⟩), (fun h => absurd ((f8 (upd_ne h (by decide))).1 5 (by decide) (by decide)) (by rw [hL]; decide)), (fun h => by
          obtain ⟨vb, -, h8⟩ := f9 (upd_ne h (by decide))
          exact absurd ((f8 h8).1 5 (by decide) (by decide)) (by rw [hL]; decide))⟩
      · obtain rfl := Option.some.inj ho
        have g4 := f4 (hd ⟨4, .data⟩ (by simp) rfl)
        obtain ⟨A3, n3, c3, R3, m3, d3, hb, vb, e3, k1, k2, k3, k4, ow, l3⟩ := g4
        subst e3
        have L3 := Lib.hid l3
        clear l3
        refine wpOp_step rfl (fun K' hK => ?_)
        go_simp
        refine hK _ _ ?_
        exact ⟨_, _, _, _, _, _, _, _, _, rfl, (fun h => I0 (by rw [upd_other (by decide)] at h; exact h)), (fun h => I1 (by rw [upd_other (by decide)] at h; exact h)), (fun h => upd_mono (I2 (upd_ne h (by decide)))), (kp f0), (kp f1), (kp f2), (fun h => by
          obtain ⟨A3, n3, c3, R3, m3, d3, hb, vb, e, k1, k2, k3, k4, ow⟩ := f3 (upd_ne h (by decide))
          exact ⟨A3, n3, c3, R3, m3, d3, hb, vb, e, k1, k2, k3, k4, fun h8 => ow (by rw [upd_other (by decide)] at h8; exact h8)⟩), (fun _ => ⟨A3, n3, c3, R3, m3, d3, hb, vb, rfl, k1, k2, k3, k4, fun h8 => ow (by rw [upd_other (by decide)] at h8; exact h8), upd_mono L3.out⟩), (fun h => by
          obtain ⟨A3, n3, c3, R3, m3, d3, hb, e, k1, k2, k3, k4, ow, l3⟩ := f5 (upd_ne h (by decide))
          exact ⟨A3, n3, c3, R3, m3, d3, hb, e, k1, k2, k3, k4, fun h8 => ow (by rw [upd_other (by decide)] at h8; exact h8), upd_mono l3⟩), (fun _ => ⟨vb, rfl, upd_mono L3.out⟩), (fun h => by
          obtain ⟨q7, e, hq, rq⟩ := f7 (upd_ne h (by decide))
          exact ⟨q7, e, hq, fun h8 => rq (by rw [upd_other (by decide)] at h8; exact h8)⟩), (fun h => by
          obtain ⟨lp, r⟩ := f8 (upd_ne h (by decide))
          exact ⟨fun p h6 hp => upd_mono (lp p h6 hp), r⟩), (fun h => by
          obtain ⟨vb, e, h8⟩ := f9 (upd_ne h (by decide))
          exact ⟨vb, e, upd_mono h8⟩)⟩
      · obtain rfl := Option.some.inj ho
        have hL8 : L 8 = false := by
          cases e : L 8
          · rfl
          · exact absurd ((f8 e).1 7 (by decide) (by decide)) (by rw [hL]; decide)
        have J := I1 hL8
        have bA : Below ww.heap.size ww (ww.alloc (.cells #[.slice none 0 0, .slice none 0 0] 28)) := (Below.refl _ _).alloc (Nat.le_refl _) _
        have q7n := Rw.new ww 28 #[.slice none 0 0, .slice none 0 0]
        refine wpOp_step rfl (fun K' hK => ?_)
        go_simp
        refine hK _ _ ?_
        exact ⟨_, _, _, _, _, _, _, _, _, rfl, (fun h => (I0 (by rw [upd_other (by decide)] at h; exact h)).alloc J.size _), (fun _ => grown_below J (bA.mono J.size)), (fun h => upd_mono (I2 (upd_ne h (by decide)))), (kp f0), (kp f1), (kp f2), (fun h => by
          obtain ⟨A3, n3, c3, R3, m3, d3, hb, vb, e, k1, k2, k3, k4, ow⟩ := f3 (upd_ne h (by decide))
          exact ⟨A3, n3, c3, R3, m3, d3, hb, vb, e, k1, k2, k3, k4, fun _ => (ow hL8).below bA (Nat.le_refl _)⟩), (fun h => by
          obtain ⟨A3, n3, c3, R3, m3, d3, hb, vb, e, k1, k2, k3, k4, ow, l3⟩ := f4 (upd_ne h (by decide))
          exact ⟨A3, n3, c3, R3, m3, d3, hb, vb, e, k1, k2, k3, k4, fun _ => (ow hL8).below bA (Nat.le_refl _), upd_mono l3⟩), (fun h => by
          obtain ⟨A3, n3, c3, R3, m3, d3, hb, e, k1, k2, k3, k4, ow, l3⟩ := f5 (upd_ne h (by decide))
          exact ⟨A3, n3, c3, R3, m3, d3, hb, e, k1, k2, k3, k4, fun _ => (ow hL8).below bA (Nat.le_refl _), upd_mono l3⟩), (fun h => by
          obtain ⟨vb, e, l3⟩ := f6 (upd_ne h (by decide))
          exact ⟨vb, e, upd_mono l3⟩), (fun _ => ⟨_, rfl, J.size, fun _ => q7n⟩), (fun h => absurd ((f8 (upd_ne h (by decide))).1 7 (by decide) (by decide)) (by rw [hL]; decide)), (fun h => by
          obtain ⟨vb, -, h8⟩ := f9 (upd_ne h (by decide))
          exact absurd ((f8 h8).1 7 (by decide) (by decide)) (by rw [hL]; decide))⟩
      · obtain rfl := Option.some.inj ho
        have g5 := f5 (hd ⟨5, .data⟩ (by simp) rfl)
        have g7 := f7 (hd ⟨7, .data⟩ (by simp) rfl)
        have lq : Hid (∀ p, p ≠ 6 → p < 8 → L p = true) := Lib.hid (by
          intro p h6 hp
          obtain rfl | rfl | rfl | rfl | rfl | rfl | rfl : p = 0 ∨ p = 1 ∨ p = 2 ∨ p = 3 ∨ p = 4 ∨ p = 5 ∨ p = 7 := by omega
          · exact hd ⟨0, .phase⟩ (by simp) rfl
          · exact hd ⟨1, .phase⟩ (by simp) rfl
          · exact hd ⟨2, .phase⟩ (by simp) rfl
          · exact hd ⟨3, .phase⟩ (by simp) rfl
          · exact hd ⟨4, .phase⟩ (by simp) rfl
          · exact hd ⟨5, .data⟩ (by simp) rfl
          · exact hd ⟨7, .data⟩ (by simp) rfl)
        have J := I1 hL
        obtain ⟨A3, n3, c3, R3, m3, d3, hb, e5, k1, k2, k3, k4, ow, -⟩ := g5
        subst e5
        obtain ⟨q7, e7, hq, rq⟩ := g7
        subst e7
        have ow := ow hL
        have rq := rq hL
        have y0 := rq.cell 0
        have y1 := rq.cell 1
        simp only [List.getElem?_toArray, List.getElem?_cons_zero, List.getElem?_cons_succ] at y0 y1
        have u0 : ww.frozen? ⟨q7, 0, none⟩ = false := rq.frozen 0
        have u1 : ww.frozen? ⟨q7, 1, none⟩ = false := rq.frozen 1
        refine wpOp_step rfl (fun K' hK => ?_)
        go_simp
        refine hK _ _ ?_
        exact ⟨_, _, _, _, _, _, _, _, _, rfl, (fun h => absurd (lq.out 2 (by decide) (by decide)) (by rw [upd_other (by decide)] at h; rw [h]; decide)), (fun h => absurd h (by rw [upd_self]; decide)), (fun h => upd_mono (I2 (upd_ne h (by decide)))), (kp f0), (kp f1), (kp f2), (fun h => by
          obtain ⟨A3, n3, c3, R3, m3, d3, hb, vb, e, k1, k2, k3, k4, ow⟩ := f3 (upd_ne h (by decide))
          exact ⟨A3, n3, c3, R3, m3, d3, hb, vb, e, k1, k2, k3, k4, fun h8 => absurd h8 (by rw [upd_self]; decide)⟩), (fun h => by
          obtain ⟨A3, n3, c3, R3, m3, d3, hb, vb, e, k1, k2, k3, k4, ow, l3⟩ := f4 (upd_ne h (by decide))
          exact ⟨A3, n3, c3, R3, m3, d3, hb, vb, e, k1, k2, k3, k4, fun h8 => absurd h8 (by rw [upd_self]; decide), upd_mono l3⟩), (fun _ => ⟨A3, n3, c3, R3, m3, d3, hb, rfl, k1, k2, k3, k4, fun h8 => absurd h8 (by rw [upd_self]; decide), upd_mono (lq.out 3 (by decide) (by decide))⟩), (fun h => by
          obtain ⟨vb, e, l3⟩ := f6 (upd_ne h (by decide))
          exact ⟨vb, e, upd_mono l3⟩), (fun _ => ⟨q7, rfl, hq, fun h8 => absurd h8 (by rw [upd_self]; decide)⟩), (fun _ => ⟨fun p h6 hp => upd_mono (lq.out p h6 hp), A3, n3, c3, R3, m3, d3, hb, q7, ww, rfl, hq, k1, k2, k3, k4, ow, rq, J, rfl⟩), (fun h => by
          obtain ⟨vb, e, h8⟩ := f9 (upd_ne h (by decide))
          exact ⟨vb, e, upd_mono h8⟩)⟩
      · obtain rfl := Option.some.inj ho
        have g6 := f6 (hd ⟨6, .data⟩ (by simp) rfl)
        have l8 := Lib.hid (hd ⟨8, .chain⟩ (by simp) rfl)
        obtain ⟨vb, e6, l3⟩ := g6
        subst e6
        have L3 := Lib.hid l3
        clear l3
        refine wpOp_step rfl (fun K' hK => ?_)
        go_simp
        refine hK _ _ ?_
        exact ⟨_, _, _, _, _, _, _, _, _, rfl, (fun h => I0 (by rw [upd_other (by decide)] at h; exact h)), (fun h => I1 (by rw [upd_other (by decide)] at h; exact h)), (fun h => upd_mono (I2 (upd_ne h (by decide)))), (kp f0), (kp f1), (kp f2), (fun h => by
          obtain ⟨A3, n3, c3, R3, m3, d3, hb, vb, e, k1, k2, k3, k4, ow⟩ := f3 (upd_ne h (by decide))
          exact ⟨A3, n3, c3, R3, m3, d3, hb, vb, e, k1, k2, k3, k4, fun h8 => ow (by rw [upd_other (by decide)] at h8; exact h8)⟩), (fun h => by
          obtain ⟨A3, n3, c3, R3, m3, d3, hb, vb, e, k1, k2, k3, k4, ow, l3⟩ := f4 (upd_ne h (by decide))
          exact ⟨A3, n3, c3, R3, m3, d3, hb, vb, e, k1, k2, k3, k4, fun h8 => ow (by rw [upd_other (by decide)] at h8; exact h8), upd_mono l3⟩), (fun h => by
          obtain ⟨A3, n3, c3, R3, m3, d3, hb, e, k1, k2, k3, k4, ow, l3⟩ := f5 (upd_ne h (by decide))
          exact ⟨A3, n3, c3, R3, m3, d3, hb, e, k1, k2, k3, k4, fun h8 => ow (by rw [upd_other (by decide)] at h8; exact h8), upd_mono l3⟩), (fun _ => ⟨vb, rfl, upd_mono L3.out⟩), (fun h => by
          obtain ⟨q7, e, hq, rq⟩ := f7 (upd_ne h (by decide))
          exact ⟨q7, e, hq, fun h8 => rq (by rw [upd_other (by decide)] at h8; exact h8)⟩), (fun h => by
          obtain ⟨lp, r⟩ := f8 (upd_ne h (by decide))
          exact ⟨fun p h6 hp => upd_mono (lp p h6 hp), r⟩), (fun _ => ⟨vb, rfl, upd_mono l8.out⟩)⟩
    case hdone =>
      rintro L ac ww hall ⟨t6, t7, t29, t30, t31, t32, t33, t34, t35, rfl, I0, I1, I2, f0, f1, f2, f3, f4, f5, f6, f7, f8, f9⟩
      have e0 := f0 (hall 0 (by decide))
      have e1 := f1 (hall 1 (by decide))
      have e2 := f2 (hall 2 (by decide))
      have e3 := f3 (hall 3 (by decide))
      have e4 := f4 (hall 4 (by decide))
      have e5 := f5 (hall 5 (by decide))
      have e6 := f6 (hall 6 (by decide))
      have e7 := f7 (hall 7 (by decide))
      have e8 := f8 (hall 8 (by decide))
      have e9 := f9 (hall 9 (by decide))
      clear f0 f1 f2 f3 f4 f5 f6 f7 f8 f9
      obtain ⟨-, A3, n3, c3, R3, m3, d3, hb, q7, wp, rfl, hq7, k1, k2, k3, k4, ⟨rvs3, ow⟩, rq, J, rfl⟩ := e8
      obtain ⟨vb, rfl, -⟩ := e9
      have ap := ow.apart_box rq
      have HFb := ((ow.far (put_any wp q7 0 (.slice A3 n3 c3)) ap).far (put_any _ q7 1 (.slice R3 m3 d3)) ap).hf (Nat.le_refl _)
      have xq := (rq.put 0 (.slice A3 n3 c3)).put 1 (.slice R3 m3 d3)
      simp only [List.setIfInBounds_toArray, List.set_cons_zero, List.set_cons_succ] at xq
      have xb := Rw.other (g' := q7) (i := 1) (Rw.other (g' := q7) (i := 0) (x4.far J (fun e => by have := Option.some.inj e; omega)) (by omega) (.slice A3 n3 c3)) (by omega) (.slice R3 m3 d3)
      have r4' := Rw.other (g' := q7) (i := 1) (Rw.other (g' := q7) (i := 0) (r4.far J (fun e => by have := Option.some.inj e; omega)) (by omega) (.slice A3 n3 c3)) (by omega) (.slice R3 m3 d3)
      have r5' := Rw.other (g' := q7) (i := 1) (Rw.other (g' := q7) (i := 0) (r5.far J (fun e => by have := Option.some.inj e; omega)) (by omega) (.slice A3 n3 c3)) (by omega) (.slice R3 m3 d3)
      have SW : Same lo w4 ((wp.setCell ⟨q7, 0, none⟩ (.slice A3 n3 c3)).setCell ⟨q7, 1, none⟩ (.slice R3 m3 d3)) := ⟨by simp; exact J.size, fun j hj hk => by
        rw [Below.heap_setCell _ ⟨q7, 1, none⟩ _ j (by show j ≠ q7; omega), Below.heap_setCell _ ⟨q7, 0, none⟩ _ j (by show j ≠ q7; omega)]
        exact J.block j hk (fun e => by have := Option.some.inj e; omega)⟩
      have HFa5 := HFa.same SW
      have bb5 := ((bb4.grown J bb4.size (fun k hk => by have := Option.some.inj hk; omega)).setCell (p := ⟨q7, 0, none⟩) (by have := bb4.size; show w.heap.size ≤ q7; omega) (.slice A3 n3 c3)).setCell (p := ⟨q7, 1, none⟩) (by have := bb4.size; show w.heap.size ≤ q7; omega) (.slice R3 m3 d3)
      clear I0 I1 I2 e0 e1 e2 e3 e4 e5 e6 e7 hall ap ow rq SW HFa bb4 r4 r5 x4 J hr4
      go_upto_region 11 with fail
      generalize (wp.setCell ⟨q7, 0, none⟩ (.slice A3 n3 c3)).setCell ⟨q7, 1, none⟩ (.slice R3 m3 d3) = w5 at HFb xq xb r4' r5' HFa5 bb5 ⊢
      have hq5 := xq.lt
      have hb5 := xb.lt
      refine wp_region_inv (by kernel_rfl) (by kernel_rfl) (fun L ac ww => ∃ t36 t37 : Value, ac = { tmps := #[Value.slice A n c, undef, Value.pointer (some { block := G, off := 0 }), Value.pointer (some { block := G + 1, off := 0 }), Value.pointer (some { block := G + 2, off := 0 }), Value.pointer (some { block := b, off := 0 }), Value.pointer (some { block := q7, off := 0 }), Value.bool vb, Value.slice A n c, Value.pointer (some { block := G + 2, off := 0 }), Value.pointer (some { block := G + 2, off := 0 }), heapV A2 nn c2 R2 m d2, Value.pointer (some { block := G + 2, off := 0 }), Value.int IntKind.i64 3, Value.bool false, Value.bool false, undef, undef, undef, Value.bool false, Value.bool false, undef, undef, undef, Value.bool false, Value.bool false, undef, undef, undef, t29, t30, t31, t32, t33, t34, t35, t36, t37], defers := [] } ∧ (∃ wp, Below w5.heap.size w5 wp ∧ ww = (if L 3 = true then ((((wp.setCell ⟨G, 0, none⟩ (.slice A2 nn c2)).setCell ⟨G, 1, none⟩ (.slice R2 m d2)).setCell ⟨G + 1, 0, none⟩ (.slice A3 n3 c3)).setCell ⟨G + 1, 1, none⟩ (.slice R3 m3 d3)) else if L 2 = true then ((wp.setCell ⟨G, 0, none⟩ (.slice A2 nn c2)).setCell ⟨G, 1, none⟩ (.slice R2 m d2)) else wp)) ∧ (L 0 = true → t36 = .agg #[.slice A2 nn c2, .slice R2 m d2]) ∧ (L 1 = true → t37 = .agg #[.slice A3 n3 c3, .slice R3 m3 d3]) ∧ (L 2 = true → L 0 = true) ∧ (L 3 = true → ∀ p, p < 3 → L p = true)) ?h0 ?hstep ?hdone
      case h0 => exact ⟨_, _, rfl, ⟨_, (Below.refl _ _).drew, rfl⟩, (fun h => absurd h Bool.false_ne_true), (fun h => absurd h Bool.false_ne_true), (fun h => absurd h Bool.false_ne_true), (fun h => absurd h Bool.false_ne_true)⟩
      case hstep =>
        rintro L ac ww i o ho hL hd ⟨t36, t37, rfl, I0, f0, f1, f2, f3⟩
        have hi : i < 4 := (Array.getElem?_eq_some_iff.1 ho).1
        obtain rfl | rfl | rfl | rfl : i = 0 ∨ i = 1 ∨ i = 2 ∨ i = 3 := by omega
        · obtain rfl := Option.some.inj ho
          obtain ⟨wp, bp, ew⟩ := I0
          have hL3 : L 3 = false := by
            cases e : L 3
            · rfl
            · exact absurd (f3 e 0 (by decide)) (by rw [hL]; decide)
          have hL2 : L 2 = false := by
            cases e : L 2
            · rfl
            · exact absurd (f2 e) (by rw [hL]; decide)
          rw [hL3, hL2, if_neg (by decide), if_neg (by decide)] at ew
          subst ew
          have bx := xb.keep bp hb5
          have y0 := bx.cell 0
          have y1 := bx.cell 1
          simp only [List.getElem?_toArray, List.getElem?_cons_zero, List.getElem?_cons_succ] at y0 y1
          refine wpOp_step rfl (fun K' hK => ?_)
          go_simp
          refine hK _ _ ?_
          exact ⟨_, _, rfl, (⟨ww, bp, by rw [upd_other (by decide), upd_other (by decide), hL3, hL2, if_neg (by decide), if_neg (by decide)]⟩), (fun _ => rfl), (kp f1), (fun h => absurd (f2 (upd_ne h (by decide))) (by rw [hL]; decide)), (fun h => absurd (f3 (upd_ne h (by decide)) 0 (by decide)) (by rw [hL]; decide))⟩
        · obtain rfl := Option.some.inj ho
          obtain ⟨wp, bp, ew⟩ := I0
          have hL3 : L 3 = false := by
            cases e : L 3
            · rfl
            · exact absurd (f3 e 1 (by decide)) (by rw [hL]; decide)
          have bx : Rw ww q7 28 #[.slice A3 n3 c3, .slice R3 m3 d3] := by
            rw [ew, hL3, if_neg (by decide)]
            cases e : L 2
            · rw [if_neg (by decide)]
              exact xq.keep bp hq5
            · rw [if_pos rfl]
              exact Rw.other (g' := G) (i := 1) (Rw.other (g' := G) (i := 0) (xq.keep bp hq5) (by omega) (.slice A2 nn c2)) (by omega) (.slice R2 m d2)
          have y0 := bx.cell 0
          have y1 := bx.cell 1
          simp only [List.getElem?_toArray, List.getElem?_cons_zero, List.getElem?_cons_succ] at y0 y1
          have EW := Lib.hid ew
          clear ew
          refine wpOp_step rfl (fun K' hK => ?_)
          go_simp
          refine hK _ _ ?_
          exact ⟨_, _, rfl, (⟨wp, bp, by rw [upd_other (by decide), upd_other (by decide)]; exact EW.out⟩), (kp f0), (fun _ => rfl), (fun h => upd_mono (f2 (upd_ne h (by decide)))), (fun h => absurd (f3 (upd_ne h (by decide)) 1 (by decide)) (by rw [hL]; decide))⟩
        · obtain rfl := Option.some.inj ho
          have g0 := f0 (hd ⟨0, .data⟩ (by simp) rfl)
          subst g0
          obtain ⟨wp, bp, ew⟩ := I0
          have hL3 : L 3 = false := by
            cases e : L 3
            · rfl
            · exact absurd (f3 e 2 (by decide)) (by rw [hL]; decide)
          have l0 := Lib.hid (hd ⟨0, .data⟩ (by simp) rfl)
          rw [hL3, hL, if_neg (by decide), if_neg (by decide)] at ew
          subst ew
          have p2 := r4'.keep bp r4'.lt
          have y0 := p2.cell 0
          have y1 := p2.cell 1
          simp only [List.getElem?_toArray, List.getElem?_cons_zero, List.getElem?_cons_succ] at y0 y1
          have u0 : ww.frozen? ⟨G, 0, none⟩ = false := p2.frozen 0
          have u1 : ww.frozen? ⟨G, 1, none⟩ = false := p2.frozen 1
          refine wpOp_step rfl (fun K' hK => ?_)
          go_simp
          refine hK _ _ ?_
          exact ⟨_, _, rfl, (⟨ww, bp, by rw [upd_other (by decide), hL3, if_neg (by decide), upd_self, if_pos rfl]⟩), (kp f0), (kp f1), (fun _ => upd_mono l0.out), (fun h => absurd (f3 (upd_ne h (by decide)) 2 (by decide)) (by rw [hL]; decide))⟩
        · obtain rfl := Option.some.inj ho
          have g1 := f1 (hd ⟨1, .data⟩ (by simp) rfl)
          subst g1
          obtain ⟨wp, bp, ew⟩ := I0
          have l2 := Lib.hid (hd ⟨2, .chain⟩ (by simp) rfl)
          have l1 := Lib.hid (hd ⟨1, .data⟩ (by simp) rfl)
          rw [hL, if_neg (by decide), if_pos l2.out] at ew
          subst ew
          have p3 := Rw.other (g' := G) (i := 1) (Rw.other (g' := G) (i := 0) (r5'.keep bp r5'.lt) (by omega) (.slice A2 nn c2)) (by omega) (.slice R2 m d2)
          have y0 := p3.cell 0
          have y1 := p3.cell 1
          simp only [List.getElem?_toArray, List.getElem?_cons_zero, List.getElem?_cons_succ] at y0 y1
          have u0 : ((wp.setCell ⟨G, 0, none⟩ (.slice A2 nn c2)).setCell ⟨G, 1, none⟩ (.slice R2 m d2)).frozen? ⟨G + 1, 0, none⟩ = false := p3.frozen 0
          have u1 : ((wp.setCell ⟨G, 0, none⟩ (.slice A2 nn c2)).setCell ⟨G, 1, none⟩ (.slice R2 m d2)).frozen? ⟨G + 1, 1, none⟩ = false := p3.frozen 1
          refine wpOp_step rfl (fun K' hK => ?_)
          go_simp
          refine hK _ _ ?_
          exact ⟨_, _, rfl, (⟨wp, bp, by rw [upd_self, if_pos rfl]⟩), (kp f0), (kp f1), (fun h => upd_mono (f2 (upd_ne h (by decide)))), (fun _ p hp => by
            obtain rfl | rfl | rfl : p = 0 ∨ p = 1 ∨ p = 2 := by omega
            · exact upd_mono (f2 l2.out)
            · exact upd_mono l1.out
            · exact upd_mono l2.out)⟩
      case hdone =>
        rintro L ac ww hall ⟨t36, t37, rfl, I0, f0, f1, f2, f3⟩
        have e0 := f0 (hall 0 (by decide))
        have e1 := f1 (hall 1 (by decide))
        have e2 := f2 (hall 2 (by decide))
        have e3 := f3 (hall 3 (by decide))
        clear f0 f1 f2 f3
        obtain ⟨wp, bp, ew⟩ := I0
        rw [hall 3 (by decide), if_pos rfl] at ew
        subst ew
        have J : w5.grownBy wp (some (G + 2)) := grown_below (World.grownBy.refl _ _) bp
        have HF3 := HFb.far J hg4
        have HFa := HFa5
        have bb4 := bb5
        have r4 := r4'
        have r5 := r5'
        have x4 := xb
        have hr4 := hq5
        clear e0 e1 e2 e3 hall r4' r5' xb xq HFb HFa5 bb5 bp
        have p2 := ((r4.far J (fun e => by have := Option.some.inj e; omega)).put 0 (.slice A2 nn c2)).put 1 (.slice R2 m d2)
        have p2b := Rw.other (g' := G + 1) (i := 1) (Rw.other (g' := G + 1) (i := 0) p2 (by omega) (.slice A3 n3 c3)) (by omega) (.slice R3 m3 d3)
        have p3 := ((Rw.other (g' := G) (i := 1) (Rw.other (g' := G) (i := 0) (r5.far J (fun e => by have := Option.some.inj e; omega)) (by omega) (.slice A2 nn c2)) (by omega) (.slice R2 m d2)).put 0 (.slice A3 n3 c3)).put 1 (.slice R3 m3 d3)
        have y0 := p2b.cell 0
        have y1 := p2b.cell 1
        have z0 := p3.cell 0
        have z1 := p3.cell 1
        simp only [List.setIfInBounds_toArray, List.set_cons_zero, List.set_cons_succ, List.getElem?_toArray, List.getElem?_cons_zero, List.getElem?_cons_succ] at y0 y1 z0 z1
        have sm := fun (lo : Nat) (hl : G + 2 < lo) => ((((Same.refl lo wp).put (g := G) (by omega) 0 (.slice A2 nn c2)).put (g := G) (by omega) 1 (.slice R2 m d2)).put (g := G + 1) (by omega) 0 (.slice A3 n3 c3)).put (g := G + 1) (by omega) 1 (.slice R3 m3 d3)
        have HA := Lib.hid ((HFa.far J hlo).same (sm lo hlo)).reads
        have HB := Lib.hid (HF3.same (sm _ (by omega))).reads
        have BF := Lib.hid (((((bb4.grown J bb4.size (fun k hk => by have := Option.some.inj hk; omega)).setCell (p := ⟨G, 0, none⟩) (by show w.heap.size ≤ G; omega) (.slice A2 nn c2)).setCell (p := ⟨G, 1, none⟩) (by show w.heap.size ≤ G; omega) (.slice R2 m d2)).setCell (p := ⟨G + 1, 0, none⟩) (by show w.heap.size ≤ G + 1; omega) (.slice A3 n3 c3)).setCell (p := ⟨G + 1, 1, none⟩) (by show w.heap.size ≤ G + 1; omega) (.slice R3 m3 d3))
        clear p2 p2b p3 sm HF3 J HFa r4 r5 x4 hr4 bb4
        go_wp2_with fail
        exact bodyPost_ret (v := .tuple #[.agg #[.slice A2 nn c2, .slice R2 m d2], .agg #[.slice A3 n3 c3, .slice R3 m3 d3]]) (by simp [results, Try.results22, go_sem, *]) rfl ⟨A2, nn, c2, R2, m, d2, A3, n3, c3, R3, m3, d3, hh, hb, rfl, hc1, hc2, k1, k2, HA.out, HB.out, hn41, hm4, k3, k4, BF.out⟩
end Go.Proofs.Ytmjejcfifkbkoaa
