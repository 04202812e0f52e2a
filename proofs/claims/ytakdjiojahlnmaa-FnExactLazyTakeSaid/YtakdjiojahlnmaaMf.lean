/- What the program's cloneHeap returns: for every heap. No conditions. -/
import Derived.Test.YtakdjiojahlnmaaMe
import Derived.Test.YtakdjiojahlnmaaKf
import Derived.Deep.Cut
namespace Go.Proofs.Ytakdjiojahlnmaa
open Go.RowKit
set_option maxRecDepth 100000

theorem row_form {w : World} {base n s : Nat} {e : TypeId} {v : Value} {xs : List Value} (h : w.ownsRow base e s v n xs) : ∃ A c, v = .slice A n c := by
  rcases h.2 with ⟨rfl, h0⟩ | ⟨g, cap, cur, rfl, _⟩
  · exact ⟨none, 0, by rw [h0]⟩
  · exact ⟨_, _, rfl⟩

set_option maxHeartbeats 4000000 in
theorem cloneHeap_any (A R : Option Addr) (n c m d : Nat) (h : Hp) (w : World) (hs : HS w w.heap.size A n R m h) (hn : n ≤ 1099511627776) (hm : m ≤ 1099511627776) (h3 : ∀ cl ∈ h.cs, cl.r.length ≤ 1000000) :
    Calls Try.prog 40 #[heapV A n c R m d] w (GaveH w h) := by
  have hlc := hs.cells.1
  obtain ⟨rvs, hrv, hrA⟩ := hs.cells.refs
  have B2 : Below w.heap.size w ((w.alloc (.cells #[.slice A n c, .slice R m d] 26)).alloc (.cells #[.slice none 0 0, .slice none 0 0] 26)) := ((Below.refl _ _).alloc (Nat.le_refl _) _).alloc (by simp) _
  have Q1 := (Rw.new w 26 #[.slice A n c, .slice R m d]).alloc (.cells #[.slice none 0 0, .slice none 0 0] 26)
  have Q2 := Rw.new (w.alloc (.cells #[.slice A n c, .slice R m d] 26)) 26 #[.slice none 0 0, .slice none 0 0]
  simp only [World.size_alloc] at Q2
  have H3 := Lib.hid h3
  have HLC := Lib.hid hlc
  have HRV := Lib.hid hrv
  have HRA := Lib.hid hrA
  clear h3 hlc hrv hrA
  go_enter Try.func40, Try.ntmps40
  go_upto_region 1 with fail
  generalize ((w.alloc (.cells #[.slice A n c, .slice R m d] 26)).alloc (.cells #[.slice none 0 0, .slice none 0 0] 26)) = w2 at B2 Q1 Q2 ⊢
  have hz := Q2.lt
  refine wp_region_inv (by kernel_rfl) (by kernel_rfl) (fun L ac ww => ∃ t3 t5 t6 t7 t8 t9 t10 t11 : Value, ac = { tmps := #[heapV A n c R m d, Value.pointer (some { block := w.heap.size, off := 0 }), Value.pointer (some { block := w.heap.size + 1, off := 0 }), t3, undef, t5, t6, t7, t8, t9, t10, t11, undef, undef, undef, undef, undef, undef, undef, undef, undef, undef, undef, undef, undef, undef, undef, undef, undef, undef, undef, undef], defers := [] } ∧ (Below w2.heap.size w2 ww) ∧ (L 0 = true → t5 = .pointer (some ⟨w.heap.size, 0, none⟩)) ∧ (L 1 = true → t6 = .slice A n c) ∧ (L 2 = true → ww.ownsRow w2.heap.size 45 3 t7 n (flatC h.cs rvs)) ∧ (L 3 = true → t8 = .pointer (some ⟨w.heap.size, 1, none⟩)) ∧ (L 4 = true → t9 = .slice R m d) ∧ (L 5 = true → OwnI ww w2.heap.size t10 h.rt ∧ (t7.ownBlock = none ∨ t7.ownBlock ≠ t10.ownBlock) ∧ L 2 = true) ∧ (L 6 = true → t11 = .agg #[t7, t10] ∧ L 5 = true ∧ L 2 = true) ∧ (L 7 = true → ∃ g3, t3 = .pointer (some ⟨g3, 0, none⟩) ∧ w2.heap.size ≤ g3 ∧ ∃ cs, Rw ww g3 26 cs ∧ cs = (if L 8 = true then #[t7, t10] else #[.slice none 0 0, .slice none 0 0])) ∧ (L 8 = true → L 7 = true ∧ L 5 = true ∧ L 2 = true)) ?h0 ?hstep ?hdone
  case h0 => exact ⟨_, _, _, _, _, _, _, _, rfl, (Below.refl _ _).drew, (fun h => absurd h Bool.false_ne_true), (fun h => absurd h Bool.false_ne_true), (fun h => absurd h Bool.false_ne_true), (fun h => absurd h Bool.false_ne_true), (fun h => absurd h Bool.false_ne_true), (fun h => absurd h Bool.false_ne_true), (fun h => absurd h Bool.false_ne_true), (fun h => absurd h Bool.false_ne_true), (fun h => absurd h Bool.false_ne_true)⟩
  case hstep =>
    rintro L ac ww i o ho hL hd ⟨t3, t5, t6, t7, t8, t9, t10, t11, rfl, I0, f0, f1, f2, f3, f4, f5, f6, f7, f8⟩
    have hi : i < 9 := (Array.getElem?_eq_some_iff.1 ho).1
    obtain rfl | rfl | rfl | rfl | rfl | rfl | rfl | rfl | rfl : i = 0 ∨ i = 1 ∨ i = 2 ∨ i = 3 ∨ i = 4 ∨ i = 5 ∨ i = 6 ∨ i = 7 ∨ i = 8 := by omega
    · obtain rfl := Option.some.inj ho
      refine wpOp_step rfl (fun K' hK => ?_)
      go_simp
      refine hK _ _ ?_
      exact ⟨_, _, _, _, _, _, _, _, rfl, (I0), (fun _ => rfl), (kp f1), (kp f2), (kp f3), (kp f4), (fun h => ⟨(f5 (upd_ne h (by decide))).1, (f5 (upd_ne h (by decide))).2.1, upd_mono (f5 (upd_ne h (by decide))).2.2⟩), (fun h => ⟨(f6 (upd_ne h (by decide))).1, upd_mono (f6 (upd_ne h (by decide))).2.1, upd_mono (f6 (upd_ne h (by decide))).2.2⟩), (fun h => by
        obtain ⟨g3, e3, h3, cs, h5, h6⟩ := f7 (upd_ne h (by decide))
        exact ⟨g3, e3, h3, cs, h5, by rw [h6, upd_other (by decide)]⟩), (fun h => ⟨upd_mono (f8 (upd_ne h (by decide))).1, upd_mono (f8 (upd_ne h (by decide))).2.1, upd_mono (f8 (upd_ne h (by decide))).2.2⟩)⟩
    · obtain rfl := Option.some.inj ho
      have g0 := f0 (hd ⟨0, .data⟩ (by simp) rfl)
      subst g0
      have z0 : ww.cell? ⟨w.heap.size, 0, none⟩ = some (.slice A n c) := (I0.cell (p := ⟨w.heap.size, 0, none⟩) (by show w.heap.size < w2.heap.size; omega)).trans (Q1.cell 0)
      refine wpOp_step rfl (fun K' hK => ?_)
      go_simp
      refine hK _ _ ?_
      exact ⟨_, _, _, _, _, _, _, _, rfl, (I0), (kp f0), (fun _ => rfl), (kp f2), (kp f3), (kp f4), (fun h => ⟨(f5 (upd_ne h (by decide))).1, (f5 (upd_ne h (by decide))).2.1, upd_mono (f5 (upd_ne h (by decide))).2.2⟩), (fun h => ⟨(f6 (upd_ne h (by decide))).1, upd_mono (f6 (upd_ne h (by decide))).2.1, upd_mono (f6 (upd_ne h (by decide))).2.2⟩), (fun h => by
        obtain ⟨g3, e3, h3, cs, h5, h6⟩ := f7 (upd_ne h (by decide))
        exact ⟨g3, e3, h3, cs, h5, by rw [h6, upd_other (by decide)]⟩), (fun h => ⟨upd_mono (f8 (upd_ne h (by decide))).1, upd_mono (f8 (upd_ne h (by decide))).2.1, upd_mono (f8 (upd_ne h (by decide))).2.2⟩)⟩
    · obtain rfl := Option.some.inj ho
      have g1 := f1 (hd ⟨1, .data⟩ (by simp) rfl)
      subst g1
      refine wpOp_step rfl (fun K' hK => ?_)
      go_simp
      have bw := B2.trans (I0.mono B2.size)
      have hrv := (hs.up bw)
      obtain ⟨rvs2, hr2, hA2⟩ := (hs.below bw).cells.refs
      refine (cloneC_any A n c h.cs rvs ww HLC.out (by have := HRV.out.below bw; exact ⟨this.1, fun k c v hc hv => by obtain ⟨A1, m1, c1, e, h1, h2⟩ := this.2 k c v hc hv; exact ⟨A1, m1, c1, e, h1, h2.more bw.size⟩⟩) (fun h0 => by obtain ⟨g, o, e, hg, hc⟩ := HRA.out h0; exact ⟨g, o, e, Nat.lt_of_lt_of_le hg bw.size, fun j u hu => (bw.cell (p := ⟨g, o + j, none⟩) hg).trans (hc j u hu)⟩) hn).mono ?_
      rintro e w' ⟨v1, rfl, o1, b5⟩
      refine hK _ _ ?_
      exact ⟨_, _, _, _, _, _, _, _, rfl, (I0.trans (b5.mono I0.size)), (kp f0), (kp f1), (fun _ => row_base o1 I0.size), (kp f3), (kp f4), (fun h => by
        have h1 := upd_ne h (by decide)
        exact absurd (f5 h1).2.2 (by rw [hL]; decide)), (fun h => absurd (f6 (upd_ne h (by decide))).2.2 (by rw [hL]; decide)), (fun h => by
        have hL7 := upd_ne h (by decide)
        obtain ⟨g3, e3, h3, cs, h5, h6⟩ := f7 hL7
        have hL8 : L 8 = false := by
          cases e : L 8
          · rfl
          · have := (f8 e).2.2
            rw [hL] at this
            cases this
        rw [if_neg (by rw [hL8]; decide)] at h6
        exact ⟨g3, e3, h3, cs, h5.keep b5 h5.lt, by rw [h6, upd_other (by decide), if_neg (by rw [hL8]; decide)]⟩), (fun h => ⟨upd_mono (f8 (upd_ne h (by decide))).1, upd_mono (f8 (upd_ne h (by decide))).2.1, upd_mono (f8 (upd_ne h (by decide))).2.2⟩)⟩
    · obtain rfl := Option.some.inj ho
      refine wpOp_step rfl (fun K' hK => ?_)
      go_simp
      refine hK _ _ ?_
      exact ⟨_, _, _, _, _, _, _, _, rfl, (I0), (kp f0), (kp f1), (kp f2), (fun _ => rfl), (kp f4), (fun h => ⟨(f5 (upd_ne h (by decide))).1, (f5 (upd_ne h (by decide))).2.1, upd_mono (f5 (upd_ne h (by decide))).2.2⟩), (fun h => ⟨(f6 (upd_ne h (by decide))).1, upd_mono (f6 (upd_ne h (by decide))).2.1, upd_mono (f6 (upd_ne h (by decide))).2.2⟩), (fun h => by
        obtain ⟨g3, e3, h3, cs, h5, h6⟩ := f7 (upd_ne h (by decide))
        exact ⟨g3, e3, h3, cs, h5, by rw [h6, upd_other (by decide)]⟩), (fun h => ⟨upd_mono (f8 (upd_ne h (by decide))).1, upd_mono (f8 (upd_ne h (by decide))).2.1, upd_mono (f8 (upd_ne h (by decide))).2.2⟩)⟩
    · obtain rfl := Option.some.inj ho
      have g3 := f3 (hd ⟨3, .data⟩ (by simp) rfl)
      subst g3
      have z1 : ww.cell? ⟨w.heap.size, 1, none⟩ = some (.slice R m d) := (I0.cell (p := ⟨w.heap.size, 1, none⟩) (by show w.heap.size < w2.heap.size; omega)).trans (Q1.cell 1)
      refine wpOp_step rfl (fun K' hK => ?_)
      go_simp
      refine hK _ _ ?_
      exact ⟨_, _, _, _, _, _, _, _, rfl, (I0), (kp f0), (kp f1), (kp f2), (kp f3), (fun _ => rfl), (fun h => ⟨(f5 (upd_ne h (by decide))).1, (f5 (upd_ne h (by decide))).2.1, upd_mono (f5 (upd_ne h (by decide))).2.2⟩), (fun h => ⟨(f6 (upd_ne h (by decide))).1, upd_mono (f6 (upd_ne h (by decide))).2.1, upd_mono (f6 (upd_ne h (by decide))).2.2⟩), (fun h => by
        obtain ⟨g3, e3, h3, cs, h5, h6⟩ := f7 (upd_ne h (by decide))
        exact ⟨g3, e3, h3, cs, h5, by rw [h6, upd_other (by decide)]⟩), (fun h => ⟨upd_mono (f8 (upd_ne h (by decide))).1, upd_mono (f8 (upd_ne h (by decide))).2.1, upd_mono (f8 (upd_ne h (by decide))).2.2⟩)⟩
    · obtain rfl := Option.some.inj ho
      have g4 := f4 (hd ⟨4, .data⟩ (by simp) rfl)
      subst g4
      have g2 := f2 (hd ⟨2, .chain⟩ (by simp) rfl)
      refine wpOp_step rfl (fun K' hK => ?_)
      go_simp
      have bw := B2.trans (I0.mono B2.size)
      refine (cloneI_any R m d h.rt ww ((hs.up bw).roots) hm).mono ?_
      rintro e w' ⟨v1, rfl, o1, b5⟩
      refine hK _ _ ?_
      exact ⟨_, _, _, _, _, _, _, _, rfl, (I0.trans (b5.mono I0.size)), (kp f0), (kp f1), (fun h => row_below (f2 (upd_ne h (by decide))) b5 (Nat.le_refl _)), (kp f3), (kp f4), (fun _ => ⟨o1.base I0.size, by
        cases e7 : t7.ownBlock with
        | none => exact .inl rfl
        | some q =>
          right
          intro e
          have a1 := (World.ownsRow.lt g2 q e7).2
          have a2 := (World.ownsRow.lt o1 q e.symm).1
          omega, by rw [upd_other (by decide)]; exact hd ⟨2, .chain⟩ (by simp) rfl⟩), (fun h => absurd (f6 (upd_ne h (by decide))).2.1 (by rw [hL]; decide)), (fun h => by
        have hL7 := upd_ne h (by decide)
        obtain ⟨g3, e3, h3, cs, h5, h6⟩ := f7 hL7
        have hL8 : L 8 = false := by
          cases e : L 8
          · rfl
          · have := (f8 e).2.1
            rw [hL] at this
            cases this
        rw [if_neg (by rw [hL8]; decide)] at h6
        exact ⟨g3, e3, h3, cs, h5.keep b5 h5.lt, by rw [h6, upd_other (by decide), if_neg (by rw [hL8]; decide)]⟩), (fun h => ⟨upd_mono (f8 (upd_ne h (by decide))).1, upd_mono (f8 (upd_ne h (by decide))).2.1, upd_mono (f8 (upd_ne h (by decide))).2.2⟩)⟩
    · obtain rfl := Option.some.inj ho
      have g2 := f2 (hd ⟨2, .data⟩ (by simp) rfl)
      have g5 := f5 (hd ⟨5, .data⟩ (by simp) rfl)
      have l5 := hd ⟨5, .data⟩ (by simp) rfl
      have l2 := hd ⟨2, .data⟩ (by simp) rfl
      obtain ⟨A7, c7, rfl⟩ := row_form g2
      obtain ⟨A9, d9, rfl, -⟩ := g5.1.form
      refine wpOp_step rfl (fun K' hK => ?_)
      go_simp
      refine hK _ _ ?_
      exact ⟨_, _, _, _, _, _, _, _, rfl, (I0), (kp f0), (kp f1), (kp f2), (kp f3), (kp f4), (fun h => ⟨(f5 (upd_ne h (by decide))).1, (f5 (upd_ne h (by decide))).2.1, upd_mono (f5 (upd_ne h (by decide))).2.2⟩), (fun _ => ⟨rfl, upd_mono l5, upd_mono l2⟩), (fun h => by
        obtain ⟨g3, e3, h3, cs, h5, h6⟩ := f7 (upd_ne h (by decide))
        exact ⟨g3, e3, h3, cs, h5, by rw [h6, upd_other (by decide)]⟩), (fun h => ⟨upd_mono (f8 (upd_ne h (by decide))).1, upd_mono (f8 (upd_ne h (by decide))).2.1, upd_mono (f8 (upd_ne h (by decide))).2.2⟩)⟩
    · obtain rfl := Option.some.inj ho
      have hL8 : L 8 = false := by
        cases e : L 8
        · rfl
        · exact absurd (f8 e).1 (by rw [hL]; decide)
      refine wpOp_step rfl (fun K' hK => ?_)
      go_simp
      have b5 : Below ww.heap.size ww (ww.alloc (.cells #[.slice none 0 0, .slice none 0 0] 26)) := (Below.refl _ _).alloc (Nat.le_refl _) _
      refine hK _ _ ?_
      exact ⟨_, _, _, _, _, _, _, _, rfl, (I0.alloc I0.size _), (kp f0), (kp f1), (fun h => row_below (f2 (upd_ne h (by decide))) b5 (Nat.le_refl _)), (kp f3), (kp f4), (fun h => ⟨(f5 (upd_ne h (by decide))).1.below b5 (Nat.le_refl _), (f5 (upd_ne h (by decide))).2.1, upd_mono (f5 (upd_ne h (by decide))).2.2⟩), (fun h => ⟨(f6 (upd_ne h (by decide))).1, upd_mono (f6 (upd_ne h (by decide))).2.1, upd_mono (f6 (upd_ne h (by decide))).2.2⟩), (fun _ => ⟨_, rfl, I0.size, _, Rw.new _ _ _, by rw [upd_other (by decide), hL8, if_neg (by decide)]⟩), (fun h => ⟨upd_mono (f8 (upd_ne h (by decide))).1, upd_mono (f8 (upd_ne h (by decide))).2.1, upd_mono (f8 (upd_ne h (by decide))).2.2⟩)⟩
    · obtain rfl := Option.some.inj ho
      have g6 := f6 (hd ⟨6, .data⟩ (by simp) rfl)
      have g7 := f7 (hd ⟨7, .data⟩ (by simp) rfl)
      have l5 := hd ⟨5, .chain⟩ (by simp) rfl
      have l7 := hd ⟨7, .data⟩ (by simp) rfl
      have g5 := f5 l5
      have g2 := f2 g5.2.2
      have l2 := g5.2.2
      obtain ⟨g6, -, -⟩ := g6
      subst g6
      obtain ⟨g3, e3, h3, cs, h5, h6⟩ := g7
      rw [hL, if_neg (by decide)] at h6
      subst h6
      subst e3
      obtain ⟨A7, c7, rfl⟩ := row_form g2
      obtain ⟨A9, d9, rfl, -⟩ := g5.1.form
      have a7 : (Value.slice A7 n c7).ownBlock = none ∨ (Value.slice A7 n c7).ownBlock ≠ some g3 := .inr (row_type g2 h5 (by decide)).symm
      have a9 : (Value.slice A9 h.rt.length d9).ownBlock = none ∨ (Value.slice A9 h.rt.length d9).ownBlock ≠ some g3 := .inr (row_type g5.1 h5 (by decide)).symm
      have c0 := h5.cell 0
      have c1 := h5.cell 1
      simp only [List.getElem?_toArray, List.getElem?_cons_zero, List.getElem?_cons_succ] at c0 c1
      have z0 := h5.frozen 0
      have z1 := h5.frozen 1
      have hput := (h5.put 0 (.slice A7 n c7)).put 1 (.slice A9 h.rt.length d9)
      refine wpOp_step rfl (fun K' hK => ?_)
      go_simp
      refine hK _ _ ?_
      exact ⟨_, _, _, _, _, _, _, _, rfl, ((I0.setCell (p := ⟨g3, 0, none⟩) (by show w2.heap.size ≤ g3; omega) _).setCell (p := ⟨g3, 1, none⟩) (by show w2.heap.size ≤ g3; omega) _), (kp f0), (kp f1), (fun _ => World.ownsRow.kept (World.ownsRow.kept g2 (put_any ww g3 0 _) a7) (put_any _ g3 1 _) a7), (kp f3), (kp f4), (fun _ => ⟨(g5.1.far (put_any ww g3 0 _) a9).far (put_any _ g3 1 _) a9, g5.2.1, upd_mono l2⟩), (fun h => ⟨(f6 (upd_ne h (by decide))).1, upd_mono (f6 (upd_ne h (by decide))).2.1, upd_mono (f6 (upd_ne h (by decide))).2.2⟩), (fun _ => ⟨g3, rfl, h3, _, hput, by rw [upd_self, if_pos rfl]; rfl⟩), (fun _ => ⟨upd_mono l7, upd_mono l5, upd_mono l2⟩)⟩
  case hdone =>
    rintro L ac ww hall ⟨t3, t5, t6, t7, t8, t9, t10, t11, rfl, I0, f0, f1, f2, f3, f4, f5, f6, f7, f8⟩
    have e0 := f0 (hall 0 (by decide))
    have e1 := f1 (hall 1 (by decide))
    have e2 := f2 (hall 2 (by decide))
    have e3 := f3 (hall 3 (by decide))
    have e4 := f4 (hall 4 (by decide))
    have e5 := f5 (hall 5 (by decide))
    have e6 := f6 (hall 6 (by decide))
    have e7 := f7 (hall 7 (by decide))
    have e8 := f8 (hall 8 (by decide))
    clear f0 f1 f2 f3 f4 f5 f6 f7 f8
    obtain ⟨g3, rfl, hg3, cs, BX, e9⟩ := e7
    rw [hall 8 (by decide), if_pos rfl] at e9
    subst e9
    obtain ⟨e6, -, -⟩ := e6
    subst e0 e1 e3 e4 e6
    obtain ⟨A7, c7, rfl⟩ := row_form e2
    have OR := e5.1
    obtain ⟨A9, d9, rfl, -⟩ := OR.form
    have SP := e5.2.1
    clear e5 e8 hall
    have S0 : MidH ww w2.heap.size (.slice A7 n c7) (.slice A9 h.rt.length d9) [] rvs 0 h :=
      ⟨rfl, Nat.zero_le _, HRV.out.1, by rw [HLC.out]; exact e2, fun j cl v hc hv => by simp at hv, OR, by simp [Sep]; exact SP⟩
    have AP : Apart (some g3) (Value.slice A7 n c7 :: Value.slice A9 h.rt.length d9 :: []) := by
      intro u hu
      simp only [List.mem_cons, List.not_mem_nil, or_false] at hu
      rcases hu with rfl | rfl
      · exact .inr (row_type e2 BX (by decide)).symm
      · exact .inr (row_type OR BX (by decide)).symm
    clear e2 OR SP
    have c0 := BX.cell 0
    have c1 := BX.cell 1
    simp only [List.getElem?_toArray, List.getElem?_cons_zero, List.getElem?_cons_succ] at c0 c1
    go_wp2_with fail
    go_loopw [15] (fun i wr => ∃ (k : Nat) (ovs : List Value), k ≤ n ∧ i = .int .i64 k ∧ MidH wr w2.heap.size (.slice A7 n c7) (.slice A9 h.rt.length d9) ovs rvs k h ∧ Apart (some g3) (Value.slice A7 n c7 :: Value.slice A9 h.rt.length d9 :: ovs) ∧ Rw wr g3 26 #[.slice A7 n c7, .slice A9 h.rt.length d9] ∧ Below w2.heap.size w2 wr) (fun i _ => n - (intOf i).toNat)
    case atStart => exact ⟨0, [], Nat.zero_le _, rfl, S0, AP, BX, I0⟩
    case round =>
      clear S0 AP BX I0 c0 c1
      obtain ⟨k, ovs, hk, rfl, S, AP, BX, IW⟩ := hrel
      have bw := B2.trans (IW.mono B2.size)
      by_cases hlt : k < n
      · have hck := List.getElem?_eq_getElem (show k < h.cs.length by rw [HLC.out]; exact hlt)
        generalize h.cs[k]'(by rw [HLC.out]; exact hlt) = cl at hck
        obtain ⟨A8, c8, R8, d8, q1, -, -, fA⟩ := S.form
        obtain ⟨g, hg0, hg1, hg2⟩ := fA (by rw [HLC.out]; omega)
        have hA7 : A7 = some ⟨g, 0, none⟩ := by
          have q1 := q1
          injection q1 with q1 _ _
          exact q1.trans hg0
        subst hA7
        clear q1 fA hg0
        obtain ⟨A1, m1, c1, x2, hm1, is1, fz⟩ := S.ref HLC.out hck (HRV.out.below bw)
        have is2 := is1.more bw.size
        have hm3 : m1 ≤ 1099511627776 := by
          have := is1.1
          have := H3.out cl (List.mem_of_getElem? hck)
          omega
        have x0 := BX.cell 0
        simp only [List.getElem?_toArray, List.getElem?_cons_zero] at x0
        have hlt' : (k : Int) < n := by omega
        have hbx := BX.lt
        have fzg := fz (k * 3 + 2)
        clear is1 fz hm1
        have HCK := Lib.hid hck
        have SS := Lib.hid S
        have AA := Lib.hid AP
        have BB := Lib.hid BX
        clear hck S AP BX
        go_upto_region 5 with fail
        refine wp_region_inv (by kernel_rfl) (by kernel_rfl) (fun L ac ww => ∃ t18 t19 t20 t21 t22 t23 t24 t25 t26 t27 t28 t29 : Value, ac = { tmps := #[heapV A n c R m d, Value.pointer (some { block := w.heap.size, off := 0 }), Value.pointer (some { block := w.heap.size + 1, off := 0 }), Value.pointer (some { block := g3, off := 0 }), Value.int IntKind.i64 ↑k, Value.pointer (some { block := w.heap.size, off := 0 }), Value.slice A n c, Value.slice (some { block := g, off := 0 }) n c7, Value.pointer (some { block := w.heap.size, off := 1 }), Value.slice R m d, Value.slice A9 h.rt.length d9, Value.agg #[Value.slice (some { block := g, off := 0 }) n c7, Value.slice A9 h.rt.length d9], Value.pointer (some { block := g3, off := 0 }), Value.slice (some { block := g, off := 0 }) n c7, Value.int IntKind.i64 ↑n, Value.int IntKind.i64 ↑k, Value.bool true, Value.int IntKind.i64 ↑k, t18, t19, t20, t21, t22, t23, t24, t25, t26, t27, t28, t29, u30, undef], defers := [] } ∧ (L 12 = false → Below wr.heap.size wr ww) ∧ (L 0 = true → t18 = .pointer (some ⟨g3, 0, none⟩)) ∧ (L 1 = true → t19 = .slice (some ⟨g, 0, none⟩) n c7) ∧ (L 2 = true → t20 = .int .i64 k) ∧ (L 3 = true → t21 = .pointer (some ⟨g3, 0, none⟩)) ∧ (L 4 = true → t22 = .slice (some ⟨g, 0, none⟩) n c7) ∧ (L 5 = true → t23 = .int .i64 k) ∧ (L 6 = true → t24 = .pointer (some ⟨g, k * 3, none⟩)) ∧ (L 7 = true → t25 = .pointer (some ⟨g, k * 3 + 2, none⟩)) ∧ (L 8 = true → t26 = .slice A1 m1 c1) ∧ (L 9 = true → L 12 = false → OwnI ww wr.heap.size t27 cl.r) ∧ (L 10 = true → t28 = .pointer (some ⟨g, k * 3, none⟩)) ∧ (L 11 = true → t29 = .pointer (some ⟨g, k * 3 + 2, none⟩) ∧ L 10 = true) ∧ (L 12 = true → (∀ q, q < 12 → L q = true) ∧ ∃ w5, Below wr.heap.size wr w5 ∧ OwnI w5 wr.heap.size t27 cl.r ∧ ww = w5.setCell ⟨g, k * 3 + 2, none⟩ t27)) ?h0 ?hstep ?hdone
        case h0 => exact ⟨_, _, _, _, _, _, _, _, _, _, _, _, rfl, fun _ => (Below.refl _ _).drew, (fun h => absurd h Bool.false_ne_true), (fun h => absurd h Bool.false_ne_true), (fun h => absurd h Bool.false_ne_true), (fun h => absurd h Bool.false_ne_true), (fun h => absurd h Bool.false_ne_true), (fun h => absurd h Bool.false_ne_true), (fun h => absurd h Bool.false_ne_true), (fun h => absurd h Bool.false_ne_true), (fun h => absurd h Bool.false_ne_true), (fun h => absurd h Bool.false_ne_true), (fun h => absurd h Bool.false_ne_true), (fun h => absurd h Bool.false_ne_true), (fun h => absurd h Bool.false_ne_true)⟩
        case hstep =>
          rintro L ac ww i o ho hL hd ⟨t18, t19, t20, t21, t22, t23, t24, t25, t26, t27, t28, t29, rfl, I0, f0, f1, f2, f3, f4, f5, f6, f7, f8, f9, f10, f11, f12⟩
          have hi : i < 13 := (Array.getElem?_eq_some_iff.1 ho).1
          obtain rfl | rfl | rfl | rfl | rfl | rfl | rfl | rfl | rfl | rfl | rfl | rfl | rfl : i = 0 ∨ i = 1 ∨ i = 2 ∨ i = 3 ∨ i = 4 ∨ i = 5 ∨ i = 6 ∨ i = 7 ∨ i = 8 ∨ i = 9 ∨ i = 10 ∨ i = 11 ∨ i = 12 := by omega
          · obtain rfl := Option.some.inj ho
            have hL12 : L 12 = false := by
              cases e : L 12
              · rfl
              · exact absurd ((f12 e).1 0 (by omega)) (by rw [hL]; decide)
            have J := I0 hL12
            refine wpOp_step rfl (fun K' hK => ?_)
            go_simp
            refine hK _ _ ?_
            exact ⟨_, _, _, _, _, _, _, _, _, _, _, _, rfl, (fun _ => J), (fun _ => rfl), (kp f1), (kp f2), (kp f3), (kp f4), (kp f5), (kp f6), (kp f7), (kp f8), (fun h _ => f9 (upd_ne h (by decide)) hL12), (kp f10), (fun h => ⟨(f11 (upd_ne h (by decide))).1, upd_mono (f11 (upd_ne h (by decide))).2⟩), (fun h => absurd ((f12 (upd_ne h (by decide))).1 0 (by omega)) (by rw [hL]; decide))⟩
          · obtain rfl := Option.some.inj ho
            have g0 := f0 (hd ⟨0, .data⟩ (by simp) rfl)
            subst g0
            have hL12 : L 12 = false := by
              cases e : L 12
              · rfl
              · exact absurd ((f12 e).1 1 (by omega)) (by rw [hL]; decide)
            have J := I0 hL12
            have z0 : ww.cell? ⟨g3, 0, none⟩ = some (.slice (some ⟨g, 0, none⟩) n c7) := (J.cell (p := ⟨g3, 0, none⟩) hbx).trans x0
            refine wpOp_step rfl (fun K' hK => ?_)
            go_simp
            refine hK _ _ ?_
            exact ⟨_, _, _, _, _, _, _, _, _, _, _, _, rfl, (fun _ => J), (kp f0), (fun _ => rfl), (kp f2), (kp f3), (kp f4), (kp f5), (kp f6), (kp f7), (kp f8), (fun h _ => f9 (upd_ne h (by decide)) hL12), (kp f10), (fun h => ⟨(f11 (upd_ne h (by decide))).1, upd_mono (f11 (upd_ne h (by decide))).2⟩), (fun h => absurd ((f12 (upd_ne h (by decide))).1 1 (by omega)) (by rw [hL]; decide))⟩
          · obtain rfl := Option.some.inj ho
            have hL12 : L 12 = false := by
              cases e : L 12
              · rfl
              · exact absurd ((f12 e).1 2 (by omega)) (by rw [hL]; decide)
            have J := I0 hL12
            refine wpOp_step rfl (fun K' hK => ?_)
            go_simp
            refine hK _ _ ?_
            exact ⟨_, _, _, _, _, _, _, _, _, _, _, _, rfl, (fun _ => J), (kp f0), (kp f1), (fun _ => rfl), (kp f3), (kp f4), (kp f5), (kp f6), (kp f7), (kp f8), (fun h _ => f9 (upd_ne h (by decide)) hL12), (kp f10), (fun h => ⟨(f11 (upd_ne h (by decide))).1, upd_mono (f11 (upd_ne h (by decide))).2⟩), (fun h => absurd ((f12 (upd_ne h (by decide))).1 2 (by omega)) (by rw [hL]; decide))⟩
          · obtain rfl := Option.some.inj ho
            have hL12 : L 12 = false := by
              cases e : L 12
              · rfl
              · exact absurd ((f12 e).1 3 (by omega)) (by rw [hL]; decide)
            have J := I0 hL12
            refine wpOp_step rfl (fun K' hK => ?_)
            go_simp
            refine hK _ _ ?_
            exact ⟨_, _, _, _, _, _, _, _, _, _, _, _, rfl, (fun _ => J), (kp f0), (kp f1), (kp f2), (fun _ => rfl), (kp f4), (kp f5), (kp f6), (kp f7), (kp f8), (fun h _ => f9 (upd_ne h (by decide)) hL12), (kp f10), (fun h => ⟨(f11 (upd_ne h (by decide))).1, upd_mono (f11 (upd_ne h (by decide))).2⟩), (fun h => absurd ((f12 (upd_ne h (by decide))).1 3 (by omega)) (by rw [hL]; decide))⟩
          · obtain rfl := Option.some.inj ho
            have g3 := f3 (hd ⟨3, .data⟩ (by simp) rfl)
            subst g3
            have hL12 : L 12 = false := by
              cases e : L 12
              · rfl
              · exact absurd ((f12 e).1 4 (by omega)) (by rw [hL]; decide)
            have J := I0 hL12
            have z0 : ww.cell? ⟨g3, 0, none⟩ = some (.slice (some ⟨g, 0, none⟩) n c7) := (J.cell (p := ⟨g3, 0, none⟩) hbx).trans x0
            refine wpOp_step rfl (fun K' hK => ?_)
            go_simp
            refine hK _ _ ?_
            exact ⟨_, _, _, _, _, _, _, _, _, _, _, _, rfl, (fun _ => J), (kp f0), (kp f1), (kp f2), (kp f3), (fun _ => rfl), (kp f5), (kp f6), (kp f7), (kp f8), (fun h _ => f9 (upd_ne h (by decide)) hL12), (kp f10), (fun h => ⟨(f11 (upd_ne h (by decide))).1, upd_mono (f11 (upd_ne h (by decide))).2⟩), (fun h => absurd ((f12 (upd_ne h (by decide))).1 4 (by omega)) (by rw [hL]; decide))⟩
          · obtain rfl := Option.some.inj ho
            have hL12 : L 12 = false := by
              cases e : L 12
              · rfl
              · exact absurd ((f12 e).1 5 (by omega)) (by rw [hL]; decide)
            have J := I0 hL12
            refine wpOp_step rfl (fun K' hK => ?_)
            go_simp
            refine hK _ _ ?_
            exact ⟨_, _, _, _, _, _, _, _, _, _, _, _, rfl, (fun _ => J), (kp f0), (kp f1), (kp f2), (kp f3), (kp f4), (fun _ => rfl), (kp f6), (kp f7), (kp f8), (fun h _ => f9 (upd_ne h (by decide)) hL12), (kp f10), (fun h => ⟨(f11 (upd_ne h (by decide))).1, upd_mono (f11 (upd_ne h (by decide))).2⟩), (fun h => absurd ((f12 (upd_ne h (by decide))).1 5 (by omega)) (by rw [hL]; decide))⟩
          · obtain rfl := Option.some.inj ho
            have g4 := f4 (hd ⟨4, .data⟩ (by simp) rfl)
            have g5 := f5 (hd ⟨5, .data⟩ (by simp) rfl)
            subst g4
            subst g5
            have hL12 : L 12 = false := by
              cases e : L 12
              · rfl
              · exact absurd ((f12 e).1 6 (by omega)) (by rw [hL]; decide)
            have J := I0 hL12
            refine wpOp_step rfl (fun K' hK => ?_)
            go_simp
            refine hK _ _ ?_
            exact ⟨_, _, _, _, _, _, _, _, _, _, _, _, rfl, (fun _ => J), (kp f0), (kp f1), (kp f2), (kp f3), (kp f4), (kp f5), (fun _ => rfl), (kp f7), (kp f8), (fun h _ => f9 (upd_ne h (by decide)) hL12), (kp f10), (fun h => ⟨(f11 (upd_ne h (by decide))).1, upd_mono (f11 (upd_ne h (by decide))).2⟩), (fun h => absurd ((f12 (upd_ne h (by decide))).1 6 (by omega)) (by rw [hL]; decide))⟩
          · obtain rfl := Option.some.inj ho
            have g6 := f6 (hd ⟨6, .data⟩ (by simp) rfl)
            subst g6
            have hL12 : L 12 = false := by
              cases e : L 12
              · rfl
              · exact absurd ((f12 e).1 7 (by omega)) (by rw [hL]; decide)
            have J := I0 hL12
            refine wpOp_step rfl (fun K' hK => ?_)
            go_simp
            refine hK _ _ ?_
            exact ⟨_, _, _, _, _, _, _, _, _, _, _, _, rfl, (fun _ => J), (kp f0), (kp f1), (kp f2), (kp f3), (kp f4), (kp f5), (kp f6), (fun _ => rfl), (kp f8), (fun h _ => f9 (upd_ne h (by decide)) hL12), (kp f10), (fun h => ⟨(f11 (upd_ne h (by decide))).1, upd_mono (f11 (upd_ne h (by decide))).2⟩), (fun h => absurd ((f12 (upd_ne h (by decide))).1 7 (by omega)) (by rw [hL]; decide))⟩
          · obtain rfl := Option.some.inj ho
            have g7 := f7 (hd ⟨7, .data⟩ (by simp) rfl)
            subst g7
            have hL12 : L 12 = false := by
              cases e : L 12
              · rfl
              · exact absurd ((f12 e).1 8 (by omega)) (by rw [hL]; decide)
            have J := I0 hL12
            have z0 : ww.cell? ⟨g, k * 3 + 2, none⟩ = some (.slice A1 m1 c1) := (J.cell (p := ⟨g, k * 3 + 2, none⟩) hg2).trans x2
            refine wpOp_step rfl (fun K' hK => ?_)
            go_simp
            refine hK _ _ ?_
            exact ⟨_, _, _, _, _, _, _, _, _, _, _, _, rfl, (fun _ => J), (kp f0), (kp f1), (kp f2), (kp f3), (kp f4), (kp f5), (kp f6), (kp f7), (fun _ => rfl), (fun h _ => f9 (upd_ne h (by decide)) hL12), (kp f10), (fun h => ⟨(f11 (upd_ne h (by decide))).1, upd_mono (f11 (upd_ne h (by decide))).2⟩), (fun h => absurd ((f12 (upd_ne h (by decide))).1 8 (by omega)) (by rw [hL]; decide))⟩
          · obtain rfl := Option.some.inj ho
            have g8 := f8 (hd ⟨8, .data⟩ (by simp) rfl)
            subst g8
            have hL12 : L 12 = false := by
              cases e : L 12
              · rfl
              · exact absurd ((f12 e).1 9 (by omega)) (by rw [hL]; decide)
            have J := I0 hL12
            refine wpOp_step rfl (fun K' hK => ?_)
            go_simp
            refine (cloneI_any A1 m1 c1 cl.r ww (is2.up J) hm3).mono ?_
            rintro e w' ⟨v1, rfl, o1, b5⟩
            refine hK _ _ ?_
            exact ⟨_, _, _, _, _, _, _, _, _, _, _, _, rfl, (fun _ => J.trans (b5.mono J.size)), (kp f0), (kp f1), (kp f2), (kp f3), (kp f4), (kp f5), (kp f6), (kp f7), (kp f8), (fun _ _ => o1.base J.size), (kp f10), (fun h => ⟨(f11 (upd_ne h (by decide))).1, upd_mono (f11 (upd_ne h (by decide))).2⟩), (fun h => absurd ((f12 (upd_ne h (by decide))).1 9 (by omega)) (by rw [hL]; decide))⟩
          · obtain rfl := Option.some.inj ho
            have g1 := f1 (hd ⟨1, .data⟩ (by simp) rfl)
            have g2 := f2 (hd ⟨2, .data⟩ (by simp) rfl)
            subst g1
            subst g2
            have hL12 : L 12 = false := by
              cases e : L 12
              · rfl
              · exact absurd ((f12 e).1 10 (by omega)) (by rw [hL]; decide)
            have J := I0 hL12
            refine wpOp_step rfl (fun K' hK => ?_)
            go_simp
            refine hK _ _ ?_
            exact ⟨_, _, _, _, _, _, _, _, _, _, _, _, rfl, (fun _ => J), (kp f0), (kp f1), (kp f2), (kp f3), (kp f4), (kp f5), (kp f6), (kp f7), (kp f8), (fun h _ => f9 (upd_ne h (by decide)) hL12), (fun _ => rfl), (fun h => ⟨(f11 (upd_ne h (by decide))).1, upd_mono (f11 (upd_ne h (by decide))).2⟩), (fun h => absurd ((f12 (upd_ne h (by decide))).1 10 (by omega)) (by rw [hL]; decide))⟩
          · obtain rfl := Option.some.inj ho
            have g10 := f10 (hd ⟨10, .data⟩ (by simp) rfl)
            subst g10
            have hL12 : L 12 = false := by
              cases e : L 12
              · rfl
              · exact absurd ((f12 e).1 11 (by omega)) (by rw [hL]; decide)
            have J := I0 hL12
            refine wpOp_step rfl (fun K' hK => ?_)
            go_simp
            refine hK _ _ ?_
            exact ⟨_, _, _, _, _, _, _, _, _, _, _, _, rfl, (fun _ => J), (kp f0), (kp f1), (kp f2), (kp f3), (kp f4), (kp f5), (kp f6), (kp f7), (kp f8), (fun h _ => f9 (upd_ne h (by decide)) hL12), (kp f10), (fun _ => ⟨rfl, upd_mono (hd ⟨10, .data⟩ (by simp) rfl)⟩), (fun h => absurd ((f12 (upd_ne h (by decide))).1 11 (by omega)) (by rw [hL]; decide))⟩
          · obtain rfl := Option.some.inj ho
            have g9 := f9 (hd ⟨9, .data⟩ (by simp) rfl)
            have g11 := f11 (hd ⟨11, .data⟩ (by simp) rfl)
            have l11 := Lib.hid (hd ⟨11, .data⟩ (by simp) rfl)
            have l10 := Lib.hid g11.2
            obtain ⟨g11, -⟩ := g11
            subst g11
            have J := I0 hL
            have o9 := g9 hL
            have hfz : ww.frozen? ⟨g, k * 3 + 2, none⟩ = false := (World.frozen?_of_block (J.block g hg2)).trans fzg
            have hcl : ww.cell? ⟨g, k * 3 + 2, none⟩ = some (.slice A1 m1 c1) := (J.cell (p := ⟨g, k * 3 + 2, none⟩) hg2).trans x2
            obtain ⟨A2, c2, rfl⟩ := row_form o9
            refine wpOp_step rfl (fun K' hK => ?_)
            go_simp
            refine hK _ _ ?_
            exact ⟨_, _, _, _, _, _, _, _, _, _, _, _, rfl, (fun h => absurd h (by rw [upd_self]; decide)), (kp f0), (kp f1), (kp f2), (kp f3), (kp f4), (kp f5), (kp f6), (kp f7), (kp f8), (fun _ h => absurd h (by rw [upd_self]; decide)), (kp f10), (fun h => ⟨(f11 (upd_ne h (by decide))).1, upd_mono (f11 (upd_ne h (by decide))).2⟩), (fun _ => ⟨fun q hq => by
              obtain rfl | rfl | rfl | rfl | rfl | rfl | rfl | rfl | rfl | rfl | rfl | rfl : q = 0 ∨ q = 1 ∨ q = 2 ∨ q = 3 ∨ q = 4 ∨ q = 5 ∨ q = 6 ∨ q = 7 ∨ q = 8 ∨ q = 9 ∨ q = 10 ∨ q = 11 := by omega
              all_goals first | exact upd_mono l10.out | exact upd_mono l11.out | exact upd_mono (hd ⟨_, .phase⟩ (by simp) rfl), ww, J, o9, rfl⟩)⟩
        case hdone =>
          rintro L ac ww hall ⟨t18, t19, t20, t21, t22, t23, t24, t25, t26, t27, t28, t29, rfl, I0, f0, f1, f2, f3, f4, f5, f6, f7, f8, f9, f10, f11, f12⟩
          have e0 := f0 (hall 0 (by decide))
          have e1 := f1 (hall 1 (by decide))
          have e2 := f2 (hall 2 (by decide))
          have e3 := f3 (hall 3 (by decide))
          have e4 := f4 (hall 4 (by decide))
          have e5 := f5 (hall 5 (by decide))
          have e6 := f6 (hall 6 (by decide))
          have e7 := f7 (hall 7 (by decide))
          have e8 := f8 (hall 8 (by decide))
          have e9 := f9 (hall 9 (by decide))
          have e10 := f10 (hall 10 (by decide))
          have e11 := f11 (hall 11 (by decide))
          have e12 := f12 (hall 12 (by decide))
          clear f0 f1 f2 f3 f4 f5 f6 f7 f8 f9 f10 f11 f12
          obtain ⟨-, w5, b5, o5, rfl⟩ := e12
          have hb1 : (⟨g, k * 3 + 2, none⟩ : Addr).block = g := rfl
          have hI : Below w2.heap.size w2 (w5.setCell ⟨g, k * 3 + 2, none⟩ t27) := (IW.trans (b5.mono IW.size)).setCell (p := ⟨g, k * 3 + 2, none⟩) hg1 _
          have hnew : ∀ u : Value, (∀ q, u.ownBlock = some q → q < wr.heap.size) → t27.ownBlock = none ∨ t27.ownBlock ≠ u.ownBlock := fun u hu => by
            cases e : t27.ownBlock with
            | none => exact .inl rfl
            | some q =>
              right
              intro e2
              have a1 := (World.ownsRow.lt o5 q e).1
              have a2 := hu q e2.symm
              omega
          have hS := (SS.out.below b5 (Nat.le_refl _)).next HLC.out HCK.out (o5.base (by have := IW.size; omega)) (fun u hu => hnew u (fun q hq => (SS.out.blocks hu hq).2))
          have hg3g : g3 ≠ g := fun e => by
            rcases AA.out _ (List.mem_cons_self ..) with h1 | h1
            · cases h1
            · exact h1 (by rw [e]; rfl)
          have hAP : Apart (some g3) (Value.slice (some ⟨g, 0, none⟩) n c7 :: Value.slice A9 h.rt.length d9 :: (ovs ++ [t27])) := by
            intro u hu
            rw [List.mem_cons, List.mem_cons, List.mem_append, List.mem_singleton] at hu
            rcases hu with rfl | rfl | hu | rfl
            · exact AA.out _ (by simp)
            · exact AA.out _ (by simp)
            · exact AA.out _ (by simp [hu])
            · cases e : u.ownBlock with
              | none => exact .inl rfl
              | some q =>
                right
                intro e2
                have a1 := (World.ownsRow.lt o5 q e).1
                have a2 := Option.some.inj e2
                omega
          have hBX : Rw (w5.setCell ⟨g, k * 3 + 2, none⟩ t27) g3 26 #[.slice (some ⟨g, 0, none⟩) n c7, .slice A9 h.rt.length d9] := (BB.out.keep b5 hbx).other hg3g t27
          obtain ⟨e11, -⟩ := e11
          clear e0 e1 e2 e3 e4 e5 e6 e7 e8 e9 e10 e11 hall I0 IW bw SS AA BB hnew b5 o5 hb1
          go_wp2_with fail
          go_roundw
          case rel => exact ⟨k + 1, ovs ++ [t27], by omega, by go_num, hS, hAP, hBX, hI⟩
          case measure => simp [intOf]; omega
      · obtain rfl : k = n := by omega
        have own := S.done HLC.out.symm
        have x0 := BX.cell 0
        have x1 := BX.cell 1
        simp only [List.getElem?_toArray, List.getElem?_cons_zero, List.getElem?_cons_succ] at x0 x1
        have q3 := Q2.keep IW hz
        have r2 : wr.frozen? ⟨w.heap.size + 1, 0, none⟩ = false := q3.frozen 0
        have r3 : wr.frozen? ⟨w.heap.size + 1, 1, none⟩ = false := q3.frozen 1
        have r4 : wr.cell? ⟨w.heap.size + 1, 0, none⟩ = some (.slice none 0 0) := q3.cell 0
        have r5 : wr.cell? ⟨w.heap.size + 1, 1, none⟩ = some (.slice none 0 0) := q3.cell 1
        have r6 : ((wr.setCell ⟨w.heap.size + 1, 0, none⟩ (.slice A7 k c7)).setCell ⟨w.heap.size + 1, 1, none⟩ (.slice A9 h.rt.length d9)).cell? ⟨w.heap.size + 1, 0, none⟩ = some (.slice A7 k c7) := ((q3.put 0 (.slice A7 k c7)).put 1 (.slice A9 h.rt.length d9)).cell 0
        have r7 : ((wr.setCell ⟨w.heap.size + 1, 0, none⟩ (.slice A7 k c7)).setCell ⟨w.heap.size + 1, 1, none⟩ (.slice A9 h.rt.length d9)).cell? ⟨w.heap.size + 1, 1, none⟩ = some (.slice A9 h.rt.length d9) := ((q3.put 0 (.slice A7 k c7)).put 1 (.slice A9 h.rt.length d9)).cell 1
        have D := Lib.hid (OwnH.out (w := w) (g := w.heap.size + 1) ⟨ovs, own⟩ (by omega) bw (by omega))
        clear own S AP BX q3 bw IW B2 Q1 Q2
        go_wp2_with fail
        exact bodyPost_ret (v := .agg #[.slice A7 k c7, .slice A9 h.rt.length d9]) (by simp [results, Try.results40, go_sem, *]) rfl ⟨_, _, rfl, D.out.1, D.out.2⟩
end Go.Proofs.Ytakdjiojahlnmaa
