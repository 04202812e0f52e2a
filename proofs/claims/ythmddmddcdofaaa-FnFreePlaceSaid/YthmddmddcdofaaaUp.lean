/- What the program's sweeperOf returns for every valid heap. No conditions. -/
import Derived.Test.YthmddmddcdofaaaUn
import Derived.Test.YthmddmddcdofaaaUo
import Derived.Test.YthmddmddcdofaaaCb
import Derived.Test.YthmddmddcdofaaaMf
import Derived.Test.YthmddmddcdofaaaGa
namespace Go.Proofs.Ythmddmddcdofaaa
open Go.RowKit
set_option maxRecDepth 100000

set_option maxHeartbeats 4000000 in
theorem sweeperOf_any (A R : Option Addr) (n c m d : Nat) (h : Hp) (w : World) (hs : HS w w.heap.size A n R m h) (hn : n ≤ 64) (hm : m ≤ 1000000) (h3 : ∀ cl ∈ h.cs, cl.r.length ≤ 1000000) :
    Calls Try.prog 15 #[heapV A n c R m d] w (GaveCt w h (Hps.gapsL h.cs)) := by
  have B2 : Below w.heap.size w ((w.alloc (.cells #[.slice A n c, .slice R m d] 26)).alloc (.cells #[.slice none 0 0, .slice none 0 0, .slice none 0 0] 45)) := ((Below.refl _ _).alloc (Nat.le_refl _) _).alloc (by simp) _
  have q1 := (Rw.new w 26 #[.slice A n c, .slice R m d]).alloc (.cells #[.slice none 0 0, .slice none 0 0, .slice none 0 0] 45)
  have q2 := Rw.new (w.alloc (.cells #[.slice A n c, .slice R m d] 26)) 45 #[.slice none 0 0, .slice none 0 0, .slice none 0 0]
  simp only [World.size_alloc] at q2
  have s2 := hs.up B2
  have H3 := Lib.hid h3
  clear h3 hs
  go_enter Try.func15, Try.ntmps15
  go_upto_region 1 with fail
  generalize (w.alloc (.cells #[.slice A n c, .slice R m d] 26)).alloc (.cells #[.slice none 0 0, .slice none 0 0, .slice none 0 0] 45) = w2 at B2 q1 q2 s2 ⊢
  obtain ⟨q, hq⟩ : ∃ q, w.heap.size = q := ⟨_, rfl⟩
  rw [hq] at B2 q1 q2 ⊢
  have HQ := Lib.hid hq
  clear hq
  have hql := q1.lt
  have hrl := q2.lt
  have x0 : w2.cell? ⟨q, 0, none⟩ = some (.slice A n c) := q1.cell 0
  have x1 : w2.cell? ⟨q, 1, none⟩ = some (.slice R m d) := q1.cell 1
  have SS := Lib.hid s2
  clear s2 q1
  refine wp_region_inv (by kernel_rfl) (by kernel_rfl) (fun L ac ww => ∃ t3 t4 t5 t6 t7 t8 : Value, ac = { tmps := #[heapV A n c R m d, Value.pointer (some { block := q, off := 0 }), Value.pointer (some { block := q + 1, off := 0 }), t3, t4, t5, t6, t7, t8], defers := [] } ∧ (L 6 = false → Below w2.heap.size w2 ww) ∧ (L 0 = true → t3 = .agg #[.slice A n c, .slice R m d]) ∧ (L 1 = true → ∃ (A5 : Option Addr) (n5 c5 : Nat) (R5 : Option Addr) (m5 d5 : Nat), t4 = .agg #[.slice A5 n5 c5, .slice R5 m5 d5] ∧ (L 4 = false → OwnH ww w2.heap.size (.slice A5 n5 c5) (.slice R5 m5 d5) h)) ∧ (L 2 = true → t5 = .pointer (some ⟨q, 0, none⟩)) ∧ (L 3 = true → t6 = .slice A n c) ∧ (L 4 = true → ∃ (A5 : Option Addr) (n5 c5 : Nat) (R5 : Option Addr) (m5 d5 : Nat) (K5 : Option Addr) (p5 q5 : Nat), t4 = .agg #[.slice A5 n5 c5, .slice R5 m5 d5] ∧ t7 = .slice K5 p5 q5 ∧ L 1 = true ∧ (L 6 = false → OwnC ww w2.heap.size (.slice A5 n5 c5) (.slice R5 m5 d5) (.slice K5 p5 q5) h (Hps.gapsL h.cs))) ∧ (L 5 = true → L 1 = true ∧ L 4 = true ∧ ∃ (A5 : Option Addr) (n5 c5 : Nat) (R5 : Option Addr) (m5 d5 : Nat) (K5 : Option Addr) (p5 q5 : Nat), t4 = .agg #[.slice A5 n5 c5, .slice R5 m5 d5] ∧ t7 = .slice K5 p5 q5 ∧ t8 = .agg #[.slice A5 n5 c5, .slice R5 m5 d5, .slice K5 p5 q5]) ∧ (L 6 = true → (∀ q, q < 6 → L q = true) ∧ ∃ (A5 : Option Addr) (n5 c5 : Nat) (R5 : Option Addr) (m5 d5 : Nat) (K5 : Option Addr) (p5 q5 : Nat) (wp : World), ww = (((wp).setCell ⟨q + 1, 0, none⟩ (.slice A5 n5 c5)).setCell ⟨q + 1, 1, none⟩ (.slice R5 m5 d5)).setCell ⟨q + 1, 2, none⟩ (.slice K5 p5 q5) ∧ Below w2.heap.size w2 wp ∧ OwnC wp w2.heap.size (.slice A5 n5 c5) (.slice R5 m5 d5) (.slice K5 p5 q5) h (Hps.gapsL h.cs))) ?h0 ?hstep ?hdone
  case h0 => exact ⟨_, _, _, _, _, _, rfl, fun _ => (Below.refl _ _).drew, (fun h => absurd h Bool.false_ne_true), (fun h => absurd h Bool.false_ne_true), (fun h => absurd h Bool.false_ne_true), (fun h => absurd h Bool.false_ne_true), (fun h => absurd h Bool.false_ne_true), (fun h => absurd h Bool.false_ne_true), (fun h => absurd h Bool.false_ne_true)⟩
  case hstep =>
    rintro L ac ww i o ho hL hd ⟨t3, t4, t5, t6, t7, t8, rfl, I0, f0, f1, f2, f3, f4, f5, f6⟩
    have hi : i < 7 := (Array.getElem?_eq_some_iff.1 ho).1
    obtain rfl | rfl | rfl | rfl | rfl | rfl | rfl : i = 0 ∨ i = 1 ∨ i = 2 ∨ i = 3 ∨ i = 4 ∨ i = 5 ∨ i = 6 := by omega
    · obtain rfl := Option.some.inj ho
      have hL6 : L 6 = false := by
        cases e : L 6
        · rfl
        · exact absurd ((f6 e).1 0 (by decide)) (by rw [hL]; decide)
      have J := I0 hL6
      have z0 : ww.cell? ⟨q, 0, none⟩ = some (.slice A n c) := (J.cell (p := ⟨q, 0, none⟩) hql).trans x0
      have z1 : ww.cell? ⟨q, 1, none⟩ = some (.slice R m d) := (J.cell (p := ⟨q, 1, none⟩) hql).trans x1
      refine wpOp_step rfl (fun K' hK => ?_)
      go_simp
      refine hK _ _ ?_
      exact ⟨_, _, _, _, _, _, rfl, (fun _ => J), (fun _ => rfl), (fun h => by
        obtain ⟨A5, n5, c5, R5, m5, d5, e, r⟩ := f1 (upd_ne h (by decide))
        exact ⟨A5, n5, c5, R5, m5, d5, e, fun h4 => r (by rw [upd_other (by decide)] at h4; exact h4)⟩), (kp f2), (kp f3), (fun h => by
        obtain ⟨A5, n5, c5, R5, m5, d5, K5, p5, q5, e, e7, l1, r⟩ := f4 (upd_ne h (by decide))
        exact ⟨A5, n5, c5, R5, m5, d5, K5, p5, q5, e, e7, upd_mono l1, fun h6 => r (by rw [upd_other (by decide)] at h6; exact h6)⟩), (fun h => by
        obtain ⟨l1, l4, r⟩ := f5 (upd_ne h (by decide))
        exact ⟨upd_mono l1, upd_mono l4, r⟩), (fun h => absurd hL6 (by rw [upd_ne h (by decide)]; decide))⟩
    · obtain rfl := Option.some.inj ho
      have g0 := f0 (hd ⟨0, .data⟩ (by simp) rfl)
      subst g0
      have hL6 : L 6 = false := by
        cases e : L 6
        · rfl
        · exact absurd ((f6 e).1 1 (by decide)) (by rw [hL]; decide)
      have J := I0 hL6
      refine wpOp_step rfl (fun K' hK => ?_)
      go_simp
      refine (cloneHeap_any A R n c m d h ww (SS.out.up J) (by omega) (by omega) H3.out).mono ?_
      rintro e w' ⟨vc, vr, rfl, ow, b5⟩
      obtain ⟨A5, n5, c5, R5, m5, d5, rfl, rfl⟩ := ow.slices
      refine hK _ _ ?_
      exact ⟨_, _, _, _, _, _, rfl, (fun _ => J.trans (b5.mono J.size)), (kp f0), (fun _ => ⟨A5, n5, c5, R5, m5, d5, rfl, fun _ => ow.base J.size⟩), (kp f2), (kp f3), (fun h => by
        obtain ⟨_, _, _, _, _, _, _, _, _, _, _, l1, _⟩ := f4 (upd_ne h (by decide))
        exact absurd l1 (by rw [hL]; decide)), (fun h => absurd (f5 (upd_ne h (by decide))).1 (by rw [hL]; decide)), (fun h => absurd hL6 (by rw [upd_ne h (by decide)]; decide))⟩
    · obtain rfl := Option.some.inj ho
      have hL6 : L 6 = false := by
        cases e : L 6
        · rfl
        · exact absurd ((f6 e).1 2 (by decide)) (by rw [hL]; decide)
      have J := I0 hL6
      refine wpOp_step rfl (fun K' hK => ?_)
      go_simp
      refine hK _ _ ?_
      exact ⟨_, _, _, _, _, _, rfl, (fun _ => J), (kp f0), (fun h => by
        obtain ⟨A5, n5, c5, R5, m5, d5, e, r⟩ := f1 (upd_ne h (by decide))
        exact ⟨A5, n5, c5, R5, m5, d5, e, fun h4 => r (by rw [upd_other (by decide)] at h4; exact h4)⟩), (fun _ => rfl), (kp f3), (fun h => by
        obtain ⟨A5, n5, c5, R5, m5, d5, K5, p5, q5, e, e7, l1, r⟩ := f4 (upd_ne h (by decide))
        exact ⟨A5, n5, c5, R5, m5, d5, K5, p5, q5, e, e7, upd_mono l1, fun h6 => r (by rw [upd_other (by decide)] at h6; exact h6)⟩), (fun h => by
        obtain ⟨l1, l4, r⟩ := f5 (upd_ne h (by decide))
        exact ⟨upd_mono l1, upd_mono l4, r⟩), (fun h => absurd hL6 (by rw [upd_ne h (by decide)]; decide))⟩
    · obtain rfl := Option.some.inj ho
      have g2 := f2 (hd ⟨2, .data⟩ (by simp) rfl)
      subst g2
      have hL6 : L 6 = false := by
        cases e : L 6
        · rfl
        · exact absurd ((f6 e).1 3 (by decide)) (by rw [hL]; decide)
      have J := I0 hL6
      have z0 : ww.cell? ⟨q, 0, none⟩ = some (.slice A n c) := (J.cell (p := ⟨q, 0, none⟩) hql).trans x0
      refine wpOp_step rfl (fun K' hK => ?_)
      go_simp
      refine hK _ _ ?_
      exact ⟨_, _, _, _, _, _, rfl, (fun _ => J), (kp f0), (fun h => by
        obtain ⟨A5, n5, c5, R5, m5, d5, e, r⟩ := f1 (upd_ne h (by decide))
        exact ⟨A5, n5, c5, R5, m5, d5, e, fun h4 => r (by rw [upd_other (by decide)] at h4; exact h4)⟩), (kp f2), (fun _ => rfl), (fun h => by
        obtain ⟨A5, n5, c5, R5, m5, d5, K5, p5, q5, e, e7, l1, r⟩ := f4 (upd_ne h (by decide))
        exact ⟨A5, n5, c5, R5, m5, d5, K5, p5, q5, e, e7, upd_mono l1, fun h6 => r (by rw [upd_other (by decide)] at h6; exact h6)⟩), (fun h => by
        obtain ⟨l1, l4, r⟩ := f5 (upd_ne h (by decide))
        exact ⟨upd_mono l1, upd_mono l4, r⟩), (fun h => absurd hL6 (by rw [upd_ne h (by decide)]; decide))⟩
    · obtain rfl := Option.some.inj ho
      have g3 := f3 (hd ⟨3, .data⟩ (by simp) rfl)
      subst g3
      have hL6 : L 6 = false := by
        cases e : L 6
        · rfl
        · exact absurd ((f6 e).1 4 (by decide)) (by rw [hL]; decide)
      have J := I0 hL6
      have l1 := Lib.hid (hd ⟨1, .chain⟩ (by simp) rfl)
      obtain ⟨A5, n5, c5, R5, m5, d5, e4, r4⟩ := f1 l1.out
      subst e4
      have oh := r4 hL
      refine wpOp_step rfl (fun K' hK => ?_)
      go_simp
      refine (freeList_any A n c h.cs ww (SS.out.up J).cells hn).mono ?_
      rintro e w' ⟨vk, rfl, ok, b5⟩
      obtain ⟨K5, q5, e8, -⟩ := ok.form
      refine hK _ _ ?_
      exact ⟨_, _, _, _, _, _, rfl, (fun _ => J.trans (b5.mono J.size)), (kp f0), (fun _ => ⟨A5, n5, c5, R5, m5, d5, rfl, fun h => absurd h (by rw [upd_self]; decide)⟩), (kp f2), (kp f3), (fun _ => ⟨A5, n5, c5, R5, m5, d5, K5, _, q5, rfl, e8, upd_mono l1.out, fun _ => by
        rw [← e8]
        exact OwnC.of oh b5 ok J.size⟩), (fun h => absurd (f5 (upd_ne h (by decide))).2.1 (by rw [hL]; decide)), (fun h => absurd hL6 (by rw [upd_ne h (by decide)]; decide))⟩
    · obtain rfl := Option.some.inj ho
      have g1 := f1 (hd ⟨1, .data⟩ (by simp) rfl)
      have g4 := f4 (hd ⟨4, .data⟩ (by simp) rfl)
      have hL6 : L 6 = false := by
        cases e : L 6
        · rfl
        · exact absurd ((f6 e).1 5 (by decide)) (by rw [hL]; decide)
      have J := I0 hL6
      have l4 := Lib.hid (hd ⟨4, .data⟩ (by simp) rfl)
      obtain ⟨A5, n5, c5, R5, m5, d5, K5, p5, q5, e4, e7, l1, r4⟩ := g4
      have L1 := Lib.hid l1
      clear l1
      subst e4
      subst e7
      clear g1
      refine wpOp_step rfl (fun K' hK => ?_)
      go_simp
      refine hK _ _ ?_
      exact ⟨_, _, _, _, _, _, rfl, (fun _ => J), (kp f0), (fun _ => ⟨A5, n5, c5, R5, m5, d5, rfl, fun h => absurd l4.out (by rw [upd_other (by decide)] at h; rw [h]; decide)⟩), (kp f2), (kp f3), (fun _ => ⟨A5, n5, c5, R5, m5, d5, K5, p5, q5, rfl, rfl, upd_mono L1.out, fun h => r4 (by rw [upd_other (by decide)] at h; exact h)⟩), (fun _ => ⟨upd_mono L1.out, upd_mono l4.out, A5, n5, c5, R5, m5, d5, K5, p5, q5, rfl, rfl, rfl⟩), (fun h => absurd hL6 (by rw [upd_ne h (by decide)]; decide))⟩
    · obtain rfl := Option.some.inj ho
      have g5 := f5 (hd ⟨5, .data⟩ (by simp) rfl)
      have lq : Hid (∀ q, q < 6 → L q = true) := Lib.hid (by
        intro q hq
        obtain rfl | rfl | rfl | rfl | rfl | rfl : q = 0 ∨ q = 1 ∨ q = 2 ∨ q = 3 ∨ q = 4 ∨ q = 5 := by omega
        · exact hd ⟨0, .phase⟩ (by simp) rfl
        · exact hd ⟨1, .phase⟩ (by simp) rfl
        · exact hd ⟨2, .phase⟩ (by simp) rfl
        · exact hd ⟨3, .phase⟩ (by simp) rfl
        · exact hd ⟨4, .phase⟩ (by simp) rfl
        · exact hd ⟨5, .phase⟩ (by simp) rfl)
      have J := I0 hL
      obtain ⟨-, -, A5, n5, c5, R5, m5, d5, K5, p5, q5, e4, e7, e8⟩ := g5
      subst e8
      obtain ⟨A6, n6, c6, R6, m6, d6, K6, p6, q6, e4b, e7b, -, r4⟩ := f4 (lq.out 4 (by decide))
      have oc := r4 hL
      rw [e4] at e4b
      rw [e7] at e7b
      injection e4b with e4b
      simp at e4b
      obtain ⟨⟨rfl, rfl, rfl⟩, rfl, rfl, rfl⟩ := e4b
      injection e7b with h1 h2 h3
      subst h1
      subst h2
      subst h3
      subst e4
      subst e7
      have P := q2.keep J hrl
      have zf0 : ww.frozen? ⟨q + 1, 0, none⟩ = false := P.frozen 0
      have zf1 : ww.frozen? ⟨q + 1, 1, none⟩ = false := P.frozen 1
      have zf2 : ww.frozen? ⟨q + 1, 2, none⟩ = false := P.frozen 2
      have zc0 : ww.cell? ⟨q + 1, 0, none⟩ = some (.slice none 0 0) := P.cell 0
      have zc1 : ww.cell? ⟨q + 1, 1, none⟩ = some (.slice none 0 0) := P.cell 1
      have zc2 : ww.cell? ⟨q + 1, 2, none⟩ = some (.slice none 0 0) := P.cell 2
      refine wpOp_step rfl (fun K' hK => ?_)
      go_simp
      refine hK _ _ ?_
      exact ⟨_, _, _, _, _, _, rfl, (fun h => absurd h (by rw [upd_self]; decide)), (kp f0), (fun _ => ⟨A5, n5, c5, R5, m5, d5, rfl, fun h => absurd (lq.out 4 (by decide)) (by rw [upd_other (by decide)] at h; rw [h]; decide)⟩), (kp f2), (kp f3), (fun _ => ⟨A5, n5, c5, R5, m5, d5, K5, p5, q5, rfl, rfl, upd_mono (lq.out 1 (by decide)), fun h => absurd h (by rw [upd_self]; decide)⟩), (fun _ => ⟨upd_mono (lq.out 1 (by decide)), upd_mono (lq.out 4 (by decide)), A5, n5, c5, R5, m5, d5, K5, p5, q5, rfl, rfl, rfl⟩), (fun _ => ⟨fun q hq => upd_mono (lq.out q hq), A5, n5, c5, R5, m5, d5, K5, p5, q5, ww, rfl, J, oc⟩)⟩
  case hdone =>
    rintro L ac ww hall ⟨t3, t4, t5, t6, t7, t8, rfl, I0, f0, f1, f2, f3, f4, f5, f6⟩
    have e0 := f0 (hall 0 (by decide))
    have e1 := f1 (hall 1 (by decide))
    have e2 := f2 (hall 2 (by decide))
    have e3 := f3 (hall 3 (by decide))
    have e4 := f4 (hall 4 (by decide))
    have e5 := f5 (hall 5 (by decide))
    have e6 := f6 (hall 6 (by decide))
    clear f0 f1 f2 f3 f4 f5 f6
    obtain ⟨-, A5, n5, c5, R5, m5, d5, K5, p5, q5, wp, rfl, r1, r9⟩ := e6
    have P := q2.keep r1 hrl
    have P4 := ((P.put 0 (.slice A5 n5 c5)).put 1 (.slice R5 m5 d5)).put 2 (.slice K5 p5 q5)
    have s8 : ((((wp).setCell ⟨q + 1, 0, none⟩ (.slice A5 n5 c5)).setCell ⟨q + 1, 1, none⟩ (.slice R5 m5 d5)).setCell ⟨q + 1, 2, none⟩ (.slice K5 p5 q5)).cell? ⟨q + 1, 0, none⟩ = some (.slice A5 n5 c5) := P4.cell 0
    have s9 : ((((wp).setCell ⟨q + 1, 0, none⟩ (.slice A5 n5 c5)).setCell ⟨q + 1, 1, none⟩ (.slice R5 m5 d5)).setCell ⟨q + 1, 2, none⟩ (.slice K5 p5 q5)).cell? ⟨q + 1, 1, none⟩ = some (.slice R5 m5 d5) := P4.cell 1
    have s10 : ((((wp).setCell ⟨q + 1, 0, none⟩ (.slice A5 n5 c5)).setCell ⟨q + 1, 1, none⟩ (.slice R5 m5 d5)).setCell ⟨q + 1, 2, none⟩ (.slice K5 p5 q5)).cell? ⟨q + 1, 2, none⟩ = some (.slice K5 p5 q5) := P4.cell 2
    have HW := HQ.out
    have D := Lib.hid (OwnC.out (w := w) (g := q + 1) r9 (by omega) (by rw [HW]; exact B2.trans (r1.mono (by have := B2.size; omega))) (by omega))
    clear I0 e0 e1 e2 e3 e4 e5 hall r1 r9 P P4
    go_wp2_with fail
    exact bodyPost_ret (v := .agg #[.slice A5 n5 c5, .slice R5 m5 d5, .slice K5 p5 q5]) (by simp [results, Try.results15, go_sem, *]) rfl ⟨_, _, _, rfl, D.out.1, D.out.2⟩

theorem SwSt.of {w w1 : World} {vc vr vk : Value} {h : Hp} (o : OwnC w1 w.heap.size vc vr vk h (Hps.gapsL h.cs)) (hb : Below w.heap.size w w1) : ∃ rvs, SwSt [] w (w1.alloc (.cells #[vc, vr, vk] 45)) w1.heap.size vc vr rvs h := by
  obtain ⟨rvs, o⟩ := o
  have bA : Below w1.heap.size w1 (w1.alloc (.cells #[vc, vr, vk] 45)) := (Below.refl _ _).alloc (Nat.le_refl _) _
  refine ⟨rvs, vk, o.heap.below bA (Nat.le_refl _), o.heap.apart_new (Nat.le_refl _), Rw.new _ _ _, hb.alloc hb.size _, hb.size, ⟨fun p e => ?_, fun p e x hx => ?_, fun g hg => ?_⟩⟩
  · cases e
    exact (o.cnts.below bA (Nat.le_refl _)).queue
  · cases e
    cases hx
  · obtain ⟨p, e, h1 | ⟨x, hx, _⟩⟩ := hg
    · cases e
      have h2 := (World.ownsRow.lt o.cnts g h1).2
      refine ⟨by omega, fun v hv e => ?_⟩
      rcases o.sep v hv with h3 | h3
      · rw [e] at h3; cases h3
      · exact h3 (by rw [e]; exact h1.symm)
    · cases e
      cases hx
/-- the heap in a sweeper, as a heap of the call's own -/
theorem SwFs.ownH {w0 wr : World} {b : Nat} {vc vr : Value} {rvs : List Value} {h : Hp} {fs : List Int} {E : KeptL} (S : SwFs E w0 wr b vc vr rvs h fs) : OwnH wr w0.heap.size vc vr h := ⟨rvs, S.own⟩

/-- a sweeper's heap, once there is room for a new cell if there can be -/
noncomputable def Hps.roomS (h : Hp) (limit : Int) : Hp := if (Hps.gapH h : Int) < limit then h else Hps.sweptH h
end Go.Proofs.Ythmddmddcdofaaa
