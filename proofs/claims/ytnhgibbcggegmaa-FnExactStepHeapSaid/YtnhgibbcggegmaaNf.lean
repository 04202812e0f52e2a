/- The exact law of StepHeap returns true, over the program's contract. No conditions. -/
import Derived.Test.YtnhgibbcggegmaaNe
namespace Go.Proofs.Ytnhgibbcggegmaa
open Go.RowKit
set_option maxRecDepth 100000

theorem tiny_step (h : Hp) (o : Cm) : Tiny (Hps.stepH h o).1 := by
  cases hv : (Hps.validH h && Hps.okCm o)
  · rw [Hps.stepH, if_neg (by rw [hv]; decide)]
    exact tiny_zero
  · rw [Bool.and_eq_true] at hv
    exact tiny_valid (Hps.stepH_valid hv.1 hv.2)

set_option maxHeartbeats 8000000 in
theorem exactStepHeap_walk (A R : Option Addr) (n c m d : Nat) (h : Hp) (o : Cm) (w : World) (hs : HS w w.heap.size A n R m h) (hn : n ≤ 9223372036854775807) (hm : m ≤ 9223372036854775807) (hb : ∀ cl ∈ h.cs, cl.r.length ≤ 9223372036854775807) :
    Calls Try.prog 7 #[heapV A n c R m d, cmV o] w fun e w' => e = .returned (.bool true) ∧ Below w.heap.size w w' := by
  have b0 : Below w.heap.size w ((w.alloc (.cells #[.slice A n c, .slice R m d] 48)).alloc (.cells #[.int .i64 o.op, .int .i64 o.a, .int .i64 o.b, .int .i64 o.c] 49)) := ((Below.refl _ _).alloc (Nat.le_refl _) _).alloc (by simp) _
  have s0 := hs.up b0
  have q0 := (Rw.new w 48 #[.slice A n c, .slice R m d]).alloc (.cells #[.int .i64 o.op, .int .i64 o.a, .int .i64 o.b, .int .i64 o.c] 49)
  have q1 := Rw.new (w.alloc (.cells #[.slice A n c, .slice R m d] 48)) 49 #[.int .i64 o.op, .int .i64 o.a, .int .i64 o.b, .int .i64 o.c]
  rw [World.size_alloc] at q1
  have hlc := hs.cells.1
  have hlr := hs.roots.1
  go_enter Try.func7, Try.ntmps7
  go_wp2_with fail
  refine (szHeap_any _ _ _ _ _ _ h _ _ s0 (by omega) (by omega) hn hm hb).mono ?_
  rintro e w1 ⟨rfl, b1⟩
  replace q0 := q0.keep b1 q0.lt
  replace q1 := q1.keep b1 q1.lt
  have bbk := b0.trans (b1.mono b0.size)
  clear b1 s0 b0
  by_cases hz : sizeH h ≤ 1048576
  case neg =>
    have HL : leftOf 1048576 (sizeH h) = -1 := by rw [leftOf, if_neg (by omega)]
    rw [HL]
    go_wp2_with fail
    go_ret
    exact ⟨rfl, bbk⟩
  have HL : leftOf 1048576 (sizeH h) = 1048576 - (sizeH h : Int) := by rw [leftOf, if_pos (by omega)]
  rw [HL]
  obtain ⟨z1, z2, z3⟩ := size_small hz
  rw [hlc] at z1
  rw [hlr] at z2
  have Z3 := Lib.hid (fun cl (hcl : cl ∈ h.cs) => show cl.r.length ≤ 1099511627776 by have := z3 cl hcl; omega)
  obtain ⟨lz, hlz⟩ : ∃ lz : Int, (1048576 : Int) - (sizeH h : Int) = lz := ⟨_, rfl⟩
  have hlz0 : decide (lz < 0) = false := decide_eq_false (by omega)
  rw [hlz]
  obtain ⟨ga, hga⟩ : ∃ ga, w.heap.size = ga := ⟨_, rfl⟩
  rw [hga] at q0 q1 ⊢
  have HGA := Lib.hid hga
  have hgl := q0.lt
  have hgb := q1.lt
  have xa0 : w1.cell? ⟨ga, 0, none⟩ = some (.slice A n c) := q0.cell 0
  have xa1 : w1.cell? ⟨ga, 1, none⟩ = some (.slice R m d) := q0.cell 1
  have xb0 : w1.cell? ⟨ga + 1, 0, none⟩ = some (.int .i64 o.op) := q1.cell 0
  have xb1 : w1.cell? ⟨ga + 1, 1, none⟩ = some (.int .i64 o.a) := q1.cell 1
  have xb2 : w1.cell? ⟨ga + 1, 2, none⟩ = some (.int .i64 o.b) := q1.cell 2
  have xb3 : w1.cell? ⟨ga + 1, 3, none⟩ = some (.int .i64 o.c) := q1.cell 3
  have HZX := Lib.hid (show sizeH h ≤ 1000000000 by omega)
  clear HL hlz hz z3 hb hlc hlr hga
  have T := tiny_step h o
  obtain ⟨hh, hhe⟩ : ∃ hh, (Hps.stepH h o).1 = hh := ⟨_, rfl⟩
  obtain ⟨vb, hvb⟩ : ∃ vb, (Hps.stepH h o).2 = vb := ⟨_, rfl⟩
  rw [hhe] at T
  have HH := Lib.hid hhe
  have HVB := Lib.hid hvb
  obtain ⟨nn, hnn⟩ : ∃ nn, hh.cs.length = nn := ⟨_, rfl⟩
  obtain ⟨mm, hmm⟩ : ∃ mm, hh.rt.length = mm := ⟨_, rfl⟩
  have hn40 : nn ≤ 40 := by have := T.1; omega
  have hm4 : mm ≤ 4 := by have := T.2.1; omega
  have H3 := Lib.hid (fun cl (hcl : cl ∈ hh.cs) => show cl.r.length ≤ 1099511627776 by have := T.2.2 cl hcl; omega)
  have HSZ := Lib.hid T.size
  have E0 := Lib.hid hnn
  have E4 := Lib.hid hmm
  have EA := Lib.hid hs.cells.1
  have EB := Lib.hid hs.roots.1
  have hvv : (vb != vb) = false := by cases vb <;> rfl
  obtain ⟨kv, hkv⟩ : ∃ kv, markKH 1 hh = kv := ⟨_, rfl⟩
  have hk0 : decide (kv < 0) = false := by
    rw [← hkv]
    refine decide_eq_false ?_
    simp only [markKH, mkK]
    omega
  have hkk : (kv != kv) = false := by simp
  obtain ⟨kx, hkx⟩ : ∃ kx, markKH 1 h = kx := ⟨_, rfl⟩
  have hx0 : decide (kx < 0) = false := by
    rw [← hkx]
    refine decide_eq_false ?_
    simp only [markKH, mkK]
    omega
  have HKV := Lib.hid hkv
  have HKX := Lib.hid hkx
  clear T hhe hvb hnn hmm hkv hkx
  go_upto_region 5 with fail
  refine wp_region_inv (by kernel_rfl) (by kernel_rfl) (fun L ac ww => ∃ t6 t7 t21 t22 t23 t24 t25 t26 t27 t28 : Value, ac = { tmps := #[heapV A n c R m d, cmV o, Value.pointer (some { block := ga, off := 0 }), Value.pointer (some { block := ga + 1, off := 0 }), Value.bool false, Value.int IntKind.i64 lz, t6, t7, undef, undef, undef, undef, undef, undef, undef, undef, Value.agg #[Value.slice A n c, Value.slice R m d], Value.int IntKind.i64 1048576, Value.int IntKind.i64 lz, Value.int IntKind.i64 lz, Value.bool false, t21, t22, t23, t24, t25, t26, t27, t28, undef, undef, undef, undef, undef, undef, undef, undef, undef, undef, undef, undef, undef, undef, undef, undef, undef, undef, undef, undef, undef, undef, undef, undef, undef, undef, undef, undef, undef, undef, undef, undef, undef, undef, undef, undef, undef, undef, undef, undef, undef, undef, undef, undef, undef, undef, undef, undef, undef, undef, undef, undef, undef, undef, undef, undef, undef, undef, undef, undef, undef, undef, undef, undef, undef, undef, undef, undef, undef, undef, undef, undef, undef, undef, undef], defers := [] } ∧ (Below w1.heap.size w1 ww) ∧ (L 0 = true → t22 = .agg #[.slice A n c, .slice R m d]) ∧ (L 1 = true → (L 4 = true ∨ ∃ u1 u2 : Nat, t23 = .agg #[.slice (some ⟨u1, 0, none⟩) n n, .slice (some ⟨u2, 0, none⟩) m m] ∧ HS ww ww.heap.size (some ⟨u1, 0, none⟩) n (some ⟨u2, 0, none⟩) m h)) ∧ (L 2 = true → t24 = .agg #[.int .i64 o.op, .int .i64 o.a, .int .i64 o.b, .int .i64 o.c]) ∧ (L 3 = true → t25 = .agg #[.int .i64 o.op, .int .i64 o.a, .int .i64 o.b, .int .i64 o.c]) ∧ (L 4 = true → ∃ (A' : Option Addr) (c' : Nat) (R' : Option Addr) (d' : Nat) (rvs : List Value), t26 = .tuple #[.agg #[.slice A' nn c', .slice R' mm d'], .bool vb] ∧ OwnHx ww w1.heap.size (.slice A' nn c') (.slice R' mm d') rvs hh ∧ L 4 = true) ∧ (L 5 = true → ∃ (A' : Option Addr) (c' : Nat) (R' : Option Addr) (d' : Nat) (rvs : List Value), t21 = .tuple #[.agg #[.slice A' nn c', .slice R' mm d'], .bool vb] ∧ OwnHx ww w1.heap.size (.slice A' nn c') (.slice R' mm d') rvs hh ∧ L 4 = true) ∧ (L 6 = true → ∃ (A' : Option Addr) (c' : Nat) (R' : Option Addr) (d' : Nat) (rvs : List Value), t27 = .agg #[.slice A' nn c', .slice R' mm d'] ∧ OwnHx ww w1.heap.size (.slice A' nn c') (.slice R' mm d') rvs hh ∧ L 4 = true) ∧ (L 7 = true → t28 = .bool vb) ∧ (L 8 = true → ∃ g : Nat, t6 = .pointer (some ⟨g, 0, none⟩) ∧ w1.heap.size ≤ g ∧ (L 9 = true ∨ Rw ww g 26 #[.slice none 0 0, .slice none 0 0])) ∧ (L 9 = true → ∃ (g : Nat) (A' : Option Addr) (c' : Nat) (R' : Option Addr) (d' : Nat) (rvs : List Value), t6 = .pointer (some ⟨g, 0, none⟩) ∧ w1.heap.size ≤ g ∧ Rw ww g 26 #[.slice A' nn c', .slice R' mm d'] ∧ OwnHx ww w1.heap.size (.slice A' nn c') (.slice R' mm d') rvs hh ∧ L 8 = true ∧ L 4 = true) ∧ (L 10 = true → t7 = .bool vb)) ?h0 ?hstep ?hdone
  case h0 => exact ⟨_, _, _, _, _, _, _, _, _, _, rfl, (Below.refl _ _).drew, (fun h => absurd h Bool.false_ne_true), (fun h => absurd h Bool.false_ne_true), (fun h => absurd h Bool.false_ne_true), (fun h => absurd h Bool.false_ne_true), (fun h => absurd h Bool.false_ne_true), (fun h => absurd h Bool.false_ne_true), (fun h => absurd h Bool.false_ne_true), (fun h => absurd h Bool.false_ne_true), (fun h => absurd h Bool.false_ne_true), (fun h => absurd h Bool.false_ne_true), (fun h => absurd h Bool.false_ne_true)⟩
  case hstep =>
    rintro L ac ww i o ho hL hd ⟨t6, t7, t21, t22, t23, t24, t25, t26, t27, t28, rfl, I0, f0, f1, f2, f3, f4, f5, f6, f7, f8, f9, f10⟩
    have hi : i < 11 := (Array.getElem?_eq_some_iff.1 ho).1
    obtain rfl | rfl | rfl | rfl | rfl | rfl | rfl | rfl | rfl | rfl | rfl : i = 0 ∨ i = 1 ∨ i = 2 ∨ i = 3 ∨ i = 4 ∨ i = 5 ∨ i = 6 ∨ i = 7 ∨ i = 8 ∨ i = 9 ∨ i = 10 := by omega
    · obtain rfl := Option.some.inj ho
      have y0 : ww.cell? ⟨ga, 0, none⟩ = some (.slice A n c) := (I0.cell (p := ⟨ga, 0, none⟩) hgl).trans xa0
      have y1 : ww.cell? ⟨ga, 1, none⟩ = some (.slice R m d) := (I0.cell (p := ⟨ga, 1, none⟩) hgl).trans xa1
      refine wpOp_step rfl (fun K' hK => ?_)
      go_simp
      refine hK _ _ ?_
      exact ⟨_, _, _, _, _, _, _, _, _, _, rfl, (I0), (fun _ => rfl), (fun h => (f1 (upd_ne h (by decide))).imp (fun e => upd_keep e) id), (kp f2), (kp f3), (fun h => by
        obtain ⟨A', c', R', d', rvs, e, q, l⟩ := f4 (upd_ne h (by decide))
        exact ⟨A', c', R', d', rvs, e, q, upd_keep l⟩), (fun h => by
        obtain ⟨A', c', R', d', rvs, e, q, l⟩ := f5 (upd_ne h (by decide))
        exact ⟨A', c', R', d', rvs, e, q, upd_keep l⟩), (fun h => by
        obtain ⟨A', c', R', d', rvs, e, q, l⟩ := f6 (upd_ne h (by decide))
        exact ⟨A', c', R', d', rvs, e, q, upd_keep l⟩), (kp f7), (fun h => by
        obtain ⟨g, e, hg, r⟩ := f8 (upd_ne h (by decide))
        exact ⟨g, e, hg, r.imp (fun e => upd_keep e) (fun r => r)⟩), (fun h => by
        obtain ⟨g, A', c', R', d', rvs, e, hg, r, q, la, lf⟩ := f9 (upd_ne h (by decide))
        exact ⟨g, A', c', R', d', rvs, e, hg, r, q, upd_keep la, upd_keep lf⟩), (kp f10)⟩
    · obtain rfl := Option.some.inj ho
      have g0 := f0 (hd ⟨0, .data⟩ (by simp) rfl)
      subst g0
      refine wpOp_step rfl (fun K' hK => ?_)
      go_simp
      refine (toHeap_any _ _ _ _ _ _ h ww (hs.up (bbk.trans (I0.mono bbk.size))) (by omega) (by omega) Z3.out).mono ?_
      rintro e w' ⟨u1, u2, rfl, ⟨rv, ow⟩, b5⟩
      have hr9 := ow.reads
      refine hK _ _ ?_
      exact ⟨_, _, _, _, _, _, _, _, _, _, rfl, (I0.trans (b5.mono I0.size)), (kp f0), (fun _ => .inr ⟨u1, u2, rfl, hr9⟩), (kp f2), (kp f3), (fun h => by
        obtain ⟨A', c', R', d', rvs, e, q, l⟩ := f4 (upd_ne h (by decide))
        exact ⟨A', c', R', d', rvs, e, q.below b5 (Nat.le_refl _), upd_keep l⟩), (fun h => by
        obtain ⟨A', c', R', d', rvs, e, q, l⟩ := f5 (upd_ne h (by decide))
        exact ⟨A', c', R', d', rvs, e, q.below b5 (Nat.le_refl _), upd_keep l⟩), (fun h => by
        obtain ⟨A', c', R', d', rvs, e, q, l⟩ := f6 (upd_ne h (by decide))
        exact ⟨A', c', R', d', rvs, e, q.below b5 (Nat.le_refl _), upd_keep l⟩), (kp f7), (fun h => by
        obtain ⟨g, e, hg, r⟩ := f8 (upd_ne h (by decide))
        exact ⟨g, e, hg, r.imp (fun e => upd_keep e) (fun r => r.keep b5 r.lt)⟩), (fun h => by
        obtain ⟨g, A', c', R', d', rvs, e, hg, r, q, la, lf⟩ := f9 (upd_ne h (by decide))
        exact ⟨g, A', c', R', d', rvs, e, hg, r.keep b5 r.lt, q.below b5 (Nat.le_refl _), upd_keep la, upd_keep lf⟩), (kp f10)⟩
    · obtain rfl := Option.some.inj ho
      have y0 : ww.cell? ⟨ga + 1, 0, none⟩ = some (.int .i64 o.op) := (I0.cell (p := ⟨ga + 1, 0, none⟩) hgb).trans xb0
      have y1 : ww.cell? ⟨ga + 1, 1, none⟩ = some (.int .i64 o.a) := (I0.cell (p := ⟨ga + 1, 1, none⟩) hgb).trans xb1
      have y2 : ww.cell? ⟨ga + 1, 2, none⟩ = some (.int .i64 o.b) := (I0.cell (p := ⟨ga + 1, 2, none⟩) hgb).trans xb2
      have y3 : ww.cell? ⟨ga + 1, 3, none⟩ = some (.int .i64 o.c) := (I0.cell (p := ⟨ga + 1, 3, none⟩) hgb).trans xb3
      refine wpOp_step rfl (fun K' hK => ?_)
      go_simp
      refine hK _ _ ?_
      exact ⟨_, _, _, _, _, _, _, _, _, _, rfl, (I0), (kp f0), (fun h => (f1 (upd_ne h (by decide))).imp (fun e => upd_keep e) id), (fun _ => rfl), (kp f3), (fun h => by
        obtain ⟨A', c', R', d', rvs, e, q, l⟩ := f4 (upd_ne h (by decide))
        exact ⟨A', c', R', d', rvs, e, q, upd_keep l⟩), (fun h => by
        obtain ⟨A', c', R', d', rvs, e, q, l⟩ := f5 (upd_ne h (by decide))
        exact ⟨A', c', R', d', rvs, e, q, upd_keep l⟩), (fun h => by
        obtain ⟨A', c', R', d', rvs, e, q, l⟩ := f6 (upd_ne h (by decide))
        exact ⟨A', c', R', d', rvs, e, q, upd_keep l⟩), (kp f7), (fun h => by
        obtain ⟨g, e, hg, r⟩ := f8 (upd_ne h (by decide))
        exact ⟨g, e, hg, r.imp (fun e => upd_keep e) (fun r => r)⟩), (fun h => by
        obtain ⟨g, A', c', R', d', rvs, e, hg, r, q, la, lf⟩ := f9 (upd_ne h (by decide))
        exact ⟨g, A', c', R', d', rvs, e, hg, r, q, upd_keep la, upd_keep lf⟩), (kp f10)⟩
    · obtain rfl := Option.some.inj ho
      have g2 := f2 (hd ⟨2, .data⟩ (by simp) rfl)
      subst g2
      refine wpOp_step rfl (fun K' hK => ?_)
      go_simp
      refine (toCommand_any o ww).mono ?_
      rintro e w' ⟨rfl, b5⟩
      refine hK _ _ ?_
      exact ⟨_, _, _, _, _, _, _, _, _, _, rfl, (I0.trans (b5.mono I0.size)), (kp f0), (fun h => (f1 (upd_ne h (by decide))).imp (fun e => upd_keep e) (fun ⟨u1, u2, e, q⟩ => ⟨u1, u2, e, q.up b5⟩)), (kp f2), (fun _ => rfl), (fun h => by
        obtain ⟨A', c', R', d', rvs, e, q, l⟩ := f4 (upd_ne h (by decide))
        exact ⟨A', c', R', d', rvs, e, q.below b5 (Nat.le_refl _), upd_keep l⟩), (fun h => by
        obtain ⟨A', c', R', d', rvs, e, q, l⟩ := f5 (upd_ne h (by decide))
        exact ⟨A', c', R', d', rvs, e, q.below b5 (Nat.le_refl _), upd_keep l⟩), (fun h => by
        obtain ⟨A', c', R', d', rvs, e, q, l⟩ := f6 (upd_ne h (by decide))
        exact ⟨A', c', R', d', rvs, e, q.below b5 (Nat.le_refl _), upd_keep l⟩), (kp f7), (fun h => by
        obtain ⟨g, e, hg, r⟩ := f8 (upd_ne h (by decide))
        exact ⟨g, e, hg, r.imp (fun e => upd_keep e) (fun r => r.keep b5 r.lt)⟩), (fun h => by
        obtain ⟨g, A', c', R', d', rvs, e, hg, r, q, la, lf⟩ := f9 (upd_ne h (by decide))
        exact ⟨g, A', c', R', d', rvs, e, hg, r.keep b5 r.lt, q.below b5 (Nat.le_refl _), upd_keep la, upd_keep lf⟩), (kp f10)⟩
    · obtain rfl := Option.some.inj ho
      have g1 := f1 (hd ⟨1, .data⟩ (by simp) rfl)
      have g3 := f3 (hd ⟨3, .data⟩ (by simp) rfl)
      subst g3
      rcases g1 with q | ⟨u1, u2, rfl, hr9⟩
      · rw [hL] at q
        cases q
      refine wpOp_step rfl (fun K' hK => ?_)
      go_simp
      refine (mStepHeap_any _ _ _ _ _ _ h o ww (hr9) (by omega) (by omega)).mono ?_
      rw [HH.out, HVB.out]
      rintro e w' ⟨vc, vr, rfl, ⟨rvs, ow⟩, b5⟩
      obtain ⟨A', c', R', d', rfl, rfl, -⟩ := ow.form
      rw [E0.out, E4.out] at ow ⊢
      have ob := ow.base I0.size
      refine hK _ _ ?_
      exact ⟨_, _, _, _, _, _, _, _, _, _, rfl, (I0.trans (b5.mono I0.size)), (kp f0), (fun _ => .inl upd_self), (kp f2), (kp f3), (fun _ => ⟨A', c', R', d', rvs, rfl, ob, upd_self⟩), (fun h => by
        obtain ⟨A', c', R', d', rvs, e, q, l⟩ := f5 (upd_ne h (by decide))
        rw [hL] at l
        cases l), (fun h => by
        obtain ⟨A', c', R', d', rvs, e, q, l⟩ := f6 (upd_ne h (by decide))
        rw [hL] at l
        cases l), (kp f7), (fun h => by
        obtain ⟨g, e, hg, r⟩ := f8 (upd_ne h (by decide))
        exact ⟨g, e, hg, r.imp (fun e => upd_keep e) (fun r => r.keep b5 r.lt)⟩), (fun h => by
        obtain ⟨g, A', c', R', d', rvs, e, hg, r, q, la, lf⟩ := f9 (upd_ne h (by decide))
        rw [hL] at lf
        cases lf), (kp f10)⟩
    · obtain rfl := Option.some.inj ho
      have g4 := f4 (hd ⟨4, .data⟩ (by simp) rfl)
      obtain ⟨A', c', R', d', rvs, rfl, ow, lf⟩ := g4
      refine wpOp_step rfl (fun K' hK => ?_)
      go_simp
      refine hK _ _ ?_
      exact ⟨_, _, _, _, _, _, _, _, _, _, rfl, (I0), (kp f0), (fun h => (f1 (upd_ne h (by decide))).imp (fun e => upd_keep e) id), (kp f2), (kp f3), (fun _ => ⟨A', c', R', d', rvs, rfl, ow, upd_keep lf⟩), (fun _ => ⟨A', c', R', d', rvs, rfl, ow, upd_keep lf⟩), (fun h => by
        obtain ⟨A', c', R', d', rvs, e, q, l⟩ := f6 (upd_ne h (by decide))
        exact ⟨A', c', R', d', rvs, e, q, upd_keep l⟩), (kp f7), (fun h => by
        obtain ⟨g, e, hg, r⟩ := f8 (upd_ne h (by decide))
        exact ⟨g, e, hg, r.imp (fun e => upd_keep e) (fun r => r)⟩), (fun h => by
        obtain ⟨g, A', c', R', d', rvs, e, hg, r, q, la, lf⟩ := f9 (upd_ne h (by decide))
        exact ⟨g, A', c', R', d', rvs, e, hg, r, q, upd_keep la, upd_keep lf⟩), (kp f10)⟩
    · obtain rfl := Option.some.inj ho
      have g5 := f5 (hd ⟨5, .data⟩ (by simp) rfl)
      obtain ⟨A', c', R', d', rvs, rfl, ow, lf⟩ := g5
      refine wpOp_step rfl (fun K' hK => ?_)
      go_simp
      refine hK _ _ ?_
      exact ⟨_, _, _, _, _, _, _, _, _, _, rfl, (I0), (kp f0), (fun h => (f1 (upd_ne h (by decide))).imp (fun e => upd_keep e) id), (kp f2), (kp f3), (fun h => by
        obtain ⟨A', c', R', d', rvs, e, q, l⟩ := f4 (upd_ne h (by decide))
        exact ⟨A', c', R', d', rvs, e, q, upd_keep l⟩), (fun _ => ⟨A', c', R', d', rvs, rfl, ow, upd_keep lf⟩), (fun _ => ⟨A', c', R', d', rvs, rfl, ow, upd_keep lf⟩), (kp f7), (fun h => by
        obtain ⟨g, e, hg, r⟩ := f8 (upd_ne h (by decide))
        exact ⟨g, e, hg, r.imp (fun e => upd_keep e) (fun r => r)⟩), (fun h => by
        obtain ⟨g, A', c', R', d', rvs, e, hg, r, q, la, lf⟩ := f9 (upd_ne h (by decide))
        exact ⟨g, A', c', R', d', rvs, e, hg, r, q, upd_keep la, upd_keep lf⟩), (kp f10)⟩
    · obtain rfl := Option.some.inj ho
      have g5 := f5 (hd ⟨5, .data⟩ (by simp) rfl)
      obtain ⟨A', c', R', d', rvs, rfl, ow, lf⟩ := g5
      refine wpOp_step rfl (fun K' hK => ?_)
      go_simp
      refine hK _ _ ?_
      exact ⟨_, _, _, _, _, _, _, _, _, _, rfl, (I0), (kp f0), (fun h => (f1 (upd_ne h (by decide))).imp (fun e => upd_keep e) id), (kp f2), (kp f3), (fun h => by
        obtain ⟨A', c', R', d', rvs, e, q, l⟩ := f4 (upd_ne h (by decide))
        exact ⟨A', c', R', d', rvs, e, q, upd_keep l⟩), (fun _ => ⟨A', c', R', d', rvs, rfl, ow, upd_keep lf⟩), (fun h => by
        obtain ⟨A', c', R', d', rvs, e, q, l⟩ := f6 (upd_ne h (by decide))
        exact ⟨A', c', R', d', rvs, e, q, upd_keep l⟩), (fun _ => rfl), (fun h => by
        obtain ⟨g, e, hg, r⟩ := f8 (upd_ne h (by decide))
        exact ⟨g, e, hg, r.imp (fun e => upd_keep e) (fun r => r)⟩), (fun h => by
        obtain ⟨g, A', c', R', d', rvs, e, hg, r, q, la, lf⟩ := f9 (upd_ne h (by decide))
        exact ⟨g, A', c', R', d', rvs, e, hg, r, q, upd_keep la, upd_keep lf⟩), (kp f10)⟩
    · obtain rfl := Option.some.inj ho
      have bA : Below ww.heap.size ww (ww.alloc (.cells #[.slice none 0 0, .slice none 0 0] 26)) := (Below.refl _ _).alloc (Nat.le_refl _) _
      refine wpOp_step rfl (fun K' hK => ?_)
      go_simp
      refine hK _ _ ?_
      exact ⟨_, _, _, _, _, _, _, _, _, _, rfl, (I0.trans (bA.mono I0.size)), (kp f0), (fun h => (f1 (upd_ne h (by decide))).imp (fun e => upd_keep e) (fun ⟨u1, u2, e, q⟩ => ⟨u1, u2, e, q.up bA⟩)), (kp f2), (kp f3), (fun h => by
        obtain ⟨A', c', R', d', rvs, e, q, l⟩ := f4 (upd_ne h (by decide))
        exact ⟨A', c', R', d', rvs, e, q.below bA (Nat.le_refl _), upd_keep l⟩), (fun h => by
        obtain ⟨A', c', R', d', rvs, e, q, l⟩ := f5 (upd_ne h (by decide))
        exact ⟨A', c', R', d', rvs, e, q.below bA (Nat.le_refl _), upd_keep l⟩), (fun h => by
        obtain ⟨A', c', R', d', rvs, e, q, l⟩ := f6 (upd_ne h (by decide))
        exact ⟨A', c', R', d', rvs, e, q.below bA (Nat.le_refl _), upd_keep l⟩), (kp f7), (fun _ => ⟨ww.heap.size, rfl, I0.size, .inr (Rw.new ww _ _)⟩), (fun h => by
        obtain ⟨g, A', c', R', d', rvs, e, hg, r, q, la, lf⟩ := f9 (upd_ne h (by decide))
        rw [hL] at la
        cases la), (kp f10)⟩
    · obtain rfl := Option.some.inj ho
      have g6 := f6 (hd ⟨6, .data⟩ (by simp) rfl)
      have g8 := f8 (hd ⟨8, .data⟩ (by simp) rfl)
      obtain ⟨g, rfl, hg, rz⟩ := g8
      rcases rz with q | rz
      · rw [hL] at q
        cases q
      obtain ⟨A', c', R', d', rvs, rfl, ow, lf⟩ := g6
      have u0 := rz.cell 0
      have u1 := rz.cell 1
      have v0 := rz.frozen 0
      have v1 := rz.frozen 1
      simp at u0 u1
      have la := hd ⟨8, .data⟩ (by simp) rfl
      refine wpOp_step rfl (fun K' hK => ?_)
      go_simp
      refine hK _ _ ?_
      exact ⟨_, _, _, _, _, _, _, _, _, _, rfl, ((I0.setCell (p := ⟨g, 0, none⟩) hg _).setCell (p := ⟨g, 1, none⟩) hg _), (kp f0), (fun _ => .inl (upd_keep lf)), (kp f2), (kp f3), (fun h => by
        obtain ⟨A', c', R', d', rvs, e, q, l⟩ := f4 (upd_ne h (by decide))
        exact ⟨A', c', R', d', rvs, e, q.put2 rz _ _, upd_keep l⟩), (fun h => by
        obtain ⟨A', c', R', d', rvs, e, q, l⟩ := f5 (upd_ne h (by decide))
        exact ⟨A', c', R', d', rvs, e, q.put2 rz _ _, upd_keep l⟩), (fun _ => ⟨A', c', R', d', rvs, rfl, ow.put2 rz _ _, upd_keep lf⟩), (kp f7), (fun _ => ⟨g, rfl, hg, .inl upd_self⟩), (fun _ => ⟨g, A', c', R', d', rvs, rfl, hg, (rz.put 0 _).put 1 _, ow.put2 rz _ _, upd_keep la, upd_keep lf⟩), (kp f10)⟩
    · obtain rfl := Option.some.inj ho
      have g7 := f7 (hd ⟨7, .data⟩ (by simp) rfl)
      subst g7
      refine wpOp_step rfl (fun K' hK => ?_)
      go_simp
      refine hK _ _ ?_
      exact ⟨_, _, _, _, _, _, _, _, _, _, rfl, (I0), (kp f0), (fun h => (f1 (upd_ne h (by decide))).imp (fun e => upd_keep e) id), (kp f2), (kp f3), (fun h => by
        obtain ⟨A', c', R', d', rvs, e, q, l⟩ := f4 (upd_ne h (by decide))
        exact ⟨A', c', R', d', rvs, e, q, upd_keep l⟩), (fun h => by
        obtain ⟨A', c', R', d', rvs, e, q, l⟩ := f5 (upd_ne h (by decide))
        exact ⟨A', c', R', d', rvs, e, q, upd_keep l⟩), (fun h => by
        obtain ⟨A', c', R', d', rvs, e, q, l⟩ := f6 (upd_ne h (by decide))
        exact ⟨A', c', R', d', rvs, e, q, upd_keep l⟩), (kp f7), (fun h => by
        obtain ⟨g, e, hg, r⟩ := f8 (upd_ne h (by decide))
        exact ⟨g, e, hg, r.imp (fun e => upd_keep e) (fun r => r)⟩), (fun h => by
        obtain ⟨g, A', c', R', d', rvs, e, hg, r, q, la, lf⟩ := f9 (upd_ne h (by decide))
        exact ⟨g, A', c', R', d', rvs, e, hg, r, q, upd_keep la, upd_keep lf⟩), (fun _ => rfl)⟩
  case hdone =>
    rintro L ac ww hall ⟨t6, t7, t21, t22, t23, t24, t25, t26, t27, t28, rfl, I0, f0, f1, f2, f3, f4, f5, f6, f7, f8, f9, f10⟩
    have e0 := f0 (hall 0 (by decide))
    have e1 := f1 (hall 1 (by decide))
    have e2 := f2 (hall 2 (by decide))
    have e3 := f3 (hall 3 (by decide))
    have e4 := f4 (hall 4 (by decide))
    have e5 := f5 (hall 5 (by decide))
    have e6 := f6 (hall 6 (by decide))
    have e7 := f7 (hall 7 (by decide))
    have e8 := f8 (hall 8 (by decide))
    have e9 := f9 (hall 9 (by decide))
    have e10 := f10 (hall 10 (by decide))
    clear f0 f1 f2 f3 f4 f5 f6 f7 f8 f9 f10
    have ht7 := e10
    obtain ⟨g5, A0, c0, R0, d0, rvs0, ep, hg5, x0, o0, -⟩ := e9
    clear e0 e1 e2 e3 e4 e5 e6 e7 e8 e10 hall
    subst ht7 ep
    have hq1 := hgb
    have bb1 := bbk.trans (I0.mono bbk.size)
    replace q0 := q0.keep I0 q0.lt
    replace q1 := q1.keep I0 q1.lt
    clear xa0 xa1 xb0 xb1 xb2 xb3 hgl hgb bbk I0
    generalize ww = w5 at *
    have hp5 := x0.lt
    have hs5 := bb1.size
    have s1 := hs.up bb1
    have SA := Lib.hid (fun u (hu : u ∈ (Value.slice A0 nn c0) :: (Value.slice R0 mm d0) :: rvs0) k (hk : u.ownBlock = some k) => (o0.blocks hu hk).2)
    have xa0 : w5.cell? ⟨ga, 0, none⟩ = some (.slice A n c) := q0.cell 0
    have xa1 : w5.cell? ⟨ga, 1, none⟩ = some (.slice R m d) := q0.cell 1
    go_wp2_with fail
    refine (toHeap_any _ _ _ _ _ _ h _ s1 (by omega) (by omega) Z3.out).mono ?_
    rintro e w6 ⟨g1, g2, rfl, ⟨rvsx, own⟩, b2⟩
    have bA : Below w6.heap.size w6 (w6.alloc (.cells #[.slice (some ⟨g1, 0, none⟩) n n, .slice (some ⟨g2, 0, none⟩) m m] 26)) := (Below.refl _ _).alloc (Nat.le_refl _) _
    have rx := own.reads.up bA
    have ox := own.below bA (Nat.le_refl _)
    have qx := Rw.new w6 26 #[.slice (some ⟨g1, 0, none⟩) n n, .slice (some ⟨g2, 0, none⟩) m m]
    replace q0 := (q0.keep b2 q0.lt).alloc (.cells #[.slice (some ⟨g1, 0, none⟩) n n, .slice (some ⟨g2, 0, none⟩) m m] 26)
    replace q1 := (q1.keep b2 q1.lt).alloc (.cells #[.slice (some ⟨g1, 0, none⟩) n n, .slice (some ⟨g2, 0, none⟩) m m] 26)
    have bbk := (bb1.trans (b2.mono bb1.size)).trans (bA.mono (bb1.trans (b2.mono bb1.size)).size)
    have hwx := b2.size
    replace x0 := (x0.keep b2 x0.lt).alloc (.cells #[.slice (some ⟨g1, 0, none⟩) n n, .slice (some ⟨g2, 0, none⟩) m m] 26)
    replace o0 := (o0.below b2 (Nat.le_refl _)).below bA (Nat.le_refl _)
    have SX := Lib.hid (fun u (hu : u ∈ (Value.slice (some ⟨g1, 0, none⟩) n n) :: (Value.slice (some ⟨g2, 0, none⟩) m m) :: rvsx) k (hk : u.ownBlock = some k) => own.blocks hu hk)
    clear own bA b2 s1 xa0 xa1
    go_upto_region 7 with fail
    generalize w6.alloc (.cells #[.slice (some ⟨g1, 0, none⟩) n n, .slice (some ⟨g2, 0, none⟩) m m] 26) = w7 at rx ox qx q0 q1 bbk x0 o0 ⊢
    obtain ⟨gx, hgxe⟩ : ∃ gx, w6.heap.size = gx := ⟨_, rfl⟩
    rw [hgxe] at qx hwx SX ⊢
    have hgx := qx.lt
    have hgl := q0.lt
    have hgb := q1.lt
    have xc0 : w7.cell? ⟨gx, 0, none⟩ = some (.slice (some ⟨g1, 0, none⟩) n n) := qx.cell 0
    have xc1 : w7.cell? ⟨gx, 1, none⟩ = some (.slice (some ⟨g2, 0, none⟩) m m) := qx.cell 1
    have xb0 : w7.cell? ⟨ga + 1, 0, none⟩ = some (.int .i64 o.op) := q1.cell 0
    have xb1 : w7.cell? ⟨ga + 1, 1, none⟩ = some (.int .i64 o.a) := q1.cell 1
    have xb2 : w7.cell? ⟨ga + 1, 2, none⟩ = some (.int .i64 o.b) := q1.cell 2
    have xb3 : w7.cell? ⟨ga + 1, 3, none⟩ = some (.int .i64 o.c) := q1.cell 3
    clear hgxe bb1
    refine wp_region_inv (by kernel_rfl) (by kernel_rfl) (fun L ac ww => ∃ t9 t10 t31 t32 t33 t34 t35 t36 t37 : Value, ac = { tmps := #[heapV A n c R m d, cmV o, Value.pointer (some { block := ga, off := 0 }), Value.pointer (some { block := ga + 1, off := 0 }), Value.bool false, Value.int IntKind.i64 lz, Value.pointer (some { block := g5, off := 0 }), Value.bool vb, Value.pointer (some { block := gx, off := 0 }), t9, t10, undef, undef, undef, undef, undef, Value.agg #[Value.slice A n c, Value.slice R m d], Value.int IntKind.i64 1048576, Value.int IntKind.i64 lz, Value.int IntKind.i64 lz, Value.bool false, t21, t22, t23, t24, t25, t26, t27, t28, Value.agg #[Value.slice A n c, Value.slice R m d], heapV (some { block := g1, off := 0 }) n n (some { block := g2, off := 0 }) m m, t31, t32, t33, t34, t35, t36, t37, undef, undef, undef, undef, undef, undef, undef, undef, undef, undef, undef, undef, undef, undef, undef, undef, undef, undef, undef, undef, undef, undef, undef, undef, undef, undef, undef, undef, undef, undef, undef, undef, undef, undef, undef, undef, undef, undef, undef, undef, undef, undef, undef, undef, undef, undef, undef, undef, undef, undef, undef, undef, undef, undef, undef, undef, undef, undef, undef, undef, undef, undef, undef, undef, undef, undef], defers := [] } ∧ (Below w7.heap.size w7 ww) ∧ (L 0 = true → t32 = .agg #[.slice (some ⟨g1, 0, none⟩) n n, .slice (some ⟨g2, 0, none⟩) m m]) ∧ (L 1 = true → t33 = .agg #[.int .i64 o.op, .int .i64 o.a, .int .i64 o.b, .int .i64 o.c]) ∧ (L 2 = true → t34 = .agg #[.int .i64 o.op, .int .i64 o.a, .int .i64 o.b, .int .i64 o.c]) ∧ (L 3 = true → ∃ (A' : Option Addr) (c' : Nat) (R' : Option Addr) (d' : Nat) (rvs : List Value), t35 = .tuple #[.agg #[.slice A' nn c', .slice R' mm d'], .bool vb] ∧ OwnHx ww w7.heap.size (.slice A' nn c') (.slice R' mm d') rvs hh ∧ L 3 = true) ∧ (L 4 = true → ∃ (A' : Option Addr) (c' : Nat) (R' : Option Addr) (d' : Nat) (rvs : List Value), t31 = .tuple #[.agg #[.slice A' nn c', .slice R' mm d'], .bool vb] ∧ OwnHx ww w7.heap.size (.slice A' nn c') (.slice R' mm d') rvs hh ∧ L 3 = true) ∧ (L 5 = true → ∃ (A' : Option Addr) (c' : Nat) (R' : Option Addr) (d' : Nat) (rvs : List Value), t36 = .agg #[.slice A' nn c', .slice R' mm d'] ∧ OwnHx ww w7.heap.size (.slice A' nn c') (.slice R' mm d') rvs hh ∧ L 3 = true) ∧ (L 6 = true → t37 = .bool vb) ∧ (L 7 = true → ∃ g : Nat, t9 = .pointer (some ⟨g, 0, none⟩) ∧ w7.heap.size ≤ g ∧ (L 8 = true ∨ Rw ww g 26 #[.slice none 0 0, .slice none 0 0])) ∧ (L 8 = true → ∃ (g : Nat) (A' : Option Addr) (c' : Nat) (R' : Option Addr) (d' : Nat) (rvs : List Value), t9 = .pointer (some ⟨g, 0, none⟩) ∧ w7.heap.size ≤ g ∧ Rw ww g 26 #[.slice A' nn c', .slice R' mm d'] ∧ OwnHx ww w7.heap.size (.slice A' nn c') (.slice R' mm d') rvs hh ∧ L 7 = true ∧ L 3 = true) ∧ (L 9 = true → t10 = .bool vb)) ?h0 ?hstep ?hdone
    case h0 => exact ⟨_, _, _, _, _, _, _, _, _, rfl, (Below.refl _ _).drew, (fun h => absurd h Bool.false_ne_true), (fun h => absurd h Bool.false_ne_true), (fun h => absurd h Bool.false_ne_true), (fun h => absurd h Bool.false_ne_true), (fun h => absurd h Bool.false_ne_true), (fun h => absurd h Bool.false_ne_true), (fun h => absurd h Bool.false_ne_true), (fun h => absurd h Bool.false_ne_true), (fun h => absurd h Bool.false_ne_true), (fun h => absurd h Bool.false_ne_true)⟩
    case hstep =>
      rintro L ac ww i o ho hL hd ⟨t9, t10, t31, t32, t33, t34, t35, t36, t37, rfl, I0, f0, f1, f2, f3, f4, f5, f6, f7, f8, f9⟩
      have hi : i < 10 := (Array.getElem?_eq_some_iff.1 ho).1
      obtain rfl | rfl | rfl | rfl | rfl | rfl | rfl | rfl | rfl | rfl : i = 0 ∨ i = 1 ∨ i = 2 ∨ i = 3 ∨ i = 4 ∨ i = 5 ∨ i = 6 ∨ i = 7 ∨ i = 8 ∨ i = 9 := by omega
      · obtain rfl := Option.some.inj ho
        have y0 : ww.cell? ⟨gx, 0, none⟩ = some (.slice (some ⟨g1, 0, none⟩) n n) := (I0.cell (p := ⟨gx, 0, none⟩) hgx).trans xc0
        have y1 : ww.cell? ⟨gx, 1, none⟩ = some (.slice (some ⟨g2, 0, none⟩) m m) := (I0.cell (p := ⟨gx, 1, none⟩) hgx).trans xc1
        refine wpOp_step rfl (fun K' hK => ?_)
        go_simp
        refine hK _ _ ?_
        exact ⟨_, _, _, _, _, _, _, _, _, rfl, (I0), (fun _ => rfl), (kp f1), (kp f2), (fun h => by
          obtain ⟨A', c', R', d', rvs, e, q, l⟩ := f3 (upd_ne h (by decide))
          exact ⟨A', c', R', d', rvs, e, q, upd_keep l⟩), (fun h => by
          obtain ⟨A', c', R', d', rvs, e, q, l⟩ := f4 (upd_ne h (by decide))
          exact ⟨A', c', R', d', rvs, e, q, upd_keep l⟩), (fun h => by
          obtain ⟨A', c', R', d', rvs, e, q, l⟩ := f5 (upd_ne h (by decide))
          exact ⟨A', c', R', d', rvs, e, q, upd_keep l⟩), (kp f6), (fun h => by
          obtain ⟨g, e, hg, r⟩ := f7 (upd_ne h (by decide))
          exact ⟨g, e, hg, r.imp (fun e => upd_keep e) (fun r => r)⟩), (fun h => by
          obtain ⟨g, A', c', R', d', rvs, e, hg, r, q, la, lf⟩ := f8 (upd_ne h (by decide))
          exact ⟨g, A', c', R', d', rvs, e, hg, r, q, upd_keep la, upd_keep lf⟩), (kp f9)⟩
      · obtain rfl := Option.some.inj ho
        have y0 : ww.cell? ⟨ga + 1, 0, none⟩ = some (.int .i64 o.op) := (I0.cell (p := ⟨ga + 1, 0, none⟩) hgb).trans xb0
        have y1 : ww.cell? ⟨ga + 1, 1, none⟩ = some (.int .i64 o.a) := (I0.cell (p := ⟨ga + 1, 1, none⟩) hgb).trans xb1
        have y2 : ww.cell? ⟨ga + 1, 2, none⟩ = some (.int .i64 o.b) := (I0.cell (p := ⟨ga + 1, 2, none⟩) hgb).trans xb2
        have y3 : ww.cell? ⟨ga + 1, 3, none⟩ = some (.int .i64 o.c) := (I0.cell (p := ⟨ga + 1, 3, none⟩) hgb).trans xb3
        refine wpOp_step rfl (fun K' hK => ?_)
        go_simp
        refine hK _ _ ?_
        exact ⟨_, _, _, _, _, _, _, _, _, rfl, (I0), (kp f0), (fun _ => rfl), (kp f2), (fun h => by
          obtain ⟨A', c', R', d', rvs, e, q, l⟩ := f3 (upd_ne h (by decide))
          exact ⟨A', c', R', d', rvs, e, q, upd_keep l⟩), (fun h => by
          obtain ⟨A', c', R', d', rvs, e, q, l⟩ := f4 (upd_ne h (by decide))
          exact ⟨A', c', R', d', rvs, e, q, upd_keep l⟩), (fun h => by
          obtain ⟨A', c', R', d', rvs, e, q, l⟩ := f5 (upd_ne h (by decide))
          exact ⟨A', c', R', d', rvs, e, q, upd_keep l⟩), (kp f6), (fun h => by
          obtain ⟨g, e, hg, r⟩ := f7 (upd_ne h (by decide))
          exact ⟨g, e, hg, r.imp (fun e => upd_keep e) (fun r => r)⟩), (fun h => by
          obtain ⟨g, A', c', R', d', rvs, e, hg, r, q, la, lf⟩ := f8 (upd_ne h (by decide))
          exact ⟨g, A', c', R', d', rvs, e, hg, r, q, upd_keep la, upd_keep lf⟩), (kp f9)⟩
      · obtain rfl := Option.some.inj ho
        have g1 := f1 (hd ⟨1, .data⟩ (by simp) rfl)
        subst g1
        refine wpOp_step rfl (fun K' hK => ?_)
        go_simp
        refine (toCommand_any o ww).mono ?_
        rintro e w' ⟨rfl, b5⟩
        refine hK _ _ ?_
        exact ⟨_, _, _, _, _, _, _, _, _, rfl, (I0.trans (b5.mono I0.size)), (kp f0), (kp f1), (fun _ => rfl), (fun h => by
          obtain ⟨A', c', R', d', rvs, e, q, l⟩ := f3 (upd_ne h (by decide))
          exact ⟨A', c', R', d', rvs, e, q.below b5 (Nat.le_refl _), upd_keep l⟩), (fun h => by
          obtain ⟨A', c', R', d', rvs, e, q, l⟩ := f4 (upd_ne h (by decide))
          exact ⟨A', c', R', d', rvs, e, q.below b5 (Nat.le_refl _), upd_keep l⟩), (fun h => by
          obtain ⟨A', c', R', d', rvs, e, q, l⟩ := f5 (upd_ne h (by decide))
          exact ⟨A', c', R', d', rvs, e, q.below b5 (Nat.le_refl _), upd_keep l⟩), (kp f6), (fun h => by
          obtain ⟨g, e, hg, r⟩ := f7 (upd_ne h (by decide))
          exact ⟨g, e, hg, r.imp (fun e => upd_keep e) (fun r => r.keep b5 r.lt)⟩), (fun h => by
          obtain ⟨g, A', c', R', d', rvs, e, hg, r, q, la, lf⟩ := f8 (upd_ne h (by decide))
          exact ⟨g, A', c', R', d', rvs, e, hg, r.keep b5 r.lt, q.below b5 (Nat.le_refl _), upd_keep la, upd_keep lf⟩), (kp f9)⟩
      · obtain rfl := Option.some.inj ho
        have g0 := f0 (hd ⟨0, .data⟩ (by simp) rfl)
        have g2 := f2 (hd ⟨2, .data⟩ (by simp) rfl)
        subst g0
        subst g2
        refine wpOp_step rfl (fun K' hK => ?_)
        go_simp
        refine (stepHeap_any _ _ _ _ _ _ h o ww (rx.up I0) (by omega) (by omega) (Nat.le_refl _) (Nat.le_refl _)).mono ?_
        rw [HH.out, HVB.out]
        rintro e w' ⟨vc, vr, rfl, ⟨rvs, ow⟩, b5⟩
        obtain ⟨A', c', R', d', rfl, rfl, -⟩ := ow.form
        rw [E0.out, E4.out] at ow ⊢
        have ob := ow.base I0.size
        refine hK _ _ ?_
        exact ⟨_, _, _, _, _, _, _, _, _, rfl, (I0.trans (b5.mono I0.size)), (kp f0), (kp f1), (kp f2), (fun _ => ⟨A', c', R', d', rvs, rfl, ob, upd_self⟩), (fun h => by
          obtain ⟨A', c', R', d', rvs, e, q, l⟩ := f4 (upd_ne h (by decide))
          rw [hL] at l
          cases l), (fun h => by
          obtain ⟨A', c', R', d', rvs, e, q, l⟩ := f5 (upd_ne h (by decide))
          rw [hL] at l
          cases l), (kp f6), (fun h => by
          obtain ⟨g, e, hg, r⟩ := f7 (upd_ne h (by decide))
          exact ⟨g, e, hg, r.imp (fun e => upd_keep e) (fun r => r.keep b5 r.lt)⟩), (fun h => by
          obtain ⟨g, A', c', R', d', rvs, e, hg, r, q, la, lf⟩ := f8 (upd_ne h (by decide))
          rw [hL] at lf
          cases lf), (kp f9)⟩
      · obtain rfl := Option.some.inj ho
        have g3 := f3 (hd ⟨3, .data⟩ (by simp) rfl)
        obtain ⟨A', c', R', d', rvs, rfl, ow, lf⟩ := g3
        refine wpOp_step rfl (fun K' hK => ?_)
        go_simp
        refine hK _ _ ?_
        exact ⟨_, _, _, _, _, _, _, _, _, rfl, (I0), (kp f0), (kp f1), (kp f2), (fun _ => ⟨A', c', R', d', rvs, rfl, ow, upd_keep lf⟩), (fun _ => ⟨A', c', R', d', rvs, rfl, ow, upd_keep lf⟩), (fun h => by
          obtain ⟨A', c', R', d', rvs, e, q, l⟩ := f5 (upd_ne h (by decide))
          exact ⟨A', c', R', d', rvs, e, q, upd_keep l⟩), (kp f6), (fun h => by
          obtain ⟨g, e, hg, r⟩ := f7 (upd_ne h (by decide))
          exact ⟨g, e, hg, r.imp (fun e => upd_keep e) (fun r => r)⟩), (fun h => by
          obtain ⟨g, A', c', R', d', rvs, e, hg, r, q, la, lf⟩ := f8 (upd_ne h (by decide))
          exact ⟨g, A', c', R', d', rvs, e, hg, r, q, upd_keep la, upd_keep lf⟩), (kp f9)⟩
      · obtain rfl := Option.some.inj ho
        have g4 := f4 (hd ⟨4, .data⟩ (by simp) rfl)
        obtain ⟨A', c', R', d', rvs, rfl, ow, lf⟩ := g4
        refine wpOp_step rfl (fun K' hK => ?_)
        go_simp
        refine hK _ _ ?_
        exact ⟨_, _, _, _, _, _, _, _, _, rfl, (I0), (kp f0), (kp f1), (kp f2), (fun h => by
          obtain ⟨A', c', R', d', rvs, e, q, l⟩ := f3 (upd_ne h (by decide))
          exact ⟨A', c', R', d', rvs, e, q, upd_keep l⟩), (fun _ => ⟨A', c', R', d', rvs, rfl, ow, upd_keep lf⟩), (fun _ => ⟨A', c', R', d', rvs, rfl, ow, upd_keep lf⟩), (kp f6), (fun h => by
          obtain ⟨g, e, hg, r⟩ := f7 (upd_ne h (by decide))
          exact ⟨g, e, hg, r.imp (fun e => upd_keep e) (fun r => r)⟩), (fun h => by
          obtain ⟨g, A', c', R', d', rvs, e, hg, r, q, la, lf⟩ := f8 (upd_ne h (by decide))
          exact ⟨g, A', c', R', d', rvs, e, hg, r, q, upd_keep la, upd_keep lf⟩), (kp f9)⟩
      · obtain rfl := Option.some.inj ho
        have g4 := f4 (hd ⟨4, .data⟩ (by simp) rfl)
        obtain ⟨A', c', R', d', rvs, rfl, ow, lf⟩ := g4
        refine wpOp_step rfl (fun K' hK => ?_)
        go_simp
        refine hK _ _ ?_
        exact ⟨_, _, _, _, _, _, _, _, _, rfl, (I0), (kp f0), (kp f1), (kp f2), (fun h => by
          obtain ⟨A', c', R', d', rvs, e, q, l⟩ := f3 (upd_ne h (by decide))
          exact ⟨A', c', R', d', rvs, e, q, upd_keep l⟩), (fun _ => ⟨A', c', R', d', rvs, rfl, ow, upd_keep lf⟩), (fun h => by
          obtain ⟨A', c', R', d', rvs, e, q, l⟩ := f5 (upd_ne h (by decide))
          exact ⟨A', c', R', d', rvs, e, q, upd_keep l⟩), (fun _ => rfl), (fun h => by
          obtain ⟨g, e, hg, r⟩ := f7 (upd_ne h (by decide))
          exact ⟨g, e, hg, r.imp (fun e => upd_keep e) (fun r => r)⟩), (fun h => by
          obtain ⟨g, A', c', R', d', rvs, e, hg, r, q, la, lf⟩ := f8 (upd_ne h (by decide))
          exact ⟨g, A', c', R', d', rvs, e, hg, r, q, upd_keep la, upd_keep lf⟩), (kp f9)⟩
      · obtain rfl := Option.some.inj ho
        have bA : Below ww.heap.size ww (ww.alloc (.cells #[.slice none 0 0, .slice none 0 0] 26)) := (Below.refl _ _).alloc (Nat.le_refl _) _
        refine wpOp_step rfl (fun K' hK => ?_)
        go_simp
        refine hK _ _ ?_
        exact ⟨_, _, _, _, _, _, _, _, _, rfl, (I0.trans (bA.mono I0.size)), (kp f0), (kp f1), (kp f2), (fun h => by
          obtain ⟨A', c', R', d', rvs, e, q, l⟩ := f3 (upd_ne h (by decide))
          exact ⟨A', c', R', d', rvs, e, q.below bA (Nat.le_refl _), upd_keep l⟩), (fun h => by
          obtain ⟨A', c', R', d', rvs, e, q, l⟩ := f4 (upd_ne h (by decide))
          exact ⟨A', c', R', d', rvs, e, q.below bA (Nat.le_refl _), upd_keep l⟩), (fun h => by
          obtain ⟨A', c', R', d', rvs, e, q, l⟩ := f5 (upd_ne h (by decide))
          exact ⟨A', c', R', d', rvs, e, q.below bA (Nat.le_refl _), upd_keep l⟩), (kp f6), (fun _ => ⟨ww.heap.size, rfl, I0.size, .inr (Rw.new ww _ _)⟩), (fun h => by
          obtain ⟨g, A', c', R', d', rvs, e, hg, r, q, la, lf⟩ := f8 (upd_ne h (by decide))
          rw [hL] at la
          cases la), (kp f9)⟩
      · obtain rfl := Option.some.inj ho
        have g5 := f5 (hd ⟨5, .data⟩ (by simp) rfl)
        have g7 := f7 (hd ⟨7, .data⟩ (by simp) rfl)
        obtain ⟨g, rfl, hg, rz⟩ := g7
        rcases rz with q | rz
        · rw [hL] at q
          cases q
        obtain ⟨A', c', R', d', rvs, rfl, ow, lf⟩ := g5
        have u0 := rz.cell 0
        have u1 := rz.cell 1
        have v0 := rz.frozen 0
        have v1 := rz.frozen 1
        simp at u0 u1
        have la := hd ⟨7, .data⟩ (by simp) rfl
        refine wpOp_step rfl (fun K' hK => ?_)
        go_simp
        refine hK _ _ ?_
        exact ⟨_, _, _, _, _, _, _, _, _, rfl, ((I0.setCell (p := ⟨g, 0, none⟩) hg _).setCell (p := ⟨g, 1, none⟩) hg _), (kp f0), (kp f1), (kp f2), (fun h => by
          obtain ⟨A', c', R', d', rvs, e, q, l⟩ := f3 (upd_ne h (by decide))
          exact ⟨A', c', R', d', rvs, e, q.put2 rz _ _, upd_keep l⟩), (fun h => by
          obtain ⟨A', c', R', d', rvs, e, q, l⟩ := f4 (upd_ne h (by decide))
          exact ⟨A', c', R', d', rvs, e, q.put2 rz _ _, upd_keep l⟩), (fun _ => ⟨A', c', R', d', rvs, rfl, ow.put2 rz _ _, upd_keep lf⟩), (kp f6), (fun _ => ⟨g, rfl, hg, .inl upd_self⟩), (fun _ => ⟨g, A', c', R', d', rvs, rfl, hg, (rz.put 0 _).put 1 _, ow.put2 rz _ _, upd_keep la, upd_keep lf⟩), (kp f9)⟩
      · obtain rfl := Option.some.inj ho
        have g6 := f6 (hd ⟨6, .data⟩ (by simp) rfl)
        subst g6
        refine wpOp_step rfl (fun K' hK => ?_)
        go_simp
        refine hK _ _ ?_
        exact ⟨_, _, _, _, _, _, _, _, _, rfl, (I0), (kp f0), (kp f1), (kp f2), (fun h => by
          obtain ⟨A', c', R', d', rvs, e, q, l⟩ := f3 (upd_ne h (by decide))
          exact ⟨A', c', R', d', rvs, e, q, upd_keep l⟩), (fun h => by
          obtain ⟨A', c', R', d', rvs, e, q, l⟩ := f4 (upd_ne h (by decide))
          exact ⟨A', c', R', d', rvs, e, q, upd_keep l⟩), (fun h => by
          obtain ⟨A', c', R', d', rvs, e, q, l⟩ := f5 (upd_ne h (by decide))
          exact ⟨A', c', R', d', rvs, e, q, upd_keep l⟩), (kp f6), (fun h => by
          obtain ⟨g, e, hg, r⟩ := f7 (upd_ne h (by decide))
          exact ⟨g, e, hg, r.imp (fun e => upd_keep e) (fun r => r)⟩), (fun h => by
          obtain ⟨g, A', c', R', d', rvs, e, hg, r, q, la, lf⟩ := f8 (upd_ne h (by decide))
          exact ⟨g, A', c', R', d', rvs, e, hg, r, q, upd_keep la, upd_keep lf⟩), (fun _ => rfl)⟩
    case hdone =>
      rintro L ac ww hall ⟨t9, t10, t31, t32, t33, t34, t35, t36, t37, rfl, I0, f0, f1, f2, f3, f4, f5, f6, f7, f8, f9⟩
      have e0 := f0 (hall 0 (by decide))
      have e1 := f1 (hall 1 (by decide))
      have e2 := f2 (hall 2 (by decide))
      have e3 := f3 (hall 3 (by decide))
      have e4 := f4 (hall 4 (by decide))
      have e5 := f5 (hall 5 (by decide))
      have e6 := f6 (hall 6 (by decide))
      have e7 := f7 (hall 7 (by decide))
      have e8 := f8 (hall 8 (by decide))
      have e9 := f9 (hall 9 (by decide))
      clear f0 f1 f2 f3 f4 f5 f6 f7 f8 f9
      have ht10 := e9
      obtain ⟨g9, A1, c1, R1, d1, rvs1, ep, hg9, x1, o1, -⟩ := e8
      clear e0 e1 e2 e3 e4 e5 e6 e7 e9 hall
      subst ht10 ep
      have SB := Lib.hid (fun u (hu : u ∈ (Value.slice A1 nn c1) :: (Value.slice R1 mm d1) :: rvs1) k (hk : u.ownBlock = some k) => o1.blocks hu hk)
      replace bbk := bbk.trans (I0.mono bbk.size)
      replace q0 := q0.keep I0 q0.lt
      replace q1 := q1.keep I0 q1.lt
      replace qx := qx.keep I0 qx.lt
      replace x0 := x0.keep I0 x0.lt
      replace o0 := o0.below I0 (Nat.le_refl _)
      replace ox := ox.below I0 (Nat.le_refl _)
      have hw7 := hgx
      have S01 := Lib.hid (fun v (hv : v ∈ (Value.slice A0 nn c0) :: (Value.slice R0 mm d0) :: rvs0) u (hu : u ∈ (Value.slice A1 nn c1) :: (Value.slice R1 mm d1) :: rvs1) => show v.ownBlock = none ∨ v.ownBlock ≠ u.ownBlock by
        cases e : v.ownBlock with
        | none => exact .inl rfl
        | some k =>
          right
          intro e'
          have h1 := SA.out v hv k e
          have h2 := (SB.out u hu k e'.symm).1
          omega)
      have S0X := Lib.hid (fun v (hv : v ∈ (Value.slice A0 nn c0) :: (Value.slice R0 mm d0) :: rvs0) u (hu : u ∈ (Value.slice (some ⟨g1, 0, none⟩) n n) :: (Value.slice (some ⟨g2, 0, none⟩) m m) :: rvsx) => show v.ownBlock = none ∨ v.ownBlock ≠ u.ownBlock by
        cases e : v.ownBlock with
        | none => exact .inl rfl
        | some k =>
          right
          intro e'
          have h1 := SA.out v hv k e
          have h2 := (SX.out u hu k e'.symm).1
          omega)
      have S1X := Lib.hid (fun v (hv : v ∈ (Value.slice A1 nn c1) :: (Value.slice R1 mm d1) :: rvs1) u (hu : u ∈ (Value.slice (some ⟨g1, 0, none⟩) n n) :: (Value.slice (some ⟨g2, 0, none⟩) m m) :: rvsx) => show v.ownBlock = none ∨ v.ownBlock ≠ u.ownBlock by
        cases e : v.ownBlock with
        | none => exact .inl rfl
        | some k =>
          right
          intro e'
          have h1 := (SB.out v hv k e).1
          have h2 := (SX.out u hu k e'.symm).2
          omega)
      clear xb0 xb1 xb2 xb3 xc0 xc1 hgl hgb hgx I0
      generalize ww = w8 at *
      have y0 : w8.cell? ⟨g5, 0, none⟩ = some (.slice A0 nn c0) := x0.cell 0
      have y1 : w8.cell? ⟨g5, 1, none⟩ = some (.slice R0 mm d0) := x0.cell 1
      have y2 : w8.cell? ⟨g9, 0, none⟩ = some (.slice A1 nn c1) := x1.cell 0
      have y3 : w8.cell? ⟨g9, 1, none⟩ = some (.slice R1 mm d1) := x1.cell 1
      go_wp2_with fail
      refine (eqHeap_any _ _ _ _ _ _ _ _ _ _ _ _ hh hh _ o1.reads o0.reads (by omega) (by omega) (by omega) (by omega) H3.out H3.out).mono ?_
      rw [decide_eq_true rfl]
      rintro e w9 ⟨rfl, b9⟩
      replace o0 := o0.below b9 (Nat.le_refl _)
      replace o1 := o1.below b9 (Nat.le_refl _)
      replace ox := ox.below b9 (Nat.le_refl _)
      replace x0 := x0.keep b9 x0.lt
      replace x1 := x1.keep b9 x1.lt
      replace qx := qx.keep b9 qx.lt
      replace q0 := q0.keep b9 q0.lt
      replace q1 := q1.keep b9 q1.lt
      replace bbk := bbk.trans (b9.mono bbk.size)
      clear b9 y0 y1 y2 y3 rx
      have rx := ox.reads
      have hgx := qx.lt
      have hgl := q0.lt
      have xa0 : w9.cell? ⟨ga, 0, none⟩ = some (.slice A n c) := q0.cell 0
      have xa1 : w9.cell? ⟨ga, 1, none⟩ = some (.slice R m d) := q0.cell 1
      have xc0 : w9.cell? ⟨gx, 0, none⟩ = some (.slice (some ⟨g1, 0, none⟩) n n) := qx.cell 0
      have xc1 : w9.cell? ⟨gx, 1, none⟩ = some (.slice (some ⟨g2, 0, none⟩) m m) := qx.cell 1
      go_upto_region 10 with fail
      refine wp_region_inv (by kernel_rfl) (by kernel_rfl) (fun L ac ww => ∃ t47 t48 t49 t50 t51 : Value, ac = { tmps := #[heapV A n c R m d, cmV o, Value.pointer (some { block := ga, off := 0 }), Value.pointer (some { block := ga + 1, off := 0 }), Value.bool false, Value.int IntKind.i64 lz, Value.pointer (some { block := g5, off := 0 }), Value.bool vb, Value.pointer (some { block := gx, off := 0 }), Value.pointer (some { block := g9, off := 0 }), Value.bool vb, undef, undef, undef, undef, undef, Value.agg #[Value.slice A n c, Value.slice R m d], Value.int IntKind.i64 1048576, Value.int IntKind.i64 lz, Value.int IntKind.i64 lz, Value.bool false, t21, t22, t23, t24, t25, t26, t27, t28, Value.agg #[Value.slice A n c, Value.slice R m d], heapV (some { block := g1, off := 0 }) n n (some { block := g2, off := 0 }) m m, t31, t32, t33, t34, t35, t36, t37, Value.agg #[Value.slice A1 nn c1, Value.slice R1 mm d1], Value.agg #[Value.slice A0 nn c0, Value.slice R0 mm d0], Value.bool true, Value.bool false, Value.bool false, Value.bool vb, Value.bool vb, Value.bool false, Value.bool false, t47, t48, t49, t50, t51, undef, undef, undef, undef, undef, undef, undef, undef, undef, undef, undef, undef, undef, undef, undef, undef, undef, undef, undef, undef, undef, undef, undef, undef, undef, undef, undef, undef, undef, undef, undef, undef, undef, undef, undef, undef, undef, undef, undef, undef, undef, undef, undef, undef, undef, undef, undef, undef, undef, undef, undef, undef], defers := [] } ∧ (Below w9.heap.size w9 ww) ∧ (L 0 = true → t47 = .agg #[.slice (some ⟨g1, 0, none⟩) n n, .slice (some ⟨g2, 0, none⟩) m m]) ∧ (L 1 = true → t48 = .agg #[.slice A n c, .slice R m d]) ∧ (L 2 = true → ∃ u1 u2 : Nat, t49 = .agg #[.slice (some ⟨u1, 0, none⟩) n n, .slice (some ⟨u2, 0, none⟩) m m] ∧ HS ww ww.heap.size (some ⟨u1, 0, none⟩) n (some ⟨u2, 0, none⟩) m h) ∧ (L 3 = true → t50 = .bool true) ∧ (L 4 = true → t51 = .bool false)) ?h0 ?hstep ?hdone
      case h0 => exact ⟨_, _, _, _, _, rfl, (Below.refl _ _).drew, (fun h => absurd h Bool.false_ne_true), (fun h => absurd h Bool.false_ne_true), (fun h => absurd h Bool.false_ne_true), (fun h => absurd h Bool.false_ne_true), (fun h => absurd h Bool.false_ne_true)⟩
      case hstep =>
        rintro L ac ww i o ho hL hd ⟨t47, t48, t49, t50, t51, rfl, I0, f0, f1, f2, f3, f4⟩
        have hi : i < 5 := (Array.getElem?_eq_some_iff.1 ho).1
        obtain rfl | rfl | rfl | rfl | rfl : i = 0 ∨ i = 1 ∨ i = 2 ∨ i = 3 ∨ i = 4 := by omega
        · obtain rfl := Option.some.inj ho
          have y0 : ww.cell? ⟨gx, 0, none⟩ = some (.slice (some ⟨g1, 0, none⟩) n n) := (I0.cell (p := ⟨gx, 0, none⟩) hgx).trans xc0
          have y1 : ww.cell? ⟨gx, 1, none⟩ = some (.slice (some ⟨g2, 0, none⟩) m m) := (I0.cell (p := ⟨gx, 1, none⟩) hgx).trans xc1
          refine wpOp_step rfl (fun K' hK => ?_)
          go_simp
          refine hK _ _ ?_
          exact ⟨_, _, _, _, _, rfl, (I0), (fun _ => rfl), (kp f1), (kp f2), (kp f3), (kp f4)⟩
        · obtain rfl := Option.some.inj ho
          have y0 : ww.cell? ⟨ga, 0, none⟩ = some (.slice A n c) := (I0.cell (p := ⟨ga, 0, none⟩) hgl).trans xa0
          have y1 : ww.cell? ⟨ga, 1, none⟩ = some (.slice R m d) := (I0.cell (p := ⟨ga, 1, none⟩) hgl).trans xa1
          refine wpOp_step rfl (fun K' hK => ?_)
          go_simp
          refine hK _ _ ?_
          exact ⟨_, _, _, _, _, rfl, (I0), (kp f0), (fun _ => rfl), (kp f2), (kp f3), (kp f4)⟩
        · obtain rfl := Option.some.inj ho
          have g1 := f1 (hd ⟨1, .data⟩ (by simp) rfl)
          subst g1
          refine wpOp_step rfl (fun K' hK => ?_)
          go_simp
          refine (toHeap_any _ _ _ _ _ _ h ww (hs.up (bbk.trans (I0.mono bbk.size))) (by omega) (by omega) Z3.out).mono ?_
          rintro e w' ⟨u1, u2, rfl, ⟨rv, ow⟩, b5⟩
          have hr9 := ow.reads
          refine hK _ _ ?_
          exact ⟨_, _, _, _, _, rfl, (I0.trans (b5.mono I0.size)), (kp f0), (kp f1), (fun _ => ⟨u1, u2, rfl, hr9⟩), (kp f3), (kp f4)⟩
        · obtain rfl := Option.some.inj ho
          have g0 := f0 (hd ⟨0, .data⟩ (by simp) rfl)
          have g2 := f2 (hd ⟨2, .data⟩ (by simp) rfl)
          subst g0
          obtain ⟨u1, u2, rfl, hr9⟩ := g2
          refine wpOp_step rfl (fun K' hK => ?_)
          go_simp
          refine (eqHeap_any _ _ _ _ _ _ _ _ _ _ _ _ h h ww (rx.up I0) hr9 (by omega) (by omega) (by omega) (by omega) Z3.out Z3.out).mono ?_
          rw [decide_eq_true rfl]
          rintro e w' ⟨rfl, b5⟩
          refine hK _ _ ?_
          exact ⟨_, _, _, _, _, rfl, (I0.trans (b5.mono I0.size)), (kp f0), (kp f1), (fun _ => ⟨u1, u2, rfl, hr9.up b5⟩), (fun _ => rfl), (kp f4)⟩
        · obtain rfl := Option.some.inj ho
          have g3 := f3 (hd ⟨3, .data⟩ (by simp) rfl)
          subst g3
          refine wpOp_step rfl (fun K' hK => ?_)
          go_simp
          refine hK _ _ ?_
          exact ⟨_, _, _, _, _, rfl, (I0), (kp f0), (kp f1), (kp f2), (kp f3), (fun _ => rfl)⟩
      case hdone =>
        rintro L ac ww hall ⟨t47, t48, t49, t50, t51, rfl, I0, f0, f1, f2, f3, f4⟩
        have e0 := f0 (hall 0 (by decide))
        have e1 := f1 (hall 1 (by decide))
        have e2 := f2 (hall 2 (by decide))
        have e3 := f3 (hall 3 (by decide))
        have e4 := f4 (hall 4 (by decide))
        clear f0 f1 f2 f3 f4
        subst e3 e4
        clear e0 e1 e2 hall
        replace o0 := o0.below I0 (Nat.le_refl _)
        replace o1 := o1.below I0 (Nat.le_refl _)
        replace ox := ox.below I0 (Nat.le_refl _)
        replace x0 := x0.keep I0 x0.lt
        replace x1 := x1.keep I0 x1.lt
        replace qx := qx.keep I0 qx.lt
        replace q0 := q0.keep I0 q0.lt
        replace q1 := q1.keep I0 q1.lt
        replace bbk := bbk.trans (I0.mono bbk.size)
        clear xa0 xa1 xc0 xc1 I0 rx hgx hgl
        generalize ww = w10 at *
        have xc0 : w10.cell? ⟨gx, 0, none⟩ = some (.slice (some ⟨g1, 0, none⟩) n n) := qx.cell 0
        have xc1 : w10.cell? ⟨gx, 1, none⟩ = some (.slice (some ⟨g2, 0, none⟩) m m) := qx.cell 1
        have APX := ox.apart_box qx
        go_wp2_with fail
        refine (markHeap_any _ _ rvsx h _ _ _ ox (by omega) (by omega) HZX.out).mono ?_
        rw [HKX.out]
        rintro e w11 ⟨rfl, -, tx⟩
        replace o0 := o0.touched' tx S0X.out
        replace o1 := o1.touched' tx S1X.out
        replace x0 := x0.touched tx (fun u hu e => by have := (SX.out u hu _ e).1; omega)
        replace x1 := x1.touched tx (fun u hu e => by have := (SX.out u hu _ e).2; omega)
        replace q0 := q0.touched tx (fun u hu e => by have := (SX.out u hu _ e).1; omega)
        replace q1 := q1.touched tx (fun u hu e => by have := (SX.out u hu _ e).1; omega)
        replace bbk : Below w.heap.size w w11 := tx.below bbk bbk.size (fun u hu k hk => by have := (SX.out u hu k hk).1; omega)
        clear ox qx tx xc0 xc1 APX
        have y0 : w11.cell? ⟨g5, 0, none⟩ = some (.slice A0 nn c0) := x0.cell 0
        have y1 : w11.cell? ⟨g5, 1, none⟩ = some (.slice R0 mm d0) := x0.cell 1
        have y2 : w11.cell? ⟨g9, 0, none⟩ = some (.slice A1 nn c1) := x1.cell 0
        have y3 : w11.cell? ⟨g9, 1, none⟩ = some (.slice R1 mm d1) := x1.cell 1
        go_wp2_with fail
        refine (eqHeap_any _ _ _ _ _ _ _ _ _ _ _ _ hh hh _ o1.reads o0.reads (by omega) (by omega) (by omega) (by omega) H3.out H3.out).mono ?_
        rw [decide_eq_true rfl]
        rintro e w12 ⟨rfl, b12⟩
        replace o0 := o0.below b12 (Nat.le_refl _)
        replace o1 := o1.below b12 (Nat.le_refl _)
        replace x0 := x0.keep b12 x0.lt
        replace x1 := x1.keep b12 x1.lt
        replace q0 := q0.keep b12 q0.lt
        replace q1 := q1.keep b12 q1.lt
        replace bbk := bbk.trans (b12.mono bbk.size)
        clear b12 y0 y1 y2 y3
        have y2 : w12.cell? ⟨g9, 0, none⟩ = some (.slice A1 nn c1) := x1.cell 0
        have y3 : w12.cell? ⟨g9, 1, none⟩ = some (.slice R1 mm d1) := x1.cell 1
        have AP1 := o1.apart_box x1
        go_wp2_with fail
        refine (markHeap_any _ _ rvs1 hh _ _ _ o1 (by omega) (by omega) HSZ.out).mono ?_
        rw [HKV.out]
        rintro e w13 ⟨rfl, m6, t6⟩
        replace o0 := o0.touched' t6 S01.out
        replace x0 := x0.touched t6 (fun u hu e => by have := (SB.out u hu _ e).1; omega)
        replace x1 := x1.touched t6 (fun u hu e => by rcases AP1 u hu with h1 | h1; rw [h1] at e; cases e; exact h1 e)
        replace q0 := q0.touched t6 (fun u hu e => by have := (SB.out u hu _ e).1; omega)
        replace q1 := q1.touched t6 (fun u hu e => by have := (SB.out u hu _ e).1; omega)
        replace bbk : Below w.heap.size w w13 := t6.below bbk bbk.size (fun u hu k hk => by have := (SB.out u hu k hk).1; omega)
        have r6 := m6.reads
        clear o1 t6 m6 y2 y3 AP1
        have y2 : w13.cell? ⟨g9, 0, none⟩ = some (.slice A1 nn c1) := x1.cell 0
        have y3 : w13.cell? ⟨g9, 1, none⟩ = some (.slice R1 mm d1) := x1.cell 1
        go_wp2_with fail
        refine (heldHeap_any _ _ _ _ _ _ hh _ _ r6 E0.out E4.out (by omega) (by omega) HSZ.out).mono ?_
        rw [HKV.out]
        rintro e w14 ⟨rfl, b14⟩
        replace o0 := o0.below b14 (Nat.le_refl _)
        replace x0 := x0.keep b14 x0.lt
        replace x1 := x1.keep b14 x1.lt
        replace q0 := q0.keep b14 q0.lt
        replace q1 := q1.keep b14 q1.lt
        replace r6 := r6.up b14
        replace bbk := bbk.trans (b14.mono bbk.size)
        clear b14 y2 y3
        have hgl := q0.lt
        have hgb := q1.lt
        have xa0 : w14.cell? ⟨ga, 0, none⟩ = some (.slice A n c) := q0.cell 0
        have xa1 : w14.cell? ⟨ga, 1, none⟩ = some (.slice R m d) := q0.cell 1
        have xb0 : w14.cell? ⟨ga + 1, 0, none⟩ = some (.int .i64 o.op) := q1.cell 0
        have xb1 : w14.cell? ⟨ga + 1, 1, none⟩ = some (.int .i64 o.a) := q1.cell 1
        have xb2 : w14.cell? ⟨ga + 1, 2, none⟩ = some (.int .i64 o.b) := q1.cell 2
        have xb3 : w14.cell? ⟨ga + 1, 3, none⟩ = some (.int .i64 o.c) := q1.cell 3
        clear hg5 hg9 S0X S1X SX
        go_upto_region 24 with fail
        refine wp_region_inv (by kernel_rfl) (by kernel_rfl) (fun L ac ww => ∃ t14 t15 t79 t80 t81 t82 t83 t84 t85 t86 : Value, ac = { tmps := #[heapV A n c R m d, cmV o, Value.pointer (some { block := ga, off := 0 }), Value.pointer (some { block := ga + 1, off := 0 }), Value.bool false, Value.int IntKind.i64 lz, Value.pointer (some { block := g5, off := 0 }), Value.bool vb, Value.pointer (some { block := gx, off := 0 }), Value.pointer (some { block := g9, off := 0 }), Value.bool vb, Value.int IntKind.i64 kx, Value.int IntKind.i64 kv, Value.int IntKind.i64 kv, t14, t15, Value.agg #[Value.slice A n c, Value.slice R m d], Value.int IntKind.i64 1048576, Value.int IntKind.i64 lz, Value.int IntKind.i64 lz, Value.bool false, t21, t22, t23, t24, t25, t26, t27, t28, Value.agg #[Value.slice A n c, Value.slice R m d], heapV (some { block := g1, off := 0 }) n n (some { block := g2, off := 0 }) m m, t31, t32, t33, t34, t35, t36, t37, Value.agg #[Value.slice A1 nn c1, Value.slice R1 mm d1], Value.agg #[Value.slice A0 nn c0, Value.slice R0 mm d0], Value.bool true, Value.bool false, Value.bool false, Value.bool vb, Value.bool vb, Value.bool false, Value.bool false, t47, t48, t49, Value.bool true, Value.bool false, Value.agg #[Value.slice (some { block := g1, off := 0 }) n n, Value.slice (some { block := g2, off := 0 }) m m], Value.int IntKind.i64 1, Value.int IntKind.i64 kx, Value.int IntKind.i64 kx, Value.bool false, Value.bool false, Value.agg #[Value.slice A1 nn c1, Value.slice R1 mm d1], Value.agg #[Value.slice A0 nn c0, Value.slice R0 mm d0], Value.bool true, Value.bool false, Value.bool false, Value.bool false, Value.bool vb, Value.bool vb, Value.bool false, Value.bool false, Value.agg #[Value.slice A1 nn c1, Value.slice R1 mm d1], Value.int IntKind.i64 1, Value.int IntKind.i64 kv, Value.agg #[Value.slice A1 nn c1, Value.slice R1 mm d1], Value.int IntKind.i64 1, Value.int IntKind.i64 kv, Value.int IntKind.i64 kv, Value.bool false, Value.int IntKind.i64 kv, Value.int IntKind.i64 kv, Value.bool false, t79, t80, t81, t82, t83, t84, t85, t86, undef, undef, undef, undef, undef, undef, undef, undef, undef, undef, undef, undef, undef, undef, undef, undef, undef], defers := [] } ∧ (Below w14.heap.size w14 ww) ∧ (L 0 = true → t80 = .agg #[.slice A n c, .slice R m d]) ∧ (L 1 = true → (L 4 = true ∨ ∃ u1 u2 : Nat, t81 = .agg #[.slice (some ⟨u1, 0, none⟩) n n, .slice (some ⟨u2, 0, none⟩) m m] ∧ HS ww ww.heap.size (some ⟨u1, 0, none⟩) n (some ⟨u2, 0, none⟩) m h)) ∧ (L 2 = true → t82 = .agg #[.int .i64 o.op, .int .i64 o.a, .int .i64 o.b, .int .i64 o.c]) ∧ (L 3 = true → t83 = .agg #[.int .i64 o.op, .int .i64 o.a, .int .i64 o.b, .int .i64 o.c]) ∧ (L 4 = true → ∃ (A' : Option Addr) (c' : Nat) (R' : Option Addr) (d' : Nat) (rvs : List Value), t84 = .tuple #[.agg #[.slice A' nn c', .slice R' mm d'], .bool vb] ∧ OwnHx ww w14.heap.size (.slice A' nn c') (.slice R' mm d') rvs hh ∧ L 4 = true) ∧ (L 5 = true → ∃ (A' : Option Addr) (c' : Nat) (R' : Option Addr) (d' : Nat) (rvs : List Value), t79 = .tuple #[.agg #[.slice A' nn c', .slice R' mm d'], .bool vb] ∧ OwnHx ww w14.heap.size (.slice A' nn c') (.slice R' mm d') rvs hh ∧ L 4 = true) ∧ (L 6 = true → ∃ (A' : Option Addr) (c' : Nat) (R' : Option Addr) (d' : Nat) (rvs : List Value), t85 = .agg #[.slice A' nn c', .slice R' mm d'] ∧ OwnHx ww w14.heap.size (.slice A' nn c') (.slice R' mm d') rvs hh ∧ L 4 = true) ∧ (L 7 = true → t86 = .bool vb) ∧ (L 8 = true → ∃ g : Nat, t14 = .pointer (some ⟨g, 0, none⟩) ∧ w14.heap.size ≤ g ∧ (L 9 = true ∨ Rw ww g 26 #[.slice none 0 0, .slice none 0 0])) ∧ (L 9 = true → ∃ (g : Nat) (A' : Option Addr) (c' : Nat) (R' : Option Addr) (d' : Nat) (rvs : List Value), t14 = .pointer (some ⟨g, 0, none⟩) ∧ w14.heap.size ≤ g ∧ Rw ww g 26 #[.slice A' nn c', .slice R' mm d'] ∧ OwnHx ww w14.heap.size (.slice A' nn c') (.slice R' mm d') rvs hh ∧ L 8 = true ∧ L 4 = true) ∧ (L 10 = true → t15 = .bool vb)) ?h0 ?hstep ?hdone
        case h0 => exact ⟨_, _, _, _, _, _, _, _, _, _, rfl, (Below.refl _ _).drew, (fun h => absurd h Bool.false_ne_true), (fun h => absurd h Bool.false_ne_true), (fun h => absurd h Bool.false_ne_true), (fun h => absurd h Bool.false_ne_true), (fun h => absurd h Bool.false_ne_true), (fun h => absurd h Bool.false_ne_true), (fun h => absurd h Bool.false_ne_true), (fun h => absurd h Bool.false_ne_true), (fun h => absurd h Bool.false_ne_true), (fun h => absurd h Bool.false_ne_true), (fun h => absurd h Bool.false_ne_true)⟩
        case hstep =>
          rintro L ac ww i o ho hL hd ⟨t14, t15, t79, t80, t81, t82, t83, t84, t85, t86, rfl, I0, f0, f1, f2, f3, f4, f5, f6, f7, f8, f9, f10⟩
          have hi : i < 11 := (Array.getElem?_eq_some_iff.1 ho).1
          obtain rfl | rfl | rfl | rfl | rfl | rfl | rfl | rfl | rfl | rfl | rfl : i = 0 ∨ i = 1 ∨ i = 2 ∨ i = 3 ∨ i = 4 ∨ i = 5 ∨ i = 6 ∨ i = 7 ∨ i = 8 ∨ i = 9 ∨ i = 10 := by omega
          · obtain rfl := Option.some.inj ho
            have y0 : ww.cell? ⟨ga, 0, none⟩ = some (.slice A n c) := (I0.cell (p := ⟨ga, 0, none⟩) hgl).trans xa0
            have y1 : ww.cell? ⟨ga, 1, none⟩ = some (.slice R m d) := (I0.cell (p := ⟨ga, 1, none⟩) hgl).trans xa1
            refine wpOp_step rfl (fun K' hK => ?_)
            go_simp
            refine hK _ _ ?_
            exact ⟨_, _, _, _, _, _, _, _, _, _, rfl, (I0), (fun _ => rfl), (fun h => (f1 (upd_ne h (by decide))).imp (fun e => upd_keep e) id), (kp f2), (kp f3), (fun h => by
              obtain ⟨A', c', R', d', rvs, e, q, l⟩ := f4 (upd_ne h (by decide))
              exact ⟨A', c', R', d', rvs, e, q, upd_keep l⟩), (fun h => by
              obtain ⟨A', c', R', d', rvs, e, q, l⟩ := f5 (upd_ne h (by decide))
              exact ⟨A', c', R', d', rvs, e, q, upd_keep l⟩), (fun h => by
              obtain ⟨A', c', R', d', rvs, e, q, l⟩ := f6 (upd_ne h (by decide))
              exact ⟨A', c', R', d', rvs, e, q, upd_keep l⟩), (kp f7), (fun h => by
              obtain ⟨g, e, hg, r⟩ := f8 (upd_ne h (by decide))
              exact ⟨g, e, hg, r.imp (fun e => upd_keep e) (fun r => r)⟩), (fun h => by
              obtain ⟨g, A', c', R', d', rvs, e, hg, r, q, la, lf⟩ := f9 (upd_ne h (by decide))
              exact ⟨g, A', c', R', d', rvs, e, hg, r, q, upd_keep la, upd_keep lf⟩), (kp f10)⟩
          · obtain rfl := Option.some.inj ho
            have g0 := f0 (hd ⟨0, .data⟩ (by simp) rfl)
            subst g0
            refine wpOp_step rfl (fun K' hK => ?_)
            go_simp
            refine (toHeap_any _ _ _ _ _ _ h ww (hs.up (bbk.trans (I0.mono bbk.size))) (by omega) (by omega) Z3.out).mono ?_
            rintro e w' ⟨u1, u2, rfl, ⟨rv, ow⟩, b5⟩
            have hr9 := ow.reads
            refine hK _ _ ?_
            exact ⟨_, _, _, _, _, _, _, _, _, _, rfl, (I0.trans (b5.mono I0.size)), (kp f0), (fun _ => .inr ⟨u1, u2, rfl, hr9⟩), (kp f2), (kp f3), (fun h => by
              obtain ⟨A', c', R', d', rvs, e, q, l⟩ := f4 (upd_ne h (by decide))
              exact ⟨A', c', R', d', rvs, e, q.below b5 (Nat.le_refl _), upd_keep l⟩), (fun h => by
              obtain ⟨A', c', R', d', rvs, e, q, l⟩ := f5 (upd_ne h (by decide))
              exact ⟨A', c', R', d', rvs, e, q.below b5 (Nat.le_refl _), upd_keep l⟩), (fun h => by
              obtain ⟨A', c', R', d', rvs, e, q, l⟩ := f6 (upd_ne h (by decide))
              exact ⟨A', c', R', d', rvs, e, q.below b5 (Nat.le_refl _), upd_keep l⟩), (kp f7), (fun h => by
              obtain ⟨g, e, hg, r⟩ := f8 (upd_ne h (by decide))
              exact ⟨g, e, hg, r.imp (fun e => upd_keep e) (fun r => r.keep b5 r.lt)⟩), (fun h => by
              obtain ⟨g, A', c', R', d', rvs, e, hg, r, q, la, lf⟩ := f9 (upd_ne h (by decide))
              exact ⟨g, A', c', R', d', rvs, e, hg, r.keep b5 r.lt, q.below b5 (Nat.le_refl _), upd_keep la, upd_keep lf⟩), (kp f10)⟩
          · obtain rfl := Option.some.inj ho
            have y0 : ww.cell? ⟨ga + 1, 0, none⟩ = some (.int .i64 o.op) := (I0.cell (p := ⟨ga + 1, 0, none⟩) hgb).trans xb0
            have y1 : ww.cell? ⟨ga + 1, 1, none⟩ = some (.int .i64 o.a) := (I0.cell (p := ⟨ga + 1, 1, none⟩) hgb).trans xb1
            have y2 : ww.cell? ⟨ga + 1, 2, none⟩ = some (.int .i64 o.b) := (I0.cell (p := ⟨ga + 1, 2, none⟩) hgb).trans xb2
            have y3 : ww.cell? ⟨ga + 1, 3, none⟩ = some (.int .i64 o.c) := (I0.cell (p := ⟨ga + 1, 3, none⟩) hgb).trans xb3
            refine wpOp_step rfl (fun K' hK => ?_)
            go_simp
            refine hK _ _ ?_
            exact ⟨_, _, _, _, _, _, _, _, _, _, rfl, (I0), (kp f0), (fun h => (f1 (upd_ne h (by decide))).imp (fun e => upd_keep e) id), (fun _ => rfl), (kp f3), (fun h => by
              obtain ⟨A', c', R', d', rvs, e, q, l⟩ := f4 (upd_ne h (by decide))
              exact ⟨A', c', R', d', rvs, e, q, upd_keep l⟩), (fun h => by
              obtain ⟨A', c', R', d', rvs, e, q, l⟩ := f5 (upd_ne h (by decide))
              exact ⟨A', c', R', d', rvs, e, q, upd_keep l⟩), (fun h => by
              obtain ⟨A', c', R', d', rvs, e, q, l⟩ := f6 (upd_ne h (by decide))
              exact ⟨A', c', R', d', rvs, e, q, upd_keep l⟩), (kp f7), (fun h => by
              obtain ⟨g, e, hg, r⟩ := f8 (upd_ne h (by decide))
              exact ⟨g, e, hg, r.imp (fun e => upd_keep e) (fun r => r)⟩), (fun h => by
              obtain ⟨g, A', c', R', d', rvs, e, hg, r, q, la, lf⟩ := f9 (upd_ne h (by decide))
              exact ⟨g, A', c', R', d', rvs, e, hg, r, q, upd_keep la, upd_keep lf⟩), (kp f10)⟩
          · obtain rfl := Option.some.inj ho
            have g2 := f2 (hd ⟨2, .data⟩ (by simp) rfl)
            subst g2
            refine wpOp_step rfl (fun K' hK => ?_)
            go_simp
            refine (toCommand_any o ww).mono ?_
            rintro e w' ⟨rfl, b5⟩
            refine hK _ _ ?_
            exact ⟨_, _, _, _, _, _, _, _, _, _, rfl, (I0.trans (b5.mono I0.size)), (kp f0), (fun h => (f1 (upd_ne h (by decide))).imp (fun e => upd_keep e) (fun ⟨u1, u2, e, q⟩ => ⟨u1, u2, e, q.up b5⟩)), (kp f2), (fun _ => rfl), (fun h => by
              obtain ⟨A', c', R', d', rvs, e, q, l⟩ := f4 (upd_ne h (by decide))
              exact ⟨A', c', R', d', rvs, e, q.below b5 (Nat.le_refl _), upd_keep l⟩), (fun h => by
              obtain ⟨A', c', R', d', rvs, e, q, l⟩ := f5 (upd_ne h (by decide))
              exact ⟨A', c', R', d', rvs, e, q.below b5 (Nat.le_refl _), upd_keep l⟩), (fun h => by
              obtain ⟨A', c', R', d', rvs, e, q, l⟩ := f6 (upd_ne h (by decide))
              exact ⟨A', c', R', d', rvs, e, q.below b5 (Nat.le_refl _), upd_keep l⟩), (kp f7), (fun h => by
              obtain ⟨g, e, hg, r⟩ := f8 (upd_ne h (by decide))
              exact ⟨g, e, hg, r.imp (fun e => upd_keep e) (fun r => r.keep b5 r.lt)⟩), (fun h => by
              obtain ⟨g, A', c', R', d', rvs, e, hg, r, q, la, lf⟩ := f9 (upd_ne h (by decide))
              exact ⟨g, A', c', R', d', rvs, e, hg, r.keep b5 r.lt, q.below b5 (Nat.le_refl _), upd_keep la, upd_keep lf⟩), (kp f10)⟩
          · obtain rfl := Option.some.inj ho
            have g1 := f1 (hd ⟨1, .data⟩ (by simp) rfl)
            have g3 := f3 (hd ⟨3, .data⟩ (by simp) rfl)
            subst g3
            rcases g1 with q | ⟨u1, u2, rfl, hr9⟩
            · rw [hL] at q
              cases q
            refine wpOp_step rfl (fun K' hK => ?_)
            go_simp
            refine (stepHeap_any _ _ _ _ _ _ h o ww (hr9) (by omega) (by omega) (Nat.le_refl _) (Nat.le_refl _)).mono ?_
            rw [HH.out, HVB.out]
            rintro e w' ⟨vc, vr, rfl, ⟨rvs, ow⟩, b5⟩
            obtain ⟨A', c', R', d', rfl, rfl, -⟩ := ow.form
            rw [E0.out, E4.out] at ow ⊢
            have ob := ow.base I0.size
            refine hK _ _ ?_
            exact ⟨_, _, _, _, _, _, _, _, _, _, rfl, (I0.trans (b5.mono I0.size)), (kp f0), (fun _ => .inl upd_self), (kp f2), (kp f3), (fun _ => ⟨A', c', R', d', rvs, rfl, ob, upd_self⟩), (fun h => by
              obtain ⟨A', c', R', d', rvs, e, q, l⟩ := f5 (upd_ne h (by decide))
              rw [hL] at l
              cases l), (fun h => by
              obtain ⟨A', c', R', d', rvs, e, q, l⟩ := f6 (upd_ne h (by decide))
              rw [hL] at l
              cases l), (kp f7), (fun h => by
              obtain ⟨g, e, hg, r⟩ := f8 (upd_ne h (by decide))
              exact ⟨g, e, hg, r.imp (fun e => upd_keep e) (fun r => r.keep b5 r.lt)⟩), (fun h => by
              obtain ⟨g, A', c', R', d', rvs, e, hg, r, q, la, lf⟩ := f9 (upd_ne h (by decide))
              rw [hL] at lf
              cases lf), (kp f10)⟩
          · obtain rfl := Option.some.inj ho
            have g4 := f4 (hd ⟨4, .data⟩ (by simp) rfl)
            obtain ⟨A', c', R', d', rvs, rfl, ow, lf⟩ := g4
            refine wpOp_step rfl (fun K' hK => ?_)
            go_simp
            refine hK _ _ ?_
            exact ⟨_, _, _, _, _, _, _, _, _, _, rfl, (I0), (kp f0), (fun h => (f1 (upd_ne h (by decide))).imp (fun e => upd_keep e) id), (kp f2), (kp f3), (fun _ => ⟨A', c', R', d', rvs, rfl, ow, upd_keep lf⟩), (fun _ => ⟨A', c', R', d', rvs, rfl, ow, upd_keep lf⟩), (fun h => by
              obtain ⟨A', c', R', d', rvs, e, q, l⟩ := f6 (upd_ne h (by decide))
              exact ⟨A', c', R', d', rvs, e, q, upd_keep l⟩), (kp f7), (fun h => by
              obtain ⟨g, e, hg, r⟩ := f8 (upd_ne h (by decide))
              exact ⟨g, e, hg, r.imp (fun e => upd_keep e) (fun r => r)⟩), (fun h => by
              obtain ⟨g, A', c', R', d', rvs, e, hg, r, q, la, lf⟩ := f9 (upd_ne h (by decide))
              exact ⟨g, A', c', R', d', rvs, e, hg, r, q, upd_keep la, upd_keep lf⟩), (kp f10)⟩
          · obtain rfl := Option.some.inj ho
            have g5 := f5 (hd ⟨5, .data⟩ (by simp) rfl)
            obtain ⟨A', c', R', d', rvs, rfl, ow, lf⟩ := g5
            refine wpOp_step rfl (fun K' hK => ?_)
            go_simp
            refine hK _ _ ?_
            exact ⟨_, _, _, _, _, _, _, _, _, _, rfl, (I0), (kp f0), (fun h => (f1 (upd_ne h (by decide))).imp (fun e => upd_keep e) id), (kp f2), (kp f3), (fun h => by
              obtain ⟨A', c', R', d', rvs, e, q, l⟩ := f4 (upd_ne h (by decide))
              exact ⟨A', c', R', d', rvs, e, q, upd_keep l⟩), (fun _ => ⟨A', c', R', d', rvs, rfl, ow, upd_keep lf⟩), (fun _ => ⟨A', c', R', d', rvs, rfl, ow, upd_keep lf⟩), (kp f7), (fun h => by
              obtain ⟨g, e, hg, r⟩ := f8 (upd_ne h (by decide))
              exact ⟨g, e, hg, r.imp (fun e => upd_keep e) (fun r => r)⟩), (fun h => by
              obtain ⟨g, A', c', R', d', rvs, e, hg, r, q, la, lf⟩ := f9 (upd_ne h (by decide))
              exact ⟨g, A', c', R', d', rvs, e, hg, r, q, upd_keep la, upd_keep lf⟩), (kp f10)⟩
          · obtain rfl := Option.some.inj ho
            have g5 := f5 (hd ⟨5, .data⟩ (by simp) rfl)
            obtain ⟨A', c', R', d', rvs, rfl, ow, lf⟩ := g5
            refine wpOp_step rfl (fun K' hK => ?_)
            go_simp
            refine hK _ _ ?_
            exact ⟨_, _, _, _, _, _, _, _, _, _, rfl, (I0), (kp f0), (fun h => (f1 (upd_ne h (by decide))).imp (fun e => upd_keep e) id), (kp f2), (kp f3), (fun h => by
              obtain ⟨A', c', R', d', rvs, e, q, l⟩ := f4 (upd_ne h (by decide))
              exact ⟨A', c', R', d', rvs, e, q, upd_keep l⟩), (fun _ => ⟨A', c', R', d', rvs, rfl, ow, upd_keep lf⟩), (fun h => by
              obtain ⟨A', c', R', d', rvs, e, q, l⟩ := f6 (upd_ne h (by decide))
              exact ⟨A', c', R', d', rvs, e, q, upd_keep l⟩), (fun _ => rfl), (fun h => by
              obtain ⟨g, e, hg, r⟩ := f8 (upd_ne h (by decide))
              exact ⟨g, e, hg, r.imp (fun e => upd_keep e) (fun r => r)⟩), (fun h => by
              obtain ⟨g, A', c', R', d', rvs, e, hg, r, q, la, lf⟩ := f9 (upd_ne h (by decide))
              exact ⟨g, A', c', R', d', rvs, e, hg, r, q, upd_keep la, upd_keep lf⟩), (kp f10)⟩
          · obtain rfl := Option.some.inj ho
            have bA : Below ww.heap.size ww (ww.alloc (.cells #[.slice none 0 0, .slice none 0 0] 26)) := (Below.refl _ _).alloc (Nat.le_refl _) _
            refine wpOp_step rfl (fun K' hK => ?_)
            go_simp
            refine hK _ _ ?_
            exact ⟨_, _, _, _, _, _, _, _, _, _, rfl, (I0.trans (bA.mono I0.size)), (kp f0), (fun h => (f1 (upd_ne h (by decide))).imp (fun e => upd_keep e) (fun ⟨u1, u2, e, q⟩ => ⟨u1, u2, e, q.up bA⟩)), (kp f2), (kp f3), (fun h => by
              obtain ⟨A', c', R', d', rvs, e, q, l⟩ := f4 (upd_ne h (by decide))
              exact ⟨A', c', R', d', rvs, e, q.below bA (Nat.le_refl _), upd_keep l⟩), (fun h => by
              obtain ⟨A', c', R', d', rvs, e, q, l⟩ := f5 (upd_ne h (by decide))
              exact ⟨A', c', R', d', rvs, e, q.below bA (Nat.le_refl _), upd_keep l⟩), (fun h => by
              obtain ⟨A', c', R', d', rvs, e, q, l⟩ := f6 (upd_ne h (by decide))
              exact ⟨A', c', R', d', rvs, e, q.below bA (Nat.le_refl _), upd_keep l⟩), (kp f7), (fun _ => ⟨ww.heap.size, rfl, I0.size, .inr (Rw.new ww _ _)⟩), (fun h => by
              obtain ⟨g, A', c', R', d', rvs, e, hg, r, q, la, lf⟩ := f9 (upd_ne h (by decide))
              rw [hL] at la
              cases la), (kp f10)⟩
          · obtain rfl := Option.some.inj ho
            have g6 := f6 (hd ⟨6, .data⟩ (by simp) rfl)
            have g8 := f8 (hd ⟨8, .data⟩ (by simp) rfl)
            obtain ⟨g, rfl, hg, rz⟩ := g8
            rcases rz with q | rz
            · rw [hL] at q
              cases q
            obtain ⟨A', c', R', d', rvs, rfl, ow, lf⟩ := g6
            have u0 := rz.cell 0
            have u1 := rz.cell 1
            have v0 := rz.frozen 0
            have v1 := rz.frozen 1
            simp at u0 u1
            have la := hd ⟨8, .data⟩ (by simp) rfl
            refine wpOp_step rfl (fun K' hK => ?_)
            go_simp
            refine hK _ _ ?_
            exact ⟨_, _, _, _, _, _, _, _, _, _, rfl, ((I0.setCell (p := ⟨g, 0, none⟩) hg _).setCell (p := ⟨g, 1, none⟩) hg _), (kp f0), (fun _ => .inl (upd_keep lf)), (kp f2), (kp f3), (fun h => by
              obtain ⟨A', c', R', d', rvs, e, q, l⟩ := f4 (upd_ne h (by decide))
              exact ⟨A', c', R', d', rvs, e, q.put2 rz _ _, upd_keep l⟩), (fun h => by
              obtain ⟨A', c', R', d', rvs, e, q, l⟩ := f5 (upd_ne h (by decide))
              exact ⟨A', c', R', d', rvs, e, q.put2 rz _ _, upd_keep l⟩), (fun _ => ⟨A', c', R', d', rvs, rfl, ow.put2 rz _ _, upd_keep lf⟩), (kp f7), (fun _ => ⟨g, rfl, hg, .inl upd_self⟩), (fun _ => ⟨g, A', c', R', d', rvs, rfl, hg, (rz.put 0 _).put 1 _, ow.put2 rz _ _, upd_keep la, upd_keep lf⟩), (kp f10)⟩
          · obtain rfl := Option.some.inj ho
            have g7 := f7 (hd ⟨7, .data⟩ (by simp) rfl)
            subst g7
            refine wpOp_step rfl (fun K' hK => ?_)
            go_simp
            refine hK _ _ ?_
            exact ⟨_, _, _, _, _, _, _, _, _, _, rfl, (I0), (kp f0), (fun h => (f1 (upd_ne h (by decide))).imp (fun e => upd_keep e) id), (kp f2), (kp f3), (fun h => by
              obtain ⟨A', c', R', d', rvs, e, q, l⟩ := f4 (upd_ne h (by decide))
              exact ⟨A', c', R', d', rvs, e, q, upd_keep l⟩), (fun h => by
              obtain ⟨A', c', R', d', rvs, e, q, l⟩ := f5 (upd_ne h (by decide))
              exact ⟨A', c', R', d', rvs, e, q, upd_keep l⟩), (fun h => by
              obtain ⟨A', c', R', d', rvs, e, q, l⟩ := f6 (upd_ne h (by decide))
              exact ⟨A', c', R', d', rvs, e, q, upd_keep l⟩), (kp f7), (fun h => by
              obtain ⟨g, e, hg, r⟩ := f8 (upd_ne h (by decide))
              exact ⟨g, e, hg, r.imp (fun e => upd_keep e) (fun r => r)⟩), (fun h => by
              obtain ⟨g, A', c', R', d', rvs, e, hg, r, q, la, lf⟩ := f9 (upd_ne h (by decide))
              exact ⟨g, A', c', R', d', rvs, e, hg, r, q, upd_keep la, upd_keep lf⟩), (fun _ => rfl)⟩
        case hdone =>
          rintro L ac ww hall ⟨t14, t15, t79, t80, t81, t82, t83, t84, t85, t86, rfl, I0, f0, f1, f2, f3, f4, f5, f6, f7, f8, f9, f10⟩
          have e0 := f0 (hall 0 (by decide))
          have e1 := f1 (hall 1 (by decide))
          have e2 := f2 (hall 2 (by decide))
          have e3 := f3 (hall 3 (by decide))
          have e4 := f4 (hall 4 (by decide))
          have e5 := f5 (hall 5 (by decide))
          have e6 := f6 (hall 6 (by decide))
          have e7 := f7 (hall 7 (by decide))
          have e8 := f8 (hall 8 (by decide))
          have e9 := f9 (hall 9 (by decide))
          have e10 := f10 (hall 10 (by decide))
          clear f0 f1 f2 f3 f4 f5 f6 f7 f8 f9 f10
          have ht15 := e10
          obtain ⟨g14, A2, c2, R2, d2, rvs2, ep, hg14, x2, o2, -⟩ := e9
          clear e0 e1 e2 e3 e4 e5 e6 e7 e8 e10 hall
          subst ht15 ep
          have r9 := o2.reads
          replace o0 := o0.below I0 (Nat.le_refl _)
          replace x0 := x0.keep I0 x0.lt
          replace x1 := x1.keep I0 x1.lt
          replace r6 := r6.up I0
          replace bbk := bbk.trans (I0.mono bbk.size)
          clear xa0 xa1 xb0 xb1 xb2 xb3 hgl hgb q0 q1 o2 I0
          generalize ww = w15 at *
          have y0 : w15.cell? ⟨g5, 0, none⟩ = some (.slice A0 nn c0) := x0.cell 0
          have y1 : w15.cell? ⟨g5, 1, none⟩ = some (.slice R0 mm d0) := x0.cell 1
          have y4 : w15.cell? ⟨g14, 0, none⟩ = some (.slice A2 nn c2) := x2.cell 0
          have y5 : w15.cell? ⟨g14, 1, none⟩ = some (.slice R2 mm d2) := x2.cell 1
          go_wp2_with fail
          refine (eqHeap_any _ _ _ _ _ _ _ _ _ _ _ _ hh hh _ r9 o0.reads (by omega) (by omega) (by omega) (by omega) H3.out H3.out).mono ?_
          rw [decide_eq_true rfl]
          rintro e w16 ⟨rfl, b16⟩
          replace x1 := x1.keep b16 x1.lt
          replace r6 := r6.up b16
          replace bbk := bbk.trans (b16.mono bbk.size)
          clear b16 y0 y1 y4 y5 o0 x0 x2 r9
          have y2 : w16.cell? ⟨g9, 0, none⟩ = some (.slice A1 nn c1) := x1.cell 0
          have y3 : w16.cell? ⟨g9, 1, none⟩ = some (.slice R1 mm d1) := x1.cell 1
          go_wp2_with fail
          refine (heldHeap_any _ _ _ _ _ _ hh _ _ r6 E0.out E4.out (by omega) (by omega) HSZ.out).mono ?_
          rw [HKV.out]
          rintro e w17 ⟨rfl, b17⟩
          have bbf := bbk.trans (b17.mono bbk.size)
          go_wp2_with fail
          go_ret
          exact ⟨rfl, bbf⟩
end Go.Proofs.Ytnhgibbcggegmaa
