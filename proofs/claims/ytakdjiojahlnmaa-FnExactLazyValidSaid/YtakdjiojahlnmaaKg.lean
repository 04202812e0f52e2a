/- What the model's RunHeap returns: for every program. No conditions. -/
import Derived.Test.YtakdjiojahlnmaaKf
import Derived.Test.YtakdjiojahlnmaaGa
import Derived.Deep.Cut
namespace Go.Proofs.Ytakdjiojahlnmaa
open Go.RowKit
set_option maxRecDepth 100000

/-- a heap of the call's own, and what a pointer v leads to lies apart, once l -/
def OwnF (w : World) (base : Nat) (v : Value) (l : Bool) (vc vr : Value) (h : Hp) : Prop := ∃ rvs, OwnHx w base vc vr rvs h ∧ ∀ g, l = true → v = .pointer (some ⟨g, 0, none⟩) → Apart (some g) (vc :: vr :: rvs)
section
variable {w w' : World} {base : Nat} {v vc vr : Value} {l l' : Bool} {h : Hp}
theorem OwnF.own (ho : OwnF w base v l vc vr h) : OwnH w base vc vr h := by
  obtain ⟨rvs, o, _⟩ := ho
  exact ⟨rvs, o⟩
theorem OwnF.eq (ho : OwnF w base v l vc vr h) (e : l' = l) : OwnF w base v l' vc vr h := e ▸ ho
theorem OwnF.below (ho : OwnF w base v l vc vr h) (hb : Below w.heap.size w w') : OwnF w' base v l vc vr h := by
  obtain ⟨rvs, o, a⟩ := ho
  exact ⟨rvs, o.below hb (Nat.le_refl _), a⟩
theorem OwnF.alloc (ho : OwnF w base v l vc vr h) (ob : Obj) : OwnF (w.alloc ob) base (.pointer (some ⟨w.heap.size, 0, none⟩)) l' vc vr h := by
  obtain ⟨rvs, o, a⟩ := ho
  refine ⟨rvs, o.below ((Below.refl _ _).alloc (Nat.le_refl _) _) (Nat.le_refl _), fun g _ e => ?_⟩
  injection e with e
  injection e with e
  injection e with e
  subst e
  exact o.apart_new (Nat.le_refl _)
theorem OwnF.new (ho : OwnH w base vc vr h) (hv : ∀ g, l = true → v = .pointer (some ⟨g, 0, none⟩) → g < base) : OwnF w base v l vc vr h := by
  obtain ⟨rvs, o⟩ := ho
  exact ⟨rvs, o, fun g hl e => o.apart_below (hv g hl e)⟩
theorem OwnF.baseH {base' : Nat} (hb : base' ≤ base) (ho : OwnH w base vc vr h) (hv : ∀ g, l = true → v = .pointer (some ⟨g, 0, none⟩) → g < base) : OwnF w base' v l vc vr h := by
  obtain ⟨rvs, o⟩ := ho
  exact ⟨rvs, o.base hb, fun g hl e => o.apart_below (hv g hl e)⟩
theorem OwnF.put {g : Nat} (ho : OwnF w base (.pointer (some ⟨g, 0, none⟩)) l vc vr h) (hl : l = true) (u u' : Value) : OwnF ((w.setCell ⟨g, 0, none⟩ u).setCell ⟨g, 1, none⟩ u') base (.pointer (some ⟨g, 0, none⟩)) l vc vr h := by
  obtain ⟨rvs, o, a⟩ := ho
  exact ⟨rvs, (o.far (put_any w g 0 u) (a g hl rfl)).far (put_any _ g 1 u') (a g hl rfl), a⟩
end

/-- while a program runs: the heap so far in the box b -/
structure RunSt (w wr : World) (b : Nat) (vc vr : Value) (h : Hp) : Prop where
  own : ∃ rvs, OwnHx wr (w.heap.size + 1) vc vr rvs h ∧ Apart (some b) (vc :: vr :: rvs)
  box : Rw wr b 26 #[vc, vr]
  res : Rw wr w.heap.size 26 #[.slice none 0 0, .slice none 0 0]
  bel : Below w.heap.size w wr
  lo : w.heap.size + 1 ≤ b
theorem RunSt.next {w wr w5 : World} {b : Nat} {vc vr vc' vr' : Value} {h h' : Hp} (S : RunSt w wr b vc vr h) (B : Below wr.heap.size wr w5) (o : OwnH w5 wr.heap.size vc' vr' h') :
    RunSt w ((w5.setCell ⟨b, 0, none⟩ vc').setCell ⟨b, 1, none⟩ vr') b vc' vr' h' := by
  have hb := S.box.lt
  have hlo := S.lo
  obtain ⟨rvs, own⟩ := o
  have ap : Apart (some b) (vc' :: vr' :: rvs) := own.apart_below hb
  have x1 := S.box.keep B hb
  have x2 := S.res.keep B S.res.lt
  refine ⟨⟨rvs, ((own.far (put_any w5 b 0 vc') ap).far (put_any _ b 1 vr') ap).base (by omega), ap⟩, (x1.put 0 vc').put 1 vr', (x2.other (by omega) _).other (by omega) _, ?_, hlo⟩
  exact ((S.bel.trans (B.mono S.bel.size)).setCell (p := ⟨b, 0, none⟩) (by show w.heap.size ≤ b; omega) _).setCell (p := ⟨b, 1, none⟩) (by show w.heap.size ≤ b; omega) _

set_option maxRecDepth 100000 in
set_option maxHeartbeats 4000000 in
theorem mRunHeap_any (A : Option Addr) (n c : Nat) (l : List Cm) (w : World) (h : MS w w.heap.size A n l) (hn : n ≤ 1099511627776) :
    Calls Try.prog 75 #[.slice A n c] w (GaveH w (Hps.runH l)) := by
  have b1 : Below w.heap.size w (w.alloc (.cells #[.slice none 0 0, .slice none 0 0] 26)) := (Below.refl _ _).alloc (Nat.le_refl _) _
  have m1 := h.up b1
  have q3 := Rw.new w 26 #[.slice none 0 0, .slice none 0 0]
  go_enter Try.func75, Try.ntmps75
  go_wp2_with fail
  refine (mCommandsValid_any _ _ _ l _ m1 hn).mono ?_
  rintro e w1 ⟨rfl, b2⟩
  replace q3 := q3.keep b2 q3.lt
  replace b1 := b1.trans (b2.mono b1.size)
  clear m1 b2
  cases hv : Hps.okCms l
  · have HF := Lib.hid (show Hps.runH l = Hps.zeroH by rw [Hps.runH, if_neg (by rw [hv]; simp)])
    have r2 : w1.frozen? ⟨w.heap.size, 0, none⟩ = false := q3.frozen 0
    have r3 : w1.frozen? ⟨w.heap.size, 1, none⟩ = false := q3.frozen 1
    have r4 : w1.cell? ⟨w.heap.size, 0, none⟩ = some (.slice none 0 0) := q3.cell 0
    have r5 : w1.cell? ⟨w.heap.size, 1, none⟩ = some (.slice none 0 0) := q3.cell 1
    have r6 : ((w1.setCell ⟨w.heap.size, 0, none⟩ (.slice none 0 0)).setCell ⟨w.heap.size, 1, none⟩ (.slice none 0 0)).cell? ⟨w.heap.size, 0, none⟩ = some (.slice none 0 0) := ((q3.put 0 (.slice none 0 0)).put 1 (.slice none 0 0)).cell 0
    have r7 : ((w1.setCell ⟨w.heap.size, 0, none⟩ (.slice none 0 0)).setCell ⟨w.heap.size, 1, none⟩ (.slice none 0 0)).cell? ⟨w.heap.size, 1, none⟩ = some (.slice none 0 0) := ((q3.put 0 (.slice none 0 0)).put 1 (.slice none 0 0)).cell 1
    have D := Lib.hid ((own_zeroH w1 w1.heap.size (Nat.le_refl _)).out q3.lt b1 (Nat.le_refl _))
    clear q3 b1 hv
    go_wp2_with fail
    exact bodyPost_ret (v := .agg #[.slice none 0 0, .slice none 0 0]) (by simp [results, Try.results75, go_sem, *]) rfl ⟨_, _, rfl, by rw [HF.out]; exact D.out.1, D.out.2⟩
  have HF := Lib.hid (show Hps.runH l = Hps.runFrom Hps.emptyH l by rw [Hps.runH, if_pos hv])
  have HV := Lib.hid ((Hps.okCms_iff.1 hv).1)
  clear hv
  go_wp2_with fail
  refine (mEmptyHeap_any _).mono ?_
  rintro e w2 ⟨vc, vr, rfl, ⟨rvs, own⟩, b2⟩
  have hsz : w.heap.size + 1 ≤ w1.heap.size := q3.lt
  replace q3 := q3.keep b2 q3.lt
  have hsz2 := b2.size
  have hq := Rw.new w2 26 #[vc, vr]
  have S0 : RunSt w (w2.alloc (.cells #[vc, vr] 26)) w2.heap.size vc vr Hps.emptyH :=
    ⟨⟨rvs, (OwnHx.base (base' := w.heap.size + 1) own hsz).below ((Below.refl w2.heap.size w2).alloc (Nat.le_refl _) _) (Nat.le_refl _), own.apart_new (Nat.le_refl _)⟩, hq, q3.alloc _, (b1.trans (b2.mono b1.size)).alloc (by omega) _, by omega⟩
  obtain ⟨Ac, cc, Rc, dc, rfl, rfl, -⟩ := own.form
  clear hq own q3 b2
  go_upto_region 4 with fail
  generalize w2.alloc (.cells #[.slice Ac Hps.emptyH.cs.length cc, .slice Rc Hps.emptyH.rt.length dc] 26) = w3 at S0 ⊢
  generalize w2.heap.size = b at S0 ⊢
  clear hsz hsz2 w2 b1 w1
  go_wp2_with fail
  go_loopw [4] (fun i wr => ∃ (k : Nat) (A1 : Option Addr) (c1 : Nat) (R1 : Option Addr) (d1 : Nat) (hh : Hp), k ≤ n ∧ i = .int .i64 k ∧ hh = Hps.runFrom Hps.emptyH (l.take k) ∧ Hps.validH hh = true ∧ RunSt w wr b (.slice A1 hh.cs.length c1) (.slice R1 hh.rt.length d1) hh) (fun i _ => n - (intOf i).toNat)
  case atStart => exact ⟨0, Ac, cc, Rc, dc, Hps.emptyH, by omega, rfl, by simp [Hps.runFrom], Hps.empty_valid, S0⟩
  case round =>
    clear S0
    obtain ⟨k, A1, c1, R1, d1, hh, hk, rfl, hhe, hhv, S⟩ := hrel
    have hlo := S.lo
    have x0 : wr.cell? ⟨b, 0, none⟩ = some (.slice A1 hh.cs.length c1) := S.box.cell 0
    have x1 : wr.cell? ⟨b, 1, none⟩ = some (.slice R1 hh.rt.length d1) := S.box.cell 1
    have hml := h.1
    by_cases hlt : k < n
    · obtain ⟨g, o, x, rfl, hg, hx, c0, c1', c2, c3⟩ := (h.below S.bel).at_ hlt
      have hlt' : (k : Int) < n := by omega
      obtain ⟨h2, hh2⟩ : ∃ h2, (Hps.stepH hh x).1 = h2 := ⟨_, rfl⟩
      obtain ⟨ok, hok⟩ : ∃ ok, (Hps.stepH hh x).2 = ok := ⟨_, rfl⟩
      have HX := Lib.hid hx
      have HNX := Lib.hid (show h2 = Hps.runFrom Hps.emptyH (l.take (k + 1)) by
        rw [List.take_add_one, HX.out, Option.toList, Hps.runFrom_snoc, ← hhe]
        exact hh2.symm)
      have HVX := Lib.hid (show Hps.validH h2 = true by rw [← hh2]; exact Hps.stepH_valid hhv (HV.out x (List.mem_of_getElem? HX.out)))
      have hn40 := (Hps.valid_iff.1 hhv).2.1
      have hm4 := (Hps.valid_iff.1 hhv).2.2.1
      have CALL := Lib.hid (fun (ww : World) (hB : Below wr.heap.size wr ww) => by
        obtain ⟨rvs, own, _⟩ := S.own
        have hs := (own.below hB (Nat.le_refl _)).reads
        have := mStepHeap_any A1 R1 hh.cs.length c1 hh.rt.length d1 hh x ww hs (by omega) (by omega)
        rw [hh2, hok] at this
        exact this)
      have SS := Lib.hid S
      clear S hx hhe hhv hh2 hok hn40 hm4 hml
      go_wp2_with fail
      refine wp_region_inv (by kernel_rfl) (by kernel_rfl) (fun L ac ww => ∃ t5 t6 t18 t19 t20 t21 t22 t23 t24 t25 t26 : Value, ac = { tmps := #[Value.slice (some { block := g, off := o }) n c, undef, Value.pointer (some { block := w.heap.size, off := 0 }), Value.pointer (some { block := b, off := 0 }), Value.int IntKind.i64 ↑k, t5, t6, Value.slice (some { block := g, off := o }) n c, Value.bool true, Value.bool false, undef, Value.agg #[Value.slice Ac Hps.emptyH.cs.length cc, Value.slice Rc Hps.emptyH.rt.length dc], Value.int IntKind.i64 ↑k, Value.slice (some { block := g, off := o }) n c, Value.int IntKind.i64 ↑n, Value.bool true, u16, u17, t18, t19, t20, t21, t22, t23, t24, t25, t26, u27, undef], defers := [] } ∧ (Below wr.heap.size wr ww) ∧ (L 10 = true → L 9 = true) ∧ (L 6 = true → L 5 = true) ∧ (L 7 = true → L 5 = true) ∧ (L 0 = true → t19 = .agg #[(.slice A1 hh.cs.length c1), (.slice R1 hh.rt.length d1)]) ∧ (L 1 = true → t20 = .slice (some ⟨g, o, none⟩) n c) ∧ (L 2 = true → t21 = .int .i64 k) ∧ (L 3 = true → t22 = .pointer (some ⟨g, o + k * 4, none⟩)) ∧ (L 4 = true → t23 = .agg #[.int .i64 x.op, .int .i64 x.a, .int .i64 x.b, .int .i64 x.c]) ∧ (L 5 = true → ∃ (A5 : Option Addr) (n5 c5 : Nat) (R5 : Option Addr) (m5 d5 : Nat), t24 = .tuple #[.agg #[.slice A5 n5 c5, .slice R5 m5 d5], .bool ok] ∧ OwnF ww wr.heap.size t5 (L 9) (.slice A5 n5 c5) (.slice R5 m5 d5) h2) ∧ (L 6 = true → ∃ (A5 : Option Addr) (n5 c5 : Nat) (R5 : Option Addr) (m5 d5 : Nat), t24 = .tuple #[.agg #[.slice A5 n5 c5, .slice R5 m5 d5], .bool ok] ∧ t18 = .tuple #[.agg #[.slice A5 n5 c5, .slice R5 m5 d5], .bool ok]) ∧ (L 7 = true → ∃ (A5 : Option Addr) (n5 c5 : Nat) (R5 : Option Addr) (m5 d5 : Nat), t24 = .tuple #[.agg #[.slice A5 n5 c5, .slice R5 m5 d5], .bool ok] ∧ t25 = .agg #[.slice A5 n5 c5, .slice R5 m5 d5]) ∧ (L 8 = true → t26 = .bool ok) ∧ (L 9 = true → ∃ (g5 : Nat) (z0 z1 : Value), t5 = .pointer (some ⟨g5, 0, none⟩) ∧ wr.heap.size ≤ g5 ∧ Rw ww g5 26 #[z0, z1]) ∧ (L 10 = true → ∃ (g5 : Nat) (A5 : Option Addr) (n5 c5 : Nat) (R5 : Option Addr) (m5 d5 : Nat), t5 = .pointer (some ⟨g5, 0, none⟩) ∧ wr.heap.size ≤ g5 ∧ Rw ww g5 26 #[.slice A5 n5 c5, .slice R5 m5 d5] ∧ OwnH ww wr.heap.size (.slice A5 n5 c5) (.slice R5 m5 d5) h2) ∧ (L 11 = true → t6 = .bool ok)) ?h0 ?hstep ?hdone
      case h0 => exact ⟨_, _, _, _, _, _, _, _, _, _, _, rfl, (Below.refl _ _).drew, fun h => absurd h Bool.false_ne_true, fun h => absurd h Bool.false_ne_true, fun h => absurd h Bool.false_ne_true, (fun h => absurd h Bool.false_ne_true), (fun h => absurd h Bool.false_ne_true), (fun h => absurd h Bool.false_ne_true), (fun h => absurd h Bool.false_ne_true), (fun h => absurd h Bool.false_ne_true), (fun h => absurd h Bool.false_ne_true), (fun h => absurd h Bool.false_ne_true), (fun h => absurd h Bool.false_ne_true), (fun h => absurd h Bool.false_ne_true), (fun h => absurd h Bool.false_ne_true), (fun h => absurd h Bool.false_ne_true), (fun h => absurd h Bool.false_ne_true)⟩
      case hstep =>
        rintro L ac ww i o ho hL hd ⟨t5, t6, t18, t19, t20, t21, t22, t23, t24, t25, t26, rfl, I0, I1, I2, I3, f0, f1, f2, f3, f4, f5, f6, f7, f8, f9, f10, f11⟩
        have hi : i < 12 := (Array.getElem?_eq_some_iff.1 ho).1
        obtain rfl | rfl | rfl | rfl | rfl | rfl | rfl | rfl | rfl | rfl | rfl | rfl : i = 0 ∨ i = 1 ∨ i = 2 ∨ i = 3 ∨ i = 4 ∨ i = 5 ∨ i = 6 ∨ i = 7 ∨ i = 8 ∨ i = 9 ∨ i = 10 ∨ i = 11 := by omega
        · obtain rfl := Option.some.inj ho
          have y0 : ww.cell? ⟨b, 0, none⟩ = some (.slice A1 hh.cs.length c1) := (I0.cell (p := ⟨b, 0, none⟩) SS.out.box.lt).trans x0
          have y1 : ww.cell? ⟨b, 1, none⟩ = some (.slice R1 hh.rt.length d1) := (I0.cell (p := ⟨b, 1, none⟩) SS.out.box.lt).trans x1
          refine wpOp_step rfl (fun K' hK => ?_)
          go_simp
          refine hK _ _ ?_
          exact ⟨_, _, _, _, _, _, _, _, _, _, _, rfl, (I0), (fun h => by rw [upd_other (by decide)]; exact I1 (upd_ne h (by decide))), (fun h => upd_mono (I2 (upd_ne h (by decide)))), (fun h => upd_mono (I3 (upd_ne h (by decide)))), (fun _ => rfl), (kp f1), (kp f2), (kp f3), (kp f4), (fun h => by
            obtain ⟨A5, n5, c5, R5, m5, d5, e, oo⟩ := f5 (upd_ne h (by decide))
            exact ⟨A5, n5, c5, R5, m5, d5, e, oo.eq (upd_other (by decide))⟩), (kp f6), (kp f7), (kp f8), (kp f9), (kp f10), (kp f11)⟩
        · obtain rfl := Option.some.inj ho
          refine wpOp_step rfl (fun K' hK => ?_)
          go_simp
          refine hK _ _ ?_
          exact ⟨_, _, _, _, _, _, _, _, _, _, _, rfl, (I0), (fun h => by rw [upd_other (by decide)]; exact I1 (upd_ne h (by decide))), (fun h => upd_mono (I2 (upd_ne h (by decide)))), (fun h => upd_mono (I3 (upd_ne h (by decide)))), (kp f0), (fun _ => rfl), (kp f2), (kp f3), (kp f4), (fun h => by
            obtain ⟨A5, n5, c5, R5, m5, d5, e, oo⟩ := f5 (upd_ne h (by decide))
            exact ⟨A5, n5, c5, R5, m5, d5, e, oo.eq (upd_other (by decide))⟩), (kp f6), (kp f7), (kp f8), (kp f9), (kp f10), (kp f11)⟩
        · obtain rfl := Option.some.inj ho
          refine wpOp_step rfl (fun K' hK => ?_)
          go_simp
          refine hK _ _ ?_
          exact ⟨_, _, _, _, _, _, _, _, _, _, _, rfl, (I0), (fun h => by rw [upd_other (by decide)]; exact I1 (upd_ne h (by decide))), (fun h => upd_mono (I2 (upd_ne h (by decide)))), (fun h => upd_mono (I3 (upd_ne h (by decide)))), (kp f0), (kp f1), (fun _ => rfl), (kp f3), (kp f4), (fun h => by
            obtain ⟨A5, n5, c5, R5, m5, d5, e, oo⟩ := f5 (upd_ne h (by decide))
            exact ⟨A5, n5, c5, R5, m5, d5, e, oo.eq (upd_other (by decide))⟩), (kp f6), (kp f7), (kp f8), (kp f9), (kp f10), (kp f11)⟩
        · obtain rfl := Option.some.inj ho
          have g1 := f1 (hd ⟨1, .data⟩ (by simp) rfl)
          have g2 := f2 (hd ⟨2, .data⟩ (by simp) rfl)
          subst g1
          subst g2
          refine wpOp_step rfl (fun K' hK => ?_)
          go_simp
          refine hK _ _ ?_
          exact ⟨_, _, _, _, _, _, _, _, _, _, _, rfl, (I0), (fun h => by rw [upd_other (by decide)]; exact I1 (upd_ne h (by decide))), (fun h => upd_mono (I2 (upd_ne h (by decide)))), (fun h => upd_mono (I3 (upd_ne h (by decide)))), (kp f0), (kp f1), (kp f2), (fun _ => rfl), (kp f4), (fun h => by
            obtain ⟨A5, n5, c5, R5, m5, d5, e, oo⟩ := f5 (upd_ne h (by decide))
            exact ⟨A5, n5, c5, R5, m5, d5, e, oo.eq (upd_other (by decide))⟩), (kp f6), (kp f7), (kp f8), (kp f9), (kp f10), (kp f11)⟩
        · obtain rfl := Option.some.inj ho
          have g3 := f3 (hd ⟨3, .data⟩ (by simp) rfl)
          subst g3
          have y0 : ww.cell? ⟨g, o + k * 4, none⟩ = some (.int .i64 x.op) := (I0.cell (p := ⟨g, o + k * 4, none⟩) (Nat.lt_of_lt_of_le hg SS.out.bel.size)).trans c0
          have y1 : ww.cell? ⟨g, o + k * 4 + 1, none⟩ = some (.int .i64 x.a) := (I0.cell (p := ⟨g, o + k * 4 + 1, none⟩) (Nat.lt_of_lt_of_le hg SS.out.bel.size)).trans c1'
          have y2 : ww.cell? ⟨g, o + k * 4 + 2, none⟩ = some (.int .i64 x.b) := (I0.cell (p := ⟨g, o + k * 4 + 2, none⟩) (Nat.lt_of_lt_of_le hg SS.out.bel.size)).trans c2
          have y3 : ww.cell? ⟨g, o + k * 4 + 3, none⟩ = some (.int .i64 x.c) := (I0.cell (p := ⟨g, o + k * 4 + 3, none⟩) (Nat.lt_of_lt_of_le hg SS.out.bel.size)).trans c3
          refine wpOp_step rfl (fun K' hK => ?_)
          go_simp
          refine hK _ _ ?_
          exact ⟨_, _, _, _, _, _, _, _, _, _, _, rfl, (I0), (fun h => by rw [upd_other (by decide)]; exact I1 (upd_ne h (by decide))), (fun h => upd_mono (I2 (upd_ne h (by decide)))), (fun h => upd_mono (I3 (upd_ne h (by decide)))), (kp f0), (kp f1), (kp f2), (kp f3), (fun _ => rfl), (fun h => by
            obtain ⟨A5, n5, c5, R5, m5, d5, e, oo⟩ := f5 (upd_ne h (by decide))
            exact ⟨A5, n5, c5, R5, m5, d5, e, oo.eq (upd_other (by decide))⟩), (kp f6), (kp f7), (kp f8), (kp f9), (kp f10), (kp f11)⟩
        · obtain rfl := Option.some.inj ho
          have g0 := f0 (hd ⟨0, .data⟩ (by simp) rfl)
          have g4 := f4 (hd ⟨4, .data⟩ (by simp) rfl)
          subst g0
          subst g4
          refine wpOp_step rfl (fun K' hK => ?_)
          go_simp
          refine (CALL.out ww I0).mono ?_
          rintro e w' ⟨v1, v2, rfl, oh, b5⟩
          obtain ⟨A5, n5, c5, R5, m5, d5, rfl, rfl⟩ := oh.slices
          have hsz := I0.size
          refine hK _ _ ?_
          exact ⟨_, _, _, _, _, _, _, _, _, _, _, rfl, (I0.trans (b5.mono I0.size)), (fun h => by rw [upd_other (by decide)]; exact I1 (upd_ne h (by decide))), (fun h => upd_mono (I2 (upd_ne h (by decide)))), (fun h => upd_mono (I3 (upd_ne h (by decide)))), (kp f0), (kp f1), (kp f2), (kp f3), (kp f4), (fun _ => ⟨A5, n5, c5, R5, m5, d5, rfl, OwnF.baseH hsz oh (fun g5 hl e => by
            obtain ⟨g6, z0, z1, e', hg5, hz⟩ := f9 (by rw [upd_other (by decide)] at hl; exact hl)
            rw [e'] at e
            injection e with e
            injection e with e
            injection e with e
            rw [← e]
            exact hz.lt) ⟩), (fun h => absurd (I2 (upd_ne h (by decide))) (by rw [hL]; simp)), (fun h => absurd (I3 (upd_ne h (by decide))) (by rw [hL]; simp)), (kp f8), (fun h => by
            obtain ⟨g5, z0, z1, e, hg5, hz⟩ := f9 (upd_ne h (by decide))
            exact ⟨g5, z0, z1, e, hg5, hz.keep b5 hz.lt⟩), (fun h => by
            obtain ⟨g5, A5, n5, c5, R5, m5, d5, e, hg5, hz, oo⟩ := f10 (upd_ne h (by decide))
            exact ⟨g5, A5, n5, c5, R5, m5, d5, e, hg5, hz.keep b5 hz.lt, oo.below b5 (Nat.le_refl _)⟩), (kp f11)⟩
        · obtain rfl := Option.some.inj ho
          have g5 := f5 (hd ⟨5, .data⟩ (by simp) rfl)
          obtain ⟨A5, n5, c5, R5, m5, d5, rfl, o5⟩ := g5
          refine wpOp_step rfl (fun K' hK => ?_)
          go_simp
          refine hK _ _ ?_
          exact ⟨_, _, _, _, _, _, _, _, _, _, _, rfl, (I0), (fun h => by rw [upd_other (by decide)]; exact I1 (upd_ne h (by decide))), (fun _ => upd_mono (hd ⟨5, .data⟩ (by simp) rfl)), (fun h => upd_mono (I3 (upd_ne h (by decide)))), (kp f0), (kp f1), (kp f2), (kp f3), (kp f4), (fun h => by
            obtain ⟨A5, n5, c5, R5, m5, d5, e, oo⟩ := f5 (upd_ne h (by decide))
            exact ⟨A5, n5, c5, R5, m5, d5, e, oo.eq (upd_other (by decide))⟩), (fun _ => ⟨_, _, _, _, _, _, rfl, rfl⟩), (kp f7), (kp f8), (kp f9), (kp f10), (kp f11)⟩
        · obtain rfl := Option.some.inj ho
          have g6 := f6 (hd ⟨6, .data⟩ (by simp) rfl)
          obtain ⟨A5, n5, c5, R5, m5, d5, rfl, rfl⟩ := g6
          refine wpOp_step rfl (fun K' hK => ?_)
          go_simp
          refine hK _ _ ?_
          exact ⟨_, _, _, _, _, _, _, _, _, _, _, rfl, (I0), (fun h => by rw [upd_other (by decide)]; exact I1 (upd_ne h (by decide))), (fun h => upd_mono (I2 (upd_ne h (by decide)))), (fun _ => upd_mono (I2 (hd ⟨6, .data⟩ (by simp) rfl))), (kp f0), (kp f1), (kp f2), (kp f3), (kp f4), (fun h => by
            obtain ⟨A5, n5, c5, R5, m5, d5, e, oo⟩ := f5 (upd_ne h (by decide))
            exact ⟨A5, n5, c5, R5, m5, d5, e, oo.eq (upd_other (by decide))⟩), (kp f6), (fun _ => ⟨_, _, _, _, _, _, rfl, rfl⟩), (kp f8), (kp f9), (kp f10), (kp f11)⟩
        · obtain rfl := Option.some.inj ho
          have g6 := f6 (hd ⟨6, .data⟩ (by simp) rfl)
          obtain ⟨A5, n5, c5, R5, m5, d5, rfl, rfl⟩ := g6
          refine wpOp_step rfl (fun K' hK => ?_)
          go_simp
          refine hK _ _ ?_
          exact ⟨_, _, _, _, _, _, _, _, _, _, _, rfl, (I0), (fun h => by rw [upd_other (by decide)]; exact I1 (upd_ne h (by decide))), (fun h => upd_mono (I2 (upd_ne h (by decide)))), (fun h => upd_mono (I3 (upd_ne h (by decide)))), (kp f0), (kp f1), (kp f2), (kp f3), (kp f4), (fun h => by
            obtain ⟨A5, n5, c5, R5, m5, d5, e, oo⟩ := f5 (upd_ne h (by decide))
            exact ⟨A5, n5, c5, R5, m5, d5, e, oo.eq (upd_other (by decide))⟩), (kp f6), (kp f7), (fun _ => rfl), (kp f9), (kp f10), (kp f11)⟩
        · obtain rfl := Option.some.inj ho
          refine wpOp_step rfl (fun K' hK => ?_)
          go_simp
          refine hK _ _ ?_
          exact ⟨_, _, _, _, _, _, _, _, _, _, _, rfl, (I0.alloc I0.size _), (fun _ => upd_self), (fun h => upd_mono (I2 (upd_ne h (by decide)))), (fun h => upd_mono (I3 (upd_ne h (by decide)))), (kp f0), (kp f1), (kp f2), (kp f3), (kp f4), (fun h => by
            obtain ⟨A5, n5, c5, R5, m5, d5, e, oo⟩ := f5 (upd_ne h (by decide))
            exact ⟨A5, n5, c5, R5, m5, d5, e, oo.alloc _⟩), (kp f6), (kp f7), (kp f8), (fun _ => ⟨ww.heap.size, _, _, rfl, I0.size, Rw.new _ _ _⟩), (fun h => absurd (I1 (upd_ne h (by decide))) (by rw [hL]; simp)), (kp f11)⟩
        · obtain rfl := Option.some.inj ho
          have g7 := f7 (hd ⟨7, .data⟩ (by simp) rfl)
          have g9 := f9 (hd ⟨9, .data⟩ (by simp) rfl)
          have g5 := f5 (hd ⟨5, .chain⟩ (by simp) rfl)
          have hL9 := hd ⟨9, .data⟩ (by simp) rfl
          obtain ⟨q5, z0, z1, rfl, hq5, hz⟩ := g9
          obtain ⟨A5, n5, c5, R5, m5, d5, rfl, rfl⟩ := g7
          obtain ⟨A6, n6, c6, R6, m6, d6, e6, oo⟩ := g5
          injection e6 with e6
          simp at e6
          obtain ⟨⟨rfl, rfl, rfl⟩, rfl, rfl, rfl⟩ := e6
          have u0 := hz.cell 0
          have u1 := hz.cell 1
          have u2 := hz.frozen 0
          have u3 := hz.frozen 1
          simp at u0 u1
          refine wpOp_step rfl (fun K' hK => ?_)
          go_simp
          refine hK _ _ ?_
          exact ⟨_, _, _, _, _, _, _, _, _, _, _, rfl, ((I0.setCell (p := ⟨q5, 0, none⟩) hq5 _).setCell (p := ⟨q5, 1, none⟩) hq5 _), (fun _ => by rw [upd_other (by decide)]; exact hL9), (fun h => upd_mono (I2 (upd_ne h (by decide)))), (fun h => upd_mono (I3 (upd_ne h (by decide)))), (kp f0), (kp f1), (kp f2), (kp f3), (kp f4), (fun h => ⟨_, _, _, _, _, _, rfl, (oo.put hL9 _ _).eq (upd_other (by decide))⟩), (kp f6), (kp f7), (kp f8), (fun h => ⟨_, _, _, rfl, hq5, (hz.put 0 _).put 1 _⟩), (fun _ => ⟨_, _, _, _, _, _, _, rfl, hq5, (hz.put 0 _).put 1 _, (oo.put hL9 _ _).own⟩), (kp f11)⟩
        · obtain rfl := Option.some.inj ho
          have g8 := f8 (hd ⟨8, .data⟩ (by simp) rfl)
          subst g8
          refine wpOp_step rfl (fun K' hK => ?_)
          go_simp
          refine hK _ _ ?_
          exact ⟨_, _, _, _, _, _, _, _, _, _, _, rfl, (I0), (fun h => by rw [upd_other (by decide)]; exact I1 (upd_ne h (by decide))), (fun h => upd_mono (I2 (upd_ne h (by decide)))), (fun h => upd_mono (I3 (upd_ne h (by decide)))), (kp f0), (kp f1), (kp f2), (kp f3), (kp f4), (fun h => by
            obtain ⟨A5, n5, c5, R5, m5, d5, e, oo⟩ := f5 (upd_ne h (by decide))
            exact ⟨A5, n5, c5, R5, m5, d5, e, oo.eq (upd_other (by decide))⟩), (kp f6), (kp f7), (kp f8), (kp f9), (kp f10), (fun _ => rfl)⟩
      case hdone =>
        rintro L ac ww hall ⟨t5, t6, t18, t19, t20, t21, t22, t23, t24, t25, t26, rfl, I0, I1, I2, I3, f0, f1, f2, f3, f4, f5, f6, f7, f8, f9, f10, f11⟩
        have e0 := f0 (hall 0 (by decide))
        have e1 := f1 (hall 1 (by decide))
        have e2 := f2 (hall 2 (by decide))
        have e3 := f3 (hall 3 (by decide))
        have e4 := f4 (hall 4 (by decide))
        have e5 := f5 (hall 5 (by decide))
        have e6 := f6 (hall 6 (by decide))
        have e7 := f7 (hall 7 (by decide))
        have e8 := f8 (hall 8 (by decide))
        have e9 := f9 (hall 9 (by decide))
        have e10 := f10 (hall 10 (by decide))
        have e11 := f11 (hall 11 (by decide))
        clear f0 f1 f2 f3 f4 f5 f6 f7 f8 f9 f10 f11
        obtain ⟨g5, A5, n5, c5, R5, m5, d5, rfl, hg5, hz, oo⟩ := e10
        obtain ⟨nn, hnn⟩ : ∃ nn, h2.cs.length = nn := ⟨_, rfl⟩
        obtain ⟨mm, hmm⟩ : ∃ mm, h2.rt.length = mm := ⟨_, rfl⟩
        obtain ⟨Ax, cx, Rx, dx, ex1, ex2, _⟩ := oo.form
        injection ex1 with ex1 ex2' ex3
        injection ex2 with ey1 ey2 ey3
        subst ex1 ex2' ex3 ey1 ey2 ey3
        have NX := SS.out.next I0 oo
        have z0 := hz.cell 0
        have z1 := hz.cell 1
        simp at z0 z1
        have z2 : ww.frozen? ⟨b, 0, none⟩ = false := (SS.out.box.keep I0 SS.out.box.lt).frozen 0
        have z3 : ww.frozen? ⟨b, 1, none⟩ = false := (SS.out.box.keep I0 SS.out.box.lt).frozen 1
        have z4 : ww.cell? ⟨b, 0, none⟩ = some (.slice A1 hh.cs.length c1) := (SS.out.box.keep I0 SS.out.box.lt).cell 0
        have z5 : ww.cell? ⟨b, 1, none⟩ = some (.slice R1 hh.rt.length d1) := (SS.out.box.keep I0 SS.out.box.lt).cell 1
        clear e0 e1 e2 e3 e4 e5 e6 e7 e8 e9 e11 I1 I2 I3 hz oo hnn hmm x0 x1 c0 c1' c2 c3
        go_wp2_with fail
        go_roundw
        case rel => exact ⟨k + 1, A5, c5, R5, d5, h2, by omega, by go_num, HNX.out, HVX.out, NX⟩
        case measure => simp [intOf]; omega
    · obtain rfl : k = n := by omega
      have HE := Lib.hid (show Hps.runH l = hh by rw [HF.out, hhe, List.take_of_length_le (by omega)])
      have r2 : wr.frozen? ⟨w.heap.size, 0, none⟩ = false := S.res.frozen 0
      have r3 : wr.frozen? ⟨w.heap.size, 1, none⟩ = false := S.res.frozen 1
      have r4 : wr.cell? ⟨w.heap.size, 0, none⟩ = some (.slice none 0 0) := S.res.cell 0
      have r5 : wr.cell? ⟨w.heap.size, 1, none⟩ = some (.slice none 0 0) := S.res.cell 1
      obtain ⟨nn, hnn⟩ : ∃ nn, hh.cs.length = nn := ⟨_, rfl⟩
      obtain ⟨mm, hmm⟩ : ∃ mm, hh.rt.length = mm := ⟨_, rfl⟩
      rw [hnn, hmm] at S
      rw [hnn] at x0
      rw [hmm] at x1
      have r6 : ((wr.setCell ⟨w.heap.size, 0, none⟩ (.slice A1 nn c1)).setCell ⟨w.heap.size, 1, none⟩ (.slice R1 mm d1)).cell? ⟨w.heap.size, 0, none⟩ = some (.slice A1 nn c1) := ((S.res.put 0 (.slice A1 nn c1)).put 1 (.slice R1 mm d1)).cell 0
      have r7 : ((wr.setCell ⟨w.heap.size, 0, none⟩ (.slice A1 nn c1)).setCell ⟨w.heap.size, 1, none⟩ (.slice R1 mm d1)).cell? ⟨w.heap.size, 1, none⟩ = some (.slice R1 mm d1) := ((S.res.put 0 (.slice A1 nn c1)).put 1 (.slice R1 mm d1)).cell 1
      have D := Lib.hid (by
        obtain ⟨rvs, own, _⟩ := S.own
        exact OwnH.out (w := w) (g := w.heap.size) ⟨rvs, own⟩ (by omega) S.bel (Nat.le_refl _))
      clear S hhe hhv hnn hmm hml
      go_wp2_with fail
      exact bodyPost_ret (v := .agg #[.slice A1 nn c1, .slice R1 mm d1]) (by simp [results, Try.results75, go_sem, *]) rfl ⟨_, _, rfl, by rw [HE.out]; exact D.out.1, D.out.2⟩
end Go.Proofs.Ytakdjiojahlnmaa
