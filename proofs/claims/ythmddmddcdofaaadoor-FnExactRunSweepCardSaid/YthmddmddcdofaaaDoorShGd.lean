/- What the claim DERunSweep stands on, part 4 of 4: texts of one seat put together, with what the claim needs of them. No conditions. -/
import Derived.Test.YthmddmddcdofaaaDoorShGc
namespace Go.Proofs.YthmddmddcdofaaaDoor
open Go.RowKit
set_option maxRecDepth 100000
theorem OwnH.parts {w : World} {base : Nat} {vc vr : Value} {h : Hp} (ho : OwnH w base vc vr h) : ∃ A n c R m d, vc = .slice A n c ∧ vr = .slice R m d ∧ HS w w.heap.size A n R m h := by
  obtain ⟨A, c, R, d, e1, e2, s⟩ := ho.form
  exact ⟨A, _, c, R, _, d, e1, e2, s⟩
set_option maxHeartbeats 8000000 in
theorem mStepSweep_any (A R : Option Addr) (n c m d : Nat) (lim : Int) (h : Hp) (o : Cm) (w : World) (hs : HS w w.heap.size A n R m h) (hn : n ≤ 1099511627776) (hm : m ≤ 1099511627776) :
    Calls Tryd.prog 37 #[heapV A n c R m d, .int .i64 lim, cmV o] w (GaveH2 w (Hps.stepSw h lim o).1 (Hps.stepSw h lim o).2) := by
  have b2 : Below w.heap.size w (((w.alloc (.cells #[.slice A n c, .slice R m d] 26)).alloc (.cells #[.int .i64 o.op, .int .i64 o.a, .int .i64 o.b, .int .i64 o.c] 49)).alloc (.cells #[.slice none 0 0, .slice none 0 0] 26)) := (((Below.refl w.heap.size w).alloc (Nat.le_refl _) _).alloc (by simp) _).alloc (by simp; omega) _
  have s2 := hs.up b2
  have q1 := ((Rw.new w 26 #[.slice A n c, .slice R m d]).alloc (.cells #[.int .i64 o.op, .int .i64 o.a, .int .i64 o.b, .int .i64 o.c] 49)).alloc (.cells #[.slice none 0 0, .slice none 0 0] 26)
  have q2 := (Rw.new (w.alloc (.cells #[.slice A n c, .slice R m d] 26)) 49 #[.int .i64 o.op, .int .i64 o.a, .int .i64 o.b, .int .i64 o.c]).alloc (.cells #[.slice none 0 0, .slice none 0 0] 26)
  have q3 := Rw.new ((w.alloc (.cells #[.slice A n c, .slice R m d] 26)).alloc (.cells #[.int .i64 o.op, .int .i64 o.a, .int .i64 o.b, .int .i64 o.c] 49)) 26 #[.slice none 0 0, .slice none 0 0]
  simp only [World.size_alloc] at q2 q3
  go_enter Tryd.func37, Tryd.ntmps37
  go_upto_region 1 with fail
  generalize ((w.alloc (.cells #[.slice A n c, .slice R m d] 26)).alloc (.cells #[.int .i64 o.op, .int .i64 o.a, .int .i64 o.b, .int .i64 o.c] 49)).alloc (.cells #[.slice none 0 0, .slice none 0 0] 26) = w0 at b2 s2 q1 q2 q3 ⊢
  have x0 : w0.cell? ⟨w.heap.size, 0, none⟩ = some (.slice A n c) := q1.cell 0
  have x1 : w0.cell? ⟨w.heap.size, 1, none⟩ = some (.slice R m d) := q1.cell 1
  go_wp2_with fail
  refine (mHeapValid_any _ _ _ _ _ _ h _ s2 hn hm).mono ?_
  rintro e w1 ⟨rfl, b1⟩
  replace q1 := q1.keep b1 q1.lt
  replace q2 := q2.keep b1 q2.lt
  replace q3 := q3.keep b1 q3.lt
  replace b2 := b2.trans (b1.mono b2.size)
  clear b1
  clear s2 x0 x1
  cases hv : Hps.validH h
  · have HF := Lib.hid (Hps.stepSw_no (h := h) (limit := lim) (o := o) (by rw [hv]; simp))
    have r2 : (w1).frozen? ⟨w.heap.size + 1 + 1, 0, none⟩ = false := q3.frozen 0
    have r3 : (w1).frozen? ⟨w.heap.size + 1 + 1, 1, none⟩ = false := q3.frozen 1
    have r5 : (w1).cell? ⟨w.heap.size + 1 + 1, 0, none⟩ = some (.slice none 0 0) := q3.cell 0
    have r6 : (w1).cell? ⟨w.heap.size + 1 + 1, 1, none⟩ = some (.slice none 0 0) := q3.cell 1
    have q4 := (q3.put 0 (.slice none 0 0)).put 1 (.slice none 0 0)
    have r8 : (((w1).setCell ⟨w.heap.size + 1 + 1, 0, none⟩ (.slice none 0 0)).setCell ⟨w.heap.size + 1 + 1, 1, none⟩ (.slice none 0 0)).cell? ⟨w.heap.size + 1 + 1, 0, none⟩ = some (.slice none 0 0) := q4.cell 0
    have r9 : (((w1).setCell ⟨w.heap.size + 1 + 1, 0, none⟩ (.slice none 0 0)).setCell ⟨w.heap.size + 1 + 1, 1, none⟩ (.slice none 0 0)).cell? ⟨w.heap.size + 1 + 1, 1, none⟩ = some (.slice none 0 0) := q4.cell 1
    have D := Lib.hid ((own_zeroH w1 w1.heap.size (Nat.le_refl _)).out q3.lt b2 (Nat.le_trans (Nat.le_succ _) (Nat.le_succ _)))
    clear q1 q2 q3 q4 b2
    go_wp2_with fail
    exact bodyPost_ret (v := .tuple #[.agg #[.slice none 0 0, .slice none 0 0], .bool false]) (by simp [results, Tryd.results37, go_sem, *]) rfl ⟨_, _, by rw [HF.out], by rw [HF.out]; exact D.out.1, D.out.2⟩
  have z0 : w1.cell? ⟨w.heap.size + 1, 0, none⟩ = some (.int .i64 o.op) := q2.cell 0
  have z1 : w1.cell? ⟨w.heap.size + 1, 1, none⟩ = some (.int .i64 o.a) := q2.cell 1
  have z2 : w1.cell? ⟨w.heap.size + 1, 2, none⟩ = some (.int .i64 o.b) := q2.cell 2
  have z3 : w1.cell? ⟨w.heap.size + 1, 3, none⟩ = some (.int .i64 o.c) := q2.cell 3
  go_wp2_with fail
  refine (mCommandValid_any o _).mono ?_
  rintro e w3 ⟨rfl, b1⟩
  replace q1 := q1.keep b1 q1.lt
  replace q2 := q2.keep b1 q2.lt
  replace q3 := q3.keep b1 q3.lt
  replace b2 := b2.trans (b1.mono b2.size)
  clear b1
  clear z0 z1 z2 z3
  cases ho : Hps.okCm o
  · have HF := Lib.hid (Hps.stepSw_no (h := h) (limit := lim) (o := o) (by rw [ho]; simp))
    have r2 : (w3).frozen? ⟨w.heap.size + 1 + 1, 0, none⟩ = false := q3.frozen 0
    have r3 : (w3).frozen? ⟨w.heap.size + 1 + 1, 1, none⟩ = false := q3.frozen 1
    have r5 : (w3).cell? ⟨w.heap.size + 1 + 1, 0, none⟩ = some (.slice none 0 0) := q3.cell 0
    have r6 : (w3).cell? ⟨w.heap.size + 1 + 1, 1, none⟩ = some (.slice none 0 0) := q3.cell 1
    have q4 := (q3.put 0 (.slice none 0 0)).put 1 (.slice none 0 0)
    have r8 : (((w3).setCell ⟨w.heap.size + 1 + 1, 0, none⟩ (.slice none 0 0)).setCell ⟨w.heap.size + 1 + 1, 1, none⟩ (.slice none 0 0)).cell? ⟨w.heap.size + 1 + 1, 0, none⟩ = some (.slice none 0 0) := q4.cell 0
    have r9 : (((w3).setCell ⟨w.heap.size + 1 + 1, 0, none⟩ (.slice none 0 0)).setCell ⟨w.heap.size + 1 + 1, 1, none⟩ (.slice none 0 0)).cell? ⟨w.heap.size + 1 + 1, 1, none⟩ = some (.slice none 0 0) := q4.cell 1
    have D := Lib.hid ((own_zeroH w3 w3.heap.size (Nat.le_refl _)).out q3.lt b2 (Nat.le_trans (Nat.le_succ _) (Nat.le_succ _)))
    clear q1 q2 q3 q4 b2
    go_wp2_with fail
    exact bodyPost_ret (v := .tuple #[.agg #[.slice none 0 0, .slice none 0 0], .bool false]) (by simp [results, Tryd.results37, go_sem, *]) rfl ⟨_, _, by rw [HF.out], by rw [HF.out]; exact D.out.1, D.out.2⟩
  by_cases hlim : 1 ≤ lim ∧ lim ≤ 40
  case neg =>
    have HF := Lib.hid (Hps.stepSw_no (h := h) (limit := lim) (o := o) (fun e => hlim ⟨e.2.2.1, e.2.2.2⟩))
    have hd : (decide ((1 : Int) ≤ lim) && decide (lim ≤ 40)) = false := by
      rw [Bool.and_eq_false_iff, decide_eq_false_iff_not, decide_eq_false_iff_not]
      omega
    have HL1 := Lib.hid (l1In_any lim 1 40 w3)
    clear hlim
    go_wp2_with fail
    refine HL1.out.mono ?_
    rw [hd]
    rintro e w4 ⟨rfl, rfl⟩
    have r2 : (w3).frozen? ⟨w.heap.size + 1 + 1, 0, none⟩ = false := q3.frozen 0
    have r3 : (w3).frozen? ⟨w.heap.size + 1 + 1, 1, none⟩ = false := q3.frozen 1
    have r5 : (w3).cell? ⟨w.heap.size + 1 + 1, 0, none⟩ = some (.slice none 0 0) := q3.cell 0
    have r6 : (w3).cell? ⟨w.heap.size + 1 + 1, 1, none⟩ = some (.slice none 0 0) := q3.cell 1
    have q4 := (q3.put 0 (.slice none 0 0)).put 1 (.slice none 0 0)
    have r8 : (((w3).setCell ⟨w.heap.size + 1 + 1, 0, none⟩ (.slice none 0 0)).setCell ⟨w.heap.size + 1 + 1, 1, none⟩ (.slice none 0 0)).cell? ⟨w.heap.size + 1 + 1, 0, none⟩ = some (.slice none 0 0) := q4.cell 0
    have r9 : (((w3).setCell ⟨w.heap.size + 1 + 1, 0, none⟩ (.slice none 0 0)).setCell ⟨w.heap.size + 1 + 1, 1, none⟩ (.slice none 0 0)).cell? ⟨w.heap.size + 1 + 1, 1, none⟩ = some (.slice none 0 0) := q4.cell 1
    have D := Lib.hid ((own_zeroH w3 w3.heap.size (Nat.le_refl _)).out q3.lt b2 (Nat.le_trans (Nat.le_succ _) (Nat.le_succ _)))
    clear q1 q2 q3 q4 b2
    go_wp2_with fail
    exact bodyPost_ret (v := .tuple #[.agg #[.slice none 0 0, .slice none 0 0], .bool false]) (by simp [results, Tryd.results37, go_sem, *]) rfl ⟨_, _, by rw [HF.out], by rw [HF.out]; exact D.out.1, D.out.2⟩
  have hd : (decide ((1 : Int) ≤ lim) && decide (lim ≤ 40)) = true := by rw [decide_eq_true hlim.1, decide_eq_true hlim.2]; rfl
  have HL1 := Lib.hid (l1In_any lim 1 40 w3)
  have HE := Lib.hid (show Hps.validH h = true ∧ Hps.okCm o = true ∧ 1 ≤ lim ∧ lim ≤ 40 from ⟨hv, ho, hlim.1, hlim.2⟩)
  have h40 := (Hps.valid_iff.1 hv).2.1
  have hr4 := (Hps.valid_iff.1 hv).2.2.1
  have hlc := hs.cells.1
  have hlr := hs.roots.1
  have hn4 : n ≤ 40 := by omega
  have hm4 : m ≤ 4 := by omega
  have H3 := Lib.hid (fun cl (hcl : cl ∈ h.cs) => show cl.r.length ≤ 1000000 by have := (Hps.okCell_iff.1 ((Hps.valid_iff.1 hv).1 cl hcl)).2.2.1; omega)
  have HD := Lib.hid hd
  clear hv ho hlim h40 hr4 hlr hlc hd
  have s2 := hs.up b2
  have x0 : w3.cell? ⟨w.heap.size, 0, none⟩ = some (.slice A n c) := q1.cell 0
  have x1 : w3.cell? ⟨w.heap.size, 1, none⟩ = some (.slice R m d) := q1.cell 1
  have z0 : w3.cell? ⟨w.heap.size + 1, 0, none⟩ = some (.int .i64 o.op) := q2.cell 0
  have z1 : w3.cell? ⟨w.heap.size + 1, 1, none⟩ = some (.int .i64 o.a) := q2.cell 1
  have z2 : w3.cell? ⟨w.heap.size + 1, 2, none⟩ = some (.int .i64 o.b) := q2.cell 2
  have z3 : w3.cell? ⟨w.heap.size + 1, 3, none⟩ = some (.int .i64 o.c) := q2.cell 3
  go_wp2_with fail
  refine HL1.out.mono ?_
  rw [HD.out]
  rintro e w4 ⟨rfl, rfl⟩
  go_wp2_with fail
  refine (mCommandPossible_any _ _ _ _ _ _ h o _ s2 hn hm).mono ?_
  rintro e w4 ⟨rfl, b1⟩
  replace q1 := q1.keep b1 q1.lt
  replace q2 := q2.keep b1 q2.lt
  replace q3 := q3.keep b1 q3.lt
  replace b2 := b2.trans (b1.mono b2.size)
  clear b1
  clear s2 x0 x1 z0 z1 z2 z3 HL1
  have s2 := hs.up b2
  have x0 : w4.cell? ⟨w.heap.size, 0, none⟩ = some (.slice A n c) := q1.cell 0
  have x1 : w4.cell? ⟨w.heap.size, 1, none⟩ = some (.slice R m d) := q1.cell 1
  have hsz : w.heap.size + 3 ≤ w4.heap.size := by have := q3.lt; omega
  cases hc : Hps.canH h o
  · have HF := Lib.hid (Hps.stepSw_cannot HE.out hc)
    clear hc
    go_wp2_with fail
    refine (l7Copy_any _ _ _ _ _ _ h _ s2 (by omega) (by omega) H3.out).mono ?_
    rintro e w5 ⟨vc, vr, rfl, oh, b1⟩
    obtain ⟨A5, n5, c5, R5, m5, d5, rfl, rfl⟩ := oh.slices
    replace oh := oh.base (base' := w.heap.size + 3) hsz
    replace q1 := q1.keep b1 q1.lt
    replace q2 := q2.keep b1 q2.lt
    replace q3 := q3.keep b1 q3.lt
    replace b2 := b2.trans (b1.mono b2.size)
    clear b1
    have r2 : (w5).frozen? ⟨w.heap.size + 1 + 1, 0, none⟩ = false := q3.frozen 0
    have r3 : (w5).frozen? ⟨w.heap.size + 1 + 1, 1, none⟩ = false := q3.frozen 1
    have r5 : (w5).cell? ⟨w.heap.size + 1 + 1, 0, none⟩ = some (.slice none 0 0) := q3.cell 0
    have r6 : (w5).cell? ⟨w.heap.size + 1 + 1, 1, none⟩ = some (.slice none 0 0) := q3.cell 1
    have q4 := (q3.put 0 (.slice A5 n5 c5)).put 1 (.slice R5 m5 d5)
    have r8 : (((w5).setCell ⟨w.heap.size + 1 + 1, 0, none⟩ (.slice A5 n5 c5)).setCell ⟨w.heap.size + 1 + 1, 1, none⟩ (.slice R5 m5 d5)).cell? ⟨w.heap.size + 1 + 1, 0, none⟩ = some (.slice A5 n5 c5) := q4.cell 0
    have r9 : (((w5).setCell ⟨w.heap.size + 1 + 1, 0, none⟩ (.slice A5 n5 c5)).setCell ⟨w.heap.size + 1 + 1, 1, none⟩ (.slice R5 m5 d5)).cell? ⟨w.heap.size + 1 + 1, 1, none⟩ = some (.slice R5 m5 d5) := q4.cell 1
    have D := Lib.hid (oh.out (g := w.heap.size + 1 + 1) (by omega) b2 (by omega))
    clear q1 q2 q3 q4 oh b2 x0 x1 s2
    go_wp2_with fail
    exact bodyPost_ret (v := .tuple #[.agg #[.slice A5 n5 c5, .slice R5 m5 d5], .bool false]) (by simp [results, Tryd.results37, go_sem, *]) rfl ⟨_, _, by rw [HF.out], by rw [HF.out]; exact D.out.1, D.out.2⟩
  have HC := Lib.hid hc
  clear hc
  go_wp2_with fail
  refine (l7Copy_any _ _ _ _ _ _ h _ s2 (by omega) (by omega) H3.out).mono ?_
  rintro e w5 ⟨vc, vr, rfl, oh, b1⟩
  obtain ⟨A5, n5, c5, R5, m5, d5, rfl, rfl, s5⟩ := oh.parts
  replace oh := oh.base (base' := w.heap.size + 3) hsz
  replace q1 := q1.keep b1 q1.lt
  replace q2 := q2.keep b1 q2.lt
  replace q3 := q3.keep b1 q3.lt
  replace b2 := b2.trans (b1.mono b2.size)
  clear b1
  clear s2 x0 x1 hsz
  have bA : Below w5.heap.size w5 (w5.alloc (.cells #[.slice A5 n5 c5, .slice R5 m5 d5] 26)) := (Below.refl _ _).alloc (Nat.le_refl _) _
  have bx := Rw.new w5 26 #[.slice A5 n5 c5, .slice R5 m5 d5]
  replace q2 := q2.alloc (.cells #[.slice A5 n5 c5, .slice R5 m5 d5] 26)
  have hq5 := q3.lt
  replace q3 := q3.alloc (.cells #[.slice A5 n5 c5, .slice R5 m5 d5] 26)
  replace b2 := b2.trans (bA.mono b2.size)
  replace oh := oh.below bA (Nat.le_refl _)
  replace s5 := s5.up bA
  clear bA q1
  go_upto_region 6 with fail
  generalize w5.alloc (.cells #[.slice A5 n5 c5, .slice R5 m5 d5] 26) = w6 at bx q2 q3 b2 oh s5 ⊢
  obtain ⟨b, hb⟩ : ∃ b, w5.heap.size = b := ⟨_, rfl⟩
  rw [hb] at bx hq5 ⊢
  clear hb
  have hn5 : n5 ≤ 40 := by rw [← s5.cells.1]; exact (Hps.valid_iff.1 HE.out.1).2.1
  have hm5 : m5 ≤ 4 := by rw [← s5.roots.1, (Hps.valid_iff.1 HE.out.1).2.2.1]; exact Nat.le_refl _
  by_cases h1 : o.op = 1
  case neg =>
    have ht : (o.op == (1 : Int)) = false := by rw [beq_eq_false_iff_ne]; exact h1
    have hroom := Hps.room_other (h := h) (limit := lim) h1
    have HF := Lib.hid (Hps.stepSw_does HE.out HC.out (fun e => h1 e.1))
    rw [hroom] at HF
    have HCX := HC
    clear h1 hroom oh
    have z0 : w6.cell? ⟨w.heap.size + 1, 0, none⟩ = some (.int .i64 o.op) := q2.cell 0
    have z1 : w6.cell? ⟨w.heap.size + 1, 1, none⟩ = some (.int .i64 o.a) := q2.cell 1
    have z2 : w6.cell? ⟨w.heap.size + 1, 2, none⟩ = some (.int .i64 o.b) := q2.cell 2
    have z3 : w6.cell? ⟨w.heap.size + 1, 3, none⟩ = some (.int .i64 o.c) := q2.cell 3
    have y0 : w6.cell? ⟨b, 0, none⟩ = some (.slice A5 n5 c5) := bx.cell 0
    have y1 : w6.cell? ⟨b, 1, none⟩ = some (.slice R5 m5 d5) := bx.cell 1
    have hg5 : Hps.gapH (h) ≤ n5 := by have := Hps.gapH_le (h); rw [s5.cells.1] at this; exact this
    have HG5 := Lib.hid hg5
    have hbl := bx.lt
    have hql := q2.lt
    have hGl := q3.lt
    clear hg5
    go_upto_region 10 with fail
    clear z0 z1 z2 z3 y0 y1
    refine wp_region_inv (by kernel_rfl) (by kernel_rfl) (fun L ac ww => ∃ t7 t50 t51 t52 t53 t54 : Value, ac = { tmps := #[heapV A n c R m d, Value.int IntKind.i64 lim, cmV o, Value.pointer (some { block := w.heap.size, off := 0 }), undef, Value.pointer (some { block := w.heap.size + 1, off := 0 }), Value.pointer (some { block := w.heap.size + 1 + 1, off := 0 }), t7, Value.pointer (some { block := b, off := 0 }), Value.agg #[Value.slice A n c, Value.slice R m d], Value.bool true, Value.bool false, Value.bool false, Value.agg #[Value.int IntKind.i64 o.op, Value.int IntKind.i64 o.a, Value.int IntKind.i64 o.b, Value.int IntKind.i64 o.c], Value.bool true, Value.bool false, Value.bool false, Value.bool false, Value.int IntKind.i64 lim, Value.bool true, Value.bool false, Value.bool false, undef, Value.agg #[Value.slice A n c, Value.slice R m d], Value.agg #[Value.int IntKind.i64 o.op, Value.int IntKind.i64 o.a, Value.int IntKind.i64 o.b, Value.int IntKind.i64 o.c], Value.bool true, Value.bool false, undef, undef, Value.agg #[Value.slice A n c, Value.slice R m d], Value.agg #[Value.slice A5 n5 c5, Value.slice R5 m5 d5], Value.pointer (some { block := w.heap.size + 1, off := 0 }), Value.int IntKind.i64 o.op, Value.bool false, Value.bool false, undef, undef, undef, undef, Value.bool false, undef, undef, undef, undef, undef, undef, undef, undef, undef, undef, t50, t51, t52, t53, t54], defers := [] } ∧ (L 5 = false → Below w6.heap.size w6 ww) ∧ (Below w.heap.size w ww) ∧ (L 5 = false → Rw ww (w.heap.size + 1 + 1) 26 #[.slice none 0 0, .slice none 0 0]) ∧ (L 5 = true → ∀ q, q < 5 → L q = true) ∧ (L 0 = true → t50 = heapV A5 n5 c5 R5 m5 d5) ∧ (L 1 = true → t51 = cmV o) ∧ (L 2 = true → t52 = heapV A5 n5 c5 R5 m5 d5) ∧ (L 3 = true → t53 = .int .i64 (Hps.gapH (h) : Nat)) ∧ (L 4 = true → ∃ (A7 : Option Addr) (n7 c7 : Nat) (R7 : Option Addr) (m7 d7 : Nat), t54 = heapV A7 n7 c7 R7 m7 d7 ∧ OwnH ww w6.heap.size (.slice A7 n7 c7) (.slice R7 m7 d7) (Hps.doH (h) o (Hps.gapH (h)))) ∧ (L 5 = true → ∃ (A7 : Option Addr) (n7 c7 : Nat) (R7 : Option Addr) (m7 d7 : Nat), Rw ww (w.heap.size + 1 + 1) 26 #[.slice A7 n7 c7, .slice R7 m7 d7] ∧ OwnH ww w6.heap.size (.slice A7 n7 c7) (.slice R7 m7 d7) (Hps.doH (h) o (Hps.gapH (h)))) ∧ (L 6 = true → t7 = .bool true)) ?h0 ?hstep ?hdone
    case h0 => exact ⟨_, _, _, _, _, _, rfl, fun _ => (Below.refl _ _).drew, b2.drew, fun _ => q3.keep (Below.refl _ _).drew q3.lt, fun h => absurd h Bool.false_ne_true, (fun h => absurd h Bool.false_ne_true), (fun h => absurd h Bool.false_ne_true), (fun h => absurd h Bool.false_ne_true), (fun h => absurd h Bool.false_ne_true), (fun h => absurd h Bool.false_ne_true), (fun h => absurd h Bool.false_ne_true), (fun h => absurd h Bool.false_ne_true)⟩
    case hstep =>
      rintro L ac ww i o ho hL hd ⟨t7, t50, t51, t52, t53, t54, rfl, I0, I1, I2, I3, f0, f1, f2, f3, f4, f5, f6⟩
      have hi : i < 7 := (Array.getElem?_eq_some_iff.1 ho).1
      obtain rfl | rfl | rfl | rfl | rfl | rfl | rfl : i = 0 ∨ i = 1 ∨ i = 2 ∨ i = 3 ∨ i = 4 ∨ i = 5 ∨ i = 6 := by omega
      · obtain rfl := Option.some.inj ho
        have h5 : L 5 = false := by
          cases e : L 5
          · rfl
          · exact absurd (I3 e 0 (by omega)) (by rw [hL]; decide)
        have J0 := I0 h5
        have v0 : ww.cell? ⟨b, 0, none⟩ = some (.slice A5 n5 c5) := (bx.keep J0 hbl).cell 0
        have v1 : ww.cell? ⟨b, 1, none⟩ = some (.slice R5 m5 d5) := (bx.keep J0 hbl).cell 1
        refine wpOp_step rfl (fun K' hK => ?_)
        go_simp
        refine hK _ _ ?_
        exact ⟨_, _, _, _, _, _, rfl, (fun h => I0 ((upd_other (by decide)).symm.trans h)), (I1), (fun h => I2 ((upd_other (by decide)).symm.trans h)), (fun h q hq => upd_mono (I3 (upd_ne h (by decide)) q hq)), (fun _ => rfl), (kp f1), (kp f2), (kp f3), (kp f4), (kp f5), (kp f6)⟩
      · obtain rfl := Option.some.inj ho
        have h5 : L 5 = false := by
          cases e : L 5
          · rfl
          · exact absurd (I3 e 1 (by omega)) (by rw [hL]; decide)
        have J0 := I0 h5
        have v0 : ww.cell? ⟨w.heap.size + 1, 0, none⟩ = some (.int .i64 o.op) := (q2.keep J0 hql).cell 0
        have v1 : ww.cell? ⟨w.heap.size + 1, 1, none⟩ = some (.int .i64 o.a) := (q2.keep J0 hql).cell 1
        have v2 : ww.cell? ⟨w.heap.size + 1, 2, none⟩ = some (.int .i64 o.b) := (q2.keep J0 hql).cell 2
        have v3 : ww.cell? ⟨w.heap.size + 1, 3, none⟩ = some (.int .i64 o.c) := (q2.keep J0 hql).cell 3
        refine wpOp_step rfl (fun K' hK => ?_)
        go_simp
        refine hK _ _ ?_
        exact ⟨_, _, _, _, _, _, rfl, (fun h => I0 ((upd_other (by decide)).symm.trans h)), (I1), (fun h => I2 ((upd_other (by decide)).symm.trans h)), (fun h q hq => upd_mono (I3 (upd_ne h (by decide)) q hq)), (kp f0), (fun _ => rfl), (kp f2), (kp f3), (kp f4), (kp f5), (kp f6)⟩
      · obtain rfl := Option.some.inj ho
        have h5 : L 5 = false := by
          cases e : L 5
          · rfl
          · exact absurd (I3 e 2 (by omega)) (by rw [hL]; decide)
        have J0 := I0 h5
        have v0 : ww.cell? ⟨b, 0, none⟩ = some (.slice A5 n5 c5) := (bx.keep J0 hbl).cell 0
        have v1 : ww.cell? ⟨b, 1, none⟩ = some (.slice R5 m5 d5) := (bx.keep J0 hbl).cell 1
        refine wpOp_step rfl (fun K' hK => ?_)
        go_simp
        refine hK _ _ ?_
        exact ⟨_, _, _, _, _, _, rfl, (fun h => I0 ((upd_other (by decide)).symm.trans h)), (I1), (fun h => I2 ((upd_other (by decide)).symm.trans h)), (fun h q hq => upd_mono (I3 (upd_ne h (by decide)) q hq)), (kp f0), (kp f1), (fun _ => rfl), (kp f3), (kp f4), (kp f5), (kp f6)⟩
      · obtain rfl := Option.some.inj ho
        have g2 := f2 (hd ⟨2, .data⟩ (by simp) rfl)
        subst g2
        have h5 : L 5 = false := by
          cases e : L 5
          · rfl
          · exact absurd (I3 e 3 (by omega)) (by rw [hL]; decide)
        have J0 := I0 h5
        refine wpOp_step rfl (fun K' hK => ?_)
        go_simp
        refine (mPlace_any _ _ _ _ _ _ (h) ww (s5.up J0) (by omega)).mono ?_
        rintro e w' ⟨rfl, b5⟩
        refine hK _ _ ?_
        exact ⟨_, _, _, _, _, _, rfl, (fun _ => J0.trans (b5.mono J0.size)), (I1.trans (b5.mono I1.size)), (fun h => (I2 h5).keep b5 (I2 h5).lt), (fun h q hq => upd_mono (I3 (upd_ne h (by decide)) q hq)), (kp f0), (kp f1), (kp f2), (fun _ => rfl), (fun h => by
          obtain ⟨A7, n7, c7, R7, m7, d7, e7, o7⟩ := f4 (upd_ne h (by decide))
          exact ⟨A7, n7, c7, R7, m7, d7, e7, o7.below b5 (Nat.le_refl _)⟩), (fun h => absurd ((upd_other (by decide)).symm.trans h) (by rw [h5]; decide)), (kp f6)⟩
      · obtain rfl := Option.some.inj ho
        have g0 := f0 (hd ⟨0, .data⟩ (by simp) rfl)
        have g1 := f1 (hd ⟨1, .data⟩ (by simp) rfl)
        have g3 := f3 (hd ⟨3, .data⟩ (by simp) rfl)
        subst g0
        subst g1
        subst g3
        have h5 : L 5 = false := by
          cases e : L 5
          · rfl
          · exact absurd (I3 e 4 (by omega)) (by rw [hL]; decide)
        have J0 := I0 h5
        refine wpOp_step rfl (fun K' hK => ?_)
        go_simp
        refine (l8Do_any A5 R5 n5 c5 m5 d5 (h) o (Hps.gapH (h)) ww (s5.up J0) HCX.out (fun _ => HG5.out)).mono ?_
        rintro e w' ⟨vc7, vr7, rfl, o7, b5⟩
        obtain ⟨A7, n7, c7, R7, m7, d7, rfl, rfl⟩ := o7.slices
        refine hK _ _ ?_
        exact ⟨_, _, _, _, _, _, rfl, (fun _ => J0.trans (b5.mono J0.size)), (I1.trans (b5.mono I1.size)), (fun h => (I2 h5).keep b5 (I2 h5).lt), (fun h q hq => upd_mono (I3 (upd_ne h (by decide)) q hq)), (kp f0), (kp f1), (kp f2), (kp f3), (fun _ => ⟨A7, n7, c7, R7, m7, d7, rfl, o7.base J0.size⟩), (fun h => absurd ((upd_other (by decide)).symm.trans h) (by rw [h5]; decide)), (kp f6)⟩
      · obtain rfl := Option.some.inj ho
        have g4 := f4 (hd ⟨4, .data⟩ (by simp) rfl)
        obtain ⟨A7, n7, c7, R7, m7, d7, rfl, o7⟩ := g4
        have rz := I2 hL
        have u0 := rz.cell 0
        have u1 := rz.cell 1
        have v0 := rz.frozen 0
        have v1 := rz.frozen 1
        simp at u0 u1
        refine wpOp_step rfl (fun K' hK => ?_)
        go_simp
        refine hK _ _ ?_
        exact ⟨_, _, _, _, _, _, rfl, (fun h => absurd (upd_self.symm.trans h) (by decide)), ((I1.setCell (p := ⟨w.heap.size + 1 + 1, 0, none⟩) (by show w.heap.size ≤ w.heap.size + 1 + 1; omega) _).setCell (p := ⟨w.heap.size + 1 + 1, 1, none⟩) (by show w.heap.size ≤ w.heap.size + 1 + 1; omega) _), (fun h => absurd (upd_self.symm.trans h) (by decide)), (fun _ q hq => upd_mono (by
          obtain rfl | rfl | rfl | rfl | rfl : q = 0 ∨ q = 1 ∨ q = 2 ∨ q = 3 ∨ q = 4 := by omega
          all_goals exact hd ⟨_, .phase⟩ (by simp) rfl)), (kp f0), (kp f1), (kp f2), (kp f3), (fun _ => ⟨A7, n7, c7, R7, m7, d7, rfl, o7.put (by omega) _ _⟩), (fun _ => ⟨A7, n7, c7, R7, m7, d7, (rz.put 0 _).put 1 _, o7.put (by omega) _ _⟩), (kp f6)⟩
      · obtain rfl := Option.some.inj ho
        refine wpOp_step rfl (fun K' hK => ?_)
        go_simp
        refine hK _ _ ?_
        exact ⟨_, _, _, _, _, _, rfl, (fun h => I0 ((upd_other (by decide)).symm.trans h)), (I1), (fun h => I2 ((upd_other (by decide)).symm.trans h)), (fun h q hq => upd_mono (I3 (upd_ne h (by decide)) q hq)), (kp f0), (kp f1), (kp f2), (kp f3), (kp f4), (kp f5), (fun _ => rfl)⟩
    case hdone =>
      rintro L ac ww hall ⟨t7, t50, t51, t52, t53, t54, rfl, I0, I1, I2, I3, f0, f1, f2, f3, f4, f5, f6⟩
      have e0 := f0 (hall 0 (by decide))
      have e1 := f1 (hall 1 (by decide))
      have e2 := f2 (hall 2 (by decide))
      have e3 := f3 (hall 3 (by decide))
      have e4 := f4 (hall 4 (by decide))
      have e5 := f5 (hall 5 (by decide))
      have e6 := f6 (hall 6 (by decide))
      clear f0 f1 f2 f3 f4 f5 f6
      obtain ⟨A7, n7, c7, R7, m7, d7, r7, o7⟩ := e5
      subst e6
      have q0 := r7.cell 0
      have q5 := r7.cell 1
      simp at q0 q5
      have D := Lib.hid (And.intro (o7.base (base' := w.heap.size) (by have := b2.size; omega)) I1)
      clear e0 e1 e2 e3 e4 I0 I1 I2 I3 hall o7 r7
      go_wp2_with fail
      exact bodyPost_ret (v := .tuple #[.agg #[.slice A7 n7 c7, .slice R7 m7 d7], .bool true]) (by simp [results, Tryd.results37, go_sem, *]) rfl ⟨_, _, by rw [HF.out], by rw [HF.out]; exact D.out.1, D.out.2⟩
  have ht : (o.op == (1 : Int)) = true := by rw [h1]; rfl
  obtain ⟨gp, hgp⟩ : ∃ gp, Hps.gapH h = gp := ⟨_, rfl⟩
  have HGP := Lib.hid hgp
  have HP1 := Lib.hid (mPlace_any A5 R5 n5 c5 m5 d5 h w6 s5 (by omega))
  rw [hgp] at HP1
  have HO1 := Lib.hid h1
  clear hgp h1
  have z0 : w6.cell? ⟨w.heap.size + 1, 0, none⟩ = some (.int .i64 o.op) := q2.cell 0
  have z1 : w6.cell? ⟨w.heap.size + 1, 1, none⟩ = some (.int .i64 o.a) := q2.cell 1
  have z2 : w6.cell? ⟨w.heap.size + 1, 2, none⟩ = some (.int .i64 o.b) := q2.cell 2
  have z3 : w6.cell? ⟨w.heap.size + 1, 3, none⟩ = some (.int .i64 o.c) := q2.cell 3
  have y0 : w6.cell? ⟨b, 0, none⟩ = some (.slice A5 n5 c5) := bx.cell 0
  have y1 : w6.cell? ⟨b, 1, none⟩ = some (.slice R5 m5 d5) := bx.cell 1
  go_wp2_with fail
  refine HP1.out.mono ?_
  rintro e w7 ⟨rfl, b1⟩
  replace bx := bx.keep b1 bx.lt
  replace q2 := q2.keep b1 q2.lt
  replace q3 := q3.keep b1 q3.lt
  replace b2 := b2.trans (b1.mono b2.size)
  replace s5 := s5.up b1
  clear b1 z0 z1 z2 z3 y0 y1 HP1
  by_cases hgl : lim ≤ (gp : Int)
  case neg =>
    have hge : ¬ (gp : Int) ≥ lim := by omega
    have hroom := Hps.room_free (h := h) (limit := lim) (o := o) (by rw [HGP.out]; exact hgl)
    have HF := Lib.hid (Hps.stepSw_does HE.out HC.out (fun e => by rw [hroom, HGP.out] at e; exact hgl e.2))
    rw [hroom] at HF
    have HCX := HC
    clear hgl hroom oh
    have z0 : w7.cell? ⟨w.heap.size + 1, 0, none⟩ = some (.int .i64 o.op) := q2.cell 0
    have z1 : w7.cell? ⟨w.heap.size + 1, 1, none⟩ = some (.int .i64 o.a) := q2.cell 1
    have z2 : w7.cell? ⟨w.heap.size + 1, 2, none⟩ = some (.int .i64 o.b) := q2.cell 2
    have z3 : w7.cell? ⟨w.heap.size + 1, 3, none⟩ = some (.int .i64 o.c) := q2.cell 3
    have y0 : w7.cell? ⟨b, 0, none⟩ = some (.slice A5 n5 c5) := bx.cell 0
    have y1 : w7.cell? ⟨b, 1, none⟩ = some (.slice R5 m5 d5) := bx.cell 1
    have hg5 : Hps.gapH (h) ≤ n5 := by have := Hps.gapH_le (h); rw [s5.cells.1] at this; exact this
    have HG5 := Lib.hid hg5
    have hbl := bx.lt
    have hql := q2.lt
    have hGl := q3.lt
    clear hg5
    go_upto_region 10 with fail
    clear z0 z1 z2 z3 y0 y1
    refine wp_region_inv (by kernel_rfl) (by kernel_rfl) (fun L ac ww => ∃ t7 t50 t51 t52 t53 t54 : Value, ac = { tmps := #[heapV A n c R m d, Value.int IntKind.i64 lim, cmV o, Value.pointer (some { block := w.heap.size, off := 0 }), undef, Value.pointer (some { block := w.heap.size + 1, off := 0 }), Value.pointer (some { block := w.heap.size + 1 + 1, off := 0 }), t7, Value.pointer (some { block := b, off := 0 }), Value.agg #[Value.slice A n c, Value.slice R m d], Value.bool true, Value.bool false, Value.bool false, Value.agg #[Value.int IntKind.i64 o.op, Value.int IntKind.i64 o.a, Value.int IntKind.i64 o.b, Value.int IntKind.i64 o.c], Value.bool true, Value.bool false, Value.bool false, Value.bool false, Value.int IntKind.i64 lim, Value.bool true, Value.bool false, Value.bool false, undef, Value.agg #[Value.slice A n c, Value.slice R m d], Value.agg #[Value.int IntKind.i64 o.op, Value.int IntKind.i64 o.a, Value.int IntKind.i64 o.b, Value.int IntKind.i64 o.c], Value.bool true, Value.bool false, undef, undef, Value.agg #[Value.slice A n c, Value.slice R m d], Value.agg #[Value.slice A5 n5 c5, Value.slice R5 m5 d5], Value.pointer (some { block := w.heap.size + 1, off := 0 }), Value.int IntKind.i64 o.op, Value.bool true, Value.bool true, Value.agg #[Value.slice A5 n5 c5, Value.slice R5 m5 d5], Value.int IntKind.i64 ↑gp, Value.int IntKind.i64 lim, Value.bool (decide (lim ≤ ↑gp)), Value.bool (decide (lim ≤ ↑gp)), undef, undef, undef, undef, undef, undef, undef, undef, undef, undef, t50, t51, t52, t53, t54], defers := [] } ∧ (L 5 = false → Below w7.heap.size w7 ww) ∧ (Below w.heap.size w ww) ∧ (L 5 = false → Rw ww (w.heap.size + 1 + 1) 26 #[.slice none 0 0, .slice none 0 0]) ∧ (L 5 = true → ∀ q, q < 5 → L q = true) ∧ (L 0 = true → t50 = heapV A5 n5 c5 R5 m5 d5) ∧ (L 1 = true → t51 = cmV o) ∧ (L 2 = true → t52 = heapV A5 n5 c5 R5 m5 d5) ∧ (L 3 = true → t53 = .int .i64 (Hps.gapH (h) : Nat)) ∧ (L 4 = true → ∃ (A7 : Option Addr) (n7 c7 : Nat) (R7 : Option Addr) (m7 d7 : Nat), t54 = heapV A7 n7 c7 R7 m7 d7 ∧ OwnH ww w7.heap.size (.slice A7 n7 c7) (.slice R7 m7 d7) (Hps.doH (h) o (Hps.gapH (h)))) ∧ (L 5 = true → ∃ (A7 : Option Addr) (n7 c7 : Nat) (R7 : Option Addr) (m7 d7 : Nat), Rw ww (w.heap.size + 1 + 1) 26 #[.slice A7 n7 c7, .slice R7 m7 d7] ∧ OwnH ww w7.heap.size (.slice A7 n7 c7) (.slice R7 m7 d7) (Hps.doH (h) o (Hps.gapH (h)))) ∧ (L 6 = true → t7 = .bool true)) ?h0 ?hstep ?hdone
    case h0 => exact ⟨_, _, _, _, _, _, rfl, fun _ => (Below.refl _ _).drew, b2.drew, fun _ => q3.keep (Below.refl _ _).drew q3.lt, fun h => absurd h Bool.false_ne_true, (fun h => absurd h Bool.false_ne_true), (fun h => absurd h Bool.false_ne_true), (fun h => absurd h Bool.false_ne_true), (fun h => absurd h Bool.false_ne_true), (fun h => absurd h Bool.false_ne_true), (fun h => absurd h Bool.false_ne_true), (fun h => absurd h Bool.false_ne_true)⟩
    case hstep =>
      rintro L ac ww i o ho hL hd ⟨t7, t50, t51, t52, t53, t54, rfl, I0, I1, I2, I3, f0, f1, f2, f3, f4, f5, f6⟩
      have hi : i < 7 := (Array.getElem?_eq_some_iff.1 ho).1
      obtain rfl | rfl | rfl | rfl | rfl | rfl | rfl : i = 0 ∨ i = 1 ∨ i = 2 ∨ i = 3 ∨ i = 4 ∨ i = 5 ∨ i = 6 := by omega
      · obtain rfl := Option.some.inj ho
        have h5 : L 5 = false := by
          cases e : L 5
          · rfl
          · exact absurd (I3 e 0 (by omega)) (by rw [hL]; decide)
        have J0 := I0 h5
        have v0 : ww.cell? ⟨b, 0, none⟩ = some (.slice A5 n5 c5) := (bx.keep J0 hbl).cell 0
        have v1 : ww.cell? ⟨b, 1, none⟩ = some (.slice R5 m5 d5) := (bx.keep J0 hbl).cell 1
        refine wpOp_step rfl (fun K' hK => ?_)
        go_simp
        refine hK _ _ ?_
        exact ⟨_, _, _, _, _, _, rfl, (fun h => I0 ((upd_other (by decide)).symm.trans h)), (I1), (fun h => I2 ((upd_other (by decide)).symm.trans h)), (fun h q hq => upd_mono (I3 (upd_ne h (by decide)) q hq)), (fun _ => rfl), (kp f1), (kp f2), (kp f3), (kp f4), (kp f5), (kp f6)⟩
      · obtain rfl := Option.some.inj ho
        have h5 : L 5 = false := by
          cases e : L 5
          · rfl
          · exact absurd (I3 e 1 (by omega)) (by rw [hL]; decide)
        have J0 := I0 h5
        have v0 : ww.cell? ⟨w.heap.size + 1, 0, none⟩ = some (.int .i64 o.op) := (q2.keep J0 hql).cell 0
        have v1 : ww.cell? ⟨w.heap.size + 1, 1, none⟩ = some (.int .i64 o.a) := (q2.keep J0 hql).cell 1
        have v2 : ww.cell? ⟨w.heap.size + 1, 2, none⟩ = some (.int .i64 o.b) := (q2.keep J0 hql).cell 2
        have v3 : ww.cell? ⟨w.heap.size + 1, 3, none⟩ = some (.int .i64 o.c) := (q2.keep J0 hql).cell 3
        refine wpOp_step rfl (fun K' hK => ?_)
        go_simp
        refine hK _ _ ?_
        exact ⟨_, _, _, _, _, _, rfl, (fun h => I0 ((upd_other (by decide)).symm.trans h)), (I1), (fun h => I2 ((upd_other (by decide)).symm.trans h)), (fun h q hq => upd_mono (I3 (upd_ne h (by decide)) q hq)), (kp f0), (fun _ => rfl), (kp f2), (kp f3), (kp f4), (kp f5), (kp f6)⟩
      · obtain rfl := Option.some.inj ho
        have h5 : L 5 = false := by
          cases e : L 5
          · rfl
          · exact absurd (I3 e 2 (by omega)) (by rw [hL]; decide)
        have J0 := I0 h5
        have v0 : ww.cell? ⟨b, 0, none⟩ = some (.slice A5 n5 c5) := (bx.keep J0 hbl).cell 0
        have v1 : ww.cell? ⟨b, 1, none⟩ = some (.slice R5 m5 d5) := (bx.keep J0 hbl).cell 1
        refine wpOp_step rfl (fun K' hK => ?_)
        go_simp
        refine hK _ _ ?_
        exact ⟨_, _, _, _, _, _, rfl, (fun h => I0 ((upd_other (by decide)).symm.trans h)), (I1), (fun h => I2 ((upd_other (by decide)).symm.trans h)), (fun h q hq => upd_mono (I3 (upd_ne h (by decide)) q hq)), (kp f0), (kp f1), (fun _ => rfl), (kp f3), (kp f4), (kp f5), (kp f6)⟩
      · obtain rfl := Option.some.inj ho
        have g2 := f2 (hd ⟨2, .data⟩ (by simp) rfl)
        subst g2
        have h5 : L 5 = false := by
          cases e : L 5
          · rfl
          · exact absurd (I3 e 3 (by omega)) (by rw [hL]; decide)
        have J0 := I0 h5
        refine wpOp_step rfl (fun K' hK => ?_)
        go_simp
        refine (mPlace_any _ _ _ _ _ _ (h) ww (s5.up J0) (by omega)).mono ?_
        rintro e w' ⟨rfl, b5⟩
        refine hK _ _ ?_
        exact ⟨_, _, _, _, _, _, rfl, (fun _ => J0.trans (b5.mono J0.size)), (I1.trans (b5.mono I1.size)), (fun h => (I2 h5).keep b5 (I2 h5).lt), (fun h q hq => upd_mono (I3 (upd_ne h (by decide)) q hq)), (kp f0), (kp f1), (kp f2), (fun _ => rfl), (fun h => by
          obtain ⟨A7, n7, c7, R7, m7, d7, e7, o7⟩ := f4 (upd_ne h (by decide))
          exact ⟨A7, n7, c7, R7, m7, d7, e7, o7.below b5 (Nat.le_refl _)⟩), (fun h => absurd ((upd_other (by decide)).symm.trans h) (by rw [h5]; decide)), (kp f6)⟩
      · obtain rfl := Option.some.inj ho
        have g0 := f0 (hd ⟨0, .data⟩ (by simp) rfl)
        have g1 := f1 (hd ⟨1, .data⟩ (by simp) rfl)
        have g3 := f3 (hd ⟨3, .data⟩ (by simp) rfl)
        subst g0
        subst g1
        subst g3
        have h5 : L 5 = false := by
          cases e : L 5
          · rfl
          · exact absurd (I3 e 4 (by omega)) (by rw [hL]; decide)
        have J0 := I0 h5
        refine wpOp_step rfl (fun K' hK => ?_)
        go_simp
        refine (l8Do_any A5 R5 n5 c5 m5 d5 (h) o (Hps.gapH (h)) ww (s5.up J0) HCX.out (fun _ => HG5.out)).mono ?_
        rintro e w' ⟨vc7, vr7, rfl, o7, b5⟩
        obtain ⟨A7, n7, c7, R7, m7, d7, rfl, rfl⟩ := o7.slices
        refine hK _ _ ?_
        exact ⟨_, _, _, _, _, _, rfl, (fun _ => J0.trans (b5.mono J0.size)), (I1.trans (b5.mono I1.size)), (fun h => (I2 h5).keep b5 (I2 h5).lt), (fun h q hq => upd_mono (I3 (upd_ne h (by decide)) q hq)), (kp f0), (kp f1), (kp f2), (kp f3), (fun _ => ⟨A7, n7, c7, R7, m7, d7, rfl, o7.base J0.size⟩), (fun h => absurd ((upd_other (by decide)).symm.trans h) (by rw [h5]; decide)), (kp f6)⟩
      · obtain rfl := Option.some.inj ho
        have g4 := f4 (hd ⟨4, .data⟩ (by simp) rfl)
        obtain ⟨A7, n7, c7, R7, m7, d7, rfl, o7⟩ := g4
        have rz := I2 hL
        have u0 := rz.cell 0
        have u1 := rz.cell 1
        have v0 := rz.frozen 0
        have v1 := rz.frozen 1
        simp at u0 u1
        refine wpOp_step rfl (fun K' hK => ?_)
        go_simp
        refine hK _ _ ?_
        exact ⟨_, _, _, _, _, _, rfl, (fun h => absurd (upd_self.symm.trans h) (by decide)), ((I1.setCell (p := ⟨w.heap.size + 1 + 1, 0, none⟩) (by show w.heap.size ≤ w.heap.size + 1 + 1; omega) _).setCell (p := ⟨w.heap.size + 1 + 1, 1, none⟩) (by show w.heap.size ≤ w.heap.size + 1 + 1; omega) _), (fun h => absurd (upd_self.symm.trans h) (by decide)), (fun _ q hq => upd_mono (by
          obtain rfl | rfl | rfl | rfl | rfl : q = 0 ∨ q = 1 ∨ q = 2 ∨ q = 3 ∨ q = 4 := by omega
          all_goals exact hd ⟨_, .phase⟩ (by simp) rfl)), (kp f0), (kp f1), (kp f2), (kp f3), (fun _ => ⟨A7, n7, c7, R7, m7, d7, rfl, o7.put (by omega) _ _⟩), (fun _ => ⟨A7, n7, c7, R7, m7, d7, (rz.put 0 _).put 1 _, o7.put (by omega) _ _⟩), (kp f6)⟩
      · obtain rfl := Option.some.inj ho
        refine wpOp_step rfl (fun K' hK => ?_)
        go_simp
        refine hK _ _ ?_
        exact ⟨_, _, _, _, _, _, rfl, (fun h => I0 ((upd_other (by decide)).symm.trans h)), (I1), (fun h => I2 ((upd_other (by decide)).symm.trans h)), (fun h q hq => upd_mono (I3 (upd_ne h (by decide)) q hq)), (kp f0), (kp f1), (kp f2), (kp f3), (kp f4), (kp f5), (fun _ => rfl)⟩
    case hdone =>
      rintro L ac ww hall ⟨t7, t50, t51, t52, t53, t54, rfl, I0, I1, I2, I3, f0, f1, f2, f3, f4, f5, f6⟩
      have e0 := f0 (hall 0 (by decide))
      have e1 := f1 (hall 1 (by decide))
      have e2 := f2 (hall 2 (by decide))
      have e3 := f3 (hall 3 (by decide))
      have e4 := f4 (hall 4 (by decide))
      have e5 := f5 (hall 5 (by decide))
      have e6 := f6 (hall 6 (by decide))
      clear f0 f1 f2 f3 f4 f5 f6
      obtain ⟨A7, n7, c7, R7, m7, d7, r7, o7⟩ := e5
      subst e6
      have q0 := r7.cell 0
      have q5 := r7.cell 1
      simp at q0 q5
      have D := Lib.hid (And.intro (o7.base (base' := w.heap.size) (by have := b2.size; omega)) I1)
      clear e0 e1 e2 e3 e4 I0 I1 I2 I3 hall o7 r7
      go_wp2_with fail
      exact bodyPost_ret (v := .tuple #[.agg #[.slice A7 n7 c7, .slice R7 m7 d7], .bool true]) (by simp [results, Tryd.results37, go_sem, *]) rfl ⟨_, _, by rw [HF.out], by rw [HF.out]; exact D.out.1, D.out.2⟩
  have hge : (gp : Int) ≥ lim := by omega
  have hroom := Hps.room_full (h := h) (limit := lim) HO1.out (by rw [HGP.out]; exact hgl)
  have HRM := Lib.hid hroom
  have hx40 : (Hps.sweptH h).cs.length ≤ 40 := by rw [Hps.swept_len]; exact (Hps.valid_iff.1 HE.out.1).2.1
  have hx4 : (Hps.sweptH h).rt.length = 4 := (Hps.valid_iff.1 HE.out.1).2.2.1
  have hcx := Hps.room_can HE.out.1 lim HC.out
  rw [hroom] at hcx
  have HCX := Lib.hid hcx
  have HCS := Lib.hid (mCollectSweep_any A5 R5 n5 c5 m5 d5 h w7 s5 (by omega) (by omega))
  rw [Hps.collect_eq HE.out.1] at HCS
  obtain ⟨X, hX⟩ : ∃ X, Hps.sweptH h = X := ⟨_, rfl⟩
  rw [hX] at HCS HCX HRM hx40 hx4
  have HX4 := Lib.hid hx4
  have HX40 := Lib.hid hx40
  clear hgl hroom hcx hX oh hx4 hx40
  have y0 : w7.cell? ⟨b, 0, none⟩ = some (.slice A5 n5 c5) := bx.cell 0
  have y1 : w7.cell? ⟨b, 1, none⟩ = some (.slice R5 m5 d5) := bx.cell 1
  have f0 : w7.frozen? ⟨b, 0, none⟩ = false := bx.frozen 0
  go_wp2_with fail
  refine HCS.out.mono ?_
  rintro e w8 ⟨vc8, vr8, rfl, o8, b1⟩
  obtain ⟨A8, n8, c8, R8, m8, d8, rfl, rfl, s8⟩ := o8.parts
  have hbl7 := bx.lt
  replace bx := bx.keep b1 bx.lt
  replace q2 := q2.keep b1 q2.lt
  replace q3 := q3.keep b1 q3.lt
  replace b2 := b2.trans (b1.mono b2.size)
  clear b1 y0 y1 f0 HCS s5
  have hGb : w.heap.size + 1 + 1 < b := hq5
  have f0 : w8.frozen? ⟨b, 0, none⟩ = false := bx.frozen 0
  have f1 : w8.frozen? ⟨b, 1, none⟩ = false := bx.frozen 1
  have y0 : w8.cell? ⟨b, 0, none⟩ = some (.slice A5 n5 c5) := bx.cell 0
  have y1 : w8.cell? ⟨b, 1, none⟩ = some (.slice R5 m5 d5) := bx.cell 1
  have p8 := put_any w8 b 0 (.slice A8 n8 c8)
  have p9 := put_any (w8.setCell ⟨b, 0, none⟩ (.slice A8 n8 c8)) b 1 (.slice R8 m8 d8)
  replace bx := (bx.put 0 (.slice A8 n8 c8)).put 1 (.slice R8 m8 d8)
  replace q2 := (q2.other (g' := b) (i := 0) (by omega) (.slice A8 n8 c8)).other (g' := b) (i := 1) (by omega) (.slice R8 m8 d8)
  replace q3 := (q3.other (g' := b) (i := 0) (by omega) (.slice A8 n8 c8)).other (g' := b) (i := 1) (by omega) (.slice R8 m8 d8)
  replace o8 := (OwnH.put o8 hbl7 (.slice A8 n8 c8) (.slice R8 m8 d8)).base (base' := w.heap.size + 3) (by omega)
  obtain ⟨A9, n9, c9, R9, m9, d9, e9, e10, s9⟩ := o8.parts
  injection e9 with e9 e9b e9c
  injection e10 with e10 e10b e10c
  subst e9 e9b e9c e10 e10b e10c
  replace b2 := (b2.setCell (p := ⟨b, 0, none⟩) (by show w.heap.size ≤ b; omega) (.slice A8 n8 c8)).setCell (p := ⟨b, 1, none⟩) (by show w.heap.size ≤ b; omega) (.slice R8 m8 d8)
  clear s8 hbl7 p8 p9
  go_upto_region 8 with fail
  clear f0 f1 y0 y1
  generalize (w8.setCell ⟨b, 0, none⟩ (.slice A8 n8 c8)).setCell ⟨b, 1, none⟩ (.slice R8 m8 d8) = w9 at bx q2 q3 o8 s9 b2 ⊢
  have hn8 : n8 ≤ 40 := by rw [← s9.cells.1]; exact HX40.out
  have hm8 : m8 ≤ 4 := by rw [← s9.roots.1, HX4.out]; exact Nat.le_refl _
  clear hn5 hm5 HX4 HX40
  have hn5 := hn8
  have hm5 := hm8
  have s5 := s9
  clear s9 hn8 hm8
  obtain ⟨gx, hgx⟩ : ∃ gx, Hps.gapH X = gx := ⟨_, rfl⟩
  have HGX := Lib.hid hgx
  have HP2 := Lib.hid (mPlace_any A8 R8 n8 c8 m8 d8 X w9 s5 (by omega))
  rw [hgx] at HP2
  clear hgx
  have y0 : w9.cell? ⟨b, 0, none⟩ = some (.slice A8 n8 c8) := bx.cell 0
  have y1 : w9.cell? ⟨b, 1, none⟩ = some (.slice R8 m8 d8) := bx.cell 1
  go_wp2_with fail
  refine HP2.out.mono ?_
  rintro e w10 ⟨rfl, b1⟩
  replace bx := bx.keep b1 bx.lt
  replace q2 := q2.keep b1 q2.lt
  replace q3 := q3.keep b1 q3.lt
  replace b2 := b2.trans (b1.mono b2.size)
  replace s5 := s5.up b1
  replace o8 := o8.below b1 (Nat.le_refl _)
  clear b1 y0 y1 HP2
  by_cases hgl : lim ≤ (gx : Int)
  · have hge2 : (gx : Int) ≥ lim := by omega
    have HF := Lib.hid (Hps.stepSw_full HE.out HC.out ⟨HO1.out, by rw [HRM.out, HGX.out]; exact hgl⟩)
    rw [HRM.out] at HF
    clear hgl
    have y0 : w10.cell? ⟨b, 0, none⟩ = some (.slice A8 n8 c8) := bx.cell 0
    have y1 : w10.cell? ⟨b, 1, none⟩ = some (.slice R8 m8 d8) := bx.cell 1
    have r2 : (w10).frozen? ⟨w.heap.size + 1 + 1, 0, none⟩ = false := q3.frozen 0
    have r3 : (w10).frozen? ⟨w.heap.size + 1 + 1, 1, none⟩ = false := q3.frozen 1
    have r5 : (w10).cell? ⟨w.heap.size + 1 + 1, 0, none⟩ = some (.slice none 0 0) := q3.cell 0
    have r6 : (w10).cell? ⟨w.heap.size + 1 + 1, 1, none⟩ = some (.slice none 0 0) := q3.cell 1
    have q4 := (q3.put 0 (.slice A8 n8 c8)).put 1 (.slice R8 m8 d8)
    have r8 : (((w10).setCell ⟨w.heap.size + 1 + 1, 0, none⟩ (.slice A8 n8 c8)).setCell ⟨w.heap.size + 1 + 1, 1, none⟩ (.slice R8 m8 d8)).cell? ⟨w.heap.size + 1 + 1, 0, none⟩ = some (.slice A8 n8 c8) := q4.cell 0
    have r9 : (((w10).setCell ⟨w.heap.size + 1 + 1, 0, none⟩ (.slice A8 n8 c8)).setCell ⟨w.heap.size + 1 + 1, 1, none⟩ (.slice R8 m8 d8)).cell? ⟨w.heap.size + 1 + 1, 1, none⟩ = some (.slice R8 m8 d8) := q4.cell 1
    have D := Lib.hid (o8.out (g := w.heap.size + 1 + 1) (by omega) b2 (by omega))
    clear q2 q3 q4 o8 b2 s5
    go_wp2_with fail
    exact bodyPost_ret (v := .tuple #[.agg #[.slice A8 n8 c8, .slice R8 m8 d8], .bool false]) (by simp [results, Tryd.results37, go_sem, *]) rfl ⟨_, _, by rw [HF.out], by rw [HF.out]; exact D.out.1, D.out.2⟩
  · have hge2 : ¬ (gx : Int) ≥ lim := by omega
    have HF := Lib.hid (Hps.stepSw_does HE.out HC.out (fun e => by rw [HRM.out, HGX.out] at e; exact hgl e.2))
    rw [HRM.out] at HF
    clear hgl o8
    have z0 : w10.cell? ⟨w.heap.size + 1, 0, none⟩ = some (.int .i64 o.op) := q2.cell 0
    have z1 : w10.cell? ⟨w.heap.size + 1, 1, none⟩ = some (.int .i64 o.a) := q2.cell 1
    have z2 : w10.cell? ⟨w.heap.size + 1, 2, none⟩ = some (.int .i64 o.b) := q2.cell 2
    have z3 : w10.cell? ⟨w.heap.size + 1, 3, none⟩ = some (.int .i64 o.c) := q2.cell 3
    have y0 : w10.cell? ⟨b, 0, none⟩ = some (.slice A8 n8 c8) := bx.cell 0
    have y1 : w10.cell? ⟨b, 1, none⟩ = some (.slice R8 m8 d8) := bx.cell 1
    have hg5 : Hps.gapH (X) ≤ n8 := by have := Hps.gapH_le (X); rw [s5.cells.1] at this; exact this
    have HG5 := Lib.hid hg5
    have hbl := bx.lt
    have hql := q2.lt
    have hGl := q3.lt
    clear hg5
    go_upto_region 10 with fail
    clear z0 z1 z2 z3 y0 y1
    refine wp_region_inv (by kernel_rfl) (by kernel_rfl) (fun L ac ww => ∃ t7 t50 t51 t52 t53 t54 : Value, ac = { tmps := #[heapV A n c R m d, Value.int IntKind.i64 lim, cmV o, Value.pointer (some { block := w.heap.size, off := 0 }), undef, Value.pointer (some { block := w.heap.size + 1, off := 0 }), Value.pointer (some { block := w.heap.size + 1 + 1, off := 0 }), t7, Value.pointer (some { block := b, off := 0 }), Value.agg #[Value.slice A n c, Value.slice R m d], Value.bool true, Value.bool false, Value.bool false, Value.agg #[Value.int IntKind.i64 o.op, Value.int IntKind.i64 o.a, Value.int IntKind.i64 o.b, Value.int IntKind.i64 o.c], Value.bool true, Value.bool false, Value.bool false, Value.bool false, Value.int IntKind.i64 lim, Value.bool true, Value.bool false, Value.bool false, undef, Value.agg #[Value.slice A n c, Value.slice R m d], Value.agg #[Value.int IntKind.i64 o.op, Value.int IntKind.i64 o.a, Value.int IntKind.i64 o.b, Value.int IntKind.i64 o.c], Value.bool true, Value.bool false, undef, undef, Value.agg #[Value.slice A n c, Value.slice R m d], Value.agg #[Value.slice A5 n5 c5, Value.slice R5 m5 d5], Value.pointer (some { block := w.heap.size + 1, off := 0 }), Value.int IntKind.i64 o.op, Value.bool true, Value.bool true, Value.agg #[Value.slice A5 n5 c5, Value.slice R5 m5 d5], Value.int IntKind.i64 ↑gp, Value.int IntKind.i64 lim, Value.bool true, Value.bool true, Value.tuple #[Value.agg #[Value.slice A8 n8 c8, Value.slice R8 m8 d8], Value.int IntKind.i64 ↑(Hps.leakL h).length], Value.agg #[Value.slice A5 n5 c5, Value.slice R5 m5 d5], Value.tuple #[Value.agg #[Value.slice A8 n8 c8, Value.slice R8 m8 d8], Value.int IntKind.i64 ↑(Hps.leakL h).length], Value.agg #[Value.slice A8 n8 c8, Value.slice R8 m8 d8], Value.int IntKind.i64 ↑(Hps.leakL h).length, Value.agg #[Value.slice A8 n8 c8, Value.slice R8 m8 d8], Value.int IntKind.i64 ↑gx, Value.int IntKind.i64 lim, Value.bool (decide (lim ≤ ↑gx)), undef, t50, t51, t52, t53, t54], defers := [] } ∧ (L 5 = false → Below w10.heap.size w10 ww) ∧ (Below w.heap.size w ww) ∧ (L 5 = false → Rw ww (w.heap.size + 1 + 1) 26 #[.slice none 0 0, .slice none 0 0]) ∧ (L 5 = true → ∀ q, q < 5 → L q = true) ∧ (L 0 = true → t50 = heapV A8 n8 c8 R8 m8 d8) ∧ (L 1 = true → t51 = cmV o) ∧ (L 2 = true → t52 = heapV A8 n8 c8 R8 m8 d8) ∧ (L 3 = true → t53 = .int .i64 (Hps.gapH (X) : Nat)) ∧ (L 4 = true → ∃ (A7 : Option Addr) (n7 c7 : Nat) (R7 : Option Addr) (m7 d7 : Nat), t54 = heapV A7 n7 c7 R7 m7 d7 ∧ OwnH ww w10.heap.size (.slice A7 n7 c7) (.slice R7 m7 d7) (Hps.doH (X) o (Hps.gapH (X)))) ∧ (L 5 = true → ∃ (A7 : Option Addr) (n7 c7 : Nat) (R7 : Option Addr) (m7 d7 : Nat), Rw ww (w.heap.size + 1 + 1) 26 #[.slice A7 n7 c7, .slice R7 m7 d7] ∧ OwnH ww w10.heap.size (.slice A7 n7 c7) (.slice R7 m7 d7) (Hps.doH (X) o (Hps.gapH (X)))) ∧ (L 6 = true → t7 = .bool true)) ?h0 ?hstep ?hdone
    case h0 => exact ⟨_, _, _, _, _, _, rfl, fun _ => (Below.refl _ _).drew, b2.drew, fun _ => q3.keep (Below.refl _ _).drew q3.lt, fun h => absurd h Bool.false_ne_true, (fun h => absurd h Bool.false_ne_true), (fun h => absurd h Bool.false_ne_true), (fun h => absurd h Bool.false_ne_true), (fun h => absurd h Bool.false_ne_true), (fun h => absurd h Bool.false_ne_true), (fun h => absurd h Bool.false_ne_true), (fun h => absurd h Bool.false_ne_true)⟩
    case hstep =>
      rintro L ac ww i o ho hL hd ⟨t7, t50, t51, t52, t53, t54, rfl, I0, I1, I2, I3, f0, f1, f2, f3, f4, f5, f6⟩
      have hi : i < 7 := (Array.getElem?_eq_some_iff.1 ho).1
      obtain rfl | rfl | rfl | rfl | rfl | rfl | rfl : i = 0 ∨ i = 1 ∨ i = 2 ∨ i = 3 ∨ i = 4 ∨ i = 5 ∨ i = 6 := by omega
      · obtain rfl := Option.some.inj ho
        have h5 : L 5 = false := by
          cases e : L 5
          · rfl
          · exact absurd (I3 e 0 (by omega)) (by rw [hL]; decide)
        have J0 := I0 h5
        have v0 : ww.cell? ⟨b, 0, none⟩ = some (.slice A8 n8 c8) := (bx.keep J0 hbl).cell 0
        have v1 : ww.cell? ⟨b, 1, none⟩ = some (.slice R8 m8 d8) := (bx.keep J0 hbl).cell 1
        refine wpOp_step rfl (fun K' hK => ?_)
        go_simp
        refine hK _ _ ?_
        exact ⟨_, _, _, _, _, _, rfl, (fun h => I0 ((upd_other (by decide)).symm.trans h)), (I1), (fun h => I2 ((upd_other (by decide)).symm.trans h)), (fun h q hq => upd_mono (I3 (upd_ne h (by decide)) q hq)), (fun _ => rfl), (kp f1), (kp f2), (kp f3), (kp f4), (kp f5), (kp f6)⟩
      · obtain rfl := Option.some.inj ho
        have h5 : L 5 = false := by
          cases e : L 5
          · rfl
          · exact absurd (I3 e 1 (by omega)) (by rw [hL]; decide)
        have J0 := I0 h5
        have v0 : ww.cell? ⟨w.heap.size + 1, 0, none⟩ = some (.int .i64 o.op) := (q2.keep J0 hql).cell 0
        have v1 : ww.cell? ⟨w.heap.size + 1, 1, none⟩ = some (.int .i64 o.a) := (q2.keep J0 hql).cell 1
        have v2 : ww.cell? ⟨w.heap.size + 1, 2, none⟩ = some (.int .i64 o.b) := (q2.keep J0 hql).cell 2
        have v3 : ww.cell? ⟨w.heap.size + 1, 3, none⟩ = some (.int .i64 o.c) := (q2.keep J0 hql).cell 3
        refine wpOp_step rfl (fun K' hK => ?_)
        go_simp
        refine hK _ _ ?_
        exact ⟨_, _, _, _, _, _, rfl, (fun h => I0 ((upd_other (by decide)).symm.trans h)), (I1), (fun h => I2 ((upd_other (by decide)).symm.trans h)), (fun h q hq => upd_mono (I3 (upd_ne h (by decide)) q hq)), (kp f0), (fun _ => rfl), (kp f2), (kp f3), (kp f4), (kp f5), (kp f6)⟩
      · obtain rfl := Option.some.inj ho
        have h5 : L 5 = false := by
          cases e : L 5
          · rfl
          · exact absurd (I3 e 2 (by omega)) (by rw [hL]; decide)
        have J0 := I0 h5
        have v0 : ww.cell? ⟨b, 0, none⟩ = some (.slice A8 n8 c8) := (bx.keep J0 hbl).cell 0
        have v1 : ww.cell? ⟨b, 1, none⟩ = some (.slice R8 m8 d8) := (bx.keep J0 hbl).cell 1
        refine wpOp_step rfl (fun K' hK => ?_)
        go_simp
        refine hK _ _ ?_
        exact ⟨_, _, _, _, _, _, rfl, (fun h => I0 ((upd_other (by decide)).symm.trans h)), (I1), (fun h => I2 ((upd_other (by decide)).symm.trans h)), (fun h q hq => upd_mono (I3 (upd_ne h (by decide)) q hq)), (kp f0), (kp f1), (fun _ => rfl), (kp f3), (kp f4), (kp f5), (kp f6)⟩
      · obtain rfl := Option.some.inj ho
        have g2 := f2 (hd ⟨2, .data⟩ (by simp) rfl)
        subst g2
        have h5 : L 5 = false := by
          cases e : L 5
          · rfl
          · exact absurd (I3 e 3 (by omega)) (by rw [hL]; decide)
        have J0 := I0 h5
        refine wpOp_step rfl (fun K' hK => ?_)
        go_simp
        refine (mPlace_any _ _ _ _ _ _ (X) ww (s5.up J0) (by omega)).mono ?_
        rintro e w' ⟨rfl, b5⟩
        refine hK _ _ ?_
        exact ⟨_, _, _, _, _, _, rfl, (fun _ => J0.trans (b5.mono J0.size)), (I1.trans (b5.mono I1.size)), (fun h => (I2 h5).keep b5 (I2 h5).lt), (fun h q hq => upd_mono (I3 (upd_ne h (by decide)) q hq)), (kp f0), (kp f1), (kp f2), (fun _ => rfl), (fun h => by
          obtain ⟨A7, n7, c7, R7, m7, d7, e7, o7⟩ := f4 (upd_ne h (by decide))
          exact ⟨A7, n7, c7, R7, m7, d7, e7, o7.below b5 (Nat.le_refl _)⟩), (fun h => absurd ((upd_other (by decide)).symm.trans h) (by rw [h5]; decide)), (kp f6)⟩
      · obtain rfl := Option.some.inj ho
        have g0 := f0 (hd ⟨0, .data⟩ (by simp) rfl)
        have g1 := f1 (hd ⟨1, .data⟩ (by simp) rfl)
        have g3 := f3 (hd ⟨3, .data⟩ (by simp) rfl)
        subst g0
        subst g1
        subst g3
        have h5 : L 5 = false := by
          cases e : L 5
          · rfl
          · exact absurd (I3 e 4 (by omega)) (by rw [hL]; decide)
        have J0 := I0 h5
        refine wpOp_step rfl (fun K' hK => ?_)
        go_simp
        refine (l8Do_any A8 R8 n8 c8 m8 d8 (X) o (Hps.gapH (X)) ww (s5.up J0) HCX.out (fun _ => HG5.out)).mono ?_
        rintro e w' ⟨vc7, vr7, rfl, o7, b5⟩
        obtain ⟨A7, n7, c7, R7, m7, d7, rfl, rfl⟩ := o7.slices
        refine hK _ _ ?_
        exact ⟨_, _, _, _, _, _, rfl, (fun _ => J0.trans (b5.mono J0.size)), (I1.trans (b5.mono I1.size)), (fun h => (I2 h5).keep b5 (I2 h5).lt), (fun h q hq => upd_mono (I3 (upd_ne h (by decide)) q hq)), (kp f0), (kp f1), (kp f2), (kp f3), (fun _ => ⟨A7, n7, c7, R7, m7, d7, rfl, o7.base J0.size⟩), (fun h => absurd ((upd_other (by decide)).symm.trans h) (by rw [h5]; decide)), (kp f6)⟩
      · obtain rfl := Option.some.inj ho
        have g4 := f4 (hd ⟨4, .data⟩ (by simp) rfl)
        obtain ⟨A7, n7, c7, R7, m7, d7, rfl, o7⟩ := g4
        have rz := I2 hL
        have u0 := rz.cell 0
        have u1 := rz.cell 1
        have v0 := rz.frozen 0
        have v1 := rz.frozen 1
        simp at u0 u1
        refine wpOp_step rfl (fun K' hK => ?_)
        go_simp
        refine hK _ _ ?_
        exact ⟨_, _, _, _, _, _, rfl, (fun h => absurd (upd_self.symm.trans h) (by decide)), ((I1.setCell (p := ⟨w.heap.size + 1 + 1, 0, none⟩) (by show w.heap.size ≤ w.heap.size + 1 + 1; omega) _).setCell (p := ⟨w.heap.size + 1 + 1, 1, none⟩) (by show w.heap.size ≤ w.heap.size + 1 + 1; omega) _), (fun h => absurd (upd_self.symm.trans h) (by decide)), (fun _ q hq => upd_mono (by
          obtain rfl | rfl | rfl | rfl | rfl : q = 0 ∨ q = 1 ∨ q = 2 ∨ q = 3 ∨ q = 4 := by omega
          all_goals exact hd ⟨_, .phase⟩ (by simp) rfl)), (kp f0), (kp f1), (kp f2), (kp f3), (fun _ => ⟨A7, n7, c7, R7, m7, d7, rfl, o7.put (by omega) _ _⟩), (fun _ => ⟨A7, n7, c7, R7, m7, d7, (rz.put 0 _).put 1 _, o7.put (by omega) _ _⟩), (kp f6)⟩
      · obtain rfl := Option.some.inj ho
        refine wpOp_step rfl (fun K' hK => ?_)
        go_simp
        refine hK _ _ ?_
        exact ⟨_, _, _, _, _, _, rfl, (fun h => I0 ((upd_other (by decide)).symm.trans h)), (I1), (fun h => I2 ((upd_other (by decide)).symm.trans h)), (fun h q hq => upd_mono (I3 (upd_ne h (by decide)) q hq)), (kp f0), (kp f1), (kp f2), (kp f3), (kp f4), (kp f5), (fun _ => rfl)⟩
    case hdone =>
      rintro L ac ww hall ⟨t7, t50, t51, t52, t53, t54, rfl, I0, I1, I2, I3, f0, f1, f2, f3, f4, f5, f6⟩
      have e0 := f0 (hall 0 (by decide))
      have e1 := f1 (hall 1 (by decide))
      have e2 := f2 (hall 2 (by decide))
      have e3 := f3 (hall 3 (by decide))
      have e4 := f4 (hall 4 (by decide))
      have e5 := f5 (hall 5 (by decide))
      have e6 := f6 (hall 6 (by decide))
      clear f0 f1 f2 f3 f4 f5 f6
      obtain ⟨A7, n7, c7, R7, m7, d7, r7, o7⟩ := e5
      subst e6
      have q0 := r7.cell 0
      have q5 := r7.cell 1
      simp at q0 q5
      have D := Lib.hid (And.intro (o7.base (base' := w.heap.size) (by have := b2.size; omega)) I1)
      clear e0 e1 e2 e3 e4 I0 I1 I2 I3 hall o7 r7
      go_wp2_with fail
      exact bodyPost_ret (v := .tuple #[.agg #[.slice A7 n7 c7, .slice R7 m7 d7], .bool true]) (by simp [results, Tryd.results37, go_sem, *]) rfl ⟨_, _, by rw [HF.out], by rw [HF.out]; exact D.out.1, D.out.2⟩
end Go.Proofs.YthmddmddcdofaaaDoor

namespace Go.Proofs.YthmddmddcdofaaaDoor
open Go.RowKit
set_option maxRecDepth 100000
theorem Hps.runSw_cons {h : Hp} {lim : Int} {l : List Cm} {k : Nat} {x : Cm} (hx : l[k]? = some x) : Hps.runSwFrom h lim (l.drop k) = if (Hps.stepSw h lim x).2 = false ∧ x.op = 1 then ((Hps.stepSw h lim x).1, false) else Hps.runSwFrom (Hps.stepSw h lim x).1 lim (l.drop (k + 1)) := by
  have hk : k < l.length := (List.getElem?_eq_some_iff.1 hx).1
  rw [List.drop_eq_getElem_cons hk, (List.getElem?_eq_some_iff.1 hx).2, Hps.runSwFrom]
set_option maxHeartbeats 8000000 in
theorem mRunSweep_any (A : Option Addr) (n c : Nat) (lim : Int) (l : List Cm) (w : World) (h : MS w w.heap.size A n l) (hn : n ≤ 1099511627776) :
    Calls Tryd.prog 51 #[.slice A n c, .int .i64 lim] w (GaveH2 w (Hps.runSw l lim).1 (Hps.runSw l lim).2) := by
  have b1 : Below w.heap.size w (w.alloc (.cells #[.slice none 0 0, .slice none 0 0] 26)) := (Below.refl _ _).alloc (Nat.le_refl _) _
  have m1 := h.up b1
  have q3 := Rw.new w 26 #[.slice none 0 0, .slice none 0 0]
  go_enter Tryd.func51, Tryd.ntmps51
  go_wp2_with fail
  refine (mCommandsValid_any _ _ _ l _ m1 hn).mono ?_
  rintro e w1 ⟨rfl, b2⟩
  replace q3 := q3.keep b2 q3.lt
  replace b1 := b1.trans (b2.mono b1.size)
  clear m1 b2
  cases hv : Hps.okCms l
  · have HF := Lib.hid (show Hps.runSw l lim = (Hps.zeroH, false) by rw [Hps.runSw, if_neg (by rw [hv]; simp)])
    clear hv
    have r2 : w1.frozen? ⟨w.heap.size, 0, none⟩ = false := q3.frozen 0
    have r3 : w1.frozen? ⟨w.heap.size, 1, none⟩ = false := q3.frozen 1
    have r4 : w1.cell? ⟨w.heap.size, 0, none⟩ = some (.slice none 0 0) := q3.cell 0
    have r5 : w1.cell? ⟨w.heap.size, 1, none⟩ = some (.slice none 0 0) := q3.cell 1
    have r6 : ((w1.setCell ⟨w.heap.size, 0, none⟩ (.slice none 0 0)).setCell ⟨w.heap.size, 1, none⟩ (.slice none 0 0)).cell? ⟨w.heap.size, 0, none⟩ = some (.slice none 0 0) := ((q3.put 0 (.slice none 0 0)).put 1 (.slice none 0 0)).cell 0
    have r7 : ((w1.setCell ⟨w.heap.size, 0, none⟩ (.slice none 0 0)).setCell ⟨w.heap.size, 1, none⟩ (.slice none 0 0)).cell? ⟨w.heap.size, 1, none⟩ = some (.slice none 0 0) := ((q3.put 0 (.slice none 0 0)).put 1 (.slice none 0 0)).cell 1
    have D := Lib.hid ((own_zeroH w1 w1.heap.size (Nat.le_refl _)).out q3.lt b1 (Nat.le_refl _))
    clear q3 b1
    go_wp2_with fail
    exact bodyPost_ret (v := .tuple #[.agg #[.slice none 0 0, .slice none 0 0], .bool false]) (by simp [results, Tryd.results51, go_sem, *]) rfl ⟨_, _, by rw [HF.out], by rw [HF.out]; exact D.out.1, D.out.2⟩
  by_cases hlim : 1 ≤ lim ∧ lim ≤ 40
  case neg =>
    have HF := Lib.hid (show Hps.runSw l lim = (Hps.zeroH, false) by rw [Hps.runSw, if_neg (fun e => hlim e.2)])
    have hd : (decide ((1 : Int) ≤ lim) && decide (lim ≤ 40)) = false := by
      rw [Bool.and_eq_false_iff, decide_eq_false_iff_not, decide_eq_false_iff_not]
      omega
    have HL1 := Lib.hid (l1In_any lim 1 40 w1)
    clear hlim hv
    go_wp2_with fail
    refine HL1.out.mono ?_
    rw [hd]
    rintro e w4 ⟨rfl, rfl⟩
    have r2 : w1.frozen? ⟨w.heap.size, 0, none⟩ = false := q3.frozen 0
    have r3 : w1.frozen? ⟨w.heap.size, 1, none⟩ = false := q3.frozen 1
    have r4 : w1.cell? ⟨w.heap.size, 0, none⟩ = some (.slice none 0 0) := q3.cell 0
    have r5 : w1.cell? ⟨w.heap.size, 1, none⟩ = some (.slice none 0 0) := q3.cell 1
    have r6 : ((w1.setCell ⟨w.heap.size, 0, none⟩ (.slice none 0 0)).setCell ⟨w.heap.size, 1, none⟩ (.slice none 0 0)).cell? ⟨w.heap.size, 0, none⟩ = some (.slice none 0 0) := ((q3.put 0 (.slice none 0 0)).put 1 (.slice none 0 0)).cell 0
    have r7 : ((w1.setCell ⟨w.heap.size, 0, none⟩ (.slice none 0 0)).setCell ⟨w.heap.size, 1, none⟩ (.slice none 0 0)).cell? ⟨w.heap.size, 1, none⟩ = some (.slice none 0 0) := ((q3.put 0 (.slice none 0 0)).put 1 (.slice none 0 0)).cell 1
    have D := Lib.hid ((own_zeroH w1 w1.heap.size (Nat.le_refl _)).out q3.lt b1 (Nat.le_refl _))
    clear q3 b1
    go_wp2_with fail
    exact bodyPost_ret (v := .tuple #[.agg #[.slice none 0 0, .slice none 0 0], .bool false]) (by simp [results, Tryd.results51, go_sem, *]) rfl ⟨_, _, by rw [HF.out], by rw [HF.out]; exact D.out.1, D.out.2⟩
  have hd : (decide ((1 : Int) ≤ lim) && decide (lim ≤ 40)) = true := by rw [decide_eq_true hlim.1, decide_eq_true hlim.2]; rfl
  have HL1 := Lib.hid (l1In_any lim 1 40 w1)
  have HF := Lib.hid (show Hps.runSw l lim = Hps.runSwFrom Hps.emptyH lim l by rw [Hps.runSw, if_pos ⟨hv, hlim⟩])
  have HV := Lib.hid ((Hps.okCms_iff.1 hv).1)
  have HLIM := Lib.hid hlim
  have HD := Lib.hid hd
  clear hv hlim hd
  go_wp2_with fail
  refine HL1.out.mono ?_
  rw [HD.out]
  rintro e w4 ⟨rfl, rfl⟩
  clear HL1
  go_wp2_with fail
  refine (mEmptyHeap_any _).mono ?_
  rintro e w2 ⟨vc, vr, rfl, ⟨rvs, own⟩, b2⟩
  have hsz : w.heap.size + 1 ≤ w1.heap.size := q3.lt
  replace q3 := q3.keep b2 q3.lt
  have hsz2 := b2.size
  have hq := Rw.new w2 26 #[vc, vr]
  have S0 : RunSt w (w2.alloc (.cells #[vc, vr] 26)) w2.heap.size vc vr Hps.emptyH :=
    ⟨⟨rvs, (OwnHx.base (base' := w.heap.size + 1) own hsz).below ((Below.refl w2.heap.size w2).alloc (Nat.le_refl _) _) (Nat.le_refl _), own.apart_new (Nat.le_refl _)⟩, hq, q3.alloc _, (b1.trans (b2.mono b1.size)).alloc (by omega) _, by omega⟩
  obtain ⟨Ac, cc, Rc, dc, rfl, rfl, -⟩ := own.form
  clear hq own q3 b2
  go_upto_region 4 with fail
  generalize w2.alloc (.cells #[.slice Ac Hps.emptyH.cs.length cc, .slice Rc Hps.emptyH.rt.length dc] 26) = w3 at S0 ⊢
  generalize w2.heap.size = b at S0 ⊢
  clear hsz hsz2 w2 b1 w1
  go_wp2_with fail
  go_loopw [7] (fun i wr => ∃ (k : Nat) (A1 : Option Addr) (c1 : Nat) (R1 : Option Addr) (d1 : Nat) (hh : Hp), k ≤ n ∧ i = .int .i64 k ∧ Hps.runSwFrom Hps.emptyH lim l = Hps.runSwFrom hh lim (l.drop k) ∧ Hps.validH hh = true ∧ RunSt w wr b (.slice A1 hh.cs.length c1) (.slice R1 hh.rt.length d1) hh) (fun i _ => n - (intOf i).toNat)
  case atStart => exact ⟨0, Ac, cc, Rc, dc, Hps.emptyH, by omega, rfl, by simp, Hps.empty_valid, S0⟩
  case round =>
    clear S0
    obtain ⟨k, A1, c1, R1, d1, hh, hk, rfl, hhe, hhv, S⟩ := hrel
    have hlo := S.lo
    have x0 : wr.cell? ⟨b, 0, none⟩ = some (.slice A1 hh.cs.length c1) := S.box.cell 0
    have x1 : wr.cell? ⟨b, 1, none⟩ = some (.slice R1 hh.rt.length d1) := S.box.cell 1
    have hml := h.1
    by_cases hlt : k < n
    · obtain ⟨g, o, x, rfl, hg, hx, c0, c1', c2, c3⟩ := (h.below S.bel).at_ hlt
      have hlt' : (k : Int) < n := by omega
      have HC := Lib.hid (Hps.runSw_cons (h := hh) (lim := lim) hx)
      have HVX := Lib.hid (Hps.stepSw_valid (h := hh) (limit := lim) (o := x) ⟨hhv, HV.out x (List.mem_of_getElem? hx), HLIM.out⟩)
      obtain ⟨h2, hh2⟩ : ∃ h2, (Hps.stepSw hh lim x).1 = h2 := ⟨_, rfl⟩
      obtain ⟨ok, hok⟩ : ∃ ok, (Hps.stepSw hh lim x).2 = ok := ⟨_, rfl⟩
      have hn40 := (Hps.valid_iff.1 hhv).2.1
      have hm4 := (Hps.valid_iff.1 hhv).2.2.1
      have CALL := Lib.hid (fun (ww : World) (hB : Below wr.heap.size wr ww) => by
        obtain ⟨rvs, own, _⟩ := S.own
        have hs := (own.below hB (Nat.le_refl _)).reads
        have := mStepSweep_any A1 R1 hh.cs.length c1 hh.rt.length d1 lim hh x ww hs (by omega) (by omega)
        rw [hh2, hok] at this
        exact this)
      rw [hh2, hok] at HC
      rw [hh2] at HVX
      have HHE := Lib.hid hhe
      have SS := Lib.hid S
      clear S hx hhe hhv hh2 hok hn40 hm4 hml
      go_wp2_with fail
      refine wp_region_inv (by kernel_rfl) (by kernel_rfl) (fun L ac ww => ∃ t8 t9 t26 t27 t28 t29 t30 t31 t32 t33 t34 t35 : Value, ac = { tmps := #[Value.slice (some { block := g, off := o }) n c, Value.int IntKind.i64 lim, undef, undef, Value.pointer (some { block := w.heap.size, off := 0 }), u5, Value.pointer (some { block := b, off := 0 }), Value.int IntKind.i64 ↑k, t8, t9, Value.slice (some { block := g, off := o }) n c, Value.bool true, Value.bool false, Value.bool false, Value.int IntKind.i64 lim, Value.bool true, Value.bool false, Value.bool false, undef, Value.agg #[Value.slice Ac Hps.emptyH.cs.length cc, Value.slice Rc Hps.emptyH.rt.length dc], Value.int IntKind.i64 ↑k, Value.slice (some { block := g, off := o }) n c, Value.int IntKind.i64 ↑n, Value.bool true, u24, u25, t26, t27, t28, t29, t30, t31, t32, t33, t34, t35, u36, u37, u38, u39, u40, u41, u42, u43, u44, u45, u46, u47, undef], defers := [] } ∧ (Below wr.heap.size wr ww) ∧ (L 11 = true → L 10 = true) ∧ (L 7 = true → L 6 = true) ∧ (L 8 = true → L 6 = true) ∧ (L 0 = true → t27 = .agg #[(.slice A1 hh.cs.length c1), (.slice R1 hh.rt.length d1)]) ∧ (L 1 = true → t28 = .int .i64 lim) ∧ (L 2 = true → t29 = .slice (some ⟨g, o, none⟩) n c) ∧ (L 3 = true → t30 = .int .i64 k) ∧ (L 4 = true → t31 = .pointer (some ⟨g, o + k * 4, none⟩)) ∧ (L 5 = true → t32 = .agg #[.int .i64 x.op, .int .i64 x.a, .int .i64 x.b, .int .i64 x.c]) ∧ (L 6 = true → ∃ (A5 : Option Addr) (n5 c5 : Nat) (R5 : Option Addr) (m5 d5 : Nat), t33 = .tuple #[.agg #[.slice A5 n5 c5, .slice R5 m5 d5], .bool ok] ∧ OwnF ww wr.heap.size t8 (L 10) (.slice A5 n5 c5) (.slice R5 m5 d5) h2) ∧ (L 7 = true → ∃ (A5 : Option Addr) (n5 c5 : Nat) (R5 : Option Addr) (m5 d5 : Nat), t33 = .tuple #[.agg #[.slice A5 n5 c5, .slice R5 m5 d5], .bool ok] ∧ t26 = .tuple #[.agg #[.slice A5 n5 c5, .slice R5 m5 d5], .bool ok]) ∧ (L 8 = true → ∃ (A5 : Option Addr) (n5 c5 : Nat) (R5 : Option Addr) (m5 d5 : Nat), t33 = .tuple #[.agg #[.slice A5 n5 c5, .slice R5 m5 d5], .bool ok] ∧ t34 = .agg #[.slice A5 n5 c5, .slice R5 m5 d5]) ∧ (L 9 = true → t35 = .bool ok) ∧ (L 10 = true → ∃ (g5 : Nat) (z0 z1 : Value), t8 = .pointer (some ⟨g5, 0, none⟩) ∧ wr.heap.size ≤ g5 ∧ Rw ww g5 26 #[z0, z1]) ∧ (L 11 = true → ∃ (g5 : Nat) (A5 : Option Addr) (n5 c5 : Nat) (R5 : Option Addr) (m5 d5 : Nat), t8 = .pointer (some ⟨g5, 0, none⟩) ∧ wr.heap.size ≤ g5 ∧ Rw ww g5 26 #[.slice A5 n5 c5, .slice R5 m5 d5] ∧ OwnH ww wr.heap.size (.slice A5 n5 c5) (.slice R5 m5 d5) h2) ∧ (L 12 = true → t9 = .bool ok)) ?h0 ?hstep ?hdone
      case h0 => exact ⟨_, _, _, _, _, _, _, _, _, _, _, _, rfl, (Below.refl _ _).drew, fun h => absurd h Bool.false_ne_true, fun h => absurd h Bool.false_ne_true, fun h => absurd h Bool.false_ne_true, (fun h => absurd h Bool.false_ne_true), (fun h => absurd h Bool.false_ne_true), (fun h => absurd h Bool.false_ne_true), (fun h => absurd h Bool.false_ne_true), (fun h => absurd h Bool.false_ne_true), (fun h => absurd h Bool.false_ne_true), (fun h => absurd h Bool.false_ne_true), (fun h => absurd h Bool.false_ne_true), (fun h => absurd h Bool.false_ne_true), (fun h => absurd h Bool.false_ne_true), (fun h => absurd h Bool.false_ne_true), (fun h => absurd h Bool.false_ne_true), (fun h => absurd h Bool.false_ne_true)⟩
      case hstep =>
        rintro L ac ww i o ho hL hd ⟨t8, t9, t26, t27, t28, t29, t30, t31, t32, t33, t34, t35, rfl, I0, I1, I2, I3, f0, f1, f2, f3, f4, f5, f6, f7, f8, f9, f10, f11, f12⟩
        have hi : i < 13 := (Array.getElem?_eq_some_iff.1 ho).1
        obtain rfl | rfl | rfl | rfl | rfl | rfl | rfl | rfl | rfl | rfl | rfl | rfl | rfl : i = 0 ∨ i = 1 ∨ i = 2 ∨ i = 3 ∨ i = 4 ∨ i = 5 ∨ i = 6 ∨ i = 7 ∨ i = 8 ∨ i = 9 ∨ i = 10 ∨ i = 11 ∨ i = 12 := by omega
        · obtain rfl := Option.some.inj ho
          have y0 : ww.cell? ⟨b, 0, none⟩ = some (.slice A1 hh.cs.length c1) := (I0.cell (p := ⟨b, 0, none⟩) SS.out.box.lt).trans x0
          have y1 : ww.cell? ⟨b, 1, none⟩ = some (.slice R1 hh.rt.length d1) := (I0.cell (p := ⟨b, 1, none⟩) SS.out.box.lt).trans x1
          refine wpOp_step rfl (fun K' hK => ?_)
          go_simp
          refine hK _ _ ?_
          exact ⟨_, _, _, _, _, _, _, _, _, _, _, _, rfl, (I0), (fun h => by rw [upd_other (by decide)]; exact I1 (upd_ne h (by decide))), (fun h => upd_mono (I2 (upd_ne h (by decide)))), (fun h => upd_mono (I3 (upd_ne h (by decide)))), (fun _ => rfl), (kp f1), (kp f2), (kp f3), (kp f4), (kp f5), (fun h => by
            obtain ⟨A5, n5, c5, R5, m5, d5, e, oo⟩ := f6 (upd_ne h (by decide))
            exact ⟨A5, n5, c5, R5, m5, d5, e, oo.eq (upd_other (by decide))⟩), (kp f7), (kp f8), (kp f9), (kp f10), (kp f11), (kp f12)⟩
        · obtain rfl := Option.some.inj ho
          refine wpOp_step rfl (fun K' hK => ?_)
          go_simp
          refine hK _ _ ?_
          exact ⟨_, _, _, _, _, _, _, _, _, _, _, _, rfl, (I0), (fun h => by rw [upd_other (by decide)]; exact I1 (upd_ne h (by decide))), (fun h => upd_mono (I2 (upd_ne h (by decide)))), (fun h => upd_mono (I3 (upd_ne h (by decide)))), (kp f0), (fun _ => rfl), (kp f2), (kp f3), (kp f4), (kp f5), (fun h => by
            obtain ⟨A5, n5, c5, R5, m5, d5, e, oo⟩ := f6 (upd_ne h (by decide))
            exact ⟨A5, n5, c5, R5, m5, d5, e, oo.eq (upd_other (by decide))⟩), (kp f7), (kp f8), (kp f9), (kp f10), (kp f11), (kp f12)⟩
        · obtain rfl := Option.some.inj ho
          refine wpOp_step rfl (fun K' hK => ?_)
          go_simp
          refine hK _ _ ?_
          exact ⟨_, _, _, _, _, _, _, _, _, _, _, _, rfl, (I0), (fun h => by rw [upd_other (by decide)]; exact I1 (upd_ne h (by decide))), (fun h => upd_mono (I2 (upd_ne h (by decide)))), (fun h => upd_mono (I3 (upd_ne h (by decide)))), (kp f0), (kp f1), (fun _ => rfl), (kp f3), (kp f4), (kp f5), (fun h => by
            obtain ⟨A5, n5, c5, R5, m5, d5, e, oo⟩ := f6 (upd_ne h (by decide))
            exact ⟨A5, n5, c5, R5, m5, d5, e, oo.eq (upd_other (by decide))⟩), (kp f7), (kp f8), (kp f9), (kp f10), (kp f11), (kp f12)⟩
        · obtain rfl := Option.some.inj ho
          refine wpOp_step rfl (fun K' hK => ?_)
          go_simp
          refine hK _ _ ?_
          exact ⟨_, _, _, _, _, _, _, _, _, _, _, _, rfl, (I0), (fun h => by rw [upd_other (by decide)]; exact I1 (upd_ne h (by decide))), (fun h => upd_mono (I2 (upd_ne h (by decide)))), (fun h => upd_mono (I3 (upd_ne h (by decide)))), (kp f0), (kp f1), (kp f2), (fun _ => rfl), (kp f4), (kp f5), (fun h => by
            obtain ⟨A5, n5, c5, R5, m5, d5, e, oo⟩ := f6 (upd_ne h (by decide))
            exact ⟨A5, n5, c5, R5, m5, d5, e, oo.eq (upd_other (by decide))⟩), (kp f7), (kp f8), (kp f9), (kp f10), (kp f11), (kp f12)⟩
        · obtain rfl := Option.some.inj ho
          have g2 := f2 (hd ⟨2, .data⟩ (by simp) rfl)
          have g3 := f3 (hd ⟨3, .data⟩ (by simp) rfl)
          subst g2
          subst g3
          refine wpOp_step rfl (fun K' hK => ?_)
          go_simp
          refine hK _ _ ?_
          exact ⟨_, _, _, _, _, _, _, _, _, _, _, _, rfl, (I0), (fun h => by rw [upd_other (by decide)]; exact I1 (upd_ne h (by decide))), (fun h => upd_mono (I2 (upd_ne h (by decide)))), (fun h => upd_mono (I3 (upd_ne h (by decide)))), (kp f0), (kp f1), (kp f2), (kp f3), (fun _ => rfl), (kp f5), (fun h => by
            obtain ⟨A5, n5, c5, R5, m5, d5, e, oo⟩ := f6 (upd_ne h (by decide))
            exact ⟨A5, n5, c5, R5, m5, d5, e, oo.eq (upd_other (by decide))⟩), (kp f7), (kp f8), (kp f9), (kp f10), (kp f11), (kp f12)⟩
        · obtain rfl := Option.some.inj ho
          have g4 := f4 (hd ⟨4, .data⟩ (by simp) rfl)
          subst g4
          have y0 : ww.cell? ⟨g, o + k * 4, none⟩ = some (.int .i64 x.op) := (I0.cell (p := ⟨g, o + k * 4, none⟩) (Nat.lt_of_lt_of_le hg SS.out.bel.size)).trans c0
          have y1 : ww.cell? ⟨g, o + k * 4 + 1, none⟩ = some (.int .i64 x.a) := (I0.cell (p := ⟨g, o + k * 4 + 1, none⟩) (Nat.lt_of_lt_of_le hg SS.out.bel.size)).trans c1'
          have y2 : ww.cell? ⟨g, o + k * 4 + 2, none⟩ = some (.int .i64 x.b) := (I0.cell (p := ⟨g, o + k * 4 + 2, none⟩) (Nat.lt_of_lt_of_le hg SS.out.bel.size)).trans c2
          have y3 : ww.cell? ⟨g, o + k * 4 + 3, none⟩ = some (.int .i64 x.c) := (I0.cell (p := ⟨g, o + k * 4 + 3, none⟩) (Nat.lt_of_lt_of_le hg SS.out.bel.size)).trans c3
          refine wpOp_step rfl (fun K' hK => ?_)
          go_simp
          refine hK _ _ ?_
          exact ⟨_, _, _, _, _, _, _, _, _, _, _, _, rfl, (I0), (fun h => by rw [upd_other (by decide)]; exact I1 (upd_ne h (by decide))), (fun h => upd_mono (I2 (upd_ne h (by decide)))), (fun h => upd_mono (I3 (upd_ne h (by decide)))), (kp f0), (kp f1), (kp f2), (kp f3), (kp f4), (fun _ => rfl), (fun h => by
            obtain ⟨A5, n5, c5, R5, m5, d5, e, oo⟩ := f6 (upd_ne h (by decide))
            exact ⟨A5, n5, c5, R5, m5, d5, e, oo.eq (upd_other (by decide))⟩), (kp f7), (kp f8), (kp f9), (kp f10), (kp f11), (kp f12)⟩
        · obtain rfl := Option.some.inj ho
          have g0 := f0 (hd ⟨0, .data⟩ (by simp) rfl)
          have g1 := f1 (hd ⟨1, .data⟩ (by simp) rfl)
          have g5 := f5 (hd ⟨5, .data⟩ (by simp) rfl)
          subst g0
          subst g1
          subst g5
          refine wpOp_step rfl (fun K' hK => ?_)
          go_simp
          refine (CALL.out ww I0).mono ?_
          rintro e w' ⟨v1, v2, rfl, oh, b5⟩
          obtain ⟨A5, n5, c5, R5, m5, d5, rfl, rfl⟩ := oh.slices
          have hsz := I0.size
          refine hK _ _ ?_
          exact ⟨_, _, _, _, _, _, _, _, _, _, _, _, rfl, (I0.trans (b5.mono I0.size)), (fun h => by rw [upd_other (by decide)]; exact I1 (upd_ne h (by decide))), (fun h => upd_mono (I2 (upd_ne h (by decide)))), (fun h => upd_mono (I3 (upd_ne h (by decide)))), (kp f0), (kp f1), (kp f2), (kp f3), (kp f4), (kp f5), (fun _ => ⟨A5, n5, c5, R5, m5, d5, rfl, OwnF.baseH hsz oh (fun g5 hl e => by
            obtain ⟨g6, z0, z1, e', hg5, hz⟩ := f10 (by rw [upd_other (by decide)] at hl; exact hl)
            rw [e'] at e
            injection e with e
            injection e with e
            injection e with e
            rw [← e]
            exact hz.lt) ⟩), (fun h => absurd (I2 (upd_ne h (by decide))) (by rw [hL]; simp)), (fun h => absurd (I3 (upd_ne h (by decide))) (by rw [hL]; simp)), (kp f9), (fun h => by
            obtain ⟨g5, z0, z1, e, hg5, hz⟩ := f10 (upd_ne h (by decide))
            exact ⟨g5, z0, z1, e, hg5, hz.keep b5 hz.lt⟩), (fun h => by
            obtain ⟨g5, A5, n5, c5, R5, m5, d5, e, hg5, hz, oo⟩ := f11 (upd_ne h (by decide))
            exact ⟨g5, A5, n5, c5, R5, m5, d5, e, hg5, hz.keep b5 hz.lt, oo.below b5 (Nat.le_refl _)⟩), (kp f12)⟩
        · obtain rfl := Option.some.inj ho
          have g6 := f6 (hd ⟨6, .data⟩ (by simp) rfl)
          obtain ⟨A5, n5, c5, R5, m5, d5, rfl, o5⟩ := g6
          refine wpOp_step rfl (fun K' hK => ?_)
          go_simp
          refine hK _ _ ?_
          exact ⟨_, _, _, _, _, _, _, _, _, _, _, _, rfl, (I0), (fun h => by rw [upd_other (by decide)]; exact I1 (upd_ne h (by decide))), (fun _ => upd_mono (hd ⟨6, .data⟩ (by simp) rfl)), (fun h => upd_mono (I3 (upd_ne h (by decide)))), (kp f0), (kp f1), (kp f2), (kp f3), (kp f4), (kp f5), (fun h => by
            obtain ⟨A5, n5, c5, R5, m5, d5, e, oo⟩ := f6 (upd_ne h (by decide))
            exact ⟨A5, n5, c5, R5, m5, d5, e, oo.eq (upd_other (by decide))⟩), (fun _ => ⟨_, _, _, _, _, _, rfl, rfl⟩), (kp f8), (kp f9), (kp f10), (kp f11), (kp f12)⟩
        · obtain rfl := Option.some.inj ho
          have g7 := f7 (hd ⟨7, .data⟩ (by simp) rfl)
          obtain ⟨A5, n5, c5, R5, m5, d5, rfl, rfl⟩ := g7
          refine wpOp_step rfl (fun K' hK => ?_)
          go_simp
          refine hK _ _ ?_
          exact ⟨_, _, _, _, _, _, _, _, _, _, _, _, rfl, (I0), (fun h => by rw [upd_other (by decide)]; exact I1 (upd_ne h (by decide))), (fun h => upd_mono (I2 (upd_ne h (by decide)))), (fun _ => upd_mono (I2 (hd ⟨7, .data⟩ (by simp) rfl))), (kp f0), (kp f1), (kp f2), (kp f3), (kp f4), (kp f5), (fun h => by
            obtain ⟨A5, n5, c5, R5, m5, d5, e, oo⟩ := f6 (upd_ne h (by decide))
            exact ⟨A5, n5, c5, R5, m5, d5, e, oo.eq (upd_other (by decide))⟩), (kp f7), (fun _ => ⟨_, _, _, _, _, _, rfl, rfl⟩), (kp f9), (kp f10), (kp f11), (kp f12)⟩
        · obtain rfl := Option.some.inj ho
          have g7 := f7 (hd ⟨7, .data⟩ (by simp) rfl)
          obtain ⟨A5, n5, c5, R5, m5, d5, rfl, rfl⟩ := g7
          refine wpOp_step rfl (fun K' hK => ?_)
          go_simp
          refine hK _ _ ?_
          exact ⟨_, _, _, _, _, _, _, _, _, _, _, _, rfl, (I0), (fun h => by rw [upd_other (by decide)]; exact I1 (upd_ne h (by decide))), (fun h => upd_mono (I2 (upd_ne h (by decide)))), (fun h => upd_mono (I3 (upd_ne h (by decide)))), (kp f0), (kp f1), (kp f2), (kp f3), (kp f4), (kp f5), (fun h => by
            obtain ⟨A5, n5, c5, R5, m5, d5, e, oo⟩ := f6 (upd_ne h (by decide))
            exact ⟨A5, n5, c5, R5, m5, d5, e, oo.eq (upd_other (by decide))⟩), (kp f7), (kp f8), (fun _ => rfl), (kp f10), (kp f11), (kp f12)⟩
        · obtain rfl := Option.some.inj ho
          refine wpOp_step rfl (fun K' hK => ?_)
          go_simp
          refine hK _ _ ?_
          exact ⟨_, _, _, _, _, _, _, _, _, _, _, _, rfl, (I0.alloc I0.size _), (fun _ => upd_self), (fun h => upd_mono (I2 (upd_ne h (by decide)))), (fun h => upd_mono (I3 (upd_ne h (by decide)))), (kp f0), (kp f1), (kp f2), (kp f3), (kp f4), (kp f5), (fun h => by
            obtain ⟨A5, n5, c5, R5, m5, d5, e, oo⟩ := f6 (upd_ne h (by decide))
            exact ⟨A5, n5, c5, R5, m5, d5, e, oo.alloc _⟩), (kp f7), (kp f8), (kp f9), (fun _ => ⟨ww.heap.size, _, _, rfl, I0.size, Rw.new _ _ _⟩), (fun h => absurd (I1 (upd_ne h (by decide))) (by rw [hL]; simp)), (kp f12)⟩
        · obtain rfl := Option.some.inj ho
          have g8 := f8 (hd ⟨8, .data⟩ (by simp) rfl)
          have g10 := f10 (hd ⟨10, .data⟩ (by simp) rfl)
          have g6 := f6 (hd ⟨6, .chain⟩ (by simp) rfl)
          have hL9 := hd ⟨10, .data⟩ (by simp) rfl
          obtain ⟨q5, z0, z1, rfl, hq5, hz⟩ := g10
          obtain ⟨A5, n5, c5, R5, m5, d5, rfl, rfl⟩ := g8
          obtain ⟨A6, n6, c6, R6, m6, d6, e6, oo⟩ := g6
          injection e6 with e6
          simp at e6
          obtain ⟨⟨rfl, rfl, rfl⟩, rfl, rfl, rfl⟩ := e6
          have u0 := hz.cell 0
          have u1 := hz.cell 1
          have u2 := hz.frozen 0
          have u3 := hz.frozen 1
          simp at u0 u1
          refine wpOp_step rfl (fun K' hK => ?_)
          go_simp
          refine hK _ _ ?_
          exact ⟨_, _, _, _, _, _, _, _, _, _, _, _, rfl, ((I0.setCell (p := ⟨q5, 0, none⟩) hq5 _).setCell (p := ⟨q5, 1, none⟩) hq5 _), (fun _ => by rw [upd_other (by decide)]; exact hL9), (fun h => upd_mono (I2 (upd_ne h (by decide)))), (fun h => upd_mono (I3 (upd_ne h (by decide)))), (kp f0), (kp f1), (kp f2), (kp f3), (kp f4), (kp f5), (fun h => ⟨_, _, _, _, _, _, rfl, (oo.put hL9 _ _).eq (upd_other (by decide))⟩), (kp f7), (kp f8), (kp f9), (fun h => ⟨_, _, _, rfl, hq5, (hz.put 0 _).put 1 _⟩), (fun _ => ⟨_, _, _, _, _, _, _, rfl, hq5, (hz.put 0 _).put 1 _, (oo.put hL9 _ _).own⟩), (kp f12)⟩
        · obtain rfl := Option.some.inj ho
          have g9 := f9 (hd ⟨9, .data⟩ (by simp) rfl)
          subst g9
          refine wpOp_step rfl (fun K' hK => ?_)
          go_simp
          refine hK _ _ ?_
          exact ⟨_, _, _, _, _, _, _, _, _, _, _, _, rfl, (I0), (fun h => by rw [upd_other (by decide)]; exact I1 (upd_ne h (by decide))), (fun h => upd_mono (I2 (upd_ne h (by decide)))), (fun h => upd_mono (I3 (upd_ne h (by decide)))), (kp f0), (kp f1), (kp f2), (kp f3), (kp f4), (kp f5), (fun h => by
            obtain ⟨A5, n5, c5, R5, m5, d5, e, oo⟩ := f6 (upd_ne h (by decide))
            exact ⟨A5, n5, c5, R5, m5, d5, e, oo.eq (upd_other (by decide))⟩), (kp f7), (kp f8), (kp f9), (kp f10), (kp f11), (fun _ => rfl)⟩
      case hdone =>
        rintro L ac ww hall ⟨t8, t9, t26, t27, t28, t29, t30, t31, t32, t33, t34, t35, rfl, I0, I1, I2, I3, f0, f1, f2, f3, f4, f5, f6, f7, f8, f9, f10, f11, f12⟩
        have e0 := f0 (hall 0 (by decide))
        have e1 := f1 (hall 1 (by decide))
        have e2 := f2 (hall 2 (by decide))
        have e3 := f3 (hall 3 (by decide))
        have e4 := f4 (hall 4 (by decide))
        have e5 := f5 (hall 5 (by decide))
        have e6 := f6 (hall 6 (by decide))
        have e7 := f7 (hall 7 (by decide))
        have e8 := f8 (hall 8 (by decide))
        have e9 := f9 (hall 9 (by decide))
        have e10 := f10 (hall 10 (by decide))
        have e11 := f11 (hall 11 (by decide))
        have e12 := f12 (hall 12 (by decide))
        clear f0 f1 f2 f3 f4 f5 f6 f7 f8 f9 f10 f11 f12
        subst e12
        obtain ⟨g5, A5, n5, c5, R5, m5, d5, rfl, hg5, hz, oo⟩ := e11
        have z0 := hz.cell 0
        have z1 := hz.cell 1
        simp at z0 z1
        have y0 : ww.cell? ⟨g, o + k * 4, none⟩ = some (.int .i64 x.op) := (I0.cell (p := ⟨g, o + k * 4, none⟩) (Nat.lt_of_lt_of_le hg SS.out.bel.size)).trans c0
        clear e0 e1 e2 e3 e4 e5 e6 e7 e8 e9 e10 I1 I2 I3 hz x0 x1 c0 c1' c2 c3
        by_cases hs : ok = false ∧ x.op = 1
        · obtain ⟨rfl, hop⟩ := hs
          have ht : (x.op == (1 : Int)) = true := by rw [hop]; rfl
          have HE := Lib.hid (show Hps.runSw l lim = (h2, false) by rw [HF.out, HHE.out, HC.out, if_pos ⟨rfl, hop⟩])
          have hres := SS.out.res.keep I0 SS.out.res.lt
          have hlo1 : w.heap.size + 1 ≤ wr.heap.size := SS.out.res.lt
          have r2 : ww.frozen? ⟨w.heap.size, 0, none⟩ = false := hres.frozen 0
          have r3 : ww.frozen? ⟨w.heap.size, 1, none⟩ = false := hres.frozen 1
          have r4 : ww.cell? ⟨w.heap.size, 0, none⟩ = some (.slice none 0 0) := hres.cell 0
          have r5 : ww.cell? ⟨w.heap.size, 1, none⟩ = some (.slice none 0 0) := hres.cell 1
          have r6 : ((ww.setCell ⟨w.heap.size, 0, none⟩ (.slice A5 n5 c5)).setCell ⟨w.heap.size, 1, none⟩ (.slice R5 m5 d5)).cell? ⟨w.heap.size, 0, none⟩ = some (.slice A5 n5 c5) := ((hres.put 0 (.slice A5 n5 c5)).put 1 (.slice R5 m5 d5)).cell 0
          have r7 : ((ww.setCell ⟨w.heap.size, 0, none⟩ (.slice A5 n5 c5)).setCell ⟨w.heap.size, 1, none⟩ (.slice R5 m5 d5)).cell? ⟨w.heap.size, 1, none⟩ = some (.slice R5 m5 d5) := ((hres.put 0 (.slice A5 n5 c5)).put 1 (.slice R5 m5 d5)).cell 1
          have D := Lib.hid (OwnH.out (w := w) (g := w.heap.size) (oo.base (base' := w.heap.size + 1) hlo1) (by omega) (SS.out.bel.trans (I0.mono SS.out.bel.size)) (Nat.le_refl _))
          clear oo hres hop HC HHE
          go_wp2_with fail
          exact bodyPost_ret (v := .tuple #[.agg #[.slice A5 n5 c5, .slice R5 m5 d5], .bool false]) (by simp [results, Tryd.results51, go_sem, *]) rfl ⟨_, _, by rw [HE.out], by rw [HE.out]; exact D.out.1, D.out.2⟩
        have HNX := Lib.hid (show Hps.runSwFrom Hps.emptyH lim l = Hps.runSwFrom h2 lim (l.drop (k + 1)) by rw [HHE.out, HC.out, if_neg hs])
        obtain ⟨Ax, cx, Rx, dx, ex1, ex2, _⟩ := oo.form
        have NX := SS.out.next I0 oo
        have z2 : ww.frozen? ⟨b, 0, none⟩ = false := (SS.out.box.keep I0 SS.out.box.lt).frozen 0
        have z3 : ww.frozen? ⟨b, 1, none⟩ = false := (SS.out.box.keep I0 SS.out.box.lt).frozen 1
        have z4 : ww.cell? ⟨b, 0, none⟩ = some (.slice A1 hh.cs.length c1) := (SS.out.box.keep I0 SS.out.box.lt).cell 0
        have z5 : ww.cell? ⟨b, 1, none⟩ = some (.slice R1 hh.rt.length d1) := (SS.out.box.keep I0 SS.out.box.lt).cell 1
        have HFIN := Lib.hid (show n5 = h2.cs.length ∧ m5 = h2.rt.length by
          injection ex1 with _ e1 _
          injection ex2 with _ e2 _
          exact ⟨e1, e2⟩)
        clear oo ex1 ex2 HC HHE
        cases ok
        · have ht : (x.op == (1 : Int)) = false := by
            rw [beq_eq_false_iff_ne]
            exact fun e => hs ⟨rfl, e⟩
          clear hs
          go_wp2_with fail
          go_roundw
          case rel =>
            obtain ⟨e1, e2⟩ := HFIN.out
            subst e1 e2
            exact ⟨k + 1, A5, c5, R5, d5, h2, by omega, by go_num, HNX.out, HVX.out, NX⟩
          case measure => simp [intOf]; omega
        · clear hs
          go_wp2_with fail
          go_roundw
          case rel =>
            obtain ⟨e1, e2⟩ := HFIN.out
            subst e1 e2
            exact ⟨k + 1, A5, c5, R5, d5, h2, by omega, by go_num, HNX.out, HVX.out, NX⟩
          case measure => simp [intOf]; omega
    · obtain rfl : k = n := by omega
      have HE := Lib.hid (show Hps.runSw l lim = (hh, true) by rw [HF.out, hhe, List.drop_eq_nil_of_le (by omega), Hps.runSwFrom])
      obtain ⟨nn, hnn⟩ : ∃ nn, hh.cs.length = nn := ⟨_, rfl⟩
      obtain ⟨mm, hmm⟩ : ∃ mm, hh.rt.length = mm := ⟨_, rfl⟩
      rw [hnn, hmm] at S
      rw [hnn] at x0
      rw [hmm] at x1
      have hres := S.res
      have r2 : wr.frozen? ⟨w.heap.size, 0, none⟩ = false := hres.frozen 0
      have r3 : wr.frozen? ⟨w.heap.size, 1, none⟩ = false := hres.frozen 1
      have r4 : wr.cell? ⟨w.heap.size, 0, none⟩ = some (.slice none 0 0) := hres.cell 0
      have r5 : wr.cell? ⟨w.heap.size, 1, none⟩ = some (.slice none 0 0) := hres.cell 1
      have r6 : ((wr.setCell ⟨w.heap.size, 0, none⟩ (.slice A1 nn c1)).setCell ⟨w.heap.size, 1, none⟩ (.slice R1 mm d1)).cell? ⟨w.heap.size, 0, none⟩ = some (.slice A1 nn c1) := ((hres.put 0 (.slice A1 nn c1)).put 1 (.slice R1 mm d1)).cell 0
      have r7 : ((wr.setCell ⟨w.heap.size, 0, none⟩ (.slice A1 nn c1)).setCell ⟨w.heap.size, 1, none⟩ (.slice R1 mm d1)).cell? ⟨w.heap.size, 1, none⟩ = some (.slice R1 mm d1) := ((hres.put 0 (.slice A1 nn c1)).put 1 (.slice R1 mm d1)).cell 1
      have D := Lib.hid (by
        obtain ⟨rvs, own, _⟩ := S.own
        exact OwnH.out (w := w) (g := w.heap.size) ⟨rvs, own⟩ (by omega) S.bel (Nat.le_refl _))
      clear S hhe hhv hnn hmm hml hres
      go_wp2_with fail
      exact bodyPost_ret (v := .tuple #[.agg #[.slice A1 nn c1, .slice R1 mm d1], .bool true]) (by simp [results, Tryd.results51, go_sem, *]) rfl ⟨_, _, by rw [HE.out], by rw [HE.out]; exact D.out.1, D.out.2⟩
end Go.Proofs.YthmddmddcdofaaaDoor

namespace Go.Proofs.YthmddmddcdofaaaDoor
open Go.RowKit
set_option maxRecDepth 100000
theorem Hps.stepSw_roomS {h : Hp} {limit : Int} {o : Cm} (e : Hps.validH h = true ∧ Hps.okCm o = true ∧ 1 ≤ limit ∧ limit ≤ 40) (h1 : o.op = 1) : Hps.stepSw h limit o = if (Hps.gapH (Hps.roomS h limit) : Int) < limit then (Hps.doH (Hps.roomS h limit) o (Hps.gapH (Hps.roomS h limit)), true) else (Hps.roomS h limit, false) := by
  rw [Hps.stepSw_room e h1, Hps.roomS]
  by_cases h2 : (Hps.gapH h : Int) < limit
  · rw [if_pos h2, if_pos h2, if_pos h2]
  · rw [if_neg h2, if_neg h2]
set_option maxHeartbeats 2000000 in
theorem sweeperStep_new (E : KeptL) (w0 w : World) (b : Nat) (vc vr : Value) (rvs : List Value) (h : Hp) (limit : Int) {a ob : Nat} {oc : Int} (hT : TzT w0) (S : SwSt E w0 w b vc vr rvs h) (hv : Hps.validH h = true) (ha : a < 4) (hb3 : ob ≤ 3) :
    Calls Tryd.prog 85 #[.pointer (some ⟨b, 0, none⟩), cmV ⟨1, a, ob, oc⟩, .int .i64 limit] w fun e w' => e = .returned (.bool (decide ((Hps.gapH (Hps.roomS h limit) : Int) < limit))) ∧ ∃ vc' vr' rvs', SwSt E w0 w' b vc' vr' rvs' (if (Hps.gapH (Hps.roomS h limit) : Int) < limit then Hps.doH (Hps.roomS h limit) ⟨1, a, ob, oc⟩ (Hps.gapH (Hps.roomS h limit)) else Hps.roomS h limit) := by
  have HN := Lib.hid (fun w1 (S : SwSt E w0 w1 b vc vr rvs h) => sweeperNew_any (oc := oc) E w0 w1 b vc vr rvs h limit hT S hv ha hb3)
  obtain ⟨r, hr⟩ : ∃ r, decide ((Hps.gapH (Hps.roomS h limit) : Int) < limit) = r := ⟨_, rfl⟩
  obtain ⟨Y, hY⟩ : ∃ Y, (if (Hps.gapH (Hps.roomS h limit) : Int) < limit then Hps.doH (Hps.roomS h limit) ⟨1, a, ob, oc⟩ (Hps.gapH (Hps.roomS h limit)) else Hps.roomS h limit) = Y := ⟨_, rfl⟩
  rw [hr, hY] at HN ⊢
  have bA : Below w.heap.size w (w.alloc (.cells #[.int .i64 1, .int .i64 a, .int .i64 ob, .int .i64 oc] 49)) := (Below.refl _ _).alloc (Nat.le_refl _) _
  have Q := Rw.new w 49 #[.int .i64 1, .int .i64 a, .int .i64 ob, .int .i64 oc]
  have S1 := Lib.hid (S.up bA)
  clear hr hY S hv hT
  go_enter Tryd.func85, Tryd.ntmps85
  go_upto_region 1 with fail
  generalize w.alloc (.cells #[.int .i64 1, .int .i64 a, .int .i64 ob, .int .i64 oc] 49) = w1 at S1 Q bA ⊢
  generalize w.heap.size = q at Q ⊢
  have y0 : w1.cell? ⟨q, 0, none⟩ = some (.int .i64 1) := Q.cell 0
  have y1 : w1.cell? ⟨q, 1, none⟩ = some (.int .i64 a) := Q.cell 1
  have y2 : w1.cell? ⟨q, 2, none⟩ = some (.int .i64 ob) := Q.cell 2
  have y3 : w1.cell? ⟨q, 3, none⟩ = some (.int .i64 oc) := Q.cell 3
  clear Q bA
  go_wp2_with fail
  refine (HN.out _ S1.out).mono ?_
  rintro e w2 ⟨rfl, vc2, vr2, rv2, S2⟩
  have SF := Lib.hid S2
  clear S2 y0 y1 y2 y3
  go_wp2_with fail
  go_ret
  exact ⟨rfl, _, _, _, SF.out⟩
theorem sweeperStep_any (E : KeptL) (w0 w : World) (b : Nat) (vc vr : Value) (rvs : List Value) (h : Hp) (o : Cm) (limit : Int) (hT : TzT w0) (S : SwSt E w0 w b vc vr rvs h) (he : Hps.validH h = true ∧ Hps.okCm o = true ∧ 1 ≤ limit ∧ limit ≤ 40) :
    Calls Tryd.prog 85 #[.pointer (some ⟨b, 0, none⟩), cmV o, .int .i64 limit] w fun e w' => e = .returned (.bool (Hps.stepSw h limit o).2) ∧ ∃ vc' vr' rvs', SwSt E w0 w' b vc' vr' rvs' (Hps.stepSw h limit o).1 := by
  have he2 := he
  obtain ⟨hv, ho, _, _⟩ := he2
  by_cases h1 : o.op = 1
  · rw [Hps.stepSw_roomS he h1]
    obtain ⟨op, a, ob, oc⟩ := o
    simp only at h1
    subst h1
    obtain ⟨⟨a1, a2⟩, ⟨b1, b2⟩, _⟩ := (Hps.okCm_new rfl).1 ho
    simp only at a1 a2 b1 b2
    obtain ⟨a, rfl⟩ := Int.eq_ofNat_of_zero_le a1
    obtain ⟨ob, rfl⟩ := Int.eq_ofNat_of_zero_le b1
    refine (sweeperStep_new (oc := oc) E w0 w b vc vr rvs h limit hT S hv (by omega) (by omega)).mono ?_
    rintro e w' ⟨rfl, vc', vr', rvs', S'⟩
    by_cases h2 : (Hps.gapH (Hps.roomS h limit) : Int) < limit
    · rw [if_pos h2] at S' ⊢
      exact ⟨by rw [decide_eq_true h2], vc', vr', rvs', S'⟩
    · rw [if_neg h2] at S' ⊢
      exact ⟨by rw [decide_eq_false h2], vc', vr', rvs', S'⟩
  · rw [Hps.stepSw_other he h1]
    have main : Calls Tryd.prog 85 #[.pointer (some ⟨b, 0, none⟩), cmV o, .int .i64 limit] w fun e w' => e = .returned (.bool (Hps.canH h o)) ∧ ∃ vc' vr' rvs', SwSt E w0 w' b vc' vr' rvs' (if Hps.canH h o = true then Hps.doH h o h.cs.length else h) := by
      have hopc := Hps.okCm_op ho
      obtain ⟨op, a, bb, cc⟩ := o
      simp only at h1 hopc
      obtain rfl | rfl | rfl | rfl | rfl : op = 2 ∨ op = 3 ∨ op = 4 ∨ op = 5 ∨ op = 6 := by omega
      · exact sweeperStep_walk _ _ _ _ _ E w0 w b vc vr rvs h _ limit S hv ho h1 (operationOf_2 a bb cc) (fun hv ho => poss_get hv ho rfl) exec_2 (run_entered Tryd.func148 (by decide) (by rfl)) (run_entered Tryd.func149 (by decide) (by rfl))
      · exact sweeperStep_walk _ _ _ _ _ E w0 w b vc vr rvs h _ limit S hv ho h1 (operationOf_3 a bb cc) (fun hv ho => poss_set hv ho rfl) exec_3 (run_entered Tryd.func150 (by decide) (by rfl)) (run_entered Tryd.func151 (by decide) (by rfl))
      · exact sweeperStep_walk _ _ _ _ _ E w0 w b vc vr rvs h _ limit S hv ho h1 (operationOf_4 a bb cc) (fun hv ho => poss_always (Hps.canH_else hv ho (by simp) (by simp) (by simp))) exec_4 (run_entered Tryd.func146 (by decide) (by rfl)) (run_entered Tryd.func152 (by decide) (by rfl))
      · exact sweeperStep_walk _ _ _ _ _ E w0 w b vc vr rvs h _ limit S hv ho h1 (operationOf_5 a bb cc) (fun hv ho => poss_always (Hps.canH_else hv ho (by simp) (by simp) (by simp))) exec_5 (run_entered Tryd.func146 (by decide) (by rfl)) (run_entered Tryd.func153 (by decide) (by rfl))
      · exact sweeperStep_walk _ _ _ _ _ E w0 w b vc vr rvs h _ limit S hv ho h1 (operationOf_6 a bb cc) (fun hv ho => poss_data hv ho rfl) exec_6 (run_entered Tryd.func154 (by decide) (by rfl)) (run_entered Tryd.func155 (by decide) (by rfl))
    refine main.mono ?_
    rintro e w' ⟨rfl, vc', vr', rvs', S'⟩
    cases hc : Hps.canH h o
    · rw [hc, if_neg (by decide)] at S'
      exact ⟨rfl, vc', vr', rvs', S'⟩
    · rw [hc, if_pos rfl] at S'
      exact ⟨rfl, vc', vr', rvs', S'⟩
namespace Hps
theorem runSwFrom_cons {h : Hp} {limit : Int} {o : Cm} {l : List Cm} : runSwFrom h limit (o :: l) = if (stepSw h limit o).2 = false ∧ o.op = 1 then ((stepSw h limit o).1, false) else runSwFrom (stepSw h limit o).1 limit l := rfl
end Hps
set_option maxHeartbeats 8000000 in
theorem runSweep_any (A : Option Addr) (n c : Nat) (lim : Int) (l : List Cm) (w : World) (hT : TzT w) (h : MS w w.heap.size A n l) (hn : n ≤ 1099511627776) (hnc : n ≤ c) :
    Calls Tryd.prog 53 #[.slice A n c, .int .i64 lim] w (GaveH2 w (Hps.runSw l lim).1 (Hps.runSw l lim).2) := by
  have b2 : Below w.heap.size w (w.alloc (.cells #[.slice none 0 0, .slice none 0 0] 26)) := (Below.refl _ _).alloc (Nat.le_refl _) _
  have q3 := Rw.new w 26 #[.slice none 0 0, .slice none 0 0]
  have m2 := h.up b2
  have hT2 := hT.below b2
  clear hT
  go_enter Tryd.func53, Tryd.ntmps53
  go_upto_region 1 with fail
  generalize w.alloc (.cells #[.slice none 0 0, .slice none 0 0] 26) = w2 at b2 q3 m2 hT2 ⊢
  go_wp2_with fail
  refine (commandsValid_any _ _ _ l _ m2 hn hnc).mono ?_
  obtain ⟨r, hv⟩ : ∃ r, Hps.okCms l = r := ⟨_, rfl⟩
  rw [hv]
  rintro e w3 ⟨rfl, b1⟩
  replace q3 := q3.keep b1 q3.lt
  replace m2 := m2.up b1
  replace hT2 := hT2.below b1
  replace b2 := b2.trans (b1.mono b2.size)
  clear b1
  cases r
  · have HF := Lib.hid (show Hps.runSw l lim = (Hps.zeroH, false) by rw [Hps.runSw, if_neg (fun e => by rw [hv] at e; cases e.1)])
    have r2 : (w3).frozen? ⟨w.heap.size, 0, none⟩ = false := q3.frozen 0
    have r3 : (w3).frozen? ⟨w.heap.size, 1, none⟩ = false := q3.frozen 1
    have r4 : (w3).cell? ⟨w.heap.size, 0, none⟩ = some (.slice none 0 0) := q3.cell 0
    have r5 : (w3).cell? ⟨w.heap.size, 1, none⟩ = some (.slice none 0 0) := q3.cell 1
    have r6 : (((w3).setCell ⟨w.heap.size, 0, none⟩ (.slice none 0 0)).setCell ⟨w.heap.size, 1, none⟩ (.slice none 0 0)).cell? ⟨w.heap.size, 0, none⟩ = some (.slice none 0 0) := ((q3.put 0 (.slice none 0 0)).put 1 (.slice none 0 0)).cell 0
    have r7 : (((w3).setCell ⟨w.heap.size, 0, none⟩ (.slice none 0 0)).setCell ⟨w.heap.size, 1, none⟩ (.slice none 0 0)).cell? ⟨w.heap.size, 1, none⟩ = some (.slice none 0 0) := ((q3.put 0 (.slice none 0 0)).put 1 (.slice none 0 0)).cell 1
    have D := Lib.hid (OwnH.out (w := w) (g := w.heap.size) (own_zeroH w3 w3.heap.size (Nat.le_refl _)) (by exact q3.lt) (b2) (by omega))
    clear q3 m2 hT2 b2 hv
    go_wp2_with fail
    exact bodyPost_ret (v := .tuple #[.agg #[.slice none 0 0, .slice none 0 0], .bool false]) (by simp [results, Tryd.results53, go_sem, *]) rfl ⟨_, _, by rw [HF.out], by rw [HF.out]; exact D.out.1, D.out.2⟩
  have HV := Lib.hid hv
  clear hv
  go_wp2_with fail
  refine (limitValid_any lim w3).mono ?_
  obtain ⟨r, hl⟩ : ∃ r, decide (1 ≤ lim ∧ lim ≤ 40) = r := ⟨_, rfl⟩
  rw [hl]
  rintro e w4 ⟨rfl, rfl⟩
  cases r
  · have hl2 := of_decide_eq_false hl
    have HF := Lib.hid (show Hps.runSw l lim = (Hps.zeroH, false) by rw [Hps.runSw, if_neg (fun e => hl2 e.2)])
    clear hl2
    have r2 : (w3).frozen? ⟨w.heap.size, 0, none⟩ = false := q3.frozen 0
    have r3 : (w3).frozen? ⟨w.heap.size, 1, none⟩ = false := q3.frozen 1
    have r4 : (w3).cell? ⟨w.heap.size, 0, none⟩ = some (.slice none 0 0) := q3.cell 0
    have r5 : (w3).cell? ⟨w.heap.size, 1, none⟩ = some (.slice none 0 0) := q3.cell 1
    have r6 : (((w3).setCell ⟨w.heap.size, 0, none⟩ (.slice none 0 0)).setCell ⟨w.heap.size, 1, none⟩ (.slice none 0 0)).cell? ⟨w.heap.size, 0, none⟩ = some (.slice none 0 0) := ((q3.put 0 (.slice none 0 0)).put 1 (.slice none 0 0)).cell 0
    have r7 : (((w3).setCell ⟨w.heap.size, 0, none⟩ (.slice none 0 0)).setCell ⟨w.heap.size, 1, none⟩ (.slice none 0 0)).cell? ⟨w.heap.size, 1, none⟩ = some (.slice none 0 0) := ((q3.put 0 (.slice none 0 0)).put 1 (.slice none 0 0)).cell 1
    have D := Lib.hid (OwnH.out (w := w) (g := w.heap.size) (own_zeroH w3 w3.heap.size (Nat.le_refl _)) (by exact q3.lt) (b2) (by omega))
    clear q3 m2 hT2 b2 hl
    go_wp2_with fail
    exact bodyPost_ret (v := .tuple #[.agg #[.slice none 0 0, .slice none 0 0], .bool false]) (by simp [results, Tryd.results53, go_sem, *]) rfl ⟨_, _, by rw [HF.out], by rw [HF.out]; exact D.out.1, D.out.2⟩
  have HL := Lib.hid (of_decide_eq_true hl)
  have HF := Lib.hid (show Hps.runSw l lim = Hps.runSwFrom Hps.emptyH lim l by rw [Hps.runSw, if_pos ⟨HV.out, HL.out⟩])
  have HOK := Lib.hid ((Hps.okCms_iff.1 HV.out).1)
  clear hl
  go_wp2_with fail
  refine (emptyHeap_any w3).mono ?_
  rintro e w4 ⟨vc, vr, rfl, oh, b4⟩
  have hrl := q3.lt
  replace q3 := q3.keep b4 q3.lt
  replace m2 := m2.up b4
  replace hT2 := hT2.below b4
  replace b2 := b2.trans (b4.mono b2.size)
  obtain ⟨Ae, ce, Re, de, rfl, rfl, -⟩ := oh.form
  have se : HS w4 w4.heap.size Ae Hps.emptyH.cs.length Re Hps.emptyH.rt.length Hps.emptyH := by
    obtain ⟨rvs0, o0⟩ := oh
    exact o0.reads
  obtain ⟨ne, hne⟩ : ∃ ne, Hps.emptyH.cs.length = ne := ⟨_, rfl⟩
  obtain ⟨me, hme⟩ : ∃ me, Hps.emptyH.rt.length = me := ⟨_, rfl⟩
  have hne0 : ne ≤ 0 := by rw [← hne]; decide
  have hme4 : me ≤ 4 := by rw [← hme]; decide
  rw [hne, hme] at se ⊢
  have HE3 := Lib.hid (show ∀ cl ∈ Hps.emptyH.cs, cl.r.length ≤ 1000000 from fun cl hcl => by simp [Hps.emptyH] at hcl)
  clear oh b4 hne hme
  have hrl4 := q3.lt
  go_wp2_with fail
  refine (sweeperOf_any Ae Re ne ce me de Hps.emptyH w4 se (by omega) (by omega) HE3.out).mono ?_
  rintro e w5 ⟨vc, vr, vk, rfl, oc, b5⟩
  obtain ⟨rv, S⟩ := SwSt.of oc b5
  obtain ⟨A5, n5, c5, R5, m5, d5, K5, p5, q5, rfl, rfl, rfl⟩ := oc.slices
  have Q3 := Lib.hid q3
  have B2 := Lib.hid b2
  have HT := Lib.hid hT2
  have M2 := Lib.hid m2
  clear oc b5 q3 b2 hT2 m2 se
  go_upto_region 4 with fail
  generalize w5.alloc (.cells #[.slice A5 n5 c5, .slice R5 m5 d5, .slice K5 p5 q5] 104) = w6 at S ⊢
  generalize w5.heap.size = b at S ⊢
  go_wp2_with fail
  go_loopw [22] (fun i wr => ∃ (k : Nat) (vc vr : Value) (rvs : List Value) (hh : Hp), k ≤ n ∧ i = .int .i64 k ∧ SwSt [] w4 wr b vc vr rvs hh ∧ Hid (Hps.validH hh = true) ∧ Hid (Hps.runSw l lim = Hps.runSwFrom hh lim (l.drop k))) (fun i _ => n - (intOf i).toNat)
  case atStart => exact ⟨0, _, _, rv, Hps.emptyH, Nat.zero_le _, rfl, S, Lib.hid Hps.empty_valid, Lib.hid (by rw [List.drop_zero]; exact HF.out)⟩
  case round =>
    clear S rv
    obtain ⟨k, vc, vr, rv, hh, hk, rfl, S, HVH, HRN⟩ := hrel
    have hml := h.1
    by_cases hlt : k < n
    · obtain ⟨g, o5, x, rfl, hg, hx, c0, c1, c2, c3⟩ := (M2.out.up S.low).at_ hlt
      have hlt' : (k : Int) < n := by omega
      have HXE := Lib.hid (show Hps.validH hh = true ∧ Hps.okCm x = true ∧ 1 ≤ lim ∧ lim ≤ 40 from ⟨HVH.out, HOK.out x (List.mem_of_getElem? hx), HL.out⟩)
      have hdr : l.drop k = x :: l.drop (k + 1) := by rw [List.drop_eq_getElem_cons (by omega), (List.getElem?_eq_some_iff.1 hx).2]
      have HR2 := Lib.hid (show Hps.runSw l lim = if (Hps.stepSw hh lim x).2 = false ∧ x.op = 1 then ((Hps.stepSw hh lim x).1, false) else Hps.runSwFrom (Hps.stepSw hh lim x).1 lim (l.drop (k + 1)) by rw [HRN.out, hdr, Hps.runSwFrom_cons])
      have HSV := Lib.hid (Hps.stepSw_valid HXE.out)
      have S5 : SwFs ((wr.heap.size, 49, #[.int .i64 x.op, .int .i64 x.a, .int .i64 x.b, .int .i64 x.c]) :: []) w4 (wr.alloc (.cells #[.int .i64 x.op, .int .i64 x.a, .int .i64 x.b, .int .i64 x.c] 49)) b vc vr rv hh (Hps.gapsL hh.cs) := S.more
      have Q5 := Rw.new wr 49 #[.int .i64 x.op, .int .i64 x.a, .int .i64 x.b, .int .i64 x.c]
      clear S hx hdr HRN
      go_upto_region 7 with fail
      generalize wr.alloc (.cells #[.int .i64 x.op, .int .i64 x.a, .int .i64 x.b, .int .i64 x.c] 49) = w7 at S5 Q5 ⊢
      generalize wr.heap.size = q7 at S5 Q5 ⊢
      have HSW := Lib.hid (sweeperStep_any _ w4 w7 b _ _ rv hh x lim HT.out S5 HXE.out)
      have y0 : w7.cell? ⟨q7, 0, none⟩ = some (.int .i64 x.op) := Q5.cell 0
      have y1 : w7.cell? ⟨q7, 1, none⟩ = some (.int .i64 x.a) := Q5.cell 1
      have y2 : w7.cell? ⟨q7, 2, none⟩ = some (.int .i64 x.b) := Q5.cell 2
      have y3 : w7.cell? ⟨q7, 3, none⟩ = some (.int .i64 x.c) := Q5.cell 3
      obtain ⟨X, hX⟩ : ∃ X, (Hps.stepSw hh lim x).1 = X := ⟨_, rfl⟩
      obtain ⟨r, hr⟩ : ∃ r, (Hps.stepSw hh lim x).2 = r := ⟨_, rfl⟩
      rw [hX] at HSV
      rw [hX, hr] at HSW HR2
      clear S5 Q5 hX hr c0 c1 c2 c3
      go_wp2_with fail
      refine HSW.out.mono ?_
      rintro e w8 ⟨rfl, vc8, vr8, rv8, S8⟩
      clear HSW y0 y1 y2 y3
      obtain ⟨S9, Q9⟩ := S8.less
      simp only at Q9
      have y0 : w8.cell? ⟨q7, 0, none⟩ = some (.int .i64 x.op) := Q9.cell 0
      cases r
      · by_cases h1 : x.op = 1
        · have h1' : (x.op == 1) = true := by rw [beq_iff_eq]; exact h1
          have HFF := HR2.out
          rw [if_pos ⟨rfl, h1⟩] at HFF
          have HF2 := Lib.hid HFF
          obtain ⟨A7, c7, R7, d7, rfl, rfl, -⟩ := S9.own.form
          obtain ⟨n7, hn7⟩ : ∃ n7, X.cs.length = n7 := ⟨_, rfl⟩
          obtain ⟨m7, hm7⟩ : ∃ m7, X.rt.length = m7 := ⟨_, rfl⟩
          rw [hn7, hm7] at S9
          have z0 : w8.cell? ⟨b, 0, none⟩ = some (.slice A7 n7 c7) := S9.c0
          have z1 : w8.cell? ⟨b, 1, none⟩ = some (.slice R7 m7 d7) := S9.c1
          have q3 := Q3.out.keep S9.low hrl4
          have b2 := B2.out.trans (S9.low.mono B2.out.size)
          have hw4 := B2.out.size
          have OH := S9.ownH
          clear S8 S9 Q9 hn7 hm7 h1 HFF
          have r2 : (w8).frozen? ⟨w.heap.size, 0, none⟩ = false := q3.frozen 0
          have r3 : (w8).frozen? ⟨w.heap.size, 1, none⟩ = false := q3.frozen 1
          have r4 : (w8).cell? ⟨w.heap.size, 0, none⟩ = some (.slice none 0 0) := q3.cell 0
          have r5 : (w8).cell? ⟨w.heap.size, 1, none⟩ = some (.slice none 0 0) := q3.cell 1
          have r6 : (((w8).setCell ⟨w.heap.size, 0, none⟩ (.slice A7 n7 c7)).setCell ⟨w.heap.size, 1, none⟩ (.slice R7 m7 d7)).cell? ⟨w.heap.size, 0, none⟩ = some (.slice A7 n7 c7) := ((q3.put 0 (.slice A7 n7 c7)).put 1 (.slice R7 m7 d7)).cell 0
          have r7 : (((w8).setCell ⟨w.heap.size, 0, none⟩ (.slice A7 n7 c7)).setCell ⟨w.heap.size, 1, none⟩ (.slice R7 m7 d7)).cell? ⟨w.heap.size, 1, none⟩ = some (.slice R7 m7 d7) := ((q3.put 0 (.slice A7 n7 c7)).put 1 (.slice R7 m7 d7)).cell 1
          have D := Lib.hid (OwnH.out (w := w) (g := w.heap.size) (OH) (by omega) (b2) (by omega))
          clear q3 b2 OH
          go_wp2_with fail
          exact bodyPost_ret (v := .tuple #[.agg #[.slice A7 n7 c7, .slice R7 m7 d7], .bool false]) (by simp [results, Tryd.results53, go_sem, *]) rfl ⟨_, _, by rw [HF2.out], by rw [HF2.out]; exact D.out.1, D.out.2⟩
        · have h1' : (x.op == 1) = false := by rw [beq_eq_false_iff_ne]; exact h1
          have HFF := HR2.out
          rw [if_neg (fun e => h1 e.2)] at HFF
          have HF2 := Lib.hid HFF
          have S10 := Lib.hid S9
          clear S8 S9 Q9 h1 HFF
          go_wp2_with fail
          go_roundw
          case rel => exact ⟨k + 1, vc8, vr8, rv8, X, by omega, by go_num, S10.out, HSV, HF2⟩
          case measure => simp [intOf]; omega
      · have HFF := HR2.out
        rw [if_neg (fun e => by cases e.1)] at HFF
        have HF2 := Lib.hid HFF
        have S10 := Lib.hid S9
        clear S8 S9 Q9 HFF
        go_wp2_with fail
        go_roundw
        case rel => exact ⟨k + 1, vc8, vr8, rv8, X, by omega, by go_num, S10.out, HSV, HF2⟩
        case measure => simp [intOf]; omega
    · obtain rfl : k = n := by omega
      have HFF := HRN.out
      rw [List.drop_of_length_le (by omega)] at HFF
      have HF2 := Lib.hid (show Hps.runSw l lim = (hh, true) from HFF)
      obtain ⟨A7, c7, R7, d7, rfl, rfl, -⟩ := S.own.form
      obtain ⟨n7, hn7⟩ : ∃ n7, hh.cs.length = n7 := ⟨_, rfl⟩
      obtain ⟨m7, hm7⟩ : ∃ m7, hh.rt.length = m7 := ⟨_, rfl⟩
      rw [hn7, hm7] at S
      have z0 : wr.cell? ⟨b, 0, none⟩ = some (.slice A7 n7 c7) := S.c0
      have z1 : wr.cell? ⟨b, 1, none⟩ = some (.slice R7 m7 d7) := S.c1
      have q3 := Q3.out.keep S.low hrl4
      have b2 := B2.out.trans (S.low.mono B2.out.size)
      have hw4 := B2.out.size
      have OH := S.ownH
      clear S hn7 hm7 HFF HRN hml
      have r2 : (wr).frozen? ⟨w.heap.size, 0, none⟩ = false := q3.frozen 0
      have r3 : (wr).frozen? ⟨w.heap.size, 1, none⟩ = false := q3.frozen 1
      have r4 : (wr).cell? ⟨w.heap.size, 0, none⟩ = some (.slice none 0 0) := q3.cell 0
      have r5 : (wr).cell? ⟨w.heap.size, 1, none⟩ = some (.slice none 0 0) := q3.cell 1
      have r6 : (((wr).setCell ⟨w.heap.size, 0, none⟩ (.slice A7 n7 c7)).setCell ⟨w.heap.size, 1, none⟩ (.slice R7 m7 d7)).cell? ⟨w.heap.size, 0, none⟩ = some (.slice A7 n7 c7) := ((q3.put 0 (.slice A7 n7 c7)).put 1 (.slice R7 m7 d7)).cell 0
      have r7 : (((wr).setCell ⟨w.heap.size, 0, none⟩ (.slice A7 n7 c7)).setCell ⟨w.heap.size, 1, none⟩ (.slice R7 m7 d7)).cell? ⟨w.heap.size, 1, none⟩ = some (.slice R7 m7 d7) := ((q3.put 0 (.slice A7 n7 c7)).put 1 (.slice R7 m7 d7)).cell 1
      have D := Lib.hid (OwnH.out (w := w) (g := w.heap.size) (OH) (by omega) (b2) (by omega))
      clear q3 b2 OH
      go_wp2_with fail
      exact bodyPost_ret (v := .tuple #[.agg #[.slice A7 n7 c7, .slice R7 m7 d7], .bool true]) (by simp [results, Tryd.results53, go_sem, *]) rfl ⟨_, _, by rw [HF2.out], by rw [HF2.out]; exact D.out.1, D.out.2⟩
end Go.Proofs.YthmddmddcdofaaaDoor

namespace Go.Proofs.YthmddmddcdofaaaDoor
open Go.RowKit
set_option maxRecDepth 100000
theorem tiny_runFrom (lim : Int) : ∀ (l : List Cm) {h : Hp}, Hps.validH h = true → (∀ o ∈ l, Hps.okCm o = true) → 1 ≤ lim → lim ≤ 40 → Tiny (Hps.runSwFrom h lim l).1
  | [], h, hv, _, _, _ => tiny_valid hv
  | o :: l, h, hv, hl, h1, h2 => by
    have e : Hps.validH h = true ∧ Hps.okCm o = true ∧ 1 ≤ lim ∧ lim ≤ 40 := ⟨hv, hl o (by simp), h1, h2⟩
    rw [Hps.runSwFrom_cons]
    split
    · exact tiny_valid (Hps.stepSw_valid e)
    · exact tiny_runFrom lim l (Hps.stepSw_valid e) (fun x hx => hl x (by simp [hx])) h1 h2
theorem tiny_runSw (l : List Cm) (lim : Int) : Tiny (Hps.runSw l lim).1 := by
  rw [Hps.runSw]
  split
  · next e => exact tiny_runFrom lim l Hps.empty_valid (fun o ho => (Hps.okCms_iff.1 e.1).1 o ho) e.2.1 e.2.2
  · exact tiny_zero
set_option maxHeartbeats 4000000 in
theorem exactRunSweep_walk (A : Option Addr) (n c : Nat) (lim : Int) (l : List Cm) (w : World) (hT : TzT w) (h : MS w w.heap.size A n l) (hn : n ≤ 9223372036854775807) :
    Calls Tryd.prog 12 #[.slice A n c, .int .i64 lim] w fun e w' => e = .returned (.bool true) ∧ Below w.heap.size w w' := by
  by_cases hz : n ≤ 1048576
  case neg =>
    have hl0 : (if (1048576 : Int) - n < 0 then -1 else (1048576 : Int) - n) = -1 := if_pos (by omega)
    have HL := Lib.hid hl0
    clear hl0
    go_enter Tryd.func12, Tryd.ntmps12
    go_wp2_with fail
    refine (szCommandS_any _ _ _ _ _ (by omega) (by omega) hn).mono ?_
    rw [HL.out]
    rintro e w0 ⟨rfl, rfl⟩
    go_wp2_with fail
    go_ret
    exact ⟨rfl, Below.refl _ _⟩
  obtain ⟨lz, hlz⟩ : ∃ lz : Int, (if (1048576 : Int) - n < 0 then -1 else (1048576 : Int) - n) = lz := ⟨_, rfl⟩
  have hl0 : decide (lz < 0) = false := by rw [← hlz, if_neg (by omega)]; exact decide_eq_false (by omega)
  have HL := Lib.hid hlz
  have T := tiny_runSw l lim
  have HM := Lib.hid (fun (A : Option Addr) (c : Nat) (w : World) (h : MS w w.heap.size A n l) => mRunSweep_any A n c lim l w h (by omega))
  have HP := Lib.hid (fun (A : Option Addr) (c : Nat) (w1 : World) (hb : Below w.heap.size w w1) (h : MS w1 w1.heap.size A n l) (hc : n ≤ c) => runSweep_any A n c lim l w1 (hT.below hb) h (by omega) hc)
  have hll := h.1
  obtain ⟨hh, hhe⟩ : ∃ hh, (Hps.runSw l lim).1 = hh := ⟨_, rfl⟩
  obtain ⟨vb, hvb⟩ : ∃ vb, (Hps.runSw l lim).2 = vb := ⟨_, rfl⟩
  have hvv : (vb != vb) = false := by cases vb <;> rfl
  rw [hhe] at T
  rw [hhe, hvb] at HM HP
  obtain ⟨nn, hnn⟩ : ∃ nn, hh.cs.length = nn := ⟨_, rfl⟩
  obtain ⟨mm, hmm⟩ : ∃ mm, hh.rt.length = mm := ⟨_, rfl⟩
  have hn40 : nn ≤ 40 := by have := T.1; omega
  have hm4 : mm ≤ 4 := by have := T.2.1; omega
  have H3 := Lib.hid (fun cl (hcl : cl ∈ hh.cs) => show cl.r.length ≤ 1099511627776 by have := T.2.2 cl hcl; omega)
  have HSZ := Lib.hid T.size
  have E0 := Lib.hid hnn
  have E4 := Lib.hid hmm
  obtain ⟨kv, hkv⟩ : ∃ kv, markKH 1 hh = kv := ⟨_, rfl⟩
  have hk0 : decide (kv < 0) = false := by
    rw [← hkv]
    refine decide_eq_false ?_
    simp only [markKH, mkK]
    omega
  have hkk : (kv != kv) = false := by simp
  have HKV := Lib.hid hkv
  have hkc : decide ((1 : Int) + 4 * (l.length : Int) < 0) = false := decide_eq_false (by omega)
  clear hlz T hhe hvb hT hnn hmm hkv
  go_enter Tryd.func12, Tryd.ntmps12
  go_wp2_with fail
  refine (szCommandS_any _ _ _ _ _ (by omega) (by omega) hn).mono ?_
  rw [HL.out]
  rintro e w0 ⟨rfl, rfl⟩
  go_wp2_with fail
  refine (toCommandS_any _ _ _ l _ h (by omega)).mono ?_
  rintro e w1 ⟨rfl, o1, b1⟩
  have r1 := o1.reads
  clear o1
  go_wp2_with fail
  refine (HM.out _ _ _ r1).mono ?_
  rintro e w2 ⟨vc0, vr0, rfl, ⟨rvs0, own0⟩, b2⟩
  obtain ⟨A0, c0, R0, d0, rfl, rfl, -⟩ := own0.form
  rw [E0.out, E4.out] at own0 ⊢
  have bA : Below w2.heap.size w2 (w2.alloc (.cells #[.slice A0 nn c0, .slice R0 mm d0] 26)) := (Below.refl _ _).alloc (Nat.le_refl _) _
  have SA := Lib.hid (fun u (hu : u ∈ (Value.slice A0 nn c0) :: (Value.slice R0 mm d0) :: rvs0) k (hk : u.ownBlock = some k) => own0.blocks hu hk)
  have o0 := own0.below bA (Nat.le_refl _)
  have x0 := Rw.new w2 26 #[.slice A0 nn c0, .slice R0 mm d0]
  have bb := (b1.trans (b2.mono b1.size)).trans (bA.mono (b1.trans (b2.mono b1.size)).size)
  have z2 := bA.size
  clear own0 r1 b2 b1
  go_upto_region 6 with fail
  generalize w2.alloc (.cells #[.slice A0 nn c0, .slice R0 mm d0] 26) = w3 at o0 x0 bb bA z2 ⊢
  obtain ⟨s2, hs2⟩ : ∃ s2, w2.heap.size = s2 := ⟨_, rfl⟩
  rw [hs2] at x0 SA z2 bA ⊢
  have hx0 := x0.lt
  have hw3 := bb.size
  have h3 := h.up bb
  clear hs2 bA
  go_wp2_with fail
  refine (toCommandS_any _ _ _ l _ h3 (by omega)).mono ?_
  rintro e w4 ⟨rfl, om, b4⟩
  have z3 := om.reads
  replace o0 := o0.below b4 (Nat.le_refl _)
  replace x0 := x0.keep b4 x0.lt
  replace bb := bb.trans (b4.mono bb.size)
  have hg5 := (World.ownsRow.lt om _ rfl).2
  obtain ⟨g4, hg⟩ : ∃ g4, w3.heap.size = g4 := ⟨_, rfl⟩
  rw [hg] at om z3 hx0 z2 hw3 hg5 ⊢
  clear b4 h3 hg
  go_wp2_with fail
  refine (HP.out _ _ _ bb z3 (Nat.le_refl _)).mono ?_
  rintro e w5 ⟨vc1, vr1, rfl, ⟨rvs1, own1⟩, b5⟩
  obtain ⟨A1, c1, R1, d1, rfl, rfl, -⟩ := own1.form
  rw [E0.out, E4.out] at own1 ⊢
  have bA : Below w5.heap.size w5 (w5.alloc (.cells #[.slice A1 nn c1, .slice R1 mm d1] 26)) := (Below.refl _ _).alloc (Nat.le_refl _) _
  have SB := Lib.hid (fun u (hu : u ∈ (Value.slice A1 nn c1) :: (Value.slice R1 mm d1) :: rvs1) k (hk : u.ownBlock = some k) => own1.blocks hu hk)
  have S01 := Lib.hid (fun v (hv : v ∈ (Value.slice A0 nn c0) :: (Value.slice R0 mm d0) :: rvs0) u (hu : u ∈ (Value.slice A1 nn c1) :: (Value.slice R1 mm d1) :: rvs1) => show v.ownBlock = none ∨ v.ownBlock ≠ u.ownBlock by
    cases e : v.ownBlock with
    | none => exact .inl rfl
    | some k =>
      right
      intro e'
      have h1 := (SA.out v hv k e).2
      have h2 := (SB.out u hu k e'.symm).1
      omega)
  have APA : Hid (Apart (some g4) ((Value.slice A0 nn c0) :: (Value.slice R0 mm d0) :: rvs0)) := Lib.hid fun v hv => by
    cases e : v.ownBlock with
    | none => exact .inl rfl
    | some k =>
      right
      intro e'
      have h1 := (SA.out v hv k e).2
      have h2 := Option.some.inj e'
      omega
  have APB : Hid (Apart (some g4) ((Value.slice A1 nn c1) :: (Value.slice R1 mm d1) :: rvs1)) := Lib.hid fun v hv => by
    cases e : v.ownBlock with
    | none => exact .inl rfl
    | some k =>
      right
      intro e'
      have h1 := (SB.out v hv k e).1
      have h2 := Option.some.inj e'
      omega
  have z5 := b5.size
  have o1 := own1.below bA (Nat.le_refl _)
  replace o0 := (o0.below b5 (Nat.le_refl _)).below bA (Nat.le_refl _)
  replace x0 := (x0.keep b5 x0.lt).alloc (.cells #[.slice A1 nn c1, .slice R1 mm d1] 26)
  replace om := (om.below b5 (Nat.le_refl _)).below bA (Nat.le_refl _)
  have x1 := Rw.new w5 26 #[.slice A1 nn c1, .slice R1 mm d1]
  replace bb := (bb.trans (b5.mono bb.size)).trans (bA.mono (bb.trans (b5.mono bb.size)).size)
  clear own1 bA b5 z3
  go_upto_region 8 with fail
  generalize w5.alloc (.cells #[.slice A1 nn c1, .slice R1 mm d1] 26) = w6 at o0 o1 om x0 x1 bb ⊢
  obtain ⟨s5, hs5⟩ : ∃ s5, w5.heap.size = s5 := ⟨_, rfl⟩
  rw [hs5] at x1 SB z5 ⊢
  clear hs5
  have y0 : w6.cell? ⟨s2, 0, none⟩ = some (.slice A0 nn c0) := x0.cell 0
  have y1 : w6.cell? ⟨s2, 1, none⟩ = some (.slice R0 mm d0) := x0.cell 1
  have y2 : w6.cell? ⟨s5, 0, none⟩ = some (.slice A1 nn c1) := x1.cell 0
  have y3 : w6.cell? ⟨s5, 1, none⟩ = some (.slice R1 mm d1) := x1.cell 1
  go_wp2_with fail
  refine (eqHeap_any _ _ _ _ _ _ _ _ _ _ _ _ hh hh _ o1.reads o0.reads (by omega) (by omega) (by omega) (by omega) H3.out H3.out).mono ?_
  rw [decide_eq_true rfl]
  rintro e w7 ⟨rfl, b7⟩
  replace o0 := o0.below b7 (Nat.le_refl _)
  replace o1 := o1.below b7 (Nat.le_refl _)
  replace om := om.below b7 (Nat.le_refl _)
  replace x0 := x0.keep b7 x0.lt
  replace x1 := x1.keep b7 x1.lt
  replace bb := bb.trans (b7.mono bb.size)
  have h7 := h.up bb
  clear b7 y0 y1 y2 y3
  go_wp2_with fail
  refine (toCommandS_any _ _ _ l _ h7 (by omega)).mono ?_
  rintro e w8 ⟨rfl, o8, b8⟩
  have r8 := o8.reads
  replace o0 := o0.below b8 (Nat.le_refl _)
  replace o1 := o1.below b8 (Nat.le_refl _)
  replace om := om.below b8 (Nat.le_refl _)
  replace x0 := x0.keep b8 x0.lt
  replace x1 := x1.keep b8 x1.lt
  replace bb := bb.trans (b8.mono bb.size)
  generalize w7.heap.size = g7 at r8 ⊢
  clear b8 h7 o8
  go_wp2_with fail
  refine (eqCommandS_same _ _ _ _ _ l _ om.reads r8 (by omega)).mono ?_
  rintro e w9 ⟨rfl, b9⟩
  replace o0 := o0.below b9 (Nat.le_refl _)
  replace o1 := o1.below b9 (Nat.le_refl _)
  replace om := om.below b9 (Nat.le_refl _)
  replace x0 := x0.keep b9 x0.lt
  replace x1 := x1.keep b9 x1.lt
  replace bb := bb.trans (b9.mono bb.size)
  clear b9 r8
  go_wp2_with fail
  refine (markCommandS_any _ l _ _ _ om (by omega) (by omega) (by omega)).mono ?_
  rintro e w10 ⟨rfl, -, g10⟩
  replace o0 := o0.far g10 APA.out
  replace o1 := o1.far g10 APB.out
  replace x0 := x0.far g10 (fun e => by have : s2 = g4 := Option.some.inj e; omega)
  replace x1 := x1.far g10 (fun e => by have : s5 = g4 := Option.some.inj e; omega)
  replace bb := bb.grown g10 bb.size (fun k hk => by have : g4 = k := Option.some.inj hk; omega)
  clear om g10
  have y0 : w10.cell? ⟨s2, 0, none⟩ = some (.slice A0 nn c0) := x0.cell 0
  have y1 : w10.cell? ⟨s2, 1, none⟩ = some (.slice R0 mm d0) := x0.cell 1
  have y2 : w10.cell? ⟨s5, 0, none⟩ = some (.slice A1 nn c1) := x1.cell 0
  have y3 : w10.cell? ⟨s5, 1, none⟩ = some (.slice R1 mm d1) := x1.cell 1
  go_wp2_with fail
  refine (eqHeap_any _ _ _ _ _ _ _ _ _ _ _ _ hh hh _ o1.reads o0.reads (by omega) (by omega) (by omega) (by omega) H3.out H3.out).mono ?_
  rw [decide_eq_true rfl]
  rintro e w11 ⟨rfl, b11⟩
  replace o0 := o0.below b11 (Nat.le_refl _)
  replace o1 := o1.below b11 (Nat.le_refl _)
  replace x0 := x0.keep b11 x0.lt
  replace x1 := x1.keep b11 x1.lt
  replace bb := bb.trans (b11.mono bb.size)
  clear b11 y0 y1 y2 y3
  have y2 : w11.cell? ⟨s5, 0, none⟩ = some (.slice A1 nn c1) := x1.cell 0
  have y3 : w11.cell? ⟨s5, 1, none⟩ = some (.slice R1 mm d1) := x1.cell 1
  go_wp2_with fail
  refine (markHeap_any _ _ rvs1 hh _ _ _ o1 (by omega) (by omega) HSZ.out).mono ?_
  rw [HKV.out]
  rintro e w12 ⟨rfl, m6, t6⟩
  replace o0 := o0.touched' t6 S01.out
  replace x0 := x0.touched t6 (fun u hu e => by have := (SB.out u hu _ e).1; omega)
  replace x1 := x1.touched t6 (fun u hu e => by have := (SB.out u hu _ e).2; omega)
  replace bb : Below w.heap.size w w12 := t6.below bb bb.size (fun u hu k hk => by have := (SB.out u hu k hk).1; omega)
  have r6 := m6.reads
  clear o1 t6 m6 y2 y3
  have y2 : w12.cell? ⟨s5, 0, none⟩ = some (.slice A1 nn c1) := x1.cell 0
  have y3 : w12.cell? ⟨s5, 1, none⟩ = some (.slice R1 mm d1) := x1.cell 1
  go_wp2_with fail
  refine (heldHeap_any _ _ _ _ _ _ hh _ _ r6 E0.out E4.out (by omega) (by omega) HSZ.out).mono ?_
  rw [HKV.out]
  rintro e w13 ⟨rfl, b13⟩
  replace o0 := o0.below b13 (Nat.le_refl _)
  replace x0 := x0.keep b13 x0.lt
  replace x1 := x1.keep b13 x1.lt
  replace r6 := r6.up b13
  replace bb := bb.trans (b13.mono bb.size)
  have h13 := h.up bb
  clear b13 y2 y3
  go_wp2_with fail
  refine (toCommandS_any _ _ _ l _ h13 (by omega)).mono ?_
  rintro e w14 ⟨rfl, o14, b14⟩
  have r14 := o14.reads
  replace o0 := o0.below b14 (Nat.le_refl _)
  replace x0 := x0.keep b14 x0.lt
  replace x1 := x1.keep b14 x1.lt
  replace r6 := r6.up b14
  replace bb := bb.trans (b14.mono bb.size)
  generalize w13.heap.size = g13 at r14 ⊢
  clear b14 h13 o14
  go_wp2_with fail
  refine (HP.out _ _ _ bb r14 (Nat.le_refl _)).mono ?_
  rintro e w15 ⟨vc2, vr2, rfl, ⟨rvs2, own2⟩, b15⟩
  obtain ⟨A2, c2, R2, d2, rfl, rfl, -⟩ := own2.form
  rw [E0.out, E4.out] at own2 ⊢
  have bA : Below w15.heap.size w15 (w15.alloc (.cells #[.slice A2 nn c2, .slice R2 mm d2] 26)) := (Below.refl _ _).alloc (Nat.le_refl _) _
  have r9 := own2.reads.up bA
  replace o0 := (o0.below b15 (Nat.le_refl _)).below bA (Nat.le_refl _)
  replace x0 := (x0.keep b15 x0.lt).alloc (.cells #[.slice A2 nn c2, .slice R2 mm d2] 26)
  replace x1 := (x1.keep b15 x1.lt).alloc (.cells #[.slice A2 nn c2, .slice R2 mm d2] 26)
  replace r6 := (r6.up b15).up bA
  replace bb := (bb.trans (b15.mono bb.size)).trans (bA.mono (bb.trans (b15.mono bb.size)).size)
  have x2 := Rw.new w15 26 #[.slice A2 nn c2, .slice R2 mm d2]
  clear own2 bA b15 r14
  go_upto_region 25 with fail
  generalize w15.alloc (.cells #[.slice A2 nn c2, .slice R2 mm d2] 26) = w16 at o0 x0 x1 x2 r6 r9 bb ⊢
  generalize w15.heap.size = s15 at x2 ⊢
  have y0 : w16.cell? ⟨s2, 0, none⟩ = some (.slice A0 nn c0) := x0.cell 0
  have y1 : w16.cell? ⟨s2, 1, none⟩ = some (.slice R0 mm d0) := x0.cell 1
  have y4 : w16.cell? ⟨s15, 0, none⟩ = some (.slice A2 nn c2) := x2.cell 0
  have y5 : w16.cell? ⟨s15, 1, none⟩ = some (.slice R2 mm d2) := x2.cell 1
  go_wp2_with fail
  refine (eqHeap_any _ _ _ _ _ _ _ _ _ _ _ _ hh hh _ r9 o0.reads (by omega) (by omega) (by omega) (by omega) H3.out H3.out).mono ?_
  rw [decide_eq_true rfl]
  rintro e w17 ⟨rfl, b17⟩
  replace x1 := x1.keep b17 x1.lt
  replace r6 := r6.up b17
  replace bb := bb.trans (b17.mono bb.size)
  clear b17 y0 y1 y4 y5 o0 x0 x2 r9
  have y2 : w17.cell? ⟨s5, 0, none⟩ = some (.slice A1 nn c1) := x1.cell 0
  have y3 : w17.cell? ⟨s5, 1, none⟩ = some (.slice R1 mm d1) := x1.cell 1
  go_wp2_with fail
  refine (heldHeap_any _ _ _ _ _ _ hh _ _ r6 E0.out E4.out (by omega) (by omega) HSZ.out).mono ?_
  rw [HKV.out]
  rintro e w18 ⟨rfl, b18⟩
  have bbf := bb.trans (b18.mono bb.size)
  go_wp2_with fail
  go_ret
  exact ⟨rfl, bbf⟩
end Go.Proofs.YthmddmddcdofaaaDoor

namespace Go.Proofs.YthmddmddcdofaaaDoor
open Go.ChangeShapes Go.WideShapes Go.ChangeAt Go.RowKit Go.Deep
set_option maxRecDepth 100000
section
variable {H : Type} {enc : TypeId × Value → H} {P : Program} {W : World}
/-- a slice of structs of four numbers that came in -/
theorem open_fours {t e ti : TypeId} {f0 f1 f2 f3 : Field} {r : Reach} {b0 : Nat} {v : Value} {d : DataW H} {ps : List MemPlace}
    (ht : P.underlying t = some (.slice e)) (he : P.underlying e = some (.struct #[f0, f1, f2, f3])) (ce : P.cellsOf e = 4)
    (t0 : f0.type = ti) (t1 : f1.type = ti) (t2 : f2.type = ti) (t3 : f3.type = ti) (o0 : f0.offset = 0) (o1 : f1.offset = 1) (o2 : f2.offset = 2) (o3 : f3.offset = 3)
    (hti : P.underlying ti = some (.int .i64)) (ci : P.cellsOf ti = 1)
    (hval : Value.okWide P W r b0 t v) (h : DataW.Trod enc P W 0 (fun _ => true) true t v d ps) (hlt : ∀ x ∈ ps, x.block < W.heap.size) :
    ∃ (A : Option Addr) (n c : Nat) (l : List Cm), v = .slice A n c ∧ n ≤ 9223372036854775807 ∧ MS W W.heap.size A n l := by
  obtain ⟨A, n, c, rfl⟩ := okWide_slice ht hval
  obtain ⟨fuel, hf⟩ := h
  rcases open_slice ht hf with ⟨h0, _⟩ | ⟨a, len, cap, m, n', D, Pl, hcs, hb, hl, hm, hmm, hx, hi⟩
  · simp [Value.cells] at h0
    obtain ⟨rfl, rfl, rfl⟩ := h0
    exact ⟨none, 0, 0, [], rfl, by omega, MS.none_ _ _ _⟩
  · simp [Value.cells] at hcs
    obtain ⟨rfl, rfl, rfl⟩ := hcs
    simp only [if_true] at hmm
    subst hmm
    have each : ∀ i, i < n → ∃ x : Cm, W.cell? (a.add (i * 4)) = some (.int .i64 x.op) ∧ W.cell? (a.add (i * 4 + 1)) = some (.int .i64 x.a) ∧ W.cell? (a.add (i * 4 + 2)) = some (.int .i64 x.b) ∧ W.cell? (a.add (i * 4 + 3)) = some (.int .i64 x.c) := by
      intro i hin
      obtain ⟨cs', h1, h2⟩ := hi i (by omega)
      rw [ce] at h1
      obtain ⟨_, hlen, hcell⟩ := World.cells?_some h1
      obtain ⟨ys, k, _, _, _, hyl, hfd⟩ := DataW.trod_struct he h2
      match cs', hlen with
      | [v0, v1, v2, v3], _ =>
        have g0 := hfd 0 f0 rfl
        have g1 := hfd 1 f1 rfl
        have g2 := hfd 2 f2 rfl
        have g3 := hfd 3 f3 rfl
        rw [t0, o0, ci] at g0
        rw [t1, o1, ci] at g1
        rw [t2, o2, ci] at g2
        rw [t3, o3, ci] at g3
        rw [List.getElem?_eq_getElem (by rw [hyl]; simp)] at g0 g1 g2 g3
        obtain ⟨n0, e0, _, _⟩ := DataW.trod_int hti g0
        obtain ⟨n1, e1, _, _⟩ := DataW.trod_int hti g1
        obtain ⟨n2, e2, _, _⟩ := DataW.trod_int hti g2
        obtain ⟨n3, e3, _, _⟩ := DataW.trod_int hti g3
        simp at e0 e1 e2 e3
        subst e0 e1 e2 e3
        have q0 := hcell 0 (by omega)
        have q1 := hcell 1 (by omega)
        have q2 := hcell 2 (by omega)
        have q3 := hcell 3 (by omega)
        rw [add_add] at q0 q1 q2 q3
        exact ⟨⟨n0, n1, n2, n3⟩, by simpa using q0, by simpa using q1, by simpa using q2, by simpa using q3⟩
    obtain ⟨F, hF⟩ := choose_lt each
    refine ⟨some a, n, _, (List.range n).map F, rfl, by unfold maxLen at hm; omega, by simp, fun hn => ?_⟩
    have h0 := (hF 0 hn).1
    simp [Addr.add] at h0
    have ha := addr_of_cell h0
    have hblt : a.block < W.heap.size := by
      apply hlt (.cell a.block a.off)
      have hps := congrArg Prod.snd hx
      simp only [] at hps
      rw [hps, ce]
      apply List.mem_append_left
      rw [ha]
      simp [MemPlace.row]
      omega
    refine ⟨a.block, a.off, by rw [← ha], hblt, fun j u hj => ?_⟩
    have hjl := (List.getElem?_eq_some_iff.1 hj).1
    rw [flatM_length] at hjl
    simp only [List.length_map, List.length_range] at hjl
    have hk : j / 4 < n := by omega
    have hx : ((List.range n).map F)[j / 4]? = some (F (j / 4)) := by
      rw [List.getElem?_map, List.getElem?_range hk]
      rfl
    obtain ⟨f0, f1, f2, f3⟩ := flatM_at _ _ _ hx
    obtain ⟨q0, q1, q2, q3⟩ := hF (j / 4) hk
    rw [ha, add_none] at q0 q1 q2 q3
    rcases (show j = j / 4 * 4 ∨ j = j / 4 * 4 + 1 ∨ j = j / 4 * 4 + 2 ∨ j = j / 4 * 4 + 3 by omega) with e | e | e | e
    · rw [← e] at f0 q0
      rw [f0] at hj
      rw [← Option.some.inj hj]
      exact q0
    · rw [← e] at f1 q1
      rw [f1] at hj
      rw [← Option.some.inj hj]
      exact q1
    · rw [← e] at f2 q2
      rw [f2] at hj
      rw [← Option.some.inj hj]
      exact q2
    · rw [← e] at f3 q3
      rw [f3] at hj
      rw [← Option.some.inj hj]
      exact q3
end
theorem open_lawsCommands {H : Type} {enc : TypeId × Value → H} {W : World} {r : Reach} {base : Nat} {v : Value} {d : DataW H} {ps : List MemPlace} (hval : Value.okWide Tryd.prog W r base 71 v) (h : DataW.Trod enc Tryd.prog W 0 (fun _ => true) true 71 v d ps) (hlt : ∀ x ∈ ps, x.block < W.heap.size) :
    ∃ (A : Option Addr) (n c : Nat) (l : List Cm), v = .slice A n c ∧ n ≤ 9223372036854775807 ∧ MS W W.heap.size A n l :=
  open_fours (e := 68) (ti := 3) Tryd.underlying71 Tryd.underlying68 (by kernel_rfl) rfl rfl rfl rfl rfl rfl rfl rfl Tryd.underlying3 (by kernel_rfl) hval h hlt
end Go.Proofs.YthmddmddcdofaaaDoor

namespace Go.Proofs.YthmddmddcdofaaaDoor
open Go.ChangeShapes Go.WideShapes Go.ChangeAt Go.RowKit Go.Deep
section
variable {H : Type} {enc : TypeId × Value → H} {P : Program} {W W' : World}
end
end Go.Proofs.YthmddmddcdofaaaDoor

namespace Go.Proofs.YthmddmddcdofaaaDoor
open Go.ChangeShapes Go.WideShapes Go.ChangeAt Go.RowKit Go.Deep
theorem var_ltU {P : Program} {W : World} {n : String} {g : Nat} {cs : Array Value} (hg : P.globalNamed n = some g) (h : W.var? P n = some cs) : g < W.heap.size := by
  unfold World.var? at h
  simp only [hg, Option.bind_some] at h
  split at h
  · next h2 => exact (Array.getElem?_eq_some_iff.1 h2).1
  · cases h
theorem gTz : Tryd.prog.globalNamed "math/bits.deBruijn64tab" = some 0 := by kernel_rfl
theorem tab_cast : ∀ i : Nat, i < 64 → ([0, 1, 56, 2, 57, 49, 28, 3, 61, 58, 42, 50, 38, 29, 17, 4, 62, 47, 59, 36, 45, 43, 51, 22, 53, 39, 33, 30, 24, 18, 12, 5, 63, 55, 48, 27, 60, 41, 37, 16, 46, 35, 44, 21, 52, 32, 23, 11, 54, 26, 40, 15, 34, 20, 31, 10, 25, 14, 19, 9, 13, 8, 7, 6] : List Int).getD i 0 = (Lib.deBruijn64tab.getD i 0 : Nat) := by decide +kernel
theorem tzT_of_laid {W : World} (h : laidMetH Tryd.prog [("math/bits.deBruijn64tab", Rows.laid_math_bits_deBruijn64tab)] W) : TzT W := by
  rw [MakeChecks.laidMetH_plain _ _ _ (by kernel_rfl)] at h
  have hT : Lib.TabIs Tryd.prog W "math/bits.deBruijn64tab" .u8 [0, 1, 56, 2, 57, 49, 28, 3, 61, 58, 42, 50, 38, 29, 17, 4, 62, 47, 59, 36, 45, 43, 51, 22, 53, 39, 33, 30, 24, 18, 12, 5, 63, 55, 48, 27, 60, 41, 37, 16, 46, 35, 44, 21, 52, 32, 23, 11, 54, 26, 40, 15, 34, 20, 31, 10, 25, 14, 19, 9, 13, 8, 7, 6] :=
    Lib.tabIs_of_head (k := .u8) (zs := [0, 1, 56, 2, 57, 49, 28, 3, 61, 58, 42, 50, 38, 29, 17, 4, 62, 47, 59, 36, 45, 43, 51, 22, 53, 39, 33, 30, 24, 18, 12, 5, 63, 55, 48, 27, 60, 41, 37, 16, 46, 35, 44, 21, 52, 32, 23, 11, 54, 26, 40, 15, 34, 20, 31, 10, 25, 14, 19, 9, 13, 8, 7, 6]) (rest := []) (n := 64) (t := 169) (e := 5) gTz (by kernel_rfl) Tryd.underlying169 Tryd.underlying5 (by kernel_rfl) (by kernel_rfl) h
  exact ⟨var_ltU gTz hT, fun i hi => by
    rw [← tab_cast i hi]
    exact hT.cell gTz i (by simpa using hi)⟩
/-- the door's own heap meets the condition -/
theorem door_tz (os : Os) (args : Array Value) : laidMetH Tryd.prog [("math/bits.deBruijn64tab", Rows.laid_math_bits_deBruijn64tab)] ((World.doorLaid Tryd.prog 14 os).forCall (fun _ _ => 0) ⟨#[], args, []⟩).memory :=
  laidMetH_of_parts3 (fuel := 8) (laidMet_of_run' 8 (by kernel_rfl) (by kernel_rfl)) (by kernel_rfl) (by kernel_rfl)
end Go.Proofs.YthmddmddcdofaaaDoor

