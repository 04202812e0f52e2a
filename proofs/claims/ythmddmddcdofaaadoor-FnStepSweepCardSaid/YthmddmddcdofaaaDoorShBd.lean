/- What the claim DStepSweep stands on, part 4 of 6: texts of one seat put together, with what the claim needs of them. No conditions. -/
import Derived.Test.YthmddmddcdofaaaDoorShBc
namespace Go.Proofs.YthmddmddcdofaaaDoor
open Go.RowKit
set_option maxRecDepth 100000
theorem hasRoom_any (A R : Option Addr) (n c m d : Nat) (o : Cm) (w : World) : Calls Tryd.prog 93 #[heapV A n c R m d, cmV o] w fun e w' => e = .returned (.bool (decide (¬ (o.op = 1 ∧ 40 ≤ n)))) ∧ Below w.heap.size w w' := by
  have b2 : Below w.heap.size w ((w.alloc (.cells #[.slice A n c, .slice R m d] 26)).alloc (.cells #[.int .i64 o.op, .int .i64 o.a, .int .i64 o.b, .int .i64 o.c] 49)) := ((Below.refl w.heap.size w).alloc (Nat.le_refl _) _).alloc (by simp) _
  by_cases h1 : o.op = 1
  · have hne : (o.op != 1) = false := by simp [h1]
    have R0 := Lib.hid (show decide (¬ (o.op = 1 ∧ 40 ≤ n)) = decide ((n : Int) < 40) by rw [decide_eq_decide]; omega)
    clear h1
    go_enter Tryd.func93, Tryd.ntmps93
    go_wp2_with fail
    go_ret
    exact ⟨by rw [R0.out]; rfl, b2⟩
  · have hne : (o.op != 1) = true := by simp [h1]
    have R0 := Lib.hid (show decide (¬ (o.op = 1 ∧ 40 ≤ n)) = true by rw [decide_eq_true_iff]; omega)
    clear h1
    go_enter Tryd.func93, Tryd.ntmps93
    go_wp2_with fail
    go_ret
    exact ⟨by rw [R0.out]; rfl, b2⟩
set_option maxHeartbeats 2000000 in
theorem stepHeap_bad (A R : Option Addr) (n c m d : Nat) (h : Hp) (o : Cm) (w : World) (hb : o.op < 1 ∨ 6 < o.op) :
    Calls Tryd.prog 38 #[heapV A n c R m d, cmV o] w (GaveH2 w (Hps.stepH h o).1 (Hps.stepH h o).2) := by
  have HF := Lib.hid (Hps.stepH_no (h := h) (.inr (Hps.okCm_none hb)))
  have b2 : Below w.heap.size w (((w.alloc (.cells #[.slice A n c, .slice R m d] 26)).alloc (.cells #[.int .i64 o.op, .int .i64 o.a, .int .i64 o.b, .int .i64 o.c] 49)).alloc (.cells #[.slice none 0 0, .slice none 0 0] 26)) := (((Below.refl w.heap.size w).alloc (Nat.le_refl _) _).alloc (by simp) _).alloc (by simp; omega) _
  have q1 := ((Rw.new w 26 #[.slice A n c, .slice R m d]).alloc (.cells #[.int .i64 o.op, .int .i64 o.a, .int .i64 o.b, .int .i64 o.c] 49)).alloc (.cells #[.slice none 0 0, .slice none 0 0] 26)
  have q2 := (Rw.new (w.alloc (.cells #[.slice A n c, .slice R m d] 26)) 49 #[.int .i64 o.op, .int .i64 o.a, .int .i64 o.b, .int .i64 o.c]).alloc (.cells #[.slice none 0 0, .slice none 0 0] 26)
  have q3 := Rw.new ((w.alloc (.cells #[.slice A n c, .slice R m d] 26)).alloc (.cells #[.int .i64 o.op, .int .i64 o.a, .int .i64 o.b, .int .i64 o.c] 49)) 26 #[.slice none 0 0, .slice none 0 0]
  simp only [World.size_alloc] at q2 q3
  go_enter Tryd.func38, Tryd.ntmps38
  go_wp2_with fail
  refine (operationOf_bad o _ hb).mono ?_
  rintro e w1 ⟨rfl, b1⟩
  replace q1 := (q1.keep b1 q1.lt).alloc (.cells #[.int .i64 0, .int .i64 0, .int .i64 0, .nilFunc, .nilFunc] 122)
  replace q2 := (q2.keep b1 q2.lt).alloc (.cells #[.int .i64 0, .int .i64 0, .int .i64 0, .nilFunc, .nilFunc] 122)
  replace q3 := (q3.keep b1 q3.lt).alloc (.cells #[.int .i64 0, .int .i64 0, .int .i64 0, .nilFunc, .nilFunc] 122)
  have qp := Rw.new w1 122 #[.int .i64 0, .int .i64 0, .int .i64 0, .nilFunc, .nilFunc]
  have b4 := b2.trans (b1.mono b2.size)
  have b3 := b4.alloc b4.size (.cells #[.int .i64 0, .int .i64 0, .int .i64 0, .nilFunc, .nilFunc] 122)
  clear b1 b2 b4
  go_upto_region 2 with fail
  generalize w1.alloc (.cells #[.int .i64 0, .int .i64 0, .int .i64 0, .nilFunc, .nilFunc] 122) = w2 at q1 q2 q3 qp b3 ⊢
  generalize w1.heap.size = b5 at qp ⊢
  have r2 : (w2).frozen? ⟨w.heap.size + 1 + 1, 0, none⟩ = false := q3.frozen 0
  have r3 : (w2).frozen? ⟨w.heap.size + 1 + 1, 1, none⟩ = false := q3.frozen 1
  have r4 : (w2).cell? ⟨w.heap.size + 1 + 1, 0, none⟩ = some (.slice none 0 0) := q3.cell 0
  have r5 : (w2).cell? ⟨w.heap.size + 1 + 1, 1, none⟩ = some (.slice none 0 0) := q3.cell 1
  have r6 : (((w2).setCell ⟨w.heap.size + 1 + 1, 0, none⟩ (.slice none 0 0)).setCell ⟨w.heap.size + 1 + 1, 1, none⟩ (.slice none 0 0)).cell? ⟨w.heap.size + 1 + 1, 0, none⟩ = some (.slice none 0 0) := ((q3.put 0 (.slice none 0 0)).put 1 (.slice none 0 0)).cell 0
  have r7 : (((w2).setCell ⟨w.heap.size + 1 + 1, 0, none⟩ (.slice none 0 0)).setCell ⟨w.heap.size + 1 + 1, 1, none⟩ (.slice none 0 0)).cell? ⟨w.heap.size + 1 + 1, 1, none⟩ = some (.slice none 0 0) := ((q3.put 0 (.slice none 0 0)).put 1 (.slice none 0 0)).cell 1
  have D := Lib.hid (OwnH.out (w := w) (g := w.heap.size + 1 + 1) (own_zeroH w2 w2.heap.size (Nat.le_refl _)) (by exact q3.lt) b3 (by omega))
  clear q1 q2 q3 qp b3 hb
  go_wp2_with fail
  exact bodyPost_ret (v := .tuple #[.agg #[.slice none 0 0, .slice none 0 0], .bool false]) (by simp [results, Tryd.results38, go_sem, *]) rfl ⟨_, _, by rw [HF.out], by rw [HF.out]; exact D.out.1, D.out.2⟩
set_option maxHeartbeats 4000000 in
theorem stepHeap_walk (f g : Nat) (x y z : Int) (A R : Option Addr) (n c m d : Nat) (h : Hp) (o : Cm) (w : World) (hs : HS w w.heap.size A n R m h) (hn : n ≤ 1099511627776) (hm : m ≤ 1099511627776) (hc : n ≤ c) (hd : m ≤ d)
    (hop : ∀ w, Calls Tryd.prog 91 #[cmV o] w fun e w' => e = .returned (.tuple #[opA x y z f g, .bool (Hps.okCm o)]) ∧ Below w.heap.size w w') (hf : Hps.validH h = true → Hps.okCm o = true → PossF f o h) (hg : Hps.canH h o = true → ExecF g o h)
    (hen : ∀ args w, (callFunc f args).run Tryd.prog w = .ok (.enter f args) w) (hen2 : ∀ args w, (callFunc g args).run Tryd.prog w = .ok (.enter g args) w) :
    Calls Tryd.prog 38 #[heapV A n c R m d, cmV o] w (GaveH2 w (Hps.stepH h o).1 (Hps.stepH h o).2) := by
  have HP0 := Lib.hid hf
  have HG := Lib.hid hg
  have HO := Lib.hid hop
  have HE := Lib.hid hen
  have HE2 := Lib.hid hen2
  clear hf hg hop hen hen2
  have b2 : Below w.heap.size w (((w.alloc (.cells #[.slice A n c, .slice R m d] 26)).alloc (.cells #[.int .i64 o.op, .int .i64 o.a, .int .i64 o.b, .int .i64 o.c] 49)).alloc (.cells #[.slice none 0 0, .slice none 0 0] 26)) := (((Below.refl w.heap.size w).alloc (Nat.le_refl _) _).alloc (by simp) _).alloc (by simp; omega) _
  have q1 := ((Rw.new w 26 #[.slice A n c, .slice R m d]).alloc (.cells #[.int .i64 o.op, .int .i64 o.a, .int .i64 o.b, .int .i64 o.c] 49)).alloc (.cells #[.slice none 0 0, .slice none 0 0] 26)
  have q2 := (Rw.new (w.alloc (.cells #[.slice A n c, .slice R m d] 26)) 49 #[.int .i64 o.op, .int .i64 o.a, .int .i64 o.b, .int .i64 o.c]).alloc (.cells #[.slice none 0 0, .slice none 0 0] 26)
  have q3 := Rw.new ((w.alloc (.cells #[.slice A n c, .slice R m d] 26)).alloc (.cells #[.int .i64 o.op, .int .i64 o.a, .int .i64 o.b, .int .i64 o.c] 49)) 26 #[.slice none 0 0, .slice none 0 0]
  simp only [World.size_alloc] at q2 q3
  go_enter Tryd.func38, Tryd.ntmps38
  go_wp2_with fail
  refine (HO.out _).mono ?_
  obtain ⟨r, ho⟩ : ∃ r, Hps.okCm o = r := ⟨_, rfl⟩
  rw [ho]
  rintro e w1 ⟨rfl, b1⟩
  replace q1 := (q1.keep b1 q1.lt).alloc (.cells #[.int .i64 x, .int .i64 y, .int .i64 z, .func (.func f) #[] #[], .func (.func g) #[] #[]] 122)
  replace q2 := (q2.keep b1 q2.lt).alloc (.cells #[.int .i64 x, .int .i64 y, .int .i64 z, .func (.func f) #[] #[], .func (.func g) #[] #[]] 122)
  replace q3 := (q3.keep b1 q3.lt).alloc (.cells #[.int .i64 x, .int .i64 y, .int .i64 z, .func (.func f) #[] #[], .func (.func g) #[] #[]] 122)
  have qp := Rw.new w1 122 #[.int .i64 x, .int .i64 y, .int .i64 z, .func (.func f) #[] #[], .func (.func g) #[] #[]]
  have b4 := b2.trans (b1.mono b2.size)
  have b3 := b4.alloc b4.size (.cells #[.int .i64 x, .int .i64 y, .int .i64 z, .func (.func f) #[] #[], .func (.func g) #[] #[]] 122)
  clear b1 b2 b4
  go_upto_region 2 with fail
  generalize w1.alloc (.cells #[.int .i64 x, .int .i64 y, .int .i64 z, .func (.func f) #[] #[], .func (.func g) #[] #[]] 122) = w2 at q1 q2 q3 qp b3 ⊢
  generalize w1.heap.size = b5 at qp ⊢
  cases r
  · have HF := Lib.hid (Hps.stepH_no (h := h) (.inr ho))
    have r2 : (w2).frozen? ⟨w.heap.size + 1 + 1, 0, none⟩ = false := q3.frozen 0
    have r3 : (w2).frozen? ⟨w.heap.size + 1 + 1, 1, none⟩ = false := q3.frozen 1
    have r4 : (w2).cell? ⟨w.heap.size + 1 + 1, 0, none⟩ = some (.slice none 0 0) := q3.cell 0
    have r5 : (w2).cell? ⟨w.heap.size + 1 + 1, 1, none⟩ = some (.slice none 0 0) := q3.cell 1
    have r6 : (((w2).setCell ⟨w.heap.size + 1 + 1, 0, none⟩ (.slice none 0 0)).setCell ⟨w.heap.size + 1 + 1, 1, none⟩ (.slice none 0 0)).cell? ⟨w.heap.size + 1 + 1, 0, none⟩ = some (.slice none 0 0) := ((q3.put 0 (.slice none 0 0)).put 1 (.slice none 0 0)).cell 0
    have r7 : (((w2).setCell ⟨w.heap.size + 1 + 1, 0, none⟩ (.slice none 0 0)).setCell ⟨w.heap.size + 1 + 1, 1, none⟩ (.slice none 0 0)).cell? ⟨w.heap.size + 1 + 1, 1, none⟩ = some (.slice none 0 0) := ((q3.put 0 (.slice none 0 0)).put 1 (.slice none 0 0)).cell 1
    have D := Lib.hid (OwnH.out (w := w) (g := w.heap.size + 1 + 1) (own_zeroH w2 w2.heap.size (Nat.le_refl _)) (by exact q3.lt) b3 (by omega))
    clear q1 q2 q3 qp b3 ho
    go_wp2_with fail
    exact bodyPost_ret (v := .tuple #[.agg #[.slice none 0 0, .slice none 0 0], .bool false]) (by simp [results, Tryd.results38, go_sem, *]) rfl ⟨_, _, by rw [HF.out], by rw [HF.out]; exact D.out.1, D.out.2⟩
  have HOK := Lib.hid ho
  clear ho
  have x0 : w2.cell? ⟨w.heap.size, 0, none⟩ = some (.slice A n c) := q1.cell 0
  have x1 : w2.cell? ⟨w.heap.size, 1, none⟩ = some (.slice R m d) := q1.cell 1
  have s2 := hs.up b3
  go_wp2_with fail
  refine (heapValid_any _ _ _ _ _ _ h _ s2 hn hm hc hd).mono ?_
  obtain ⟨r, hv⟩ : ∃ r, Hps.validH h = r := ⟨_, rfl⟩
  rw [hv]
  rintro e w3 ⟨rfl, b1⟩
  replace q1 := q1.keep b1 q1.lt
  replace q2 := q2.keep b1 q2.lt
  replace q3 := q3.keep b1 q3.lt
  replace qp := qp.keep b1 qp.lt
  replace b3 := b3.trans (b1.mono b3.size)
  clear b1 s2 x0 x1
  cases r
  · have HF := Lib.hid (Hps.stepH_no (o := o) (.inl hv))
    have r2 : (w3).frozen? ⟨w.heap.size + 1 + 1, 0, none⟩ = false := q3.frozen 0
    have r3 : (w3).frozen? ⟨w.heap.size + 1 + 1, 1, none⟩ = false := q3.frozen 1
    have r4 : (w3).cell? ⟨w.heap.size + 1 + 1, 0, none⟩ = some (.slice none 0 0) := q3.cell 0
    have r5 : (w3).cell? ⟨w.heap.size + 1 + 1, 1, none⟩ = some (.slice none 0 0) := q3.cell 1
    have r6 : (((w3).setCell ⟨w.heap.size + 1 + 1, 0, none⟩ (.slice none 0 0)).setCell ⟨w.heap.size + 1 + 1, 1, none⟩ (.slice none 0 0)).cell? ⟨w.heap.size + 1 + 1, 0, none⟩ = some (.slice none 0 0) := ((q3.put 0 (.slice none 0 0)).put 1 (.slice none 0 0)).cell 0
    have r7 : (((w3).setCell ⟨w.heap.size + 1 + 1, 0, none⟩ (.slice none 0 0)).setCell ⟨w.heap.size + 1 + 1, 1, none⟩ (.slice none 0 0)).cell? ⟨w.heap.size + 1 + 1, 1, none⟩ = some (.slice none 0 0) := ((q3.put 0 (.slice none 0 0)).put 1 (.slice none 0 0)).cell 1
    have D := Lib.hid (OwnH.out (w := w) (g := w.heap.size + 1 + 1) (own_zeroH w3 w3.heap.size (Nat.le_refl _)) (by exact q3.lt) b3 (by omega))
    clear q1 q2 q3 qp b3 hv
    go_wp2_with fail
    exact bodyPost_ret (v := .tuple #[.agg #[.slice none 0 0, .slice none 0 0], .bool false]) (by simp [results, Tryd.results38, go_sem, *]) rfl ⟨_, _, by rw [HF.out], by rw [HF.out]; exact D.out.1, D.out.2⟩
  have HV := Lib.hid hv
  have h40 := (Hps.valid_iff.1 hv).2.1
  have hlc := hs.cells.1
  have H3 := Lib.hid (fun cl (hcl : cl ∈ h.cs) => show cl.r.length ≤ 1000000 by have := (Hps.okCell_iff.1 ((Hps.valid_iff.1 hv).1 cl hcl)).2.2.1; omega)
  have HLC := Lib.hid hlc
  have hn40 : n ≤ 40 := by omega
  clear hv h40 hlc
  have x0 : w3.cell? ⟨w.heap.size, 0, none⟩ = some (.slice A n c) := q1.cell 0
  have x1 : w3.cell? ⟨w.heap.size, 1, none⟩ = some (.slice R m d) := q1.cell 1
  have s3 := hs.up b3
  have B3K := Lib.hid b3
  have Q3K := Lib.hid q3
  go_wp2_with fail
  refine (cloneHeap_any _ _ _ _ _ _ h _ s3 hn hm H3.out).mono ?_
  rintro e w4 ⟨vc, vr, rfl, ow, b1⟩
  have hsz3 := q3.lt
  obtain ⟨rvs, BS0⟩ := BoxSt.of ow b1
  obtain ⟨A5, n5, c5, R5, m5, d5, rfl, rfl⟩ := ow.slices
  replace q1 := (q1.keep b1 q1.lt).alloc (.cells #[.slice A5 n5 c5, .slice R5 m5 d5] 26)
  replace q2 := (q2.keep b1 q2.lt).alloc (.cells #[.slice A5 n5 c5, .slice R5 m5 d5] 26)
  replace q3 := (q3.keep b1 q3.lt).alloc (.cells #[.slice A5 n5 c5, .slice R5 m5 d5] 26)
  replace qp := (qp.keep b1 qp.lt).alloc (.cells #[.slice A5 n5 c5, .slice R5 m5 d5] 26)
  replace b3 := b3.trans (b1.mono b3.size)
  have b6 := b3.alloc b3.size (.cells #[.slice A5 n5 c5, .slice R5 m5 d5] 26)
  clear b1 b3 s3 x0 x1 ow
  go_upto_region 5 with fail
  generalize w4.alloc (.cells #[.slice A5 n5 c5, .slice R5 m5 d5] 26) = w5 at q1 q2 q3 qp b6 BS0 ⊢
  generalize w4.heap.size = b8 at BS0 ⊢
  have x0 : w5.cell? ⟨w.heap.size, 0, none⟩ = some (.slice A n c) := q1.cell 0
  have x1 : w5.cell? ⟨w.heap.size, 1, none⟩ = some (.slice R m d) := q1.cell 1
  have y0 : w5.cell? ⟨w.heap.size + 1, 0, none⟩ = some (.int .i64 o.op) := q2.cell 0
  have y1 : w5.cell? ⟨w.heap.size + 1, 1, none⟩ = some (.int .i64 o.a) := q2.cell 1
  have y2 : w5.cell? ⟨w.heap.size + 1, 2, none⟩ = some (.int .i64 o.b) := q2.cell 2
  have y3 : w5.cell? ⟨w.heap.size + 1, 3, none⟩ = some (.int .i64 o.c) := q2.cell 3
  have z3 : w5.cell? ⟨b5, 3, none⟩ = some (.func (.func f) #[] #[]) := qp.cell 3
  have s5 := hs.up b6
  have hen := HE.out
  go_wp2_with fail
  clear hen
  refine (HP0.out HV.out HOK.out A R n c m d w5 s5 hn hm hc hd).mono ?_
  obtain ⟨r, hr⟩ : ∃ r, Hps.canH h o = r := ⟨_, rfl⟩
  rw [hr]
  rintro e w6 ⟨rfl, b1⟩
  replace q1 := q1.keep b1 q1.lt
  replace q2 := q2.keep b1 q2.lt
  replace q3 := q3.keep b1 q3.lt
  replace qp := qp.keep b1 qp.lt
  replace b6 := b6.trans (b1.mono b6.size)
  replace BS0 := BS0.up b1
  clear b1 s5 x0 x1 y0 y1 y2 y3 z3
  have v0 : w6.cell? ⟨b8, 0, none⟩ = some (.slice A5 n5 c5) := BS0.box.cell 0
  have v1 : w6.cell? ⟨b8, 1, none⟩ = some (.slice R5 m5 d5) := BS0.box.cell 1
  cases r
  · have HF := Lib.hid (Hps.stepH_cannot HV.out HOK.out hr)
    have r2 : (w6).frozen? ⟨w.heap.size + 1 + 1, 0, none⟩ = false := q3.frozen 0
    have r3 : (w6).frozen? ⟨w.heap.size + 1 + 1, 1, none⟩ = false := q3.frozen 1
    have r4 : (w6).cell? ⟨w.heap.size + 1 + 1, 0, none⟩ = some (.slice none 0 0) := q3.cell 0
    have r5 : (w6).cell? ⟨w.heap.size + 1 + 1, 1, none⟩ = some (.slice none 0 0) := q3.cell 1
    have r6 : (((w6).setCell ⟨w.heap.size + 1 + 1, 0, none⟩ (.slice A5 n5 c5)).setCell ⟨w.heap.size + 1 + 1, 1, none⟩ (.slice R5 m5 d5)).cell? ⟨w.heap.size + 1 + 1, 0, none⟩ = some (.slice A5 n5 c5) := ((q3.put 0 (.slice A5 n5 c5)).put 1 (.slice R5 m5 d5)).cell 0
    have r7 : (((w6).setCell ⟨w.heap.size + 1 + 1, 0, none⟩ (.slice A5 n5 c5)).setCell ⟨w.heap.size + 1 + 1, 1, none⟩ (.slice R5 m5 d5)).cell? ⟨w.heap.size + 1 + 1, 1, none⟩ = some (.slice R5 m5 d5) := ((q3.put 0 (.slice A5 n5 c5)).put 1 (.slice R5 m5 d5)).cell 1
    have D := Lib.hid (OwnH.out (w := w) (g := w.heap.size + 1 + 1) BS0.ownH (by omega) b6 (by omega))
    clear q1 q2 q3 qp b6 BS0 hr
    go_wp2_with fail
    exact bodyPost_ret (v := .tuple #[.agg #[.slice A5 n5 c5, .slice R5 m5 d5], .bool false]) (by simp [results, Tryd.results38, go_sem, *]) rfl ⟨_, _, by rw [HF.out], by rw [HF.out]; exact D.out.1, D.out.2⟩
  have HC := Lib.hid hr
  clear hr
  have x0 : w6.cell? ⟨w.heap.size, 0, none⟩ = some (.slice A n c) := q1.cell 0
  have x1 : w6.cell? ⟨w.heap.size, 1, none⟩ = some (.slice R m d) := q1.cell 1
  have y0 : w6.cell? ⟨w.heap.size + 1, 0, none⟩ = some (.int .i64 o.op) := q2.cell 0
  have y1 : w6.cell? ⟨w.heap.size + 1, 1, none⟩ = some (.int .i64 o.a) := q2.cell 1
  have y2 : w6.cell? ⟨w.heap.size + 1, 2, none⟩ = some (.int .i64 o.b) := q2.cell 2
  have y3 : w6.cell? ⟨w.heap.size + 1, 3, none⟩ = some (.int .i64 o.c) := q2.cell 3
  go_wp2_with fail
  refine (hasRoom_any A R n c m d o w6).mono ?_
  obtain ⟨r, hr⟩ : ∃ r, decide (¬ (o.op = 1 ∧ 40 ≤ n)) = r := ⟨_, rfl⟩
  rw [hr]
  rintro e w7 ⟨rfl, b1⟩
  replace q1 := q1.keep b1 q1.lt
  replace q2 := q2.keep b1 q2.lt
  replace q3 := q3.keep b1 q3.lt
  replace qp := qp.keep b1 qp.lt
  replace b6 := b6.trans (b1.mono b6.size)
  replace BS0 := BS0.up b1
  clear b1 x0 x1 y0 y1 y2 y3 v0 v1
  cases r
  · have v0 : w7.cell? ⟨b8, 0, none⟩ = some (.slice A5 n5 c5) := BS0.box.cell 0
    have v1 : w7.cell? ⟨b8, 1, none⟩ = some (.slice R5 m5 d5) := BS0.box.cell 1
    have HF := Lib.hid (show Hps.stepH h o = (h, false) by
      have hr := of_decide_eq_false hr
      have h1 : o.op = 1 := by omega
      have h2 : 40 ≤ n := by omega
      exact Hps.stepH_full HV.out HOK.out h1 (by rw [HLC.out]; omega))
    have r2 : (w7).frozen? ⟨w.heap.size + 1 + 1, 0, none⟩ = false := q3.frozen 0
    have r3 : (w7).frozen? ⟨w.heap.size + 1 + 1, 1, none⟩ = false := q3.frozen 1
    have r4 : (w7).cell? ⟨w.heap.size + 1 + 1, 0, none⟩ = some (.slice none 0 0) := q3.cell 0
    have r5 : (w7).cell? ⟨w.heap.size + 1 + 1, 1, none⟩ = some (.slice none 0 0) := q3.cell 1
    have r6 : (((w7).setCell ⟨w.heap.size + 1 + 1, 0, none⟩ (.slice A5 n5 c5)).setCell ⟨w.heap.size + 1 + 1, 1, none⟩ (.slice R5 m5 d5)).cell? ⟨w.heap.size + 1 + 1, 0, none⟩ = some (.slice A5 n5 c5) := ((q3.put 0 (.slice A5 n5 c5)).put 1 (.slice R5 m5 d5)).cell 0
    have r7 : (((w7).setCell ⟨w.heap.size + 1 + 1, 0, none⟩ (.slice A5 n5 c5)).setCell ⟨w.heap.size + 1 + 1, 1, none⟩ (.slice R5 m5 d5)).cell? ⟨w.heap.size + 1 + 1, 1, none⟩ = some (.slice R5 m5 d5) := ((q3.put 0 (.slice A5 n5 c5)).put 1 (.slice R5 m5 d5)).cell 1
    have D := Lib.hid (OwnH.out (w := w) (g := w.heap.size + 1 + 1) BS0.ownH (by omega) b6 (by omega))
    clear q1 q2 q3 qp b6 BS0 hr
    go_wp2_with fail
    exact bodyPost_ret (v := .tuple #[.agg #[.slice A5 n5 c5, .slice R5 m5 d5], .bool false]) (by simp [results, Tryd.results38, go_sem, *]) rfl ⟨_, _, by rw [HF.out], by rw [HF.out]; exact D.out.1, D.out.2⟩
  have HF := Lib.hid (Hps.stepH_does HV.out HOK.out HC.out (by
    have hr := of_decide_eq_true hr
    rw [HLC.out]
    omega))
  clear hr
  have y0 : w7.cell? ⟨w.heap.size + 1, 0, none⟩ = some (.int .i64 o.op) := q2.cell 0
  have y1 : w7.cell? ⟨w.heap.size + 1, 1, none⟩ = some (.int .i64 o.a) := q2.cell 1
  have y2 : w7.cell? ⟨w.heap.size + 1, 2, none⟩ = some (.int .i64 o.b) := q2.cell 2
  have y3 : w7.cell? ⟨w.heap.size + 1, 3, none⟩ = some (.int .i64 o.c) := q2.cell 3
  have z4 : w7.cell? ⟨b5, 4, none⟩ = some (.func (.func g) #[] #[]) := qp.cell 4
  have hen2 := HE2.out
  go_wp2_with fail
  clear hen2
  refine (HG.out HC.out _ _ _ _ _ _ _ _ BS0.toX).mono ?_
  rintro e w8 ⟨⟨ev, rfl⟩, vc', vr', rvs', BS1⟩
  replace BS1 := BS1.toSt
  replace q3 := Q3K.out.keep BS1.low hsz3
  have b9 : Below w.heap.size w w8 := B3K.out.trans (BS1.low.mono B3K.out.size)
  obtain ⟨A6, n6, c6, R6, m6, d6, rfl, rfl⟩ := BS1.ownH.slices
  clear y0 y1 y2 y3 z4 q1 q2 qp BS0
  have v0 : w8.cell? ⟨b8, 0, none⟩ = some (.slice A6 n6 c6) := BS1.box.cell 0
  have v1 : w8.cell? ⟨b8, 1, none⟩ = some (.slice R6 m6 d6) := BS1.box.cell 1
  have r2 : (w8).frozen? ⟨w.heap.size + 1 + 1, 0, none⟩ = false := q3.frozen 0
  have r3 : (w8).frozen? ⟨w.heap.size + 1 + 1, 1, none⟩ = false := q3.frozen 1
  have r4 : (w8).cell? ⟨w.heap.size + 1 + 1, 0, none⟩ = some (.slice none 0 0) := q3.cell 0
  have r5 : (w8).cell? ⟨w.heap.size + 1 + 1, 1, none⟩ = some (.slice none 0 0) := q3.cell 1
  have r6 : (((w8).setCell ⟨w.heap.size + 1 + 1, 0, none⟩ (.slice A6 n6 c6)).setCell ⟨w.heap.size + 1 + 1, 1, none⟩ (.slice R6 m6 d6)).cell? ⟨w.heap.size + 1 + 1, 0, none⟩ = some (.slice A6 n6 c6) := ((q3.put 0 (.slice A6 n6 c6)).put 1 (.slice R6 m6 d6)).cell 0
  have r7 : (((w8).setCell ⟨w.heap.size + 1 + 1, 0, none⟩ (.slice A6 n6 c6)).setCell ⟨w.heap.size + 1 + 1, 1, none⟩ (.slice R6 m6 d6)).cell? ⟨w.heap.size + 1 + 1, 1, none⟩ = some (.slice R6 m6 d6) := ((q3.put 0 (.slice A6 n6 c6)).put 1 (.slice R6 m6 d6)).cell 1
  have D := Lib.hid (OwnH.out (w := w) (g := w.heap.size + 1 + 1) BS1.ownH (by omega) b9 (by omega))
  clear q3 b9 BS1
  go_wp2_with fail
  exact bodyPost_ret (v := .tuple #[.agg #[.slice A6 n6 c6, .slice R6 m6 d6], .bool true]) (by simp [results, Tryd.results38, go_sem, *]) rfl ⟨_, _, by rw [HF.out], by rw [HF.out]; exact D.out.1, D.out.2⟩
theorem exec_1 {a b cc : Int} {h : Hp} (hc : Hps.canH h ⟨1, a, b, cc⟩ = true) : ExecF 147 ⟨1, a, b, cc⟩ h := by
  obtain ⟨hv, ho⟩ := Hps.canH_parts hc
  obtain ⟨⟨a1, a2⟩, ⟨b1, b2⟩, _⟩ := (Hps.okCm_new rfl).1 ho
  simp only at a1 a2 b1 b2
  obtain ⟨a, rfl⟩ := Int.eq_ofNat_of_zero_le a1
  obtain ⟨b, rfl⟩ := Int.eq_ofNat_of_zero_le b1
  exact exec_new hv (by omega) (by omega)
theorem exec_2 {a b cc : Int} {h : Hp} (hc : Hps.canH h ⟨2, a, b, cc⟩ = true) : ExecF 149 ⟨2, a, b, cc⟩ h := by
  obtain ⟨hv, ho⟩ := Hps.canH_parts hc
  rw [Hps.canH_get hv ho rfl] at hc
  obtain ⟨⟨a1, a2⟩, ⟨b1, b2⟩, ⟨c1, c2⟩⟩ := (Hps.okCm_get (.inl rfl)).1 ho
  simp only at a1 a2 b1 b2 c1 c2 hc
  obtain ⟨a, rfl⟩ := Int.eq_ofNat_of_zero_le a1
  obtain ⟨b, rfl⟩ := Int.eq_ofNat_of_zero_le b1
  obtain ⟨cc, rfl⟩ := Int.eq_ofNat_of_zero_le c1
  obtain ⟨k, cl, hk, hcl, hp⟩ := Hps.placeH_iff.1 hc
  exact exec_get hv (by omega) (by omega) hk hcl (by omega)
theorem exec_3 {a b cc : Int} {h : Hp} (hc : Hps.canH h ⟨3, a, b, cc⟩ = true) : ExecF 151 ⟨3, a, b, cc⟩ h := by
  obtain ⟨hv, ho⟩ := Hps.canH_parts hc
  rw [Hps.canH_set hv ho rfl] at hc
  obtain ⟨⟨a1, a2⟩, ⟨b1, b2⟩, ⟨c1, c2⟩⟩ := (Hps.okCm_get (.inr rfl)).1 ho
  simp only at a1 a2 b1 b2 c1 c2 hc
  obtain ⟨a, rfl⟩ := Int.eq_ofNat_of_zero_le a1
  obtain ⟨b, rfl⟩ := Int.eq_ofNat_of_zero_le b1
  obtain ⟨cc, rfl⟩ := Int.eq_ofNat_of_zero_le c1
  obtain ⟨k, cl, hk, hcl, hp⟩ := Hps.placeH_iff.1 hc
  exact exec_set hv (by omega) (by omega) hk hcl (by omega)
theorem exec_4 {a b cc : Int} {h : Hp} (hc : Hps.canH h ⟨4, a, b, cc⟩ = true) : ExecF 152 ⟨4, a, b, cc⟩ h := by
  obtain ⟨hv, ho⟩ := Hps.canH_parts hc
  obtain ⟨⟨a1, a2⟩, ⟨b1, b2⟩, _⟩ := (Hps.okCm_copy rfl).1 ho
  simp only at a1 a2 b1 b2
  obtain ⟨a, rfl⟩ := Int.eq_ofNat_of_zero_le a1
  obtain ⟨b, rfl⟩ := Int.eq_ofNat_of_zero_le b1
  exact exec_copy hv (by omega) (by omega)
theorem exec_5 {a b cc : Int} {h : Hp} (hc : Hps.canH h ⟨5, a, b, cc⟩ = true) : ExecF 153 ⟨5, a, b, cc⟩ h := by
  obtain ⟨hv, ho⟩ := Hps.canH_parts hc
  obtain ⟨a1, a2⟩ := Hps.okCm_a ho
  simp only at a1 a2
  obtain ⟨a, rfl⟩ := Int.eq_ofNat_of_zero_le a1
  exact exec_drop hv (by omega)
theorem exec_6 {a b cc : Int} {h : Hp} (hc : Hps.canH h ⟨6, a, b, cc⟩ = true) : ExecF 155 ⟨6, a, b, cc⟩ h := by
  obtain ⟨hv, ho⟩ := Hps.canH_parts hc
  obtain ⟨a1, a2⟩ := Hps.okCm_a ho
  rw [Hps.canH_data hv ho rfl, decide_eq_true_iff] at hc
  simp only at a1 a2 hc
  obtain ⟨a, rfl⟩ := Int.eq_ofNat_of_zero_le a1
  have hr4 := (Hps.valid_iff.1 hv).2.2.1
  have hx := List.getElem?_eq_getElem (show a < h.rt.length by omega)
  generalize h.rt[a]'(by omega) = x at hx
  have hk := Hps.rootAt_nat hx
  rw [hk] at hc
  obtain ⟨k, rfl⟩ := Int.eq_ofNat_of_zero_le hc
  obtain ⟨k', e, hl, _⟩ := Hps.okRef_nat (Hps.valid_root hv hx) hc
  have e : k = k' := by omega
  subst e
  exact exec_data hv (by omega) hk (List.getElem?_eq_getElem hl)
theorem stepHeap_any (A R : Option Addr) (n c m d : Nat) (h : Hp) (o : Cm) (w : World) (hs : HS w w.heap.size A n R m h) (hn : n ≤ 1099511627776) (hm : m ≤ 1099511627776) (hc : n ≤ c) (hd : m ≤ d) :
    Calls Tryd.prog 38 #[heapV A n c R m d, cmV o] w (GaveH2 w (Hps.stepH h o).1 (Hps.stepH h o).2) := by
  by_cases hb : o.op < 1 ∨ 6 < o.op
  · exact stepHeap_bad A R n c m d h o w hb
  · obtain ⟨op, a, b, cc⟩ := o
    simp only at hb
    obtain rfl | rfl | rfl | rfl | rfl | rfl : op = 1 ∨ op = 2 ∨ op = 3 ∨ op = 4 ∨ op = 5 ∨ op = 6 := by omega
    · exact stepHeap_walk _ _ _ _ _ A R n c m d h _ w hs hn hm hc hd (operationOf_1 a b cc) (fun hv ho => poss_always (Hps.canH_else hv ho (by simp) (by simp) (by simp))) exec_1 (run_entered Tryd.func146 (by decide) (by rfl)) (run_entered Tryd.func147 (by decide) (by rfl))
    · exact stepHeap_walk _ _ _ _ _ A R n c m d h _ w hs hn hm hc hd (operationOf_2 a b cc) (fun hv ho => poss_get hv ho rfl) exec_2 (run_entered Tryd.func148 (by decide) (by rfl)) (run_entered Tryd.func149 (by decide) (by rfl))
    · exact stepHeap_walk _ _ _ _ _ A R n c m d h _ w hs hn hm hc hd (operationOf_3 a b cc) (fun hv ho => poss_set hv ho rfl) exec_3 (run_entered Tryd.func150 (by decide) (by rfl)) (run_entered Tryd.func151 (by decide) (by rfl))
    · exact stepHeap_walk _ _ _ _ _ A R n c m d h _ w hs hn hm hc hd (operationOf_4 a b cc) (fun hv ho => poss_always (Hps.canH_else hv ho (by simp) (by simp) (by simp))) exec_4 (run_entered Tryd.func146 (by decide) (by rfl)) (run_entered Tryd.func152 (by decide) (by rfl))
    · exact stepHeap_walk _ _ _ _ _ A R n c m d h _ w hs hn hm hc hd (operationOf_5 a b cc) (fun hv ho => poss_always (Hps.canH_else hv ho (by simp) (by simp) (by simp))) exec_5 (run_entered Tryd.func146 (by decide) (by rfl)) (run_entered Tryd.func153 (by decide) (by rfl))
    · exact stepHeap_walk _ _ _ _ _ A R n c m d h _ w hs hn hm hc hd (operationOf_6 a b cc) (fun hv ho => poss_data hv ho rfl) exec_6 (run_entered Tryd.func154 (by decide) (by rfl)) (run_entered Tryd.func155 (by decide) (by rfl))
end Go.Proofs.YthmddmddcdofaaaDoor

namespace Go.Proofs.YthmddmddcdofaaaDoor
open Go.RowKit
set_option maxRecDepth 100000
set_option maxHeartbeats 4000000 in
theorem sweeperNew_any (E : KeptL) (w0 w : World) (b : Nat) (vc vr : Value) (rvs : List Value) (h : Hp) (limit : Int) {a ob : Nat} {oc : Int} (hT : TzT w0) (S : SwSt E w0 w b vc vr rvs h) (hv : Hps.validH h = true) (ha : a < 4) (hb3 : ob ≤ 3) :
    Calls Tryd.prog 127 #[.pointer (some ⟨b, 0, none⟩), cmV ⟨1, a, ob, oc⟩, .int .i64 limit] w fun e w' => e = .returned (.bool (decide ((Hps.gapH (Hps.roomS h limit) : Int) < limit))) ∧ ∃ vc' vr' rvs', SwSt E w0 w' b vc' vr' rvs' (if (Hps.gapH (Hps.roomS h limit) : Int) < limit then Hps.doH (Hps.roomS h limit) ⟨1, a, ob, oc⟩ (Hps.gapH (Hps.roomS h limit)) else Hps.roomS h limit) := by
  have S1 : SwSt ((w.heap.size, 49, #[.int .i64 1, .int .i64 a, .int .i64 ob, .int .i64 oc]) :: E) w0 (w.alloc (.cells #[.int .i64 1, .int .i64 a, .int .i64 ob, .int .i64 oc] 49)) b vc vr rvs h := S.more
  obtain ⟨q, hq⟩ : ∃ q, w.heap.size = q := ⟨_, rfl⟩
  rw [hq] at S1
  have HMK := Lib.hid (fun w1 (S : SwSt ((q, 49, #[.int .i64 1, .int .i64 a, .int .i64 ob, .int .i64 oc]) :: E) w0 w1 b vc vr rvs h) => makeRoom_any ((q, 49, #[.int .i64 1, .int .i64 a, .int .i64 ob, .int .i64 oc]) :: E) w0 w1 b vc vr rvs h limit hT S hv)
  obtain ⟨X, hX⟩ : ∃ X, Hps.roomS h limit = X := ⟨_, rfl⟩
  have HVX := Lib.hid (show Hps.validH X = true by
    rw [← hX, Hps.roomS]
    split
    · exact hv
    · exact Hps.swept_valid hv)
  rw [hX] at HMK ⊢
  obtain ⟨p, hp⟩ : ∃ p, Hps.gapH X = p := ⟨_, rfl⟩
  have HP := Lib.hid hp
  have hpl : p ≤ X.cs.length := by rw [← hp]; exact Hps.gapH_le X
  have HPL := Lib.hid hpl
  rw [hp] at HMK ⊢
  have HQ := Lib.hid hq
  obtain ⟨r, hr⟩ : ∃ r, decide ((p : Int) < limit) = r := ⟨_, rfl⟩
  obtain ⟨Y, hY⟩ : ∃ Y, (if (p : Int) < limit then Hps.doH X ⟨1, a, ob, oc⟩ p else X) = Y := ⟨_, rfl⟩
  have HYT := Lib.hid (fun (e : r = true) => show Hps.doH X ⟨1, a, ob, oc⟩ p = Y by rw [← hY, if_pos (of_decide_eq_true (hr.trans e))])
  have HYF := Lib.hid (fun (e : r = false) => show X = Y by rw [← hY, if_neg (of_decide_eq_false (hr.trans e))])
  rw [hr] at HMK ⊢
  rw [hY]
  clear hX hp hq hv S hT hpl hr hY
  go_enter Tryd.func127, Tryd.ntmps127
  go_upto_region 1 with fail
  rw [HQ.out]
  generalize w.alloc (.cells #[.int .i64 1, .int .i64 a, .int .i64 ob, .int .i64 oc] 49) = w1 at S1 ⊢
  have SH := Lib.hid S1
  clear S1
  go_wp2_with fail
  refine (HMK.out _ SH.out).mono ?_
  rintro e w2 ⟨rfl, rv, S2⟩
  cases r
  · have S3 := S2.less.1
    rw [HYF.out (by simp)] at S3
    have S4 := Lib.hid S3
    clear S2 S3 SH
    go_wp2_with fail
    go_ret
    exact ⟨rfl, _, _, _, S4.out⟩
  have SS := Lib.hid S2
  clear S2 SH
  go_upto_region 3 with fail
  refine wp_region_inv (by kernel_rfl) (by kernel_rfl) (fun L ac ww => ∃ t11 t12 t13 t14 t15 t16 t17 : Value, ac = { tmps := #[Value.pointer (some { block := b, off := 0 }), cmV { op := 1, a := ↑a, b := ↑ob, c := oc }, Value.int IntKind.i64 limit, undef, Value.pointer (some { block := q, off := 0 }), undef, Value.bool false, Value.pointer (some { block := b, off := 0 }), Value.int IntKind.i64 limit, Value.bool true, Value.bool false, t11, t12, t13, t14, t15, t16, t17], defers := [] } ∧ (L 5 = false → SwSt ((q, 49, #[.int .i64 1, .int .i64 a, .int .i64 ob, .int .i64 oc]) :: E) w0 ww b vc vr rv X) ∧ (L 5 = true → L 6 = false → SwFs ((q, 49, #[.int .i64 1, .int .i64 a, .int .i64 ob, .int .i64 oc]) :: E) w0 ww b vc vr rv X (Hps.gapsL X.cs).tail) ∧ (L 0 = true → t11 = cmV ⟨1, a, ob, oc⟩) ∧ (L 1 = true → t12 = .pointer (some ⟨b, 0, none⟩)) ∧ (L 2 = true → t13 = .pointer (some ⟨b, 0, none⟩)) ∧ (L 3 = true → t14 = .pointer (some ⟨b, 0, none⟩)) ∧ (L 4 = true → t15 = .pointer (some ⟨b, 0, none⟩)) ∧ (L 5 = true → t16 = .int .i64 p) ∧ (L 6 = true → L 0 = true ∧ L 5 = true ∧ ∃ vc5 vr5 rv5, SwFs ((q, 49, #[.int .i64 1, .int .i64 a, .int .i64 ob, .int .i64 oc]) :: E) w0 ww b vc5 vr5 rv5 (Hps.doH X ⟨1, a, ob, oc⟩ p) (Hps.gapsL X.cs).tail)) ?h0 ?hstep ?hdone
  case h0 => exact ⟨_, _, _, _, _, _, _, rfl, fun _ => SS.out.up (Below.refl _ _).drew, fun h => absurd h Bool.false_ne_true, (fun h => absurd h Bool.false_ne_true), (fun h => absurd h Bool.false_ne_true), (fun h => absurd h Bool.false_ne_true), (fun h => absurd h Bool.false_ne_true), (fun h => absurd h Bool.false_ne_true), (fun h => absurd h Bool.false_ne_true), (fun h => absurd h Bool.false_ne_true)⟩
  case hstep =>
    rintro L ac ww i o ho hL hd ⟨t11, t12, t13, t14, t15, t16, t17, rfl, I0, I1, f0, f1, f2, f3, f4, f5, f6⟩
    have hi : i < 7 := (Array.getElem?_eq_some_iff.1 ho).1
    obtain rfl | rfl | rfl | rfl | rfl | rfl | rfl : i = 0 ∨ i = 1 ∨ i = 2 ∨ i = 3 ∨ i = 4 ∨ i = 5 ∨ i = 6 := by omega
    · obtain rfl := Option.some.inj ho
      have QR : Rw ww q 49 #[.int .i64 1, .int .i64 a, .int .i64 ob, .int .i64 oc] := by
        cases e5 : L 5
        · exact (I0 e5).less.2
        · cases e6 : L 6
          · exact (I1 e5 e6).less.2
          · exact absurd (f6 e6).1 (by rw [hL]; decide)
      have z0 : ww.cell? ⟨q, 0, none⟩ = some (.int .i64 1) := QR.cell 0
      have z1 : ww.cell? ⟨q, 1, none⟩ = some (.int .i64 a) := QR.cell 1
      have z2 : ww.cell? ⟨q, 2, none⟩ = some (.int .i64 ob) := QR.cell 2
      have z3 : ww.cell? ⟨q, 3, none⟩ = some (.int .i64 oc) := QR.cell 3
      refine wpOp_step rfl (fun K' hK => ?_)
      go_simp
      refine hK _ _ ?_
      exact ⟨_, _, _, _, _, _, _, rfl, (fun h => I0 (by rw [upd_other (by decide)] at h; exact h)), (fun h h6 => I1 (by rw [upd_other (by decide)] at h; exact h) (by rw [upd_other (by decide)] at h6; exact h6)), (fun _ => rfl), (kp f1), (kp f2), (kp f3), (kp f4), (kp f5), (fun h => ⟨upd_mono (f6 (upd_ne h (by decide))).1, upd_mono (f6 (upd_ne h (by decide))).2.1, (f6 (upd_ne h (by decide))).2.2⟩)⟩
    · obtain rfl := Option.some.inj ho
      refine wpOp_step rfl (fun K' hK => ?_)
      go_simp
      refine hK _ _ ?_
      exact ⟨_, _, _, _, _, _, _, rfl, (fun h => I0 (by rw [upd_other (by decide)] at h; exact h)), (fun h h6 => I1 (by rw [upd_other (by decide)] at h; exact h) (by rw [upd_other (by decide)] at h6; exact h6)), (kp f0), (fun _ => rfl), (kp f2), (kp f3), (kp f4), (kp f5), (fun h => ⟨upd_mono (f6 (upd_ne h (by decide))).1, upd_mono (f6 (upd_ne h (by decide))).2.1, (f6 (upd_ne h (by decide))).2.2⟩)⟩
    · obtain rfl := Option.some.inj ho
      have g1 := f1 (hd ⟨1, .data⟩ (by simp) rfl)
      subst g1
      refine wpOp_step rfl (fun K' hK => ?_)
      go_simp
      refine hK _ _ ?_
      exact ⟨_, _, _, _, _, _, _, rfl, (fun h => I0 (by rw [upd_other (by decide)] at h; exact h)), (fun h h6 => I1 (by rw [upd_other (by decide)] at h; exact h) (by rw [upd_other (by decide)] at h6; exact h6)), (kp f0), (kp f1), (fun _ => rfl), (kp f3), (kp f4), (kp f5), (fun h => ⟨upd_mono (f6 (upd_ne h (by decide))).1, upd_mono (f6 (upd_ne h (by decide))).2.1, (f6 (upd_ne h (by decide))).2.2⟩)⟩
    · obtain rfl := Option.some.inj ho
      have g2 := f2 (hd ⟨2, .data⟩ (by simp) rfl)
      subst g2
      refine wpOp_step rfl (fun K' hK => ?_)
      go_simp
      refine hK _ _ ?_
      exact ⟨_, _, _, _, _, _, _, rfl, (fun h => I0 (by rw [upd_other (by decide)] at h; exact h)), (fun h h6 => I1 (by rw [upd_other (by decide)] at h; exact h) (by rw [upd_other (by decide)] at h6; exact h6)), (kp f0), (kp f1), (kp f2), (fun _ => rfl), (kp f4), (kp f5), (fun h => ⟨upd_mono (f6 (upd_ne h (by decide))).1, upd_mono (f6 (upd_ne h (by decide))).2.1, (f6 (upd_ne h (by decide))).2.2⟩)⟩
    · obtain rfl := Option.some.inj ho
      refine wpOp_step rfl (fun K' hK => ?_)
      go_simp
      refine hK _ _ ?_
      exact ⟨_, _, _, _, _, _, _, rfl, (fun h => I0 (by rw [upd_other (by decide)] at h; exact h)), (fun h h6 => I1 (by rw [upd_other (by decide)] at h; exact h) (by rw [upd_other (by decide)] at h6; exact h6)), (kp f0), (kp f1), (kp f2), (kp f3), (fun _ => rfl), (kp f5), (fun h => ⟨upd_mono (f6 (upd_ne h (by decide))).1, upd_mono (f6 (upd_ne h (by decide))).2.1, (f6 (upd_ne h (by decide))).2.2⟩)⟩
    · obtain rfl := Option.some.inj ho
      have g4 := f4 (hd ⟨4, .data⟩ (by simp) rfl)
      subst g4
      refine wpOp_step rfl (fun K' hK => ?_)
      go_simp
      refine (takePlace_any _ w0 ww b vc vr rv X (I0 hL)).mono ?_
      rw [HP.out]
      rintro e w' ⟨rfl, S5, -⟩
      refine hK _ _ ?_
      exact ⟨_, _, _, _, _, _, _, rfl, (fun h => absurd h (by rw [upd_self]; decide)), (fun _ _ => S5), (kp f0), (kp f1), (kp f2), (kp f3), (kp f4), (fun _ => rfl), (fun h => absurd (f6 (upd_ne h (by decide))).2.1 (by rw [hL]; decide))⟩
    · obtain rfl := Option.some.inj ho
      have g0 := f0 (hd ⟨0, .data⟩ (by simp) rfl)
      have g3 := f3 (hd ⟨3, .data⟩ (by simp) rfl)
      have g5 := f5 (hd ⟨5, .data⟩ (by simp) rfl)
      subst g0
      subst g3
      subst g5
      have l0 := Lib.hid (hd ⟨0, .data⟩ (by simp) rfl)
      have l5 := Lib.hid (hd ⟨5, .data⟩ (by simp) rfl)
      obtain ⟨ve, B⟩ := I1 l5.out hL
      refine wpOp_step rfl (fun K' hK => ?_)
      go_simp
      refine (newCellAt_any (oc := oc) HVX.out ha hb3 HPL.out _ _ w0 ww b vc vr rv B).mono ?_
      rintro e w' ⟨⟨ev, rfl⟩, vc5, vr5, rv5, B5⟩
      refine hK _ _ ?_
      exact ⟨_, _, _, _, _, _, _, rfl, (fun h => absurd l5.out (by rw [upd_other (by decide)] at h; rw [h]; decide)), (fun _ h => absurd h (by rw [upd_self]; decide)), (kp f0), (kp f1), (kp f2), (kp f3), (kp f4), (kp f5), (fun _ => ⟨upd_mono l0.out, upd_mono l5.out, vc5, vr5, rv5, ve, B5⟩)⟩
  case hdone =>
    rintro L ac ww hall ⟨t11, t12, t13, t14, t15, t16, t17, rfl, I0, I1, f0, f1, f2, f3, f4, f5, f6⟩
    have e0 := f0 (hall 0 (by decide))
    have e1 := f1 (hall 1 (by decide))
    have e2 := f2 (hall 2 (by decide))
    have e3 := f3 (hall 3 (by decide))
    have e4 := f4 (hall 4 (by decide))
    have e5 := f5 (hall 5 (by decide))
    have e6 := f6 (hall 6 (by decide))
    clear f0 f1 f2 f3 f4 f5 f6
    obtain ⟨-, -, vc5, vr5, rv5, S5⟩ := e6
    have S6 := S5.less.1
    have HG := Hps.gaps_new (h := X) (o := ⟨1, a, ob, oc⟩) rfl
    rw [HP.out] at HG
    rw [← HG, HYT.out (by simp)] at S6
    have S7 := Lib.hid S6
    clear I0 I1 e0 e1 e2 e3 e4 e5 hall S5 S6 HG
    go_wp2_with fail
    go_ret
    exact ⟨rfl, _, _, _, S7.out⟩
set_option maxHeartbeats 4000000 in
theorem sweeperStep_walk (f g : Nat) (x y z : Int) (E : KeptL) (w0 w : World) (b : Nat) (vc vr : Value) (rvs : List Value) (h : Hp) (o : Cm) (limit : Int) (S : SwSt E w0 w b vc vr rvs h) (hv : Hps.validH h = true) (ho : Hps.okCm o = true) (h1 : o.op ≠ 1)
    (hop : ∀ w, Calls Tryd.prog 91 #[cmV o] w fun e w' => e = .returned (.tuple #[opA x y z f g, .bool (Hps.okCm o)]) ∧ Below w.heap.size w w') (hf : Hps.validH h = true → Hps.okCm o = true → PossF f o h) (hg : Hps.canH h o = true → ExecF g o h)
    (hen : ∀ args w, (callFunc f args).run Tryd.prog w = .ok (.enter f args) w) (hen2 : ∀ args w, (callFunc g args).run Tryd.prog w = .ok (.enter g args) w) :
    Calls Tryd.prog 85 #[.pointer (some ⟨b, 0, none⟩), cmV o, .int .i64 limit] w fun e w' => e = .returned (.bool (Hps.canH h o)) ∧ ∃ vc' vr' rvs', SwSt E w0 w' b vc' vr' rvs' (if Hps.canH h o = true then Hps.doH h o h.cs.length else h) := by
  have HP0 := Lib.hid (hf hv ho)
  have HG := Lib.hid hg
  have HO := Lib.hid hop
  have HE := Lib.hid hen
  have HE2 := Lib.hid hen2
  rw [ho] at HO
  have h40 := (Hps.valid_iff.1 hv).2.1
  have hr4 := (Hps.valid_iff.1 hv).2.2.1
  obtain ⟨A, c, R, d, rfl, rfl, hc, hd, -⟩ := S.own.form
  obtain ⟨n, hn⟩ : ∃ n, h.cs.length = n := ⟨_, rfl⟩
  rw [hn, hr4] at S
  rw [hn] at hc h40
  rw [hr4] at hd
  have hop1 : (o.op == 1) = false := by rw [beq_eq_false_iff_ne]; exact h1
  obtain ⟨r, hr⟩ : ∃ r, Hps.canH h o = r := ⟨_, rfl⟩
  obtain ⟨Y, hY⟩ : ∃ Y, (if Hps.canH h o = true then Hps.doH h o h.cs.length else h) = Y := ⟨_, rfl⟩
  have HYT := Lib.hid (fun (e : r = true) => show Hps.doH h o h.cs.length = Y by rw [← hY, if_pos (hr.trans e)])
  have HYF := Lib.hid (fun (e : r = false) => show h = Y by rw [← hY, if_neg (by rw [hr, e]; decide)])
  have HR := Lib.hid hr
  rw [hY]
  rw [hr] at HG ⊢
  clear hr hY
  have HGO := Lib.hid (fun p => Hps.gaps_other (h := h) (o := o) (p := p) h1)
  have bA : Below w.heap.size w (w.alloc (.cells #[.int .i64 o.op, .int .i64 o.a, .int .i64 o.b, .int .i64 o.c] 49)) := (Below.refl _ _).alloc (Nat.le_refl _) _
  have Q := Rw.new w 49 #[.int .i64 o.op, .int .i64 o.a, .int .i64 o.b, .int .i64 o.c]
  have S1 := S.up bA
  clear hf hg hop hen hen2 hv ho hr4 S bA h1
  go_enter Tryd.func85, Tryd.ntmps85
  go_upto_region 1 with fail
  generalize w.alloc (.cells #[.int .i64 o.op, .int .i64 o.a, .int .i64 o.b, .int .i64 o.c] 49) = w1 at S1 Q ⊢
  generalize w.heap.size = q at Q ⊢
  have y0 : w1.cell? ⟨q, 0, none⟩ = some (.int .i64 o.op) := Q.cell 0
  have y1 : w1.cell? ⟨q, 1, none⟩ = some (.int .i64 o.a) := Q.cell 1
  have y2 : w1.cell? ⟨q, 2, none⟩ = some (.int .i64 o.b) := Q.cell 2
  have y3 : w1.cell? ⟨q, 3, none⟩ = some (.int .i64 o.c) := Q.cell 3
  go_wp2_with fail
  refine (HO.out _).mono ?_
  rintro e w2 ⟨rfl, b1⟩
  have bB : Below w2.heap.size w2 (w2.alloc (.cells #[.int .i64 x, .int .i64 y, .int .i64 z, .func (.func f) #[] #[], .func (.func g) #[] #[]] 122)) := (Below.refl _ _).alloc (Nat.le_refl _) _
  replace Q := (Q.keep b1 Q.lt).alloc (.cells #[.int .i64 x, .int .i64 y, .int .i64 z, .func (.func f) #[] #[], .func (.func g) #[] #[]] 122)
  have QP := Rw.new w2 122 #[.int .i64 x, .int .i64 y, .int .i64 z, .func (.func f) #[] #[], .func (.func g) #[] #[]]
  have S2 := (S1.up b1).up bB
  clear S1 b1 bB y0 y1 y2 y3
  go_upto_region 4 with fail
  generalize w2.alloc (.cells #[.int .i64 x, .int .i64 y, .int .i64 z, .func (.func f) #[] #[], .func (.func g) #[] #[]] 122) = w3 at S2 Q QP ⊢
  generalize w2.heap.size = g5 at QP ⊢
  have y0 : w3.cell? ⟨q, 0, none⟩ = some (.int .i64 o.op) := Q.cell 0
  have y1 : w3.cell? ⟨q, 1, none⟩ = some (.int .i64 o.a) := Q.cell 1
  have y2 : w3.cell? ⟨q, 2, none⟩ = some (.int .i64 o.b) := Q.cell 2
  have y3 : w3.cell? ⟨q, 3, none⟩ = some (.int .i64 o.c) := Q.cell 3
  have z3 : w3.cell? ⟨g5, 3, none⟩ = some (.func (.func f) #[] #[]) := QP.cell 3
  have x0 : w3.cell? ⟨b, 0, none⟩ = some (.slice A n c) := S2.c0
  have x1 : w3.cell? ⟨b, 1, none⟩ = some (.slice R 4 d) := S2.c1
  have SS := Lib.hid S2
  have QQ := Lib.hid Q
  have QQP := Lib.hid QP
  clear S2 Q QP
  go_still_tail 7, (by kernel_rfl)
  change wpList _ _ _ _ _ w3.drew
  have S4 := Lib.hid (SS.out.up (Below.refl _ _).drew)
  have Q4 := Lib.hid (QQ.out.keep (Below.refl _ w3).drew QQ.out.lt)
  have QP4 := Lib.hid (QQP.out.keep (Below.refl _ w3).drew QQP.out.lt)
  generalize w3.drew = w4 at S4 Q4 QP4 ⊢
  clear y0 y1 y2 y3 z3 x0 x1 SS QQ QQP
  have hen := HE.out
  go_wp2_with fail
  clear hen
  refine (HP0.out A R n c 4 d w4 S4.out.own.reads (by omega) (by omega) hc hd).mono ?_
  rw [HR.out]
  rintro e w5 ⟨rfl, b5⟩
  have S5 := S4.out.up b5
  have Q5 := Q4.out.keep b5 Q4.out.lt
  have QP5 := QP4.out.keep b5 QP4.out.lt
  clear S4 Q4 QP4 b5
  cases r
  · rw [HYF.out (by simp)] at S5
    have SF := Lib.hid S5
    clear S5 Q5 QP5
    go_wp2_with fail
    go_ret
    exact ⟨rfl, _, _, _, SF.out⟩
  have y0 : w5.cell? ⟨q, 0, none⟩ = some (.int .i64 o.op) := Q5.cell 0
  have y1 : w5.cell? ⟨q, 1, none⟩ = some (.int .i64 o.a) := Q5.cell 1
  have y2 : w5.cell? ⟨q, 2, none⟩ = some (.int .i64 o.b) := Q5.cell 2
  have y3 : w5.cell? ⟨q, 3, none⟩ = some (.int .i64 o.c) := Q5.cell 3
  have z4 : w5.cell? ⟨g5, 4, none⟩ = some (.func (.func g) #[] #[]) := QP5.cell 4
  have SS := Lib.hid S5
  clear S5 Q5 QP5
  go_upto_region 6 with fail
  go_still_tail 6, (by kernel_rfl)
  change wpList _ _ _ _ _ w5.drew
  obtain ⟨ve, B⟩ := SS.out.up (Below.refl _ _).drew
  have BH := Lib.hid B
  generalize w5.drew = w6 at BH ⊢
  clear y0 y1 y2 y3 z4 SS B
  have hen2 := HE2.out
  go_wp2_with fail
  clear hen2
  refine (HG.out (by simp) _ _ _ _ _ _ _ _ BH.out).mono ?_
  rintro e w8 ⟨⟨ev, rfl⟩, vc', vr', rvs', B8⟩
  have S7 : SwSt E w0 w8 b vc' vr' rvs' (Hps.doH h o h.cs.length) := ⟨ve, by rw [HGO.out]; exact B8⟩
  rw [HYT.out (by simp)] at S7
  have S8 := Lib.hid S7
  clear B8 S7
  go_wp2_with fail
  go_ret
  exact ⟨rfl, _, _, _, S8.out⟩
end Go.Proofs.YthmddmddcdofaaaDoor

namespace Go.Proofs.YthmddmddcdofaaaDoor
open Go.RowKit
set_option maxRecDepth 100000
/-- k times -1, then 0 -/
def rep4 (k : Nat) : List Value := List.replicate k (.int .i64 (-1)) ++ List.replicate (4 - k) (.int .i64 0)
def RowK (w : World) (g k : Nat) : Prop := w.heap[g]? = some (.cells (rep4 k).toArray 3 (0, 0))
theorem RowK.cell {w : World} {g k j : Nat} (h : RowK w g k) (hj : j < k) : w.cell? ⟨g, j, none⟩ = some (.int .i64 (-1)) := by
  have : (rep4 k)[j]? = some (.int .i64 (-1)) := by
    unfold rep4
    rw [List.getElem?_append_left (by simpa using hj)]
    simp [hj]
  have e : w.cell? ⟨g, j, none⟩ = (rep4 k).toArray[j]? := Rw.cell (cs := (rep4 k).toArray) h j
  rw [e]
  simpa using this
theorem RowK.put {w : World} {g k : Nat} (h : RowK w g k) (j : Nat) : RowK (w.setRow g (rep4 j).toArray) g j := setRow_heap w g _ _ _ _ h
end Go.Proofs.YthmddmddcdofaaaDoor

namespace Go.Proofs.YthmddmddcdofaaaDoor
open Go.RowKit
set_option maxRecDepth 100000
namespace Hps
end Hps
end Go.Proofs.YthmddmddcdofaaaDoor

namespace Go.Proofs.YthmddmddcdofaaaDoor
open Go.RowKit
set_option maxRecDepth 100000
namespace Hps
end Hps
end Go.Proofs.YthmddmddcdofaaaDoor

namespace Go.Proofs.YthmddmddcdofaaaDoor
open Go.RowKit
set_option maxRecDepth 100000
namespace Hps
end Hps
end Go.Proofs.YthmddmddcdofaaaDoor

namespace Go.Proofs.YthmddmddcdofaaaDoor
open Go.RowKit
set_option maxRecDepth 100000
end Go.Proofs.YthmddmddcdofaaaDoor

namespace Go.Proofs.YthmddmddcdofaaaDoor
open Go.RowKit
set_option maxRecDepth 100000
end Go.Proofs.YthmddmddcdofaaaDoor

namespace Go.Proofs.YthmddmddcdofaaaDoor
open Go.RowKit
set_option maxRecDepth 100000
namespace Hps
theorem gap_at {h : Hp} {k : Nat} (hk : k < h.cs.length) (hu : usedAt h.cs k = false) (hb : ∀ j, j < k → usedAt h.cs j = true) : gapH h = k := by
  rcases gapH_cases h with ⟨e1, e2⟩ | ⟨e1, e2, e3⟩
  · have := e2 k hk
    rw [hu] at this
    cases this
  · rcases Nat.lt_trichotomy (gapH h) k with q | q | q
    · have := hb _ q
      rw [e2] at this
      cases this
    · exact q
    · have := e3 k q
      rw [hu] at this
      cases this
theorem gap_end {h : Hp} (hb : ∀ j, j < h.cs.length → usedAt h.cs j = true) : gapH h = h.cs.length := by
  rcases gapH_cases h with ⟨e1, _⟩ | ⟨e1, e2, _⟩
  · exact e1
  · have := hb _ e1
    rw [e2] at this
    cases this
theorem usedAt_of {cs : List Cl} {k : Nat} {c : Cl} (hc : cs[k]? = some c) : usedAt cs k = c.u := by rw [usedAt, hc]
end Hps
set_option maxHeartbeats 4000000 in
theorem mPlace_any (A R : Option Addr) (n c m d : Nat) (h : Hp) (w : World) (hs : HS w w.heap.size A n R m h) (hn : n ≤ 1099511627776) :
    Calls Tryd.prog 89 #[heapV A n c R m d] w fun e w' => e = .returned (.int .i64 (Hps.gapH h)) ∧ Below w.heap.size w w' := by
  have b0 : Below w.heap.size w (w.alloc (.cells #[.slice A n c, .slice R m d] 26)) := (Below.refl _ _).alloc (Nat.le_refl _) _
  have r0 := hs.up b0
  have q0 := Rw.new w 26 #[.slice A n c, .slice R m d]
  have hlc := hs.cells.1
  have HLC := Lib.hid hlc
  clear hlc
  go_enter Tryd.func89, Tryd.ntmps89
  go_wp2_with fail
  generalize w.alloc (.cells #[.slice A n c, .slice R m d] 26) = w0 at b0 r0 q0 ⊢
  go_loopw [3] (fun i wr => ∃ k : Nat, k ≤ n ∧ i = .int .i64 k ∧ Hid (∀ j, j < k → Hps.usedAt h.cs j = true) ∧ wr = w0) (fun i _ => n - (intOf i).toNat)
  case atStart => exact ⟨0, Nat.zero_le _, rfl, Lib.hid (fun j hj => by omega), rfl⟩
  case round =>
    obtain ⟨k, hk, rfl, hpre, rfl⟩ := hrel
    have x0 : wr.cell? ⟨w.heap.size, 0, none⟩ = some (.slice A n c) := q0.cell 0
    by_cases hlt : k < n
    · obtain ⟨g, o, cl, A', m', cc, e1, hg, hcl, d1, _, _, _, _⟩ := (hs.cells.below b0).at_ hlt
      subst e1
      have hlt' : (k : Int) < n := by omega
      have HU := Lib.hid (Hps.usedAt_of hcl)
      have HC := Lib.hid hcl
      clear hcl
      cases hu : cl.u <;> rw [hu] at d1 HU
      · have HG := Lib.hid (Hps.gap_at (h := h) (k := k) (by rw [HLC.out]; exact hlt) HU.out hpre.out)
        clear hu
        go_wp2_with fail
        go_ret
        exact ⟨by rw [HG.out]; rfl, b0⟩
      · clear hu
        go_wp2_with fail
        go_roundw
        case rel => exact ⟨k + 1, by omega, by go_num, Lib.hid (fun j hj => by
          rcases Nat.lt_or_ge j k with h1 | h1
          · exact hpre.out j h1
          · obtain rfl : j = k := by omega
            exact HU.out), trivial⟩
        case measure => simp [intOf]; omega
    · obtain rfl : k = n := by omega
      have HG := Lib.hid (show Hps.gapH h = k by rw [← HLC.out]; exact Hps.gap_end (by rw [HLC.out]; exact hpre.out))
      go_wp2_with fail
      go_ret
      exact ⟨by rw [HG.out]; rfl, b0⟩
end Go.Proofs.YthmddmddcdofaaaDoor

namespace Go.Proofs.YthmddmddcdofaaaDoor
open Go.RowKit
set_option maxRecDepth 100000
theorem OwnH.parts {w : World} {base : Nat} {vc vr : Value} {h : Hp} (ho : OwnH w base vc vr h) : ∃ A n c R m d, vc = .slice A n c ∧ vr = .slice R m d ∧ HS w w.heap.size A n R m h := by
  obtain ⟨A, c, R, d, e1, e2, s⟩ := ho.form
  exact ⟨A, _, c, R, _, d, e1, e2, s⟩
set_option maxHeartbeats 8000000 in
theorem mStepSweep_any (A R : Option Addr) (n c m d : Nat) (lim : Int) (h : Hp) (o : Cm) (w : World) (hs : HS w w.heap.size A n R m h) (hn : n ≤ 1099511627776) (hm : m ≤ 1099511627776) :
    Calls Tryd.prog 37 #[heapV A n c R m d, .int .i64 lim, cmV o] w (GaveH2 w (Hps.stepSw h lim o).1 (Hps.stepSw h lim o).2) := by
  have b2 : Below w.heap.size w (((w.alloc (.cells #[.slice A n c, .slice R m d] 26)).alloc (.cells #[.int .i64 o.op, .int .i64 o.a, .int .i64 o.b, .int .i64 o.c] 49)).alloc (.cells #[.slice none 0 0, .slice none 0 0] 26)) := (((Below.refl w.heap.size w).alloc (Nat.le_refl _) _).alloc (by simp) _).alloc (by simp; omega) _
  have s2 := hs.up b2
  have q1 := ((Rw.new w 26 #[.slice A n c, .slice R m d]).alloc (.cells #[.int .i64 o.op, .int .i64 o.a, .int .i64 o.b, .int .i64 o.c] 49)).alloc (.cells #[.slice none 0 0, .slice none 0 0] 26)
  have q2 := (Rw.new (w.alloc (.cells #[.slice A n c, .slice R m d] 26)) 49 #[.int .i64 o.op, .int .i64 o.a, .int .i64 o.b, .int .i64 o.c]).alloc (.cells #[.slice none 0 0, .slice none 0 0] 26)
  have q3 := Rw.new ((w.alloc (.cells #[.slice A n c, .slice R m d] 26)).alloc (.cells #[.int .i64 o.op, .int .i64 o.a, .int .i64 o.b, .int .i64 o.c] 49)) 26 #[.slice none 0 0, .slice none 0 0]
  simp only [World.size_alloc] at q2 q3
  go_enter Tryd.func37, Tryd.ntmps37
  go_upto_region 1 with fail
  generalize ((w.alloc (.cells #[.slice A n c, .slice R m d] 26)).alloc (.cells #[.int .i64 o.op, .int .i64 o.a, .int .i64 o.b, .int .i64 o.c] 49)).alloc (.cells #[.slice none 0 0, .slice none 0 0] 26) = w0 at b2 s2 q1 q2 q3 ⊢
  have x0 : w0.cell? ⟨w.heap.size, 0, none⟩ = some (.slice A n c) := q1.cell 0
  have x1 : w0.cell? ⟨w.heap.size, 1, none⟩ = some (.slice R m d) := q1.cell 1
  go_wp2_with fail
  refine (mHeapValid_any _ _ _ _ _ _ h _ s2 hn hm).mono ?_
  rintro e w1 ⟨rfl, b1⟩
  replace q1 := q1.keep b1 q1.lt
  replace q2 := q2.keep b1 q2.lt
  replace q3 := q3.keep b1 q3.lt
  replace b2 := b2.trans (b1.mono b2.size)
  clear b1
  clear s2 x0 x1
  cases hv : Hps.validH h
  · have HF := Lib.hid (Hps.stepSw_no (h := h) (limit := lim) (o := o) (by rw [hv]; simp))
    have r2 : (w1).frozen? ⟨w.heap.size + 1 + 1, 0, none⟩ = false := q3.frozen 0
    have r3 : (w1).frozen? ⟨w.heap.size + 1 + 1, 1, none⟩ = false := q3.frozen 1
    have r5 : (w1).cell? ⟨w.heap.size + 1 + 1, 0, none⟩ = some (.slice none 0 0) := q3.cell 0
    have r6 : (w1).cell? ⟨w.heap.size + 1 + 1, 1, none⟩ = some (.slice none 0 0) := q3.cell 1
    have q4 := (q3.put 0 (.slice none 0 0)).put 1 (.slice none 0 0)
    have r8 : (((w1).setCell ⟨w.heap.size + 1 + 1, 0, none⟩ (.slice none 0 0)).setCell ⟨w.heap.size + 1 + 1, 1, none⟩ (.slice none 0 0)).cell? ⟨w.heap.size + 1 + 1, 0, none⟩ = some (.slice none 0 0) := q4.cell 0
    have r9 : (((w1).setCell ⟨w.heap.size + 1 + 1, 0, none⟩ (.slice none 0 0)).setCell ⟨w.heap.size + 1 + 1, 1, none⟩ (.slice none 0 0)).cell? ⟨w.heap.size + 1 + 1, 1, none⟩ = some (.slice none 0 0) := q4.cell 1
    have D := Lib.hid ((own_zeroH w1 w1.heap.size (Nat.le_refl _)).out q3.lt b2 (Nat.le_trans (Nat.le_succ _) (Nat.le_succ _)))
    clear q1 q2 q3 q4 b2
    go_wp2_with fail
    exact bodyPost_ret (v := .tuple #[.agg #[.slice none 0 0, .slice none 0 0], .bool false]) (by simp [results, Tryd.results37, go_sem, *]) rfl ⟨_, _, by rw [HF.out], by rw [HF.out]; exact D.out.1, D.out.2⟩
  have z0 : w1.cell? ⟨w.heap.size + 1, 0, none⟩ = some (.int .i64 o.op) := q2.cell 0
  have z1 : w1.cell? ⟨w.heap.size + 1, 1, none⟩ = some (.int .i64 o.a) := q2.cell 1
  have z2 : w1.cell? ⟨w.heap.size + 1, 2, none⟩ = some (.int .i64 o.b) := q2.cell 2
  have z3 : w1.cell? ⟨w.heap.size + 1, 3, none⟩ = some (.int .i64 o.c) := q2.cell 3
  go_wp2_with fail
  refine (mCommandValid_any o _).mono ?_
  rintro e w3 ⟨rfl, b1⟩
  replace q1 := q1.keep b1 q1.lt
  replace q2 := q2.keep b1 q2.lt
  replace q3 := q3.keep b1 q3.lt
  replace b2 := b2.trans (b1.mono b2.size)
  clear b1
  clear z0 z1 z2 z3
  cases ho : Hps.okCm o
  · have HF := Lib.hid (Hps.stepSw_no (h := h) (limit := lim) (o := o) (by rw [ho]; simp))
    have r2 : (w3).frozen? ⟨w.heap.size + 1 + 1, 0, none⟩ = false := q3.frozen 0
    have r3 : (w3).frozen? ⟨w.heap.size + 1 + 1, 1, none⟩ = false := q3.frozen 1
    have r5 : (w3).cell? ⟨w.heap.size + 1 + 1, 0, none⟩ = some (.slice none 0 0) := q3.cell 0
    have r6 : (w3).cell? ⟨w.heap.size + 1 + 1, 1, none⟩ = some (.slice none 0 0) := q3.cell 1
    have q4 := (q3.put 0 (.slice none 0 0)).put 1 (.slice none 0 0)
    have r8 : (((w3).setCell ⟨w.heap.size + 1 + 1, 0, none⟩ (.slice none 0 0)).setCell ⟨w.heap.size + 1 + 1, 1, none⟩ (.slice none 0 0)).cell? ⟨w.heap.size + 1 + 1, 0, none⟩ = some (.slice none 0 0) := q4.cell 0
    have r9 : (((w3).setCell ⟨w.heap.size + 1 + 1, 0, none⟩ (.slice none 0 0)).setCell ⟨w.heap.size + 1 + 1, 1, none⟩ (.slice none 0 0)).cell? ⟨w.heap.size + 1 + 1, 1, none⟩ = some (.slice none 0 0) := q4.cell 1
    have D := Lib.hid ((own_zeroH w3 w3.heap.size (Nat.le_refl _)).out q3.lt b2 (Nat.le_trans (Nat.le_succ _) (Nat.le_succ _)))
    clear q1 q2 q3 q4 b2
    go_wp2_with fail
    exact bodyPost_ret (v := .tuple #[.agg #[.slice none 0 0, .slice none 0 0], .bool false]) (by simp [results, Tryd.results37, go_sem, *]) rfl ⟨_, _, by rw [HF.out], by rw [HF.out]; exact D.out.1, D.out.2⟩
  by_cases hlim : 1 ≤ lim ∧ lim ≤ 40
  case neg =>
    have HF := Lib.hid (Hps.stepSw_no (h := h) (limit := lim) (o := o) (fun e => hlim ⟨e.2.2.1, e.2.2.2⟩))
    have hd : (decide ((1 : Int) ≤ lim) && decide (lim ≤ 40)) = false := by
      rw [Bool.and_eq_false_iff, decide_eq_false_iff_not, decide_eq_false_iff_not]
      omega
    have HL1 := Lib.hid (l1In_any lim 1 40 w3)
    clear hlim
    go_wp2_with fail
    refine HL1.out.mono ?_
    rw [hd]
    rintro e w4 ⟨rfl, rfl⟩
    have r2 : (w3).frozen? ⟨w.heap.size + 1 + 1, 0, none⟩ = false := q3.frozen 0
    have r3 : (w3).frozen? ⟨w.heap.size + 1 + 1, 1, none⟩ = false := q3.frozen 1
    have r5 : (w3).cell? ⟨w.heap.size + 1 + 1, 0, none⟩ = some (.slice none 0 0) := q3.cell 0
    have r6 : (w3).cell? ⟨w.heap.size + 1 + 1, 1, none⟩ = some (.slice none 0 0) := q3.cell 1
    have q4 := (q3.put 0 (.slice none 0 0)).put 1 (.slice none 0 0)
    have r8 : (((w3).setCell ⟨w.heap.size + 1 + 1, 0, none⟩ (.slice none 0 0)).setCell ⟨w.heap.size + 1 + 1, 1, none⟩ (.slice none 0 0)).cell? ⟨w.heap.size + 1 + 1, 0, none⟩ = some (.slice none 0 0) := q4.cell 0
    have r9 : (((w3).setCell ⟨w.heap.size + 1 + 1, 0, none⟩ (.slice none 0 0)).setCell ⟨w.heap.size + 1 + 1, 1, none⟩ (.slice none 0 0)).cell? ⟨w.heap.size + 1 + 1, 1, none⟩ = some (.slice none 0 0) := q4.cell 1
    have D := Lib.hid ((own_zeroH w3 w3.heap.size (Nat.le_refl _)).out q3.lt b2 (Nat.le_trans (Nat.le_succ _) (Nat.le_succ _)))
    clear q1 q2 q3 q4 b2
    go_wp2_with fail
    exact bodyPost_ret (v := .tuple #[.agg #[.slice none 0 0, .slice none 0 0], .bool false]) (by simp [results, Tryd.results37, go_sem, *]) rfl ⟨_, _, by rw [HF.out], by rw [HF.out]; exact D.out.1, D.out.2⟩
  have hd : (decide ((1 : Int) ≤ lim) && decide (lim ≤ 40)) = true := by rw [decide_eq_true hlim.1, decide_eq_true hlim.2]; rfl
  have HL1 := Lib.hid (l1In_any lim 1 40 w3)
  have HE := Lib.hid (show Hps.validH h = true ∧ Hps.okCm o = true ∧ 1 ≤ lim ∧ lim ≤ 40 from ⟨hv, ho, hlim.1, hlim.2⟩)
  have h40 := (Hps.valid_iff.1 hv).2.1
  have hr4 := (Hps.valid_iff.1 hv).2.2.1
  have hlc := hs.cells.1
  have hlr := hs.roots.1
  have hn4 : n ≤ 40 := by omega
  have hm4 : m ≤ 4 := by omega
  have H3 := Lib.hid (fun cl (hcl : cl ∈ h.cs) => show cl.r.length ≤ 1000000 by have := (Hps.okCell_iff.1 ((Hps.valid_iff.1 hv).1 cl hcl)).2.2.1; omega)
  have HD := Lib.hid hd
  clear hv ho hlim h40 hr4 hlr hlc hd
  have s2 := hs.up b2
  have x0 : w3.cell? ⟨w.heap.size, 0, none⟩ = some (.slice A n c) := q1.cell 0
  have x1 : w3.cell? ⟨w.heap.size, 1, none⟩ = some (.slice R m d) := q1.cell 1
  have z0 : w3.cell? ⟨w.heap.size + 1, 0, none⟩ = some (.int .i64 o.op) := q2.cell 0
  have z1 : w3.cell? ⟨w.heap.size + 1, 1, none⟩ = some (.int .i64 o.a) := q2.cell 1
  have z2 : w3.cell? ⟨w.heap.size + 1, 2, none⟩ = some (.int .i64 o.b) := q2.cell 2
  have z3 : w3.cell? ⟨w.heap.size + 1, 3, none⟩ = some (.int .i64 o.c) := q2.cell 3
  go_wp2_with fail
  refine HL1.out.mono ?_
  rw [HD.out]
  rintro e w4 ⟨rfl, rfl⟩
  go_wp2_with fail
  refine (mCommandPossible_any _ _ _ _ _ _ h o _ s2 hn hm).mono ?_
  rintro e w4 ⟨rfl, b1⟩
  replace q1 := q1.keep b1 q1.lt
  replace q2 := q2.keep b1 q2.lt
  replace q3 := q3.keep b1 q3.lt
  replace b2 := b2.trans (b1.mono b2.size)
  clear b1
  clear s2 x0 x1 z0 z1 z2 z3 HL1
  have s2 := hs.up b2
  have x0 : w4.cell? ⟨w.heap.size, 0, none⟩ = some (.slice A n c) := q1.cell 0
  have x1 : w4.cell? ⟨w.heap.size, 1, none⟩ = some (.slice R m d) := q1.cell 1
  have hsz : w.heap.size + 3 ≤ w4.heap.size := by have := q3.lt; omega
  cases hc : Hps.canH h o
  · have HF := Lib.hid (Hps.stepSw_cannot HE.out hc)
    clear hc
    go_wp2_with fail
    refine (l7Copy_any _ _ _ _ _ _ h _ s2 (by omega) (by omega) H3.out).mono ?_
    rintro e w5 ⟨vc, vr, rfl, oh, b1⟩
    obtain ⟨A5, n5, c5, R5, m5, d5, rfl, rfl⟩ := oh.slices
    replace oh := oh.base (base' := w.heap.size + 3) hsz
    replace q1 := q1.keep b1 q1.lt
    replace q2 := q2.keep b1 q2.lt
    replace q3 := q3.keep b1 q3.lt
    replace b2 := b2.trans (b1.mono b2.size)
    clear b1
    have r2 : (w5).frozen? ⟨w.heap.size + 1 + 1, 0, none⟩ = false := q3.frozen 0
    have r3 : (w5).frozen? ⟨w.heap.size + 1 + 1, 1, none⟩ = false := q3.frozen 1
    have r5 : (w5).cell? ⟨w.heap.size + 1 + 1, 0, none⟩ = some (.slice none 0 0) := q3.cell 0
    have r6 : (w5).cell? ⟨w.heap.size + 1 + 1, 1, none⟩ = some (.slice none 0 0) := q3.cell 1
    have q4 := (q3.put 0 (.slice A5 n5 c5)).put 1 (.slice R5 m5 d5)
    have r8 : (((w5).setCell ⟨w.heap.size + 1 + 1, 0, none⟩ (.slice A5 n5 c5)).setCell ⟨w.heap.size + 1 + 1, 1, none⟩ (.slice R5 m5 d5)).cell? ⟨w.heap.size + 1 + 1, 0, none⟩ = some (.slice A5 n5 c5) := q4.cell 0
    have r9 : (((w5).setCell ⟨w.heap.size + 1 + 1, 0, none⟩ (.slice A5 n5 c5)).setCell ⟨w.heap.size + 1 + 1, 1, none⟩ (.slice R5 m5 d5)).cell? ⟨w.heap.size + 1 + 1, 1, none⟩ = some (.slice R5 m5 d5) := q4.cell 1
    have D := Lib.hid (oh.out (g := w.heap.size + 1 + 1) (by omega) b2 (by omega))
    clear q1 q2 q3 q4 oh b2 x0 x1 s2
    go_wp2_with fail
    exact bodyPost_ret (v := .tuple #[.agg #[.slice A5 n5 c5, .slice R5 m5 d5], .bool false]) (by simp [results, Tryd.results37, go_sem, *]) rfl ⟨_, _, by rw [HF.out], by rw [HF.out]; exact D.out.1, D.out.2⟩
  have HC := Lib.hid hc
  clear hc
  go_wp2_with fail
  refine (l7Copy_any _ _ _ _ _ _ h _ s2 (by omega) (by omega) H3.out).mono ?_
  rintro e w5 ⟨vc, vr, rfl, oh, b1⟩
  obtain ⟨A5, n5, c5, R5, m5, d5, rfl, rfl, s5⟩ := oh.parts
  replace oh := oh.base (base' := w.heap.size + 3) hsz
  replace q1 := q1.keep b1 q1.lt
  replace q2 := q2.keep b1 q2.lt
  replace q3 := q3.keep b1 q3.lt
  replace b2 := b2.trans (b1.mono b2.size)
  clear b1
  clear s2 x0 x1 hsz
  have bA : Below w5.heap.size w5 (w5.alloc (.cells #[.slice A5 n5 c5, .slice R5 m5 d5] 26)) := (Below.refl _ _).alloc (Nat.le_refl _) _
  have bx := Rw.new w5 26 #[.slice A5 n5 c5, .slice R5 m5 d5]
  replace q2 := q2.alloc (.cells #[.slice A5 n5 c5, .slice R5 m5 d5] 26)
  have hq5 := q3.lt
  replace q3 := q3.alloc (.cells #[.slice A5 n5 c5, .slice R5 m5 d5] 26)
  replace b2 := b2.trans (bA.mono b2.size)
  replace oh := oh.below bA (Nat.le_refl _)
  replace s5 := s5.up bA
  clear bA q1
  go_upto_region 6 with fail
  generalize w5.alloc (.cells #[.slice A5 n5 c5, .slice R5 m5 d5] 26) = w6 at bx q2 q3 b2 oh s5 ⊢
  obtain ⟨b, hb⟩ : ∃ b, w5.heap.size = b := ⟨_, rfl⟩
  rw [hb] at bx hq5 ⊢
  clear hb
  have hn5 : n5 ≤ 40 := by rw [← s5.cells.1]; exact (Hps.valid_iff.1 HE.out.1).2.1
  have hm5 : m5 ≤ 4 := by rw [← s5.roots.1, (Hps.valid_iff.1 HE.out.1).2.2.1]; exact Nat.le_refl _
  by_cases h1 : o.op = 1
  case neg =>
    have ht : (o.op == (1 : Int)) = false := by rw [beq_eq_false_iff_ne]; exact h1
    have hroom := Hps.room_other (h := h) (limit := lim) h1
    have HF := Lib.hid (Hps.stepSw_does HE.out HC.out (fun e => h1 e.1))
    rw [hroom] at HF
    have HCX := HC
    clear h1 hroom oh
    have z0 : w6.cell? ⟨w.heap.size + 1, 0, none⟩ = some (.int .i64 o.op) := q2.cell 0
    have z1 : w6.cell? ⟨w.heap.size + 1, 1, none⟩ = some (.int .i64 o.a) := q2.cell 1
    have z2 : w6.cell? ⟨w.heap.size + 1, 2, none⟩ = some (.int .i64 o.b) := q2.cell 2
    have z3 : w6.cell? ⟨w.heap.size + 1, 3, none⟩ = some (.int .i64 o.c) := q2.cell 3
    have y0 : w6.cell? ⟨b, 0, none⟩ = some (.slice A5 n5 c5) := bx.cell 0
    have y1 : w6.cell? ⟨b, 1, none⟩ = some (.slice R5 m5 d5) := bx.cell 1
    have hg5 : Hps.gapH (h) ≤ n5 := by have := Hps.gapH_le (h); rw [s5.cells.1] at this; exact this
    have HG5 := Lib.hid hg5
    have hbl := bx.lt
    have hql := q2.lt
    have hGl := q3.lt
    clear hg5
    go_upto_region 10 with fail
    clear z0 z1 z2 z3 y0 y1
    refine wp_region_inv (by kernel_rfl) (by kernel_rfl) (fun L ac ww => ∃ t7 t50 t51 t52 t53 t54 : Value, ac = { tmps := #[heapV A n c R m d, Value.int IntKind.i64 lim, cmV o, Value.pointer (some { block := w.heap.size, off := 0 }), undef, Value.pointer (some { block := w.heap.size + 1, off := 0 }), Value.pointer (some { block := w.heap.size + 1 + 1, off := 0 }), t7, Value.pointer (some { block := b, off := 0 }), Value.agg #[Value.slice A n c, Value.slice R m d], Value.bool true, Value.bool false, Value.bool false, Value.agg #[Value.int IntKind.i64 o.op, Value.int IntKind.i64 o.a, Value.int IntKind.i64 o.b, Value.int IntKind.i64 o.c], Value.bool true, Value.bool false, Value.bool false, Value.bool false, Value.int IntKind.i64 lim, Value.bool true, Value.bool false, Value.bool false, undef, Value.agg #[Value.slice A n c, Value.slice R m d], Value.agg #[Value.int IntKind.i64 o.op, Value.int IntKind.i64 o.a, Value.int IntKind.i64 o.b, Value.int IntKind.i64 o.c], Value.bool true, Value.bool false, undef, undef, Value.agg #[Value.slice A n c, Value.slice R m d], Value.agg #[Value.slice A5 n5 c5, Value.slice R5 m5 d5], Value.pointer (some { block := w.heap.size + 1, off := 0 }), Value.int IntKind.i64 o.op, Value.bool false, Value.bool false, undef, undef, undef, undef, Value.bool false, undef, undef, undef, undef, undef, undef, undef, undef, undef, undef, t50, t51, t52, t53, t54], defers := [] } ∧ (L 5 = false → Below w6.heap.size w6 ww) ∧ (Below w.heap.size w ww) ∧ (L 5 = false → Rw ww (w.heap.size + 1 + 1) 26 #[.slice none 0 0, .slice none 0 0]) ∧ (L 5 = true → ∀ q, q < 5 → L q = true) ∧ (L 0 = true → t50 = heapV A5 n5 c5 R5 m5 d5) ∧ (L 1 = true → t51 = cmV o) ∧ (L 2 = true → t52 = heapV A5 n5 c5 R5 m5 d5) ∧ (L 3 = true → t53 = .int .i64 (Hps.gapH (h) : Nat)) ∧ (L 4 = true → ∃ (A7 : Option Addr) (n7 c7 : Nat) (R7 : Option Addr) (m7 d7 : Nat), t54 = heapV A7 n7 c7 R7 m7 d7 ∧ OwnH ww w6.heap.size (.slice A7 n7 c7) (.slice R7 m7 d7) (Hps.doH (h) o (Hps.gapH (h)))) ∧ (L 5 = true → ∃ (A7 : Option Addr) (n7 c7 : Nat) (R7 : Option Addr) (m7 d7 : Nat), Rw ww (w.heap.size + 1 + 1) 26 #[.slice A7 n7 c7, .slice R7 m7 d7] ∧ OwnH ww w6.heap.size (.slice A7 n7 c7) (.slice R7 m7 d7) (Hps.doH (h) o (Hps.gapH (h)))) ∧ (L 6 = true → t7 = .bool true)) ?h0 ?hstep ?hdone
    case h0 => exact ⟨_, _, _, _, _, _, rfl, fun _ => (Below.refl _ _).drew, b2.drew, fun _ => q3.keep (Below.refl _ _).drew q3.lt, fun h => absurd h Bool.false_ne_true, (fun h => absurd h Bool.false_ne_true), (fun h => absurd h Bool.false_ne_true), (fun h => absurd h Bool.false_ne_true), (fun h => absurd h Bool.false_ne_true), (fun h => absurd h Bool.false_ne_true), (fun h => absurd h Bool.false_ne_true), (fun h => absurd h Bool.false_ne_true)⟩
    case hstep =>
      rintro L ac ww i o ho hL hd ⟨t7, t50, t51, t52, t53, t54, rfl, I0, I1, I2, I3, f0, f1, f2, f3, f4, f5, f6⟩
      have hi : i < 7 := (Array.getElem?_eq_some_iff.1 ho).1
      obtain rfl | rfl | rfl | rfl | rfl | rfl | rfl : i = 0 ∨ i = 1 ∨ i = 2 ∨ i = 3 ∨ i = 4 ∨ i = 5 ∨ i = 6 := by omega
      · obtain rfl := Option.some.inj ho
        have h5 : L 5 = false := by
          cases e : L 5
          · rfl
          · exact absurd (I3 e 0 (by omega)) (by rw [hL]; decide)
        have J0 := I0 h5
        have v0 : ww.cell? ⟨b, 0, none⟩ = some (.slice A5 n5 c5) := (bx.keep J0 hbl).cell 0
        have v1 : ww.cell? ⟨b, 1, none⟩ = some (.slice R5 m5 d5) := (bx.keep J0 hbl).cell 1
        refine wpOp_step rfl (fun K' hK => ?_)
        go_simp
        refine hK _ _ ?_
        exact ⟨_, _, _, _, _, _, rfl, (fun h => I0 ((upd_other (by decide)).symm.trans h)), (I1), (fun h => I2 ((upd_other (by decide)).symm.trans h)), (fun h q hq => upd_mono (I3 (upd_ne h (by decide)) q hq)), (fun _ => rfl), (kp f1), (kp f2), (kp f3), (kp f4), (kp f5), (kp f6)⟩
      · obtain rfl := Option.some.inj ho
        have h5 : L 5 = false := by
          cases e : L 5
          · rfl
          · exact absurd (I3 e 1 (by omega)) (by rw [hL]; decide)
        have J0 := I0 h5
        have v0 : ww.cell? ⟨w.heap.size + 1, 0, none⟩ = some (.int .i64 o.op) := (q2.keep J0 hql).cell 0
        have v1 : ww.cell? ⟨w.heap.size + 1, 1, none⟩ = some (.int .i64 o.a) := (q2.keep J0 hql).cell 1
        have v2 : ww.cell? ⟨w.heap.size + 1, 2, none⟩ = some (.int .i64 o.b) := (q2.keep J0 hql).cell 2
        have v3 : ww.cell? ⟨w.heap.size + 1, 3, none⟩ = some (.int .i64 o.c) := (q2.keep J0 hql).cell 3
        refine wpOp_step rfl (fun K' hK => ?_)
        go_simp
        refine hK _ _ ?_
        exact ⟨_, _, _, _, _, _, rfl, (fun h => I0 ((upd_other (by decide)).symm.trans h)), (I1), (fun h => I2 ((upd_other (by decide)).symm.trans h)), (fun h q hq => upd_mono (I3 (upd_ne h (by decide)) q hq)), (kp f0), (fun _ => rfl), (kp f2), (kp f3), (kp f4), (kp f5), (kp f6)⟩
      · obtain rfl := Option.some.inj ho
        have h5 : L 5 = false := by
          cases e : L 5
          · rfl
          · exact absurd (I3 e 2 (by omega)) (by rw [hL]; decide)
        have J0 := I0 h5
        have v0 : ww.cell? ⟨b, 0, none⟩ = some (.slice A5 n5 c5) := (bx.keep J0 hbl).cell 0
        have v1 : ww.cell? ⟨b, 1, none⟩ = some (.slice R5 m5 d5) := (bx.keep J0 hbl).cell 1
        refine wpOp_step rfl (fun K' hK => ?_)
        go_simp
        refine hK _ _ ?_
        exact ⟨_, _, _, _, _, _, rfl, (fun h => I0 ((upd_other (by decide)).symm.trans h)), (I1), (fun h => I2 ((upd_other (by decide)).symm.trans h)), (fun h q hq => upd_mono (I3 (upd_ne h (by decide)) q hq)), (kp f0), (kp f1), (fun _ => rfl), (kp f3), (kp f4), (kp f5), (kp f6)⟩
      · obtain rfl := Option.some.inj ho
        have g2 := f2 (hd ⟨2, .data⟩ (by simp) rfl)
        subst g2
        have h5 : L 5 = false := by
          cases e : L 5
          · rfl
          · exact absurd (I3 e 3 (by omega)) (by rw [hL]; decide)
        have J0 := I0 h5
        refine wpOp_step rfl (fun K' hK => ?_)
        go_simp
        refine (mPlace_any _ _ _ _ _ _ (h) ww (s5.up J0) (by omega)).mono ?_
        rintro e w' ⟨rfl, b5⟩
        refine hK _ _ ?_
        exact ⟨_, _, _, _, _, _, rfl, (fun _ => J0.trans (b5.mono J0.size)), (I1.trans (b5.mono I1.size)), (fun h => (I2 h5).keep b5 (I2 h5).lt), (fun h q hq => upd_mono (I3 (upd_ne h (by decide)) q hq)), (kp f0), (kp f1), (kp f2), (fun _ => rfl), (fun h => by
          obtain ⟨A7, n7, c7, R7, m7, d7, e7, o7⟩ := f4 (upd_ne h (by decide))
          exact ⟨A7, n7, c7, R7, m7, d7, e7, o7.below b5 (Nat.le_refl _)⟩), (fun h => absurd ((upd_other (by decide)).symm.trans h) (by rw [h5]; decide)), (kp f6)⟩
      · obtain rfl := Option.some.inj ho
        have g0 := f0 (hd ⟨0, .data⟩ (by simp) rfl)
        have g1 := f1 (hd ⟨1, .data⟩ (by simp) rfl)
        have g3 := f3 (hd ⟨3, .data⟩ (by simp) rfl)
        subst g0
        subst g1
        subst g3
        have h5 : L 5 = false := by
          cases e : L 5
          · rfl
          · exact absurd (I3 e 4 (by omega)) (by rw [hL]; decide)
        have J0 := I0 h5
        refine wpOp_step rfl (fun K' hK => ?_)
        go_simp
        refine (l8Do_any A5 R5 n5 c5 m5 d5 (h) o (Hps.gapH (h)) ww (s5.up J0) HCX.out (fun _ => HG5.out)).mono ?_
        rintro e w' ⟨vc7, vr7, rfl, o7, b5⟩
        obtain ⟨A7, n7, c7, R7, m7, d7, rfl, rfl⟩ := o7.slices
        refine hK _ _ ?_
        exact ⟨_, _, _, _, _, _, rfl, (fun _ => J0.trans (b5.mono J0.size)), (I1.trans (b5.mono I1.size)), (fun h => (I2 h5).keep b5 (I2 h5).lt), (fun h q hq => upd_mono (I3 (upd_ne h (by decide)) q hq)), (kp f0), (kp f1), (kp f2), (kp f3), (fun _ => ⟨A7, n7, c7, R7, m7, d7, rfl, o7.base J0.size⟩), (fun h => absurd ((upd_other (by decide)).symm.trans h) (by rw [h5]; decide)), (kp f6)⟩
      · obtain rfl := Option.some.inj ho
        have g4 := f4 (hd ⟨4, .data⟩ (by simp) rfl)
        obtain ⟨A7, n7, c7, R7, m7, d7, rfl, o7⟩ := g4
        have rz := I2 hL
        have u0 := rz.cell 0
        have u1 := rz.cell 1
        have v0 := rz.frozen 0
        have v1 := rz.frozen 1
        simp at u0 u1
        refine wpOp_step rfl (fun K' hK => ?_)
        go_simp
        refine hK _ _ ?_
        exact ⟨_, _, _, _, _, _, rfl, (fun h => absurd (upd_self.symm.trans h) (by decide)), ((I1.setCell (p := ⟨w.heap.size + 1 + 1, 0, none⟩) (by show w.heap.size ≤ w.heap.size + 1 + 1; omega) _).setCell (p := ⟨w.heap.size + 1 + 1, 1, none⟩) (by show w.heap.size ≤ w.heap.size + 1 + 1; omega) _), (fun h => absurd (upd_self.symm.trans h) (by decide)), (fun _ q hq => upd_mono (by
          obtain rfl | rfl | rfl | rfl | rfl : q = 0 ∨ q = 1 ∨ q = 2 ∨ q = 3 ∨ q = 4 := by omega
          all_goals exact hd ⟨_, .phase⟩ (by simp) rfl)), (kp f0), (kp f1), (kp f2), (kp f3), (fun _ => ⟨A7, n7, c7, R7, m7, d7, rfl, o7.put (by omega) _ _⟩), (fun _ => ⟨A7, n7, c7, R7, m7, d7, (rz.put 0 _).put 1 _, o7.put (by omega) _ _⟩), (kp f6)⟩
      · obtain rfl := Option.some.inj ho
        refine wpOp_step rfl (fun K' hK => ?_)
        go_simp
        refine hK _ _ ?_
        exact ⟨_, _, _, _, _, _, rfl, (fun h => I0 ((upd_other (by decide)).symm.trans h)), (I1), (fun h => I2 ((upd_other (by decide)).symm.trans h)), (fun h q hq => upd_mono (I3 (upd_ne h (by decide)) q hq)), (kp f0), (kp f1), (kp f2), (kp f3), (kp f4), (kp f5), (fun _ => rfl)⟩
    case hdone =>
      rintro L ac ww hall ⟨t7, t50, t51, t52, t53, t54, rfl, I0, I1, I2, I3, f0, f1, f2, f3, f4, f5, f6⟩
      have e0 := f0 (hall 0 (by decide))
      have e1 := f1 (hall 1 (by decide))
      have e2 := f2 (hall 2 (by decide))
      have e3 := f3 (hall 3 (by decide))
      have e4 := f4 (hall 4 (by decide))
      have e5 := f5 (hall 5 (by decide))
      have e6 := f6 (hall 6 (by decide))
      clear f0 f1 f2 f3 f4 f5 f6
      obtain ⟨A7, n7, c7, R7, m7, d7, r7, o7⟩ := e5
      subst e6
      have q0 := r7.cell 0
      have q5 := r7.cell 1
      simp at q0 q5
      have D := Lib.hid (And.intro (o7.base (base' := w.heap.size) (by have := b2.size; omega)) I1)
      clear e0 e1 e2 e3 e4 I0 I1 I2 I3 hall o7 r7
      go_wp2_with fail
      exact bodyPost_ret (v := .tuple #[.agg #[.slice A7 n7 c7, .slice R7 m7 d7], .bool true]) (by simp [results, Tryd.results37, go_sem, *]) rfl ⟨_, _, by rw [HF.out], by rw [HF.out]; exact D.out.1, D.out.2⟩
  have ht : (o.op == (1 : Int)) = true := by rw [h1]; rfl
  obtain ⟨gp, hgp⟩ : ∃ gp, Hps.gapH h = gp := ⟨_, rfl⟩
  have HGP := Lib.hid hgp
  have HP1 := Lib.hid (mPlace_any A5 R5 n5 c5 m5 d5 h w6 s5 (by omega))
  rw [hgp] at HP1
  have HO1 := Lib.hid h1
  clear hgp h1
  have z0 : w6.cell? ⟨w.heap.size + 1, 0, none⟩ = some (.int .i64 o.op) := q2.cell 0
  have z1 : w6.cell? ⟨w.heap.size + 1, 1, none⟩ = some (.int .i64 o.a) := q2.cell 1
  have z2 : w6.cell? ⟨w.heap.size + 1, 2, none⟩ = some (.int .i64 o.b) := q2.cell 2
  have z3 : w6.cell? ⟨w.heap.size + 1, 3, none⟩ = some (.int .i64 o.c) := q2.cell 3
  have y0 : w6.cell? ⟨b, 0, none⟩ = some (.slice A5 n5 c5) := bx.cell 0
  have y1 : w6.cell? ⟨b, 1, none⟩ = some (.slice R5 m5 d5) := bx.cell 1
  go_wp2_with fail
  refine HP1.out.mono ?_
  rintro e w7 ⟨rfl, b1⟩
  replace bx := bx.keep b1 bx.lt
  replace q2 := q2.keep b1 q2.lt
  replace q3 := q3.keep b1 q3.lt
  replace b2 := b2.trans (b1.mono b2.size)
  replace s5 := s5.up b1
  clear b1 z0 z1 z2 z3 y0 y1 HP1
  by_cases hgl : lim ≤ (gp : Int)
  case neg =>
    have hge : ¬ (gp : Int) ≥ lim := by omega
    have hroom := Hps.room_free (h := h) (limit := lim) (o := o) (by rw [HGP.out]; exact hgl)
    have HF := Lib.hid (Hps.stepSw_does HE.out HC.out (fun e => by rw [hroom, HGP.out] at e; exact hgl e.2))
    rw [hroom] at HF
    have HCX := HC
    clear hgl hroom oh
    have z0 : w7.cell? ⟨w.heap.size + 1, 0, none⟩ = some (.int .i64 o.op) := q2.cell 0
    have z1 : w7.cell? ⟨w.heap.size + 1, 1, none⟩ = some (.int .i64 o.a) := q2.cell 1
    have z2 : w7.cell? ⟨w.heap.size + 1, 2, none⟩ = some (.int .i64 o.b) := q2.cell 2
    have z3 : w7.cell? ⟨w.heap.size + 1, 3, none⟩ = some (.int .i64 o.c) := q2.cell 3
    have y0 : w7.cell? ⟨b, 0, none⟩ = some (.slice A5 n5 c5) := bx.cell 0
    have y1 : w7.cell? ⟨b, 1, none⟩ = some (.slice R5 m5 d5) := bx.cell 1
    have hg5 : Hps.gapH (h) ≤ n5 := by have := Hps.gapH_le (h); rw [s5.cells.1] at this; exact this
    have HG5 := Lib.hid hg5
    have hbl := bx.lt
    have hql := q2.lt
    have hGl := q3.lt
    clear hg5
    go_upto_region 10 with fail
    clear z0 z1 z2 z3 y0 y1
    refine wp_region_inv (by kernel_rfl) (by kernel_rfl) (fun L ac ww => ∃ t7 t50 t51 t52 t53 t54 : Value, ac = { tmps := #[heapV A n c R m d, Value.int IntKind.i64 lim, cmV o, Value.pointer (some { block := w.heap.size, off := 0 }), undef, Value.pointer (some { block := w.heap.size + 1, off := 0 }), Value.pointer (some { block := w.heap.size + 1 + 1, off := 0 }), t7, Value.pointer (some { block := b, off := 0 }), Value.agg #[Value.slice A n c, Value.slice R m d], Value.bool true, Value.bool false, Value.bool false, Value.agg #[Value.int IntKind.i64 o.op, Value.int IntKind.i64 o.a, Value.int IntKind.i64 o.b, Value.int IntKind.i64 o.c], Value.bool true, Value.bool false, Value.bool false, Value.bool false, Value.int IntKind.i64 lim, Value.bool true, Value.bool false, Value.bool false, undef, Value.agg #[Value.slice A n c, Value.slice R m d], Value.agg #[Value.int IntKind.i64 o.op, Value.int IntKind.i64 o.a, Value.int IntKind.i64 o.b, Value.int IntKind.i64 o.c], Value.bool true, Value.bool false, undef, undef, Value.agg #[Value.slice A n c, Value.slice R m d], Value.agg #[Value.slice A5 n5 c5, Value.slice R5 m5 d5], Value.pointer (some { block := w.heap.size + 1, off := 0 }), Value.int IntKind.i64 o.op, Value.bool true, Value.bool true, Value.agg #[Value.slice A5 n5 c5, Value.slice R5 m5 d5], Value.int IntKind.i64 ↑gp, Value.int IntKind.i64 lim, Value.bool (decide (lim ≤ ↑gp)), Value.bool (decide (lim ≤ ↑gp)), undef, undef, undef, undef, undef, undef, undef, undef, undef, undef, t50, t51, t52, t53, t54], defers := [] } ∧ (L 5 = false → Below w7.heap.size w7 ww) ∧ (Below w.heap.size w ww) ∧ (L 5 = false → Rw ww (w.heap.size + 1 + 1) 26 #[.slice none 0 0, .slice none 0 0]) ∧ (L 5 = true → ∀ q, q < 5 → L q = true) ∧ (L 0 = true → t50 = heapV A5 n5 c5 R5 m5 d5) ∧ (L 1 = true → t51 = cmV o) ∧ (L 2 = true → t52 = heapV A5 n5 c5 R5 m5 d5) ∧ (L 3 = true → t53 = .int .i64 (Hps.gapH (h) : Nat)) ∧ (L 4 = true → ∃ (A7 : Option Addr) (n7 c7 : Nat) (R7 : Option Addr) (m7 d7 : Nat), t54 = heapV A7 n7 c7 R7 m7 d7 ∧ OwnH ww w7.heap.size (.slice A7 n7 c7) (.slice R7 m7 d7) (Hps.doH (h) o (Hps.gapH (h)))) ∧ (L 5 = true → ∃ (A7 : Option Addr) (n7 c7 : Nat) (R7 : Option Addr) (m7 d7 : Nat), Rw ww (w.heap.size + 1 + 1) 26 #[.slice A7 n7 c7, .slice R7 m7 d7] ∧ OwnH ww w7.heap.size (.slice A7 n7 c7) (.slice R7 m7 d7) (Hps.doH (h) o (Hps.gapH (h)))) ∧ (L 6 = true → t7 = .bool true)) ?h0 ?hstep ?hdone
    case h0 => exact ⟨_, _, _, _, _, _, rfl, fun _ => (Below.refl _ _).drew, b2.drew, fun _ => q3.keep (Below.refl _ _).drew q3.lt, fun h => absurd h Bool.false_ne_true, (fun h => absurd h Bool.false_ne_true), (fun h => absurd h Bool.false_ne_true), (fun h => absurd h Bool.false_ne_true), (fun h => absurd h Bool.false_ne_true), (fun h => absurd h Bool.false_ne_true), (fun h => absurd h Bool.false_ne_true), (fun h => absurd h Bool.false_ne_true)⟩
    case hstep =>
      rintro L ac ww i o ho hL hd ⟨t7, t50, t51, t52, t53, t54, rfl, I0, I1, I2, I3, f0, f1, f2, f3, f4, f5, f6⟩
      have hi : i < 7 := (Array.getElem?_eq_some_iff.1 ho).1
      obtain rfl | rfl | rfl | rfl | rfl | rfl | rfl : i = 0 ∨ i = 1 ∨ i = 2 ∨ i = 3 ∨ i = 4 ∨ i = 5 ∨ i = 6 := by omega
      · obtain rfl := Option.some.inj ho
        have h5 : L 5 = false := by
          cases e : L 5
          · rfl
          · exact absurd (I3 e 0 (by omega)) (by rw [hL]; decide)
        have J0 := I0 h5
        have v0 : ww.cell? ⟨b, 0, none⟩ = some (.slice A5 n5 c5) := (bx.keep J0 hbl).cell 0
        have v1 : ww.cell? ⟨b, 1, none⟩ = some (.slice R5 m5 d5) := (bx.keep J0 hbl).cell 1
        refine wpOp_step rfl (fun K' hK => ?_)
        go_simp
        refine hK _ _ ?_
        exact ⟨_, _, _, _, _, _, rfl, (fun h => I0 ((upd_other (by decide)).symm.trans h)), (I1), (fun h => I2 ((upd_other (by decide)).symm.trans h)), (fun h q hq => upd_mono (I3 (upd_ne h (by decide)) q hq)), (fun _ => rfl), (kp f1), (kp f2), (kp f3), (kp f4), (kp f5), (kp f6)⟩
      · obtain rfl := Option.some.inj ho
        have h5 : L 5 = false := by
          cases e : L 5
          · rfl
          · exact absurd (I3 e 1 (by omega)) (by rw [hL]; decide)
        have J0 := I0 h5
        have v0 : ww.cell? ⟨w.heap.size + 1, 0, none⟩ = some (.int .i64 o.op) := (q2.keep J0 hql).cell 0
        have v1 : ww.cell? ⟨w.heap.size + 1, 1, none⟩ = some (.int .i64 o.a) := (q2.keep J0 hql).cell 1
        have v2 : ww.cell? ⟨w.heap.size + 1, 2, none⟩ = some (.int .i64 o.b) := (q2.keep J0 hql).cell 2
        have v3 : ww.cell? ⟨w.heap.size + 1, 3, none⟩ = some (.int .i64 o.c) := (q2.keep J0 hql).cell 3
        refine wpOp_step rfl (fun K' hK => ?_)
        go_simp
        refine hK _ _ ?_
        exact ⟨_, _, _, _, _, _, rfl, (fun h => I0 ((upd_other (by decide)).symm.trans h)), (I1), (fun h => I2 ((upd_other (by decide)).symm.trans h)), (fun h q hq => upd_mono (I3 (upd_ne h (by decide)) q hq)), (kp f0), (fun _ => rfl), (kp f2), (kp f3), (kp f4), (kp f5), (kp f6)⟩
      · obtain rfl := Option.some.inj ho
        have h5 : L 5 = false := by
          cases e : L 5
          · rfl
          · exact absurd (I3 e 2 (by omega)) (by rw [hL]; decide)
        have J0 := I0 h5
        have v0 : ww.cell? ⟨b, 0, none⟩ = some (.slice A5 n5 c5) := (bx.keep J0 hbl).cell 0
        have v1 : ww.cell? ⟨b, 1, none⟩ = some (.slice R5 m5 d5) := (bx.keep J0 hbl).cell 1
        refine wpOp_step rfl (fun K' hK => ?_)
        go_simp
        refine hK _ _ ?_
        exact ⟨_, _, _, _, _, _, rfl, (fun h => I0 ((upd_other (by decide)).symm.trans h)), (I1), (fun h => I2 ((upd_other (by decide)).symm.trans h)), (fun h q hq => upd_mono (I3 (upd_ne h (by decide)) q hq)), (kp f0), (kp f1), (fun _ => rfl), (kp f3), (kp f4), (kp f5), (kp f6)⟩
      · obtain rfl := Option.some.inj ho
        have g2 := f2 (hd ⟨2, .data⟩ (by simp) rfl)
        subst g2
        have h5 : L 5 = false := by
          cases e : L 5
          · rfl
          · exact absurd (I3 e 3 (by omega)) (by rw [hL]; decide)
        have J0 := I0 h5
        refine wpOp_step rfl (fun K' hK => ?_)
        go_simp
        refine (mPlace_any _ _ _ _ _ _ (h) ww (s5.up J0) (by omega)).mono ?_
        rintro e w' ⟨rfl, b5⟩
        refine hK _ _ ?_
        exact ⟨_, _, _, _, _, _, rfl, (fun _ => J0.trans (b5.mono J0.size)), (I1.trans (b5.mono I1.size)), (fun h => (I2 h5).keep b5 (I2 h5).lt), (fun h q hq => upd_mono (I3 (upd_ne h (by decide)) q hq)), (kp f0), (kp f1), (kp f2), (fun _ => rfl), (fun h => by
          obtain ⟨A7, n7, c7, R7, m7, d7, e7, o7⟩ := f4 (upd_ne h (by decide))
          exact ⟨A7, n7, c7, R7, m7, d7, e7, o7.below b5 (Nat.le_refl _)⟩), (fun h => absurd ((upd_other (by decide)).symm.trans h) (by rw [h5]; decide)), (kp f6)⟩
      · obtain rfl := Option.some.inj ho
        have g0 := f0 (hd ⟨0, .data⟩ (by simp) rfl)
        have g1 := f1 (hd ⟨1, .data⟩ (by simp) rfl)
        have g3 := f3 (hd ⟨3, .data⟩ (by simp) rfl)
        subst g0
        subst g1
        subst g3
        have h5 : L 5 = false := by
          cases e : L 5
          · rfl
          · exact absurd (I3 e 4 (by omega)) (by rw [hL]; decide)
        have J0 := I0 h5
        refine wpOp_step rfl (fun K' hK => ?_)
        go_simp
        refine (l8Do_any A5 R5 n5 c5 m5 d5 (h) o (Hps.gapH (h)) ww (s5.up J0) HCX.out (fun _ => HG5.out)).mono ?_
        rintro e w' ⟨vc7, vr7, rfl, o7, b5⟩
        obtain ⟨A7, n7, c7, R7, m7, d7, rfl, rfl⟩ := o7.slices
        refine hK _ _ ?_
        exact ⟨_, _, _, _, _, _, rfl, (fun _ => J0.trans (b5.mono J0.size)), (I1.trans (b5.mono I1.size)), (fun h => (I2 h5).keep b5 (I2 h5).lt), (fun h q hq => upd_mono (I3 (upd_ne h (by decide)) q hq)), (kp f0), (kp f1), (kp f2), (kp f3), (fun _ => ⟨A7, n7, c7, R7, m7, d7, rfl, o7.base J0.size⟩), (fun h => absurd ((upd_other (by decide)).symm.trans h) (by rw [h5]; decide)), (kp f6)⟩
      · obtain rfl := Option.some.inj ho
        have g4 := f4 (hd ⟨4, .data⟩ (by simp) rfl)
        obtain ⟨A7, n7, c7, R7, m7, d7, rfl, o7⟩ := g4
        have rz := I2 hL
        have u0 := rz.cell 0
        have u1 := rz.cell 1
        have v0 := rz.frozen 0
        have v1 := rz.frozen 1
        simp at u0 u1
        refine wpOp_step rfl (fun K' hK => ?_)
        go_simp
        refine hK _ _ ?_
        exact ⟨_, _, _, _, _, _, rfl, (fun h => absurd (upd_self.symm.trans h) (by decide)), ((I1.setCell (p := ⟨w.heap.size + 1 + 1, 0, none⟩) (by show w.heap.size ≤ w.heap.size + 1 + 1; omega) _).setCell (p := ⟨w.heap.size + 1 + 1, 1, none⟩) (by show w.heap.size ≤ w.heap.size + 1 + 1; omega) _), (fun h => absurd (upd_self.symm.trans h) (by decide)), (fun _ q hq => upd_mono (by
          obtain rfl | rfl | rfl | rfl | rfl : q = 0 ∨ q = 1 ∨ q = 2 ∨ q = 3 ∨ q = 4 := by omega
          all_goals exact hd ⟨_, .phase⟩ (by simp) rfl)), (kp f0), (kp f1), (kp f2), (kp f3), (fun _ => ⟨A7, n7, c7, R7, m7, d7, rfl, o7.put (by omega) _ _⟩), (fun _ => ⟨A7, n7, c7, R7, m7, d7, (rz.put 0 _).put 1 _, o7.put (by omega) _ _⟩), (kp f6)⟩
      · obtain rfl := Option.some.inj ho
        refine wpOp_step rfl (fun K' hK => ?_)
        go_simp
        refine hK _ _ ?_
        exact ⟨_, _, _, _, _, _, rfl, (fun h => I0 ((upd_other (by decide)).symm.trans h)), (I1), (fun h => I2 ((upd_other (by decide)).symm.trans h)), (fun h q hq => upd_mono (I3 (upd_ne h (by decide)) q hq)), (kp f0), (kp f1), (kp f2), (kp f3), (kp f4), (kp f5), (fun _ => rfl)⟩
    case hdone =>
      rintro L ac ww hall ⟨t7, t50, t51, t52, t53, t54, rfl, I0, I1, I2, I3, f0, f1, f2, f3, f4, f5, f6⟩
      have e0 := f0 (hall 0 (by decide))
      have e1 := f1 (hall 1 (by decide))
      have e2 := f2 (hall 2 (by decide))
      have e3 := f3 (hall 3 (by decide))
      have e4 := f4 (hall 4 (by decide))
      have e5 := f5 (hall 5 (by decide))
      have e6 := f6 (hall 6 (by decide))
      clear f0 f1 f2 f3 f4 f5 f6
      obtain ⟨A7, n7, c7, R7, m7, d7, r7, o7⟩ := e5
      subst e6
      have q0 := r7.cell 0
      have q5 := r7.cell 1
      simp at q0 q5
      have D := Lib.hid (And.intro (o7.base (base' := w.heap.size) (by have := b2.size; omega)) I1)
      clear e0 e1 e2 e3 e4 I0 I1 I2 I3 hall o7 r7
      go_wp2_with fail
      exact bodyPost_ret (v := .tuple #[.agg #[.slice A7 n7 c7, .slice R7 m7 d7], .bool true]) (by simp [results, Tryd.results37, go_sem, *]) rfl ⟨_, _, by rw [HF.out], by rw [HF.out]; exact D.out.1, D.out.2⟩
  have hge : (gp : Int) ≥ lim := by omega
  have hroom := Hps.room_full (h := h) (limit := lim) HO1.out (by rw [HGP.out]; exact hgl)
  have HRM := Lib.hid hroom
  have hx40 : (Hps.sweptH h).cs.length ≤ 40 := by rw [Hps.swept_len]; exact (Hps.valid_iff.1 HE.out.1).2.1
  have hx4 : (Hps.sweptH h).rt.length = 4 := (Hps.valid_iff.1 HE.out.1).2.2.1
  have hcx := Hps.room_can HE.out.1 lim HC.out
  rw [hroom] at hcx
  have HCX := Lib.hid hcx
  have HCS := Lib.hid (mCollectSweep_any A5 R5 n5 c5 m5 d5 h w7 s5 (by omega) (by omega))
  rw [Hps.collect_eq HE.out.1] at HCS
  obtain ⟨X, hX⟩ : ∃ X, Hps.sweptH h = X := ⟨_, rfl⟩
  rw [hX] at HCS HCX HRM hx40 hx4
  have HX4 := Lib.hid hx4
  have HX40 := Lib.hid hx40
  clear hgl hroom hcx hX oh hx4 hx40
  have y0 : w7.cell? ⟨b, 0, none⟩ = some (.slice A5 n5 c5) := bx.cell 0
  have y1 : w7.cell? ⟨b, 1, none⟩ = some (.slice R5 m5 d5) := bx.cell 1
  have f0 : w7.frozen? ⟨b, 0, none⟩ = false := bx.frozen 0
  go_wp2_with fail
  refine HCS.out.mono ?_
  rintro e w8 ⟨vc8, vr8, rfl, o8, b1⟩
  obtain ⟨A8, n8, c8, R8, m8, d8, rfl, rfl, s8⟩ := o8.parts
  have hbl7 := bx.lt
  replace bx := bx.keep b1 bx.lt
  replace q2 := q2.keep b1 q2.lt
  replace q3 := q3.keep b1 q3.lt
  replace b2 := b2.trans (b1.mono b2.size)
  clear b1 y0 y1 f0 HCS s5
  have hGb : w.heap.size + 1 + 1 < b := hq5
  have f0 : w8.frozen? ⟨b, 0, none⟩ = false := bx.frozen 0
  have f1 : w8.frozen? ⟨b, 1, none⟩ = false := bx.frozen 1
  have y0 : w8.cell? ⟨b, 0, none⟩ = some (.slice A5 n5 c5) := bx.cell 0
  have y1 : w8.cell? ⟨b, 1, none⟩ = some (.slice R5 m5 d5) := bx.cell 1
  have p8 := put_any w8 b 0 (.slice A8 n8 c8)
  have p9 := put_any (w8.setCell ⟨b, 0, none⟩ (.slice A8 n8 c8)) b 1 (.slice R8 m8 d8)
  replace bx := (bx.put 0 (.slice A8 n8 c8)).put 1 (.slice R8 m8 d8)
  replace q2 := (q2.other (g' := b) (i := 0) (by omega) (.slice A8 n8 c8)).other (g' := b) (i := 1) (by omega) (.slice R8 m8 d8)
  replace q3 := (q3.other (g' := b) (i := 0) (by omega) (.slice A8 n8 c8)).other (g' := b) (i := 1) (by omega) (.slice R8 m8 d8)
  replace o8 := (OwnH.put o8 hbl7 (.slice A8 n8 c8) (.slice R8 m8 d8)).base (base' := w.heap.size + 3) (by omega)
  obtain ⟨A9, n9, c9, R9, m9, d9, e9, e10, s9⟩ := o8.parts
  injection e9 with e9 e9b e9c
  injection e10 with e10 e10b e10c
  subst e9 e9b e9c e10 e10b e10c
  replace b2 := (b2.setCell (p := ⟨b, 0, none⟩) (by show w.heap.size ≤ b; omega) (.slice A8 n8 c8)).setCell (p := ⟨b, 1, none⟩) (by show w.heap.size ≤ b; omega) (.slice R8 m8 d8)
  clear s8 hbl7 p8 p9
  go_upto_region 8 with fail
  clear f0 f1 y0 y1
  generalize (w8.setCell ⟨b, 0, none⟩ (.slice A8 n8 c8)).setCell ⟨b, 1, none⟩ (.slice R8 m8 d8) = w9 at bx q2 q3 o8 s9 b2 ⊢
  have hn8 : n8 ≤ 40 := by rw [← s9.cells.1]; exact HX40.out
  have hm8 : m8 ≤ 4 := by rw [← s9.roots.1, HX4.out]; exact Nat.le_refl _
  clear hn5 hm5 HX4 HX40
  have hn5 := hn8
  have hm5 := hm8
  have s5 := s9
  clear s9 hn8 hm8
  obtain ⟨gx, hgx⟩ : ∃ gx, Hps.gapH X = gx := ⟨_, rfl⟩
  have HGX := Lib.hid hgx
  have HP2 := Lib.hid (mPlace_any A8 R8 n8 c8 m8 d8 X w9 s5 (by omega))
  rw [hgx] at HP2
  clear hgx
  have y0 : w9.cell? ⟨b, 0, none⟩ = some (.slice A8 n8 c8) := bx.cell 0
  have y1 : w9.cell? ⟨b, 1, none⟩ = some (.slice R8 m8 d8) := bx.cell 1
  go_wp2_with fail
  refine HP2.out.mono ?_
  rintro e w10 ⟨rfl, b1⟩
  replace bx := bx.keep b1 bx.lt
  replace q2 := q2.keep b1 q2.lt
  replace q3 := q3.keep b1 q3.lt
  replace b2 := b2.trans (b1.mono b2.size)
  replace s5 := s5.up b1
  replace o8 := o8.below b1 (Nat.le_refl _)
  clear b1 y0 y1 HP2
  by_cases hgl : lim ≤ (gx : Int)
  · have hge2 : (gx : Int) ≥ lim := by omega
    have HF := Lib.hid (Hps.stepSw_full HE.out HC.out ⟨HO1.out, by rw [HRM.out, HGX.out]; exact hgl⟩)
    rw [HRM.out] at HF
    clear hgl
    have y0 : w10.cell? ⟨b, 0, none⟩ = some (.slice A8 n8 c8) := bx.cell 0
    have y1 : w10.cell? ⟨b, 1, none⟩ = some (.slice R8 m8 d8) := bx.cell 1
    have r2 : (w10).frozen? ⟨w.heap.size + 1 + 1, 0, none⟩ = false := q3.frozen 0
    have r3 : (w10).frozen? ⟨w.heap.size + 1 + 1, 1, none⟩ = false := q3.frozen 1
    have r5 : (w10).cell? ⟨w.heap.size + 1 + 1, 0, none⟩ = some (.slice none 0 0) := q3.cell 0
    have r6 : (w10).cell? ⟨w.heap.size + 1 + 1, 1, none⟩ = some (.slice none 0 0) := q3.cell 1
    have q4 := (q3.put 0 (.slice A8 n8 c8)).put 1 (.slice R8 m8 d8)
    have r8 : (((w10).setCell ⟨w.heap.size + 1 + 1, 0, none⟩ (.slice A8 n8 c8)).setCell ⟨w.heap.size + 1 + 1, 1, none⟩ (.slice R8 m8 d8)).cell? ⟨w.heap.size + 1 + 1, 0, none⟩ = some (.slice A8 n8 c8) := q4.cell 0
    have r9 : (((w10).setCell ⟨w.heap.size + 1 + 1, 0, none⟩ (.slice A8 n8 c8)).setCell ⟨w.heap.size + 1 + 1, 1, none⟩ (.slice R8 m8 d8)).cell? ⟨w.heap.size + 1 + 1, 1, none⟩ = some (.slice R8 m8 d8) := q4.cell 1
    have D := Lib.hid (o8.out (g := w.heap.size + 1 + 1) (by omega) b2 (by omega))
    clear q2 q3 q4 o8 b2 s5
    go_wp2_with fail
    exact bodyPost_ret (v := .tuple #[.agg #[.slice A8 n8 c8, .slice R8 m8 d8], .bool false]) (by simp [results, Tryd.results37, go_sem, *]) rfl ⟨_, _, by rw [HF.out], by rw [HF.out]; exact D.out.1, D.out.2⟩
  · have hge2 : ¬ (gx : Int) ≥ lim := by omega
    have HF := Lib.hid (Hps.stepSw_does HE.out HC.out (fun e => by rw [HRM.out, HGX.out] at e; exact hgl e.2))
    rw [HRM.out] at HF
    clear hgl o8
    have z0 : w10.cell? ⟨w.heap.size + 1, 0, none⟩ = some (.int .i64 o.op) := q2.cell 0
    have z1 : w10.cell? ⟨w.heap.size + 1, 1, none⟩ = some (.int .i64 o.a) := q2.cell 1
    have z2 : w10.cell? ⟨w.heap.size + 1, 2, none⟩ = some (.int .i64 o.b) := q2.cell 2
    have z3 : w10.cell? ⟨w.heap.size + 1, 3, none⟩ = some (.int .i64 o.c) := q2.cell 3
    have y0 : w10.cell? ⟨b, 0, none⟩ = some (.slice A8 n8 c8) := bx.cell 0
    have y1 : w10.cell? ⟨b, 1, none⟩ = some (.slice R8 m8 d8) := bx.cell 1
    have hg5 : Hps.gapH (X) ≤ n8 := by have := Hps.gapH_le (X); rw [s5.cells.1] at this; exact this
    have HG5 := Lib.hid hg5
    have hbl := bx.lt
    have hql := q2.lt
    have hGl := q3.lt
    clear hg5
    go_upto_region 10 with fail
    clear z0 z1 z2 z3 y0 y1
    refine wp_region_inv (by kernel_rfl) (by kernel_rfl) (fun L ac ww => ∃ t7 t50 t51 t52 t53 t54 : Value, ac = { tmps := #[heapV A n c R m d, Value.int IntKind.i64 lim, cmV o, Value.pointer (some { block := w.heap.size, off := 0 }), undef, Value.pointer (some { block := w.heap.size + 1, off := 0 }), Value.pointer (some { block := w.heap.size + 1 + 1, off := 0 }), t7, Value.pointer (some { block := b, off := 0 }), Value.agg #[Value.slice A n c, Value.slice R m d], Value.bool true, Value.bool false, Value.bool false, Value.agg #[Value.int IntKind.i64 o.op, Value.int IntKind.i64 o.a, Value.int IntKind.i64 o.b, Value.int IntKind.i64 o.c], Value.bool true, Value.bool false, Value.bool false, Value.bool false, Value.int IntKind.i64 lim, Value.bool true, Value.bool false, Value.bool false, undef, Value.agg #[Value.slice A n c, Value.slice R m d], Value.agg #[Value.int IntKind.i64 o.op, Value.int IntKind.i64 o.a, Value.int IntKind.i64 o.b, Value.int IntKind.i64 o.c], Value.bool true, Value.bool false, undef, undef, Value.agg #[Value.slice A n c, Value.slice R m d], Value.agg #[Value.slice A5 n5 c5, Value.slice R5 m5 d5], Value.pointer (some { block := w.heap.size + 1, off := 0 }), Value.int IntKind.i64 o.op, Value.bool true, Value.bool true, Value.agg #[Value.slice A5 n5 c5, Value.slice R5 m5 d5], Value.int IntKind.i64 ↑gp, Value.int IntKind.i64 lim, Value.bool true, Value.bool true, Value.tuple #[Value.agg #[Value.slice A8 n8 c8, Value.slice R8 m8 d8], Value.int IntKind.i64 ↑(Hps.leakL h).length], Value.agg #[Value.slice A5 n5 c5, Value.slice R5 m5 d5], Value.tuple #[Value.agg #[Value.slice A8 n8 c8, Value.slice R8 m8 d8], Value.int IntKind.i64 ↑(Hps.leakL h).length], Value.agg #[Value.slice A8 n8 c8, Value.slice R8 m8 d8], Value.int IntKind.i64 ↑(Hps.leakL h).length, Value.agg #[Value.slice A8 n8 c8, Value.slice R8 m8 d8], Value.int IntKind.i64 ↑gx, Value.int IntKind.i64 lim, Value.bool (decide (lim ≤ ↑gx)), undef, t50, t51, t52, t53, t54], defers := [] } ∧ (L 5 = false → Below w10.heap.size w10 ww) ∧ (Below w.heap.size w ww) ∧ (L 5 = false → Rw ww (w.heap.size + 1 + 1) 26 #[.slice none 0 0, .slice none 0 0]) ∧ (L 5 = true → ∀ q, q < 5 → L q = true) ∧ (L 0 = true → t50 = heapV A8 n8 c8 R8 m8 d8) ∧ (L 1 = true → t51 = cmV o) ∧ (L 2 = true → t52 = heapV A8 n8 c8 R8 m8 d8) ∧ (L 3 = true → t53 = .int .i64 (Hps.gapH (X) : Nat)) ∧ (L 4 = true → ∃ (A7 : Option Addr) (n7 c7 : Nat) (R7 : Option Addr) (m7 d7 : Nat), t54 = heapV A7 n7 c7 R7 m7 d7 ∧ OwnH ww w10.heap.size (.slice A7 n7 c7) (.slice R7 m7 d7) (Hps.doH (X) o (Hps.gapH (X)))) ∧ (L 5 = true → ∃ (A7 : Option Addr) (n7 c7 : Nat) (R7 : Option Addr) (m7 d7 : Nat), Rw ww (w.heap.size + 1 + 1) 26 #[.slice A7 n7 c7, .slice R7 m7 d7] ∧ OwnH ww w10.heap.size (.slice A7 n7 c7) (.slice R7 m7 d7) (Hps.doH (X) o (Hps.gapH (X)))) ∧ (L 6 = true → t7 = .bool true)) ?h0 ?hstep ?hdone
    case h0 => exact ⟨_, _, _, _, _, _, rfl, fun _ => (Below.refl _ _).drew, b2.drew, fun _ => q3.keep (Below.refl _ _).drew q3.lt, fun h => absurd h Bool.false_ne_true, (fun h => absurd h Bool.false_ne_true), (fun h => absurd h Bool.false_ne_true), (fun h => absurd h Bool.false_ne_true), (fun h => absurd h Bool.false_ne_true), (fun h => absurd h Bool.false_ne_true), (fun h => absurd h Bool.false_ne_true), (fun h => absurd h Bool.false_ne_true)⟩
    case hstep =>
      rintro L ac ww i o ho hL hd ⟨t7, t50, t51, t52, t53, t54, rfl, I0, I1, I2, I3, f0, f1, f2, f3, f4, f5, f6⟩
      have hi : i < 7 := (Array.getElem?_eq_some_iff.1 ho).1
      obtain rfl | rfl | rfl | rfl | rfl | rfl | rfl : i = 0 ∨ i = 1 ∨ i = 2 ∨ i = 3 ∨ i = 4 ∨ i = 5 ∨ i = 6 := by omega
      · obtain rfl := Option.some.inj ho
        have h5 : L 5 = false := by
          cases e : L 5
          · rfl
          · exact absurd (I3 e 0 (by omega)) (by rw [hL]; decide)
        have J0 := I0 h5
        have v0 : ww.cell? ⟨b, 0, none⟩ = some (.slice A8 n8 c8) := (bx.keep J0 hbl).cell 0
        have v1 : ww.cell? ⟨b, 1, none⟩ = some (.slice R8 m8 d8) := (bx.keep J0 hbl).cell 1
        refine wpOp_step rfl (fun K' hK => ?_)
        go_simp
        refine hK _ _ ?_
        exact ⟨_, _, _, _, _, _, rfl, (fun h => I0 ((upd_other (by decide)).symm.trans h)), (I1), (fun h => I2 ((upd_other (by decide)).symm.trans h)), (fun h q hq => upd_mono (I3 (upd_ne h (by decide)) q hq)), (fun _ => rfl), (kp f1), (kp f2), (kp f3), (kp f4), (kp f5), (kp f6)⟩
      · obtain rfl := Option.some.inj ho
        have h5 : L 5 = false := by
          cases e : L 5
          · rfl
          · exact absurd (I3 e 1 (by omega)) (by rw [hL]; decide)
        have J0 := I0 h5
        have v0 : ww.cell? ⟨w.heap.size + 1, 0, none⟩ = some (.int .i64 o.op) := (q2.keep J0 hql).cell 0
        have v1 : ww.cell? ⟨w.heap.size + 1, 1, none⟩ = some (.int .i64 o.a) := (q2.keep J0 hql).cell 1
        have v2 : ww.cell? ⟨w.heap.size + 1, 2, none⟩ = some (.int .i64 o.b) := (q2.keep J0 hql).cell 2
        have v3 : ww.cell? ⟨w.heap.size + 1, 3, none⟩ = some (.int .i64 o.c) := (q2.keep J0 hql).cell 3
        refine wpOp_step rfl (fun K' hK => ?_)
        go_simp
        refine hK _ _ ?_
        exact ⟨_, _, _, _, _, _, rfl, (fun h => I0 ((upd_other (by decide)).symm.trans h)), (I1), (fun h => I2 ((upd_other (by decide)).symm.trans h)), (fun h q hq => upd_mono (I3 (upd_ne h (by decide)) q hq)), (kp f0), (fun _ => rfl), (kp f2), (kp f3), (kp f4), (kp f5), (kp f6)⟩
      · obtain rfl := Option.some.inj ho
        have h5 : L 5 = false := by
          cases e : L 5
          · rfl
          · exact absurd (I3 e 2 (by omega)) (by rw [hL]; decide)
        have J0 := I0 h5
        have v0 : ww.cell? ⟨b, 0, none⟩ = some (.slice A8 n8 c8) := (bx.keep J0 hbl).cell 0
        have v1 : ww.cell? ⟨b, 1, none⟩ = some (.slice R8 m8 d8) := (bx.keep J0 hbl).cell 1
        refine wpOp_step rfl (fun K' hK => ?_)
        go_simp
        refine hK _ _ ?_
        exact ⟨_, _, _, _, _, _, rfl, (fun h => I0 ((upd_other (by decide)).symm.trans h)), (I1), (fun h => I2 ((upd_other (by decide)).symm.trans h)), (fun h q hq => upd_mono (I3 (upd_ne h (by decide)) q hq)), (kp f0), (kp f1), (fun _ => rfl), (kp f3), (kp f4), (kp f5), (kp f6)⟩
      · obtain rfl := Option.some.inj ho
        have g2 := f2 (hd ⟨2, .data⟩ (by simp) rfl)
        subst g2
        have h5 : L 5 = false := by
          cases e : L 5
          · rfl
          · exact absurd (I3 e 3 (by omega)) (by rw [hL]; decide)
        have J0 := I0 h5
        refine wpOp_step rfl (fun K' hK => ?_)
        go_simp
        refine (mPlace_any _ _ _ _ _ _ (X) ww (s5.up J0) (by omega)).mono ?_
        rintro e w' ⟨rfl, b5⟩
        refine hK _ _ ?_
        exact ⟨_, _, _, _, _, _, rfl, (fun _ => J0.trans (b5.mono J0.size)), (I1.trans (b5.mono I1.size)), (fun h => (I2 h5).keep b5 (I2 h5).lt), (fun h q hq => upd_mono (I3 (upd_ne h (by decide)) q hq)), (kp f0), (kp f1), (kp f2), (fun _ => rfl), (fun h => by
          obtain ⟨A7, n7, c7, R7, m7, d7, e7, o7⟩ := f4 (upd_ne h (by decide))
          exact ⟨A7, n7, c7, R7, m7, d7, e7, o7.below b5 (Nat.le_refl _)⟩), (fun h => absurd ((upd_other (by decide)).symm.trans h) (by rw [h5]; decide)), (kp f6)⟩
      · obtain rfl := Option.some.inj ho
        have g0 := f0 (hd ⟨0, .data⟩ (by simp) rfl)
        have g1 := f1 (hd ⟨1, .data⟩ (by simp) rfl)
        have g3 := f3 (hd ⟨3, .data⟩ (by simp) rfl)
        subst g0
        subst g1
        subst g3
        have h5 : L 5 = false := by
          cases e : L 5
          · rfl
          · exact absurd (I3 e 4 (by omega)) (by rw [hL]; decide)
        have J0 := I0 h5
        refine wpOp_step rfl (fun K' hK => ?_)
        go_simp
        refine (l8Do_any A8 R8 n8 c8 m8 d8 (X) o (Hps.gapH (X)) ww (s5.up J0) HCX.out (fun _ => HG5.out)).mono ?_
        rintro e w' ⟨vc7, vr7, rfl, o7, b5⟩
        obtain ⟨A7, n7, c7, R7, m7, d7, rfl, rfl⟩ := o7.slices
        refine hK _ _ ?_
        exact ⟨_, _, _, _, _, _, rfl, (fun _ => J0.trans (b5.mono J0.size)), (I1.trans (b5.mono I1.size)), (fun h => (I2 h5).keep b5 (I2 h5).lt), (fun h q hq => upd_mono (I3 (upd_ne h (by decide)) q hq)), (kp f0), (kp f1), (kp f2), (kp f3), (fun _ => ⟨A7, n7, c7, R7, m7, d7, rfl, o7.base J0.size⟩), (fun h => absurd ((upd_other (by decide)).symm.trans h) (by rw [h5]; decide)), (kp f6)⟩
      · obtain rfl := Option.some.inj ho
        have g4 := f4 (hd ⟨4, .data⟩ (by simp) rfl)
        obtain ⟨A7, n7, c7, R7, m7, d7, rfl, o7⟩ := g4
        have rz := I2 hL
        have u0 := rz.cell 0
        have u1 := rz.cell 1
        have v0 := rz.frozen 0
        have v1 := rz.frozen 1
        simp at u0 u1
        refine wpOp_step rfl (fun K' hK => ?_)
        go_simp
        refine hK _ _ ?_
        exact ⟨_, _, _, _, _, _, rfl, (fun h => absurd (upd_self.symm.trans h) (by decide)), ((I1.setCell (p := ⟨w.heap.size + 1 + 1, 0, none⟩) (by show w.heap.size ≤ w.heap.size + 1 + 1; omega) _).setCell (p := ⟨w.heap.size + 1 + 1, 1, none⟩) (by show w.heap.size ≤ w.heap.size + 1 + 1; omega) _), (fun h => absurd (upd_self.symm.trans h) (by decide)), (fun _ q hq => upd_mono (by
          obtain rfl | rfl | rfl | rfl | rfl : q = 0 ∨ q = 1 ∨ q = 2 ∨ q = 3 ∨ q = 4 := by omega
          all_goals exact hd ⟨_, .phase⟩ (by simp) rfl)), (kp f0), (kp f1), (kp f2), (kp f3), (fun _ => ⟨A7, n7, c7, R7, m7, d7, rfl, o7.put (by omega) _ _⟩), (fun _ => ⟨A7, n7, c7, R7, m7, d7, (rz.put 0 _).put 1 _, o7.put (by omega) _ _⟩), (kp f6)⟩
      · obtain rfl := Option.some.inj ho
        refine wpOp_step rfl (fun K' hK => ?_)
        go_simp
        refine hK _ _ ?_
        exact ⟨_, _, _, _, _, _, rfl, (fun h => I0 ((upd_other (by decide)).symm.trans h)), (I1), (fun h => I2 ((upd_other (by decide)).symm.trans h)), (fun h q hq => upd_mono (I3 (upd_ne h (by decide)) q hq)), (kp f0), (kp f1), (kp f2), (kp f3), (kp f4), (kp f5), (fun _ => rfl)⟩
    case hdone =>
      rintro L ac ww hall ⟨t7, t50, t51, t52, t53, t54, rfl, I0, I1, I2, I3, f0, f1, f2, f3, f4, f5, f6⟩
      have e0 := f0 (hall 0 (by decide))
      have e1 := f1 (hall 1 (by decide))
      have e2 := f2 (hall 2 (by decide))
      have e3 := f3 (hall 3 (by decide))
      have e4 := f4 (hall 4 (by decide))
      have e5 := f5 (hall 5 (by decide))
      have e6 := f6 (hall 6 (by decide))
      clear f0 f1 f2 f3 f4 f5 f6
      obtain ⟨A7, n7, c7, R7, m7, d7, r7, o7⟩ := e5
      subst e6
      have q0 := r7.cell 0
      have q5 := r7.cell 1
      simp at q0 q5
      have D := Lib.hid (And.intro (o7.base (base' := w.heap.size) (by have := b2.size; omega)) I1)
      clear e0 e1 e2 e3 e4 I0 I1 I2 I3 hall o7 r7
      go_wp2_with fail
      exact bodyPost_ret (v := .tuple #[.agg #[.slice A7 n7 c7, .slice R7 m7 d7], .bool true]) (by simp [results, Tryd.results37, go_sem, *]) rfl ⟨_, _, by rw [HF.out], by rw [HF.out]; exact D.out.1, D.out.2⟩
end Go.Proofs.YthmddmddcdofaaaDoor

namespace Go.Proofs.YthmddmddcdofaaaDoor
open Go.RowKit
set_option maxRecDepth 100000
end Go.Proofs.YthmddmddcdofaaaDoor

namespace Go.Proofs.YthmddmddcdofaaaDoor
open Go.RowKit
set_option maxRecDepth 100000
theorem Hps.stepSw_roomS {h : Hp} {limit : Int} {o : Cm} (e : Hps.validH h = true ∧ Hps.okCm o = true ∧ 1 ≤ limit ∧ limit ≤ 40) (h1 : o.op = 1) : Hps.stepSw h limit o = if (Hps.gapH (Hps.roomS h limit) : Int) < limit then (Hps.doH (Hps.roomS h limit) o (Hps.gapH (Hps.roomS h limit)), true) else (Hps.roomS h limit, false) := by
  rw [Hps.stepSw_room e h1, Hps.roomS]
  by_cases h2 : (Hps.gapH h : Int) < limit
  · rw [if_pos h2, if_pos h2, if_pos h2]
  · rw [if_neg h2, if_neg h2]
set_option maxHeartbeats 2000000 in
theorem sweeperStep_new (E : KeptL) (w0 w : World) (b : Nat) (vc vr : Value) (rvs : List Value) (h : Hp) (limit : Int) {a ob : Nat} {oc : Int} (hT : TzT w0) (S : SwSt E w0 w b vc vr rvs h) (hv : Hps.validH h = true) (ha : a < 4) (hb3 : ob ≤ 3) :
    Calls Tryd.prog 85 #[.pointer (some ⟨b, 0, none⟩), cmV ⟨1, a, ob, oc⟩, .int .i64 limit] w fun e w' => e = .returned (.bool (decide ((Hps.gapH (Hps.roomS h limit) : Int) < limit))) ∧ ∃ vc' vr' rvs', SwSt E w0 w' b vc' vr' rvs' (if (Hps.gapH (Hps.roomS h limit) : Int) < limit then Hps.doH (Hps.roomS h limit) ⟨1, a, ob, oc⟩ (Hps.gapH (Hps.roomS h limit)) else Hps.roomS h limit) := by
  have HN := Lib.hid (fun w1 (S : SwSt E w0 w1 b vc vr rvs h) => sweeperNew_any (oc := oc) E w0 w1 b vc vr rvs h limit hT S hv ha hb3)
  obtain ⟨r, hr⟩ : ∃ r, decide ((Hps.gapH (Hps.roomS h limit) : Int) < limit) = r := ⟨_, rfl⟩
  obtain ⟨Y, hY⟩ : ∃ Y, (if (Hps.gapH (Hps.roomS h limit) : Int) < limit then Hps.doH (Hps.roomS h limit) ⟨1, a, ob, oc⟩ (Hps.gapH (Hps.roomS h limit)) else Hps.roomS h limit) = Y := ⟨_, rfl⟩
  rw [hr, hY] at HN ⊢
  have bA : Below w.heap.size w (w.alloc (.cells #[.int .i64 1, .int .i64 a, .int .i64 ob, .int .i64 oc] 49)) := (Below.refl _ _).alloc (Nat.le_refl _) _
  have Q := Rw.new w 49 #[.int .i64 1, .int .i64 a, .int .i64 ob, .int .i64 oc]
  have S1 := Lib.hid (S.up bA)
  clear hr hY S hv hT
  go_enter Tryd.func85, Tryd.ntmps85
  go_upto_region 1 with fail
  generalize w.alloc (.cells #[.int .i64 1, .int .i64 a, .int .i64 ob, .int .i64 oc] 49) = w1 at S1 Q bA ⊢
  generalize w.heap.size = q at Q ⊢
  have y0 : w1.cell? ⟨q, 0, none⟩ = some (.int .i64 1) := Q.cell 0
  have y1 : w1.cell? ⟨q, 1, none⟩ = some (.int .i64 a) := Q.cell 1
  have y2 : w1.cell? ⟨q, 2, none⟩ = some (.int .i64 ob) := Q.cell 2
  have y3 : w1.cell? ⟨q, 3, none⟩ = some (.int .i64 oc) := Q.cell 3
  clear Q bA
  go_wp2_with fail
  refine (HN.out _ S1.out).mono ?_
  rintro e w2 ⟨rfl, vc2, vr2, rv2, S2⟩
  have SF := Lib.hid S2
  clear S2 y0 y1 y2 y3
  go_wp2_with fail
  go_ret
  exact ⟨rfl, _, _, _, SF.out⟩
theorem sweeperStep_any (E : KeptL) (w0 w : World) (b : Nat) (vc vr : Value) (rvs : List Value) (h : Hp) (o : Cm) (limit : Int) (hT : TzT w0) (S : SwSt E w0 w b vc vr rvs h) (he : Hps.validH h = true ∧ Hps.okCm o = true ∧ 1 ≤ limit ∧ limit ≤ 40) :
    Calls Tryd.prog 85 #[.pointer (some ⟨b, 0, none⟩), cmV o, .int .i64 limit] w fun e w' => e = .returned (.bool (Hps.stepSw h limit o).2) ∧ ∃ vc' vr' rvs', SwSt E w0 w' b vc' vr' rvs' (Hps.stepSw h limit o).1 := by
  have he2 := he
  obtain ⟨hv, ho, _, _⟩ := he2
  by_cases h1 : o.op = 1
  · rw [Hps.stepSw_roomS he h1]
    obtain ⟨op, a, ob, oc⟩ := o
    simp only at h1
    subst h1
    obtain ⟨⟨a1, a2⟩, ⟨b1, b2⟩, _⟩ := (Hps.okCm_new rfl).1 ho
    simp only at a1 a2 b1 b2
    obtain ⟨a, rfl⟩ := Int.eq_ofNat_of_zero_le a1
    obtain ⟨ob, rfl⟩ := Int.eq_ofNat_of_zero_le b1
    refine (sweeperStep_new (oc := oc) E w0 w b vc vr rvs h limit hT S hv (by omega) (by omega)).mono ?_
    rintro e w' ⟨rfl, vc', vr', rvs', S'⟩
    by_cases h2 : (Hps.gapH (Hps.roomS h limit) : Int) < limit
    · rw [if_pos h2] at S' ⊢
      exact ⟨by rw [decide_eq_true h2], vc', vr', rvs', S'⟩
    · rw [if_neg h2] at S' ⊢
      exact ⟨by rw [decide_eq_false h2], vc', vr', rvs', S'⟩
  · rw [Hps.stepSw_other he h1]
    have main : Calls Tryd.prog 85 #[.pointer (some ⟨b, 0, none⟩), cmV o, .int .i64 limit] w fun e w' => e = .returned (.bool (Hps.canH h o)) ∧ ∃ vc' vr' rvs', SwSt E w0 w' b vc' vr' rvs' (if Hps.canH h o = true then Hps.doH h o h.cs.length else h) := by
      have hopc := Hps.okCm_op ho
      obtain ⟨op, a, bb, cc⟩ := o
      simp only at h1 hopc
      obtain rfl | rfl | rfl | rfl | rfl : op = 2 ∨ op = 3 ∨ op = 4 ∨ op = 5 ∨ op = 6 := by omega
      · exact sweeperStep_walk _ _ _ _ _ E w0 w b vc vr rvs h _ limit S hv ho h1 (operationOf_2 a bb cc) (fun hv ho => poss_get hv ho rfl) exec_2 (run_entered Tryd.func148 (by decide) (by rfl)) (run_entered Tryd.func149 (by decide) (by rfl))
      · exact sweeperStep_walk _ _ _ _ _ E w0 w b vc vr rvs h _ limit S hv ho h1 (operationOf_3 a bb cc) (fun hv ho => poss_set hv ho rfl) exec_3 (run_entered Tryd.func150 (by decide) (by rfl)) (run_entered Tryd.func151 (by decide) (by rfl))
      · exact sweeperStep_walk _ _ _ _ _ E w0 w b vc vr rvs h _ limit S hv ho h1 (operationOf_4 a bb cc) (fun hv ho => poss_always (Hps.canH_else hv ho (by simp) (by simp) (by simp))) exec_4 (run_entered Tryd.func146 (by decide) (by rfl)) (run_entered Tryd.func152 (by decide) (by rfl))
      · exact sweeperStep_walk _ _ _ _ _ E w0 w b vc vr rvs h _ limit S hv ho h1 (operationOf_5 a bb cc) (fun hv ho => poss_always (Hps.canH_else hv ho (by simp) (by simp) (by simp))) exec_5 (run_entered Tryd.func146 (by decide) (by rfl)) (run_entered Tryd.func153 (by decide) (by rfl))
      · exact sweeperStep_walk _ _ _ _ _ E w0 w b vc vr rvs h _ limit S hv ho h1 (operationOf_6 a bb cc) (fun hv ho => poss_data hv ho rfl) exec_6 (run_entered Tryd.func154 (by decide) (by rfl)) (run_entered Tryd.func155 (by decide) (by rfl))
    refine main.mono ?_
    rintro e w' ⟨rfl, vc', vr', rvs', S'⟩
    cases hc : Hps.canH h o
    · rw [hc, if_neg (by decide)] at S'
      exact ⟨rfl, vc', vr', rvs', S'⟩
    · rw [hc, if_pos rfl] at S'
      exact ⟨rfl, vc', vr', rvs', S'⟩
set_option maxHeartbeats 4000000 in
theorem stepSweep_any (A R : Option Addr) (n c m d : Nat) (lim : Int) (h : Hp) (o : Cm) (w : World) (hT : TzT w) (hs : HS w w.heap.size A n R m h) (hn : n ≤ 1099511627776) (hm : m ≤ 1099511627776) (hnc : n ≤ c) (hmd : m ≤ d) :
    Calls Tryd.prog 36 #[heapV A n c R m d, .int .i64 lim, cmV o] w (GaveH2 w (Hps.stepSw h lim o).1 (Hps.stepSw h lim o).2) := by
  have hlc := hs.cells.1
  have hlr := hs.roots.1
  have b2 : Below w.heap.size w (((w.alloc (.cells #[.slice A n c, .slice R m d] 26)).alloc (.cells #[.int .i64 o.op, .int .i64 o.a, .int .i64 o.b, .int .i64 o.c] 49)).alloc (.cells #[.slice none 0 0, .slice none 0 0] 26)) := (((Below.refl _ _).alloc (Nat.le_refl _) _).alloc (by simp) _).alloc (by simp; omega) _
  have q1 := ((Rw.new w 26 #[.slice A n c, .slice R m d]).alloc (.cells #[.int .i64 o.op, .int .i64 o.a, .int .i64 o.b, .int .i64 o.c] 49)).alloc (.cells #[.slice none 0 0, .slice none 0 0] 26)
  have q2 := (Rw.new (w.alloc (.cells #[.slice A n c, .slice R m d] 26)) 49 #[.int .i64 o.op, .int .i64 o.a, .int .i64 o.b, .int .i64 o.c]).alloc (.cells #[.slice none 0 0, .slice none 0 0] 26)
  have q3 := Rw.new ((w.alloc (.cells #[.slice A n c, .slice R m d] 26)).alloc (.cells #[.int .i64 o.op, .int .i64 o.a, .int .i64 o.b, .int .i64 o.c] 49)) 26 #[.slice none 0 0, .slice none 0 0]
  simp only [World.size_alloc] at q2 q3
  have s2 := hs.up b2
  have hT2 := hT.below b2
  have HLC := Lib.hid hlc
  have HLR := Lib.hid hlr
  clear hs hT hlc hlr
  go_enter Tryd.func36, Tryd.ntmps36
  go_upto_region 1 with fail
  generalize ((w.alloc (.cells #[.slice A n c, .slice R m d] 26)).alloc (.cells #[.int .i64 o.op, .int .i64 o.a, .int .i64 o.b, .int .i64 o.c] 49)).alloc (.cells #[.slice none 0 0, .slice none 0 0] 26) = w2 at b2 q1 q2 q3 s2 hT2 ⊢
  have x0 : w2.cell? ⟨w.heap.size, 0, none⟩ = some (.slice A n c) := q1.cell 0
  have x1 : w2.cell? ⟨w.heap.size, 1, none⟩ = some (.slice R m d) := q1.cell 1
  go_wp2_with fail
  refine (heapValid_any _ _ _ _ _ _ h _ s2 hn hm hnc hmd).mono ?_
  obtain ⟨r, hv⟩ : ∃ r, Hps.validH h = r := ⟨_, rfl⟩
  rw [hv]
  rintro e w3 ⟨rfl, b1⟩
  replace q1 := q1.keep b1 q1.lt
  replace q2 := q2.keep b1 q2.lt
  replace q3 := q3.keep b1 q3.lt
  replace s2 := s2.up b1
  replace hT2 := hT2.below b1
  replace b2 := b2.trans (b1.mono b2.size)
  clear b1 x0 x1
  cases r
  · have HF := Lib.hid (Hps.stepSw_no (h := h) (limit := lim) (o := o) (fun e => by rw [hv] at e; cases e.1))
    have r2 : (w3).frozen? ⟨w.heap.size + 1 + 1, 0, none⟩ = false := q3.frozen 0
    have r3 : (w3).frozen? ⟨w.heap.size + 1 + 1, 1, none⟩ = false := q3.frozen 1
    have r4 : (w3).cell? ⟨w.heap.size + 1 + 1, 0, none⟩ = some (.slice none 0 0) := q3.cell 0
    have r5 : (w3).cell? ⟨w.heap.size + 1 + 1, 1, none⟩ = some (.slice none 0 0) := q3.cell 1
    have r6 : (((w3).setCell ⟨w.heap.size + 1 + 1, 0, none⟩ (.slice none 0 0)).setCell ⟨w.heap.size + 1 + 1, 1, none⟩ (.slice none 0 0)).cell? ⟨w.heap.size + 1 + 1, 0, none⟩ = some (.slice none 0 0) := ((q3.put 0 (.slice none 0 0)).put 1 (.slice none 0 0)).cell 0
    have r7 : (((w3).setCell ⟨w.heap.size + 1 + 1, 0, none⟩ (.slice none 0 0)).setCell ⟨w.heap.size + 1 + 1, 1, none⟩ (.slice none 0 0)).cell? ⟨w.heap.size + 1 + 1, 1, none⟩ = some (.slice none 0 0) := ((q3.put 0 (.slice none 0 0)).put 1 (.slice none 0 0)).cell 1
    have D := Lib.hid (OwnH.out (w := w) (g := w.heap.size + 1 + 1) (own_zeroH w3 w3.heap.size (Nat.le_refl _)) (by exact q3.lt) (b2) (by omega))
    clear q1 q2 q3 s2 hT2 b2 hv
    go_wp2_with fail
    exact bodyPost_ret (v := .tuple #[.agg #[.slice none 0 0, .slice none 0 0], .bool false]) (by simp [results, Tryd.results36, go_sem, *]) rfl ⟨_, _, by rw [HF.out], by rw [HF.out]; exact D.out.1, D.out.2⟩
  have HV := Lib.hid hv
  clear hv
  go_wp2_with fail
  refine (limitValid_any lim w3).mono ?_
  obtain ⟨r, hl⟩ : ∃ r, decide (1 ≤ lim ∧ lim ≤ 40) = r := ⟨_, rfl⟩
  rw [hl]
  rintro e w4 ⟨rfl, rfl⟩
  cases r
  · have hl2 := of_decide_eq_false hl
    have HF := Lib.hid (Hps.stepSw_no (h := h) (limit := lim) (o := o) (fun e => hl2 e.2.2))
    clear hl2
    have r2 : (w3).frozen? ⟨w.heap.size + 1 + 1, 0, none⟩ = false := q3.frozen 0
    have r3 : (w3).frozen? ⟨w.heap.size + 1 + 1, 1, none⟩ = false := q3.frozen 1
    have r4 : (w3).cell? ⟨w.heap.size + 1 + 1, 0, none⟩ = some (.slice none 0 0) := q3.cell 0
    have r5 : (w3).cell? ⟨w.heap.size + 1 + 1, 1, none⟩ = some (.slice none 0 0) := q3.cell 1
    have r6 : (((w3).setCell ⟨w.heap.size + 1 + 1, 0, none⟩ (.slice none 0 0)).setCell ⟨w.heap.size + 1 + 1, 1, none⟩ (.slice none 0 0)).cell? ⟨w.heap.size + 1 + 1, 0, none⟩ = some (.slice none 0 0) := ((q3.put 0 (.slice none 0 0)).put 1 (.slice none 0 0)).cell 0
    have r7 : (((w3).setCell ⟨w.heap.size + 1 + 1, 0, none⟩ (.slice none 0 0)).setCell ⟨w.heap.size + 1 + 1, 1, none⟩ (.slice none 0 0)).cell? ⟨w.heap.size + 1 + 1, 1, none⟩ = some (.slice none 0 0) := ((q3.put 0 (.slice none 0 0)).put 1 (.slice none 0 0)).cell 1
    have D := Lib.hid (OwnH.out (w := w) (g := w.heap.size + 1 + 1) (own_zeroH w3 w3.heap.size (Nat.le_refl _)) (by exact q3.lt) (b2) (by omega))
    clear q1 q2 q3 s2 hT2 b2 hl
    go_wp2_with fail
    exact bodyPost_ret (v := .tuple #[.agg #[.slice none 0 0, .slice none 0 0], .bool false]) (by simp [results, Tryd.results36, go_sem, *]) rfl ⟨_, _, by rw [HF.out], by rw [HF.out]; exact D.out.1, D.out.2⟩
  have HL := Lib.hid (of_decide_eq_true hl)
  have y0 : w3.cell? ⟨w.heap.size + 1, 0, none⟩ = some (.int .i64 o.op) := q2.cell 0
  have y1 : w3.cell? ⟨w.heap.size + 1, 1, none⟩ = some (.int .i64 o.a) := q2.cell 1
  have y2 : w3.cell? ⟨w.heap.size + 1, 2, none⟩ = some (.int .i64 o.b) := q2.cell 2
  have y3 : w3.cell? ⟨w.heap.size + 1, 3, none⟩ = some (.int .i64 o.c) := q2.cell 3
  clear hl
  go_wp2_with fail
  refine (commandValid_any o w3).mono ?_
  obtain ⟨r, ho⟩ : ∃ r, Hps.okCm o = r := ⟨_, rfl⟩
  rw [ho]
  rintro e w4 ⟨rfl, b1⟩
  replace q1 := q1.keep b1 q1.lt
  replace q2 := q2.keep b1 q2.lt
  replace q3 := q3.keep b1 q3.lt
  replace s2 := s2.up b1
  replace hT2 := hT2.below b1
  replace b2 := b2.trans (b1.mono b2.size)
  clear b1 y0 y1 y2 y3
  cases r
  · have HF := Lib.hid (Hps.stepSw_no (h := h) (limit := lim) (o := o) (fun e => by rw [ho] at e; cases e.2.1))
    have r2 : (w4).frozen? ⟨w.heap.size + 1 + 1, 0, none⟩ = false := q3.frozen 0
    have r3 : (w4).frozen? ⟨w.heap.size + 1 + 1, 1, none⟩ = false := q3.frozen 1
    have r4 : (w4).cell? ⟨w.heap.size + 1 + 1, 0, none⟩ = some (.slice none 0 0) := q3.cell 0
    have r5 : (w4).cell? ⟨w.heap.size + 1 + 1, 1, none⟩ = some (.slice none 0 0) := q3.cell 1
    have r6 : (((w4).setCell ⟨w.heap.size + 1 + 1, 0, none⟩ (.slice none 0 0)).setCell ⟨w.heap.size + 1 + 1, 1, none⟩ (.slice none 0 0)).cell? ⟨w.heap.size + 1 + 1, 0, none⟩ = some (.slice none 0 0) := ((q3.put 0 (.slice none 0 0)).put 1 (.slice none 0 0)).cell 0
    have r7 : (((w4).setCell ⟨w.heap.size + 1 + 1, 0, none⟩ (.slice none 0 0)).setCell ⟨w.heap.size + 1 + 1, 1, none⟩ (.slice none 0 0)).cell? ⟨w.heap.size + 1 + 1, 1, none⟩ = some (.slice none 0 0) := ((q3.put 0 (.slice none 0 0)).put 1 (.slice none 0 0)).cell 1
    have D := Lib.hid (OwnH.out (w := w) (g := w.heap.size + 1 + 1) (own_zeroH w4 w4.heap.size (Nat.le_refl _)) (by exact q3.lt) (b2) (by omega))
    clear q1 q2 q3 s2 hT2 b2 ho
    go_wp2_with fail
    exact bodyPost_ret (v := .tuple #[.agg #[.slice none 0 0, .slice none 0 0], .bool false]) (by simp [results, Tryd.results36, go_sem, *]) rfl ⟨_, _, by rw [HF.out], by rw [HF.out]; exact D.out.1, D.out.2⟩
  have HE := Lib.hid (show Hps.validH h = true ∧ Hps.okCm o = true ∧ 1 ≤ lim ∧ lim ≤ 40 from ⟨HV.out, ho, HL.out⟩)
  obtain ⟨h40, hr4, h3⟩ := Hps.valid_small HV.out
  rw [HLC.out] at h40
  rw [HLR.out] at hr4
  have hm4 : m ≤ 4 := by omega
  have H3 := Lib.hid (fun cl (hcl : cl ∈ h.cs) => show cl.r.length ≤ 1000000 by have := h3 cl hcl; omega)
  have x0 : w4.cell? ⟨w.heap.size, 0, none⟩ = some (.slice A n c) := q1.cell 0
  have x1 : w4.cell? ⟨w.heap.size, 1, none⟩ = some (.slice R m d) := q1.cell 1
  have hrl := q3.lt
  have hcl := q2.lt
  clear hr4 h3 ho
  go_wp2_with fail
  refine (sweeperOf_any A R n c m d h w4 s2 (by omega) (by omega) H3.out).mono ?_
  rintro e w5 ⟨vc, vr, vk, rfl, oc, b5⟩
  obtain ⟨rv, S⟩ := SwSt.of oc b5
  obtain ⟨A5, n5, c5, R5, m5, d5, K5, p5, q5, rfl, rfl, rfl⟩ := oc.slices
  have Q3 := Lib.hid q3
  have Q2 := Lib.hid q2
  have B2 := Lib.hid b2
  have HT := Lib.hid hT2
  clear oc b5 x0 x1 q1 q2 q3 b2 s2 hT2
  go_upto_region 4 with fail
  generalize w5.alloc (.cells #[.slice A5 n5 c5, .slice R5 m5 d5, .slice K5 p5 q5] 104) = w6 at S ⊢
  generalize w5.heap.size = b at S ⊢
  have HSW := Lib.hid (sweeperStep_any [] w4 w6 b _ _ rv h o lim HT.out S HE.out)
  have q2 := Q2.out.keep S.low hcl
  have y0 : w6.cell? ⟨w.heap.size + 1, 0, none⟩ = some (.int .i64 o.op) := q2.cell 0
  have y1 : w6.cell? ⟨w.heap.size + 1, 1, none⟩ = some (.int .i64 o.a) := q2.cell 1
  have y2 : w6.cell? ⟨w.heap.size + 1, 2, none⟩ = some (.int .i64 o.b) := q2.cell 2
  have y3 : w6.cell? ⟨w.heap.size + 1, 3, none⟩ = some (.int .i64 o.c) := q2.cell 3
  obtain ⟨X, hX⟩ : ∃ X, (Hps.stepSw h lim o).1 = X := ⟨_, rfl⟩
  obtain ⟨r, hr⟩ : ∃ r, (Hps.stepSw h lim o).2 = r := ⟨_, rfl⟩
  rw [hX, hr] at HSW
  have HX := Lib.hid hX
  have HR := Lib.hid hr
  clear S q2 hX hr
  go_wp2_with fail
  refine HSW.out.mono ?_
  rintro e w7 ⟨rfl, vc7, vr7, rv7, S7⟩
  obtain ⟨A7, c7, R7, d7, rfl, rfl, -⟩ := S7.own.form
  obtain ⟨n7, hn7⟩ : ∃ n7, X.cs.length = n7 := ⟨_, rfl⟩
  obtain ⟨m7, hm7⟩ : ∃ m7, X.rt.length = m7 := ⟨_, rfl⟩
  rw [hn7, hm7] at S7
  have z0 : w7.cell? ⟨b, 0, none⟩ = some (.slice A7 n7 c7) := S7.c0
  have z1 : w7.cell? ⟨b, 1, none⟩ = some (.slice R7 m7 d7) := S7.c1
  have q3 := Q3.out.keep S7.low hrl
  have b2 := B2.out.trans (S7.low.mono B2.out.size)
  have hw4 := B2.out.size
  have OH := S7.ownH
  clear S7 HSW y0 y1 y2 y3 hn7 hm7
  have r2 : (w7).frozen? ⟨w.heap.size + 1 + 1, 0, none⟩ = false := q3.frozen 0
  have r3 : (w7).frozen? ⟨w.heap.size + 1 + 1, 1, none⟩ = false := q3.frozen 1
  have r4 : (w7).cell? ⟨w.heap.size + 1 + 1, 0, none⟩ = some (.slice none 0 0) := q3.cell 0
  have r5 : (w7).cell? ⟨w.heap.size + 1 + 1, 1, none⟩ = some (.slice none 0 0) := q3.cell 1
  have r6 : (((w7).setCell ⟨w.heap.size + 1 + 1, 0, none⟩ (.slice A7 n7 c7)).setCell ⟨w.heap.size + 1 + 1, 1, none⟩ (.slice R7 m7 d7)).cell? ⟨w.heap.size + 1 + 1, 0, none⟩ = some (.slice A7 n7 c7) := ((q3.put 0 (.slice A7 n7 c7)).put 1 (.slice R7 m7 d7)).cell 0
  have r7 : (((w7).setCell ⟨w.heap.size + 1 + 1, 0, none⟩ (.slice A7 n7 c7)).setCell ⟨w.heap.size + 1 + 1, 1, none⟩ (.slice R7 m7 d7)).cell? ⟨w.heap.size + 1 + 1, 1, none⟩ = some (.slice R7 m7 d7) := ((q3.put 0 (.slice A7 n7 c7)).put 1 (.slice R7 m7 d7)).cell 1
  have D := Lib.hid (OwnH.out (w := w) (g := w.heap.size + 1 + 1) (OH) (by omega) (b2) (by omega))
  clear q3 b2 OH
  go_wp2_with fail
  exact bodyPost_ret (v := .tuple #[.agg #[.slice A7 n7 c7, .slice R7 m7 d7], .bool r]) (by simp [results, Tryd.results36, go_sem, *]) rfl ⟨_, _, by rw [HR.out], by rw [HX.out]; exact D.out.1, D.out.2⟩
namespace Hps
end Hps
end Go.Proofs.YthmddmddcdofaaaDoor

namespace Go.Proofs.YthmddmddcdofaaaDoor
open Go.RowKit
set_option maxRecDepth 100000
theorem upd_keep {L : Nat → Bool} {i k : Nat} (h : L k = true) : upd L i k = true := by
  unfold upd
  split
  · rfl
  · exact h
abbrev cmCs (o : Cm) : Array Value := #[.int .i64 o.op, .int .i64 o.a, .int .i64 o.b, .int .i64 o.c]
/-- what is known while an instruction is drawn: it lies in the box b, the reader in gr -/
structure CmSt (w wr : World) (gr N b : Nat) (o : Cm) : Prop where
  rd : Rd wr gr N
  grown : w.grownBy wr (some gr)
  box : Rw wr b 49 (cmCs o)
  res : Rw wr w.heap.size 49 (cmCs ⟨0, 0, 0, 0⟩)
  lo : w.heap.size < b
  old : gr < w.heap.size
section
variable {w wr w' : World} {gr N b : Nat} {o : Cm}
theorem CmSt.pick (S : CmSt w wr gr N b o) (hr : Rd w' gr (N + 1)) (hg : wr.grownBy w' (some gr)) : CmSt w w' gr (N + 1) b o := by
  have h1 := S.lo
  have h2 := S.old
  exact ⟨hr, World.grownBy.trans S.grown hg, S.box.far hg (fun e => by injection e with e; omega), S.res.far hg (fun e => by injection e with e; omega), h1, h2⟩
theorem CmSt.alloc (S : CmSt w wr gr N b o) (ob : Obj) : CmSt w (wr.alloc ob) gr N b o :=
  ⟨S.rd.below ((Below.refl wr.heap.size wr).alloc (Nat.le_refl _) ob) S.rd.lt, World.grownBy.trans S.grown (World.grownBy_alloc wr ob _), S.box.alloc ob, S.res.alloc ob, S.lo, S.old⟩
theorem CmSt.more {N' : Nat} (S : CmSt w wr gr N b o) (h : N ≤ N') : CmSt w wr gr N' b o := ⟨S.rd.more h, S.grown, S.box, S.res, S.lo, S.old⟩
theorem CmSt.put (S : CmSt w wr gr N b o) (i : Nat) (u : Value) {o' : Cm} (h : (cmCs o).setIfInBounds i u = cmCs o') : CmSt w (wr.setCell ⟨b, i, none⟩ u) gr N b o' := by
  have h1 := S.lo
  have h2 := S.old
  have hb : Below b wr (wr.setCell ⟨b, i, none⟩ u) := (Below.refl b wr).setCell (p := ⟨b, i, none⟩) (Nat.le_refl _) u
  exact ⟨S.rd.below hb (by omega), grown_below S.grown (hb.mono (by omega)), h ▸ S.box.put i u, S.res.other (by omega) u, h1, h2⟩
end
/-- numbers of an instruction that is drawn -/
def SmallCm (o : Cm) : Prop := (0 ≤ o.op ∧ o.op ≤ 7) ∧ (-1 ≤ o.a ∧ o.a ≤ 4) ∧ (-1 ≤ o.b ∧ o.b ≤ 100) ∧ (-1 ≤ o.c ∧ o.c ≤ 100)
theorem small_of_ok {o : Cm} (h : Hps.okCm o = true) : SmallCm o := by
  have ha := Hps.okCm_a h
  rcases Hps.okCm_op h with e | e | e | e | e | e
  · have := (Hps.okCm_new e).1 h; exact ⟨by omega, by omega, by omega, by omega⟩
  · have := (Hps.okCm_get (.inl e)).1 h; exact ⟨by omega, by omega, by omega, by omega⟩
  · have := (Hps.okCm_get (.inr e)).1 h; exact ⟨by omega, by omega, by omega, by omega⟩
  · have := (Hps.okCm_copy e).1 h; exact ⟨by omega, by omega, by omega, by omega⟩
  · have := (Hps.okCm_drop e).1 h; exact ⟨by omega, by omega, by omega, by omega⟩
  · have := (Hps.okCm_data e).1 h; exact ⟨by omega, by omega, by omega, by omega⟩
/-- an instruction has been drawn -/
def DrewC (w : World) (gr N : Nat) (n : Int) (e : Ending) (w' : World) : Prop :=
  ∃ o : Cm, e = .returned (cmV o) ∧ (n = 0 → Hps.okCm o = true) ∧ SmallCm o ∧ Rd w' gr (N + 12) ∧ w.grownBy w' (some gr)
theorem odd_zero' (g N : Nat) (w : World) (_h : Rd w g N) : Calls Tryd.prog 72 #[.pointer (some ⟨g, 0, none⟩), .int .i64 0] w fun e w' => e = .returned (.bool false) ∧ w = w' := by
  go_enter Tryd.func72, Tryd.ntmps72
  go_wp2_with fail
  go_ret
  exact ⟨rfl, rfl⟩
/-- a number out of a table, at any index -/
theorem Tbl.two (w : World) (_gr : Nat) (t : TypeId) (x y : Int) : Rw (w.alloc (.cells #[.int .i64 x, .int .i64 y] t)) w.heap.size t #[.int .i64 x, .int .i64 y] := Rw.new _ _ _
set_option maxRecDepth 100000 in
set_option maxHeartbeats 8000000 in
theorem l20Command_any (gr N : Nat) (n : Int) (w : World) (h : Rd w gr N) (hN : N ≤ 1000000) (hn0 : 0 ≤ n) (hn : n ≤ 1000000) :
    Calls Tryd.prog 82 #[.pointer (some ⟨gr, 0, none⟩), .int .i64 n] w (DrewC w gr N n) := by
  have hgl := h.lt
  have h0 : Rd (w.alloc (.cells (cmCs ⟨0, 0, 0, 0⟩) 49)) gr N := h.below ((Below.refl w.heap.size w).alloc (Nat.le_refl _) _) hgl
  have r0 := Rw.new w 49 (cmCs ⟨0, 0, 0, 0⟩)
  have g0 : w.grownBy (w.alloc (.cells (cmCs ⟨0, 0, 0, 0⟩) 49)) (some gr) := World.grownBy_alloc _ _ _
  have z0 : w.heap.size + 1 = (w.alloc (.cells (cmCs ⟨0, 0, 0, 0⟩) 49)).heap.size := by simp
  go_enter Tryd.func82, Tryd.ntmps82
  go_upto_region 1 with fail
  generalize w.alloc (.cells (cmCs ⟨0, 0, 0, 0⟩) 49) = w0 at h0 r0 g0 z0 ⊢
  have HZ := Lib.hid z0
  clear z0
  refine wp_region_inv (by kernel_rfl) (by kernel_rfl) (fun L ac ww => ∃ t5 t6 t7 t8 t9 t10 t11 t12 t13 : Value, ac = { tmps := #[Value.pointer (some { block := gr, off := 0 }), Value.int IntKind.i64 n, undef, undef, Value.pointer (some { block := w.heap.size, off := 0 }), t5, t6, t7, t8, t9, t10, t11, t12, t13, undef, undef, undef, undef, undef, undef, undef, undef, undef, undef, undef, undef, undef, undef, undef, undef, undef, undef, undef, undef, undef, undef, undef, undef, undef, undef, undef, undef, undef, undef, undef, undef, undef, undef, undef, undef, undef, undef, undef, undef, undef, undef, undef, undef, undef, undef, undef, undef, undef, undef, undef, undef, undef, undef, undef, undef, undef, undef, undef, undef, undef, undef, undef, undef, undef, undef, undef, undef, undef, undef, undef, undef, undef, undef, undef, undef], defers := [] } ∧ (Rd ww gr (N + (L 2).toNat + (L 6).toNat)) ∧ (w0.grownBy ww (some gr)) ∧ (L 9 = true → L 6 = true) ∧ (L 9 = true → L 2 = true) ∧ (L 9 = true → L 8 = true) ∧ (L 9 = true → L 3 = true) ∧ (L 9 = true → L 4 = true) ∧ (L 0 = true → L 9 = true ∨ TblOf ww gr 10 1 6 t6) ∧ (L 1 = true → t7 = .pointer (some ⟨gr, 0, none⟩)) ∧ (L 2 = true → IntIn 0 9 t8) ∧ (L 3 = true → L 9 = true ∨ PtrOf ww gr 10 1 6 t9) ∧ (L 4 = true → IntIn 1 6 t10) ∧ (L 5 = true → t11 = .pointer (some ⟨gr, 0, none⟩)) ∧ (L 6 = true → IntIn 0 3 t12) ∧ (L 7 = true → ∃ op a : Int, t13 = .agg #[.int .i64 op, .int .i64 a, .int .i64 0, .int .i64 0] ∧ 1 ≤ op ∧ op ≤ 6 ∧ 0 ≤ a ∧ a ≤ 3) ∧ (L 8 = true → ∃ (g5 : Nat) (z0 z1 z2 z3 : Value), t5 = .pointer (some ⟨g5, 0, none⟩) ∧ w.heap.size < g5 ∧ Rw ww g5 49 #[z0, z1, z2, z3]) ∧ (L 9 = true → ∃ (g5 : Nat) (op a : Int), t5 = .pointer (some ⟨g5, 0, none⟩) ∧ CmSt w ww gr (N + 2) g5 ⟨op, a, 0, 0⟩ ∧ 1 ≤ op ∧ op ≤ 6 ∧ 0 ≤ a ∧ a ≤ 3)) ?h0 ?hstep ?hdone
  case h0 => exact ⟨_, _, _, _, _, _, _, _, _, rfl, by simpa using h0.below (Below.refl _ _).drew h0.lt, grown_below (World.grownBy.refl _ _) (Below.refl _ _).drew, fun h => absurd h Bool.false_ne_true, fun h => absurd h Bool.false_ne_true, fun h => absurd h Bool.false_ne_true, fun h => absurd h Bool.false_ne_true, fun h => absurd h Bool.false_ne_true, (fun h => absurd h Bool.false_ne_true), (fun h => absurd h Bool.false_ne_true), (fun h => absurd h Bool.false_ne_true), (fun h => absurd h Bool.false_ne_true), (fun h => absurd h Bool.false_ne_true), (fun h => absurd h Bool.false_ne_true), (fun h => absurd h Bool.false_ne_true), (fun h => absurd h Bool.false_ne_true), (fun h => absurd h Bool.false_ne_true), (fun h => absurd h Bool.false_ne_true)⟩
  case hstep =>
    rintro L ac ww i o ho hL hd ⟨t5, t6, t7, t8, t9, t10, t11, t12, t13, rfl, I0, I1, I2, I3, I4, I5, I6, f0, f1, f2, f3, f4, f5, f6, f7, f8, f9⟩
    have hi : i < 10 := (Array.getElem?_eq_some_iff.1 ho).1
    obtain rfl | rfl | rfl | rfl | rfl | rfl | rfl | rfl | rfl | rfl : i = 0 ∨ i = 1 ∨ i = 2 ∨ i = 3 ∨ i = 4 ∨ i = 5 ∨ i = 6 ∨ i = 7 ∨ i = 8 ∨ i = 9 := by omega
    · obtain rfl := Option.some.inj ho
      refine wpOp_step rfl (fun K' hK => ?_)
      go_simp
      refine hK _ _ ?_
      exact ⟨_, _, _, _, _, _, _, _, _, rfl, (by rw [upd_other (by decide), upd_other (by decide)]; exact I0.below ((Below.refl ww.heap.size ww).alloc (Nat.le_refl _) _) I0.lt), (World.grownBy.trans I1 (World.grownBy_alloc _ _ _)), (fun h => upd_keep (I2 (upd_ne h (by decide)))), (fun h => upd_keep (I3 (upd_ne h (by decide)))), (fun h => upd_keep (I4 (upd_ne h (by decide)))), (fun h => upd_keep (I5 (upd_ne h (by decide)))), (fun h => upd_keep (I6 (upd_ne h (by decide)))), (fun _ => .inr ⟨_, rfl, Tbl.new ww gr _ [1, 1, 1, 2, 3, 3, 3, 4, 5, 6] 1 6 I0.lt (by intro q hq; simp at hq; omega) _ rfl⟩), (kp f1), (kp f2), (fun h => (f3 (upd_ne h (by decide))).imp (fun e => upd_keep e) (fun T => T.alloc _)), (kp f4), (kp f5), (kp f6), (kp f7), (fun h => by
        obtain ⟨g5, z0, z1, z2, z3, e, hg5, hz⟩ := f8 (upd_ne h (by decide))
        exact ⟨g5, z0, z1, z2, z3, e, hg5, hz.alloc _⟩), (fun h => by
        obtain ⟨g5, op, a, e, S, q⟩ := f9 (upd_ne h (by decide))
        exact ⟨g5, op, a, e, S.alloc _, q⟩)⟩
    · obtain rfl := Option.some.inj ho
      refine wpOp_step rfl (fun K' hK => ?_)
      go_simp
      refine hK _ _ ?_
      exact ⟨_, _, _, _, _, _, _, _, _, rfl, (by rw [upd_other (by decide), upd_other (by decide)]; exact I0), (I1), (fun h => upd_keep (I2 (upd_ne h (by decide)))), (fun h => upd_keep (I3 (upd_ne h (by decide)))), (fun h => upd_keep (I4 (upd_ne h (by decide)))), (fun h => upd_keep (I5 (upd_ne h (by decide)))), (fun h => upd_keep (I6 (upd_ne h (by decide)))), (fun h => (f0 (upd_ne h (by decide))).imp (fun e => upd_keep e) id), (fun _ => rfl), (kp f2), (fun h => (f3 (upd_ne h (by decide))).imp (fun e => upd_keep e) id), (kp f4), (kp f5), (kp f6), (kp f7), (kp f8), (kp f9)⟩
    · obtain rfl := Option.some.inj ho
      have g1 := f1 (hd ⟨1, .data⟩ (by simp) rfl)
      subst g1
      refine wpOp_step rfl (fun K' hK => ?_)
      go_simp
      refine (pick_any gr (N + (L 2).toNat + (L 6).toNat) 10 ww I0 (by have := Bool.toNat_le (L 2); have := Bool.toNat_le (L 6); omega) (by omega)).mono ?_
      rintro e w' ⟨r, rfl, r0', r1', hr, G⟩
      refine hK _ _ ?_
      exact ⟨_, _, _, _, _, _, _, _, _, rfl, (by rw [upd_self, upd_other (by decide)]; rw [hL] at hr; exact hr.more (by simp; omega)), (World.grownBy.trans I1 G), (fun h => upd_keep (I2 (upd_ne h (by decide)))), (fun h => upd_keep (I3 (upd_ne h (by decide)))), (fun h => upd_keep (I4 (upd_ne h (by decide)))), (fun h => upd_keep (I5 (upd_ne h (by decide)))), (fun h => upd_keep (I6 (upd_ne h (by decide)))), (fun h => (f0 (upd_ne h (by decide))).imp (fun e => upd_keep e) (fun T => T.pick G)), (kp f1), (fun _ => ⟨r, rfl, r0', by omega⟩), (fun h => (f3 (upd_ne h (by decide))).imp (fun e => upd_keep e) (fun T => T.pick G)), (kp f4), (kp f5), (kp f6), (kp f7), (fun h => by
        obtain ⟨g5, z0, z1, z2, z3, e, hg5, hz⟩ := f8 (upd_ne h (by decide))
        exact ⟨g5, z0, z1, z2, z3, e, hg5, hz.far G (fun e => by injection e with e; omega)⟩), (fun h => absurd (I3 (upd_ne h (by decide))) (by rw [hL]; simp))⟩
    · obtain rfl := Option.some.inj ho
      have g0 := f0 (hd ⟨0, .data⟩ (by simp) rfl)
      have g2 := f2 (hd ⟨2, .data⟩ (by simp) rfl)
      have g0' := g0.resolve_left (fun e => absurd (I5 e) (by rw [hL]; simp))
      clear g0
      obtain ⟨g6, rfl, T6⟩ := g0'
      obtain ⟨q8, rfl, q81, q82⟩ := g2
      obtain ⟨n8, rfl⟩ := Int.eq_ofNat_of_zero_le (show 0 ≤ q8 by omega)
      have l8 : n8 < 10 := by omega
      have l8' : (n8 : Int) < 10 := by omega
      refine wpOp_step rfl (fun K' hK => ?_)
      go_simp
      refine hK _ _ ?_
      exact ⟨_, _, _, _, _, _, _, _, _, rfl, (by rw [upd_other (by decide), upd_other (by decide)]; exact I0), (I1), (fun h => upd_keep (I2 (upd_ne h (by decide)))), (fun h => upd_keep (I3 (upd_ne h (by decide)))), (fun h => upd_keep (I4 (upd_ne h (by decide)))), (fun h => upd_keep (I5 (upd_ne h (by decide)))), (fun h => upd_keep (I6 (upd_ne h (by decide)))), (fun _ => .inr ⟨g6, rfl, T6⟩), (kp f1), (fun _ => ⟨(n8 : Int), rfl, by omega, by omega⟩), (fun _ => .inr ⟨g6, n8, by simp, l8, T6⟩), (kp f4), (kp f5), (kp f6), (kp f7), (kp f8), (kp f9)⟩
    · obtain rfl := Option.some.inj ho
      have g3 := f3 (hd ⟨3, .data⟩ (by simp) rfl)
      have g3' := g3.resolve_left (fun e => absurd (I6 e) (by rw [hL]; simp))
      clear g3
      obtain ⟨g9, n9, rfl, l9, T9⟩ := g3'
      obtain ⟨q9, hq9, q91, q92⟩ := T9.2.2 n9 l9
      refine wpOp_step rfl (fun K' hK => ?_)
      go_simp
      refine hK _ _ ?_
      exact ⟨_, _, _, _, _, _, _, _, _, rfl, (by rw [upd_other (by decide), upd_other (by decide)]; exact I0), (I1), (fun h => upd_keep (I2 (upd_ne h (by decide)))), (fun h => upd_keep (I3 (upd_ne h (by decide)))), (fun h => upd_keep (I4 (upd_ne h (by decide)))), (fun h => upd_keep (I5 (upd_ne h (by decide)))), (fun h => upd_keep (I6 (upd_ne h (by decide)))), (fun h => (f0 (upd_ne h (by decide))).imp (fun e => upd_keep e) id), (kp f1), (kp f2), (fun _ => .inr ⟨g9, n9, rfl, l9, T9⟩), (fun _ => ⟨q9, rfl, q91, q92⟩), (kp f5), (kp f6), (kp f7), (kp f8), (kp f9)⟩
    · obtain rfl := Option.some.inj ho
      refine wpOp_step rfl (fun K' hK => ?_)
      go_simp
      refine hK _ _ ?_
      exact ⟨_, _, _, _, _, _, _, _, _, rfl, (by rw [upd_other (by decide), upd_other (by decide)]; exact I0), (I1), (fun h => upd_keep (I2 (upd_ne h (by decide)))), (fun h => upd_keep (I3 (upd_ne h (by decide)))), (fun h => upd_keep (I4 (upd_ne h (by decide)))), (fun h => upd_keep (I5 (upd_ne h (by decide)))), (fun h => upd_keep (I6 (upd_ne h (by decide)))), (fun h => (f0 (upd_ne h (by decide))).imp (fun e => upd_keep e) id), (kp f1), (kp f2), (fun h => (f3 (upd_ne h (by decide))).imp (fun e => upd_keep e) id), (kp f4), (fun _ => rfl), (kp f6), (kp f7), (kp f8), (kp f9)⟩
    · obtain rfl := Option.some.inj ho
      have g5 := f5 (hd ⟨5, .data⟩ (by simp) rfl)
      subst g5
      refine wpOp_step rfl (fun K' hK => ?_)
      go_simp
      refine (pick_any gr (N + (L 2).toNat + (L 6).toNat) 4 ww I0 (by have := Bool.toNat_le (L 2); have := Bool.toNat_le (L 6); omega) (by omega)).mono ?_
      rintro e w' ⟨r, rfl, r0', r1', hr, G⟩
      refine hK _ _ ?_
      exact ⟨_, _, _, _, _, _, _, _, _, rfl, (by rw [upd_self, upd_other (by decide)]; rw [hL] at hr; exact hr.more (by simp)), (World.grownBy.trans I1 G), (fun h => upd_keep (I2 (upd_ne h (by decide)))), (fun h => upd_keep (I3 (upd_ne h (by decide)))), (fun h => upd_keep (I4 (upd_ne h (by decide)))), (fun h => upd_keep (I5 (upd_ne h (by decide)))), (fun h => upd_keep (I6 (upd_ne h (by decide)))), (fun h => (f0 (upd_ne h (by decide))).imp (fun e => upd_keep e) (fun T => T.pick G)), (kp f1), (kp f2), (fun h => (f3 (upd_ne h (by decide))).imp (fun e => upd_keep e) (fun T => T.pick G)), (kp f4), (kp f5), (fun _ => ⟨r, rfl, r0', by omega⟩), (kp f7), (fun h => by
        obtain ⟨g5, z0, z1, z2, z3, e, hg5, hz⟩ := f8 (upd_ne h (by decide))
        exact ⟨g5, z0, z1, z2, z3, e, hg5, hz.far G (fun e => by injection e with e; omega)⟩), (fun h => absurd (I2 (upd_ne h (by decide))) (by rw [hL]; simp))⟩
    · obtain rfl := Option.some.inj ho
      have g4 := f4 (hd ⟨4, .data⟩ (by simp) rfl)
      have g6 := f6 (hd ⟨6, .data⟩ (by simp) rfl)
      obtain ⟨op, rfl, p1, p2⟩ := g4
      obtain ⟨aa, rfl, p3, p4⟩ := g6
      refine wpOp_step rfl (fun K' hK => ?_)
      go_simp
      refine hK _ _ ?_
      exact ⟨_, _, _, _, _, _, _, _, _, rfl, (by rw [upd_other (by decide), upd_other (by decide)]; exact I0), (I1), (fun h => upd_keep (I2 (upd_ne h (by decide)))), (fun h => upd_keep (I3 (upd_ne h (by decide)))), (fun h => upd_keep (I4 (upd_ne h (by decide)))), (fun h => upd_keep (I5 (upd_ne h (by decide)))), (fun h => upd_keep (I6 (upd_ne h (by decide)))), (fun h => (f0 (upd_ne h (by decide))).imp (fun e => upd_keep e) id), (kp f1), (kp f2), (fun h => (f3 (upd_ne h (by decide))).imp (fun e => upd_keep e) id), (fun _ => ⟨op, rfl, p1, p2⟩), (kp f5), (fun _ => ⟨aa, rfl, p3, p4⟩), (fun _ => ⟨op, aa, rfl, p1, p2, p3, p4⟩), (kp f8), (kp f9)⟩
    · obtain rfl := Option.some.inj ho
      refine wpOp_step rfl (fun K' hK => ?_)
      go_simp
      refine hK _ _ ?_
      exact ⟨_, _, _, _, _, _, _, _, _, rfl, (by rw [upd_other (by decide), upd_other (by decide)]; exact I0.below ((Below.refl ww.heap.size ww).alloc (Nat.le_refl _) _) I0.lt), (World.grownBy.trans I1 (World.grownBy_alloc _ _ _)), (fun h => upd_keep (I2 (upd_ne h (by decide)))), (fun h => upd_keep (I3 (upd_ne h (by decide)))), (fun h => upd_keep (I4 (upd_ne h (by decide)))), (fun h => upd_keep (I5 (upd_ne h (by decide)))), (fun h => upd_keep (I6 (upd_ne h (by decide)))), (fun h => (f0 (upd_ne h (by decide))).imp (fun e => upd_keep e) (fun T => T.alloc _)), (kp f1), (kp f2), (fun h => (f3 (upd_ne h (by decide))).imp (fun e => upd_keep e) (fun T => T.alloc _)), (kp f4), (kp f5), (kp f6), (kp f7), (fun _ => ⟨ww.heap.size, _, _, _, _, rfl, by have := I1.size; have := HZ.out; omega, Rw.new _ _ _⟩), (fun h => absurd (I4 (upd_ne h (by decide))) (by rw [hL]; simp))⟩
    · obtain rfl := Option.some.inj ho
      have g7 := f7 (hd ⟨7, .data⟩ (by simp) rfl)
      have g8 := f8 (hd ⟨8, .data⟩ (by simp) rfl)
      obtain ⟨g5, z0, z1, z2, z3, rfl, hg5, hz⟩ := g8
      obtain ⟨op, aa, rfl, p1, p2, p3, p4⟩ := g7
      have u0 := hz.cell 0
      have u1 := hz.cell 1
      have u2 := hz.cell 2
      have u3 := hz.cell 3
      have v0 := hz.frozen 0
      have v1 := hz.frozen 1
      have v2 := hz.frozen 2
      have v3 := hz.frozen 3
      simp at u0 u1 u2 u3
      have L2 := hd ⟨2, .phase⟩ (by simp) rfl
      have L6 := hd ⟨6, .chain⟩ (by simp) rfl
      have hgo : gr < w.heap.size := hgl
      have hB : Below g5 ww ((((ww.setCell ⟨g5, 0, none⟩ (.int .i64 op)).setCell ⟨g5, 1, none⟩ (.int .i64 aa)).setCell ⟨g5, 2, none⟩ (.int .i64 0)).setCell ⟨g5, 3, none⟩ (.int .i64 0)) := ((((Below.refl g5 ww).setCell (p := ⟨g5, 0, none⟩) (Nat.le_refl _) _).setCell (p := ⟨g5, 1, none⟩) (Nat.le_refl _) _).setCell (p := ⟨g5, 2, none⟩) (Nat.le_refl _) _).setCell (p := ⟨g5, 3, none⟩) (Nat.le_refl _) _
      have RDN := I0.below hB (by omega)
      have G1 := World.grownBy.trans g0 I1
      have RES := (r0.far I1 (fun e => by injection e with e; omega)).keep hB hg5
      have HB0 := hB
      refine wpOp_step rfl (fun K' hK => ?_)
      go_simp
      refine hK _ _ ?_
      exact ⟨_, _, _, _, _, _, _, _, _, rfl, (by rw [upd_other (by decide), upd_other (by decide)]; exact RDN), (grown_below I1 (hB.mono (by have := HZ.out; omega))), (fun _ => upd_keep (hd ⟨6, .chain⟩ (by simp) rfl)), (fun _ => upd_keep (hd ⟨2, .phase⟩ (by simp) rfl)), (fun _ => upd_keep (hd ⟨8, .data⟩ (by simp) rfl)), (fun _ => upd_keep (hd ⟨3, .phase⟩ (by simp) rfl)), (fun _ => upd_keep (hd ⟨4, .phase⟩ (by simp) rfl)), (fun _ => .inl upd_self), (kp f1), (kp f2), (fun _ => .inl upd_self), (kp f4), (kp f5), (kp f6), (kp f7), (fun _ => ⟨g5, _, _, _, _, rfl, hg5, (((hz.put 0 _).put 1 _).put 2 _).put 3 _⟩), (fun _ => ⟨g5, op, aa, rfl, ⟨RDN.more (by rw [L2, L6]; simp), grown_below G1 (hB.mono (by omega)), (((hz.put 0 _).put 1 _).put 2 _).put 3 _, RES, hg5, hgo⟩, p1, p2, p3, p4⟩)⟩
  case hdone =>
    rintro L ac ww hall ⟨t5, t6, t7, t8, t9, t10, t11, t12, t13, rfl, I0, I1, I2, I3, I4, I5, I6, f0, f1, f2, f3, f4, f5, f6, f7, f8, f9⟩
    have e0 := f0 (hall 0 (by decide))
    have e1 := f1 (hall 1 (by decide))
    have e2 := f2 (hall 2 (by decide))
    have e3 := f3 (hall 3 (by decide))
    have e4 := f4 (hall 4 (by decide))
    have e5 := f5 (hall 5 (by decide))
    have e6 := f6 (hall 6 (by decide))
    have e7 := f7 (hall 7 (by decide))
    have e8 := f8 (hall 8 (by decide))
    have e9 := f9 (hall 9 (by decide))
    clear f0 f1 f2 f3 f4 f5 f6 f7 f8 f9
    obtain ⟨b, op, aa, rfl, S, p1, p2, p3, p4⟩ := e9
    clear e0 e1 e2 e3 e4 e5 e6 e7 e8 I0 I1 I2 I3 I4 I5 I6 h0 r0 g0 HZ
    have y0 : ww.cell? ⟨b, 0, none⟩ = some (.int .i64 op) := S.box.cell 0
    have hlo := S.lo
    have hold := S.old
    clear hgl h
    go_upto_block 0 with fail
    go_cut [] from 14 (fun wc => ∃ o : Cm, Hps.okCm o = true ∧ CmSt w wc gr (N + 7) b o)
    case first =>
      have hcases : op = 1 ∨ op = 2 ∨ op = 3 ∨ op = 4 ∨ op = 5 ∨ op = 6 := by omega
      rcases hcases with rfl | rfl | rfl | rfl | rfl | rfl
      · go_wp2_with fail
        refine (pick_any _ _ _ _ S.rd (by omega) (by omega)).mono ?_
        rintro e w1 ⟨x1, rfl, ax1, cx1, hrx1, gx1⟩
        replace S := S.pick hrx1 gx1
        have cx1' : x1 < 4 := by omega
        clear cx1 hrx1 gx1
        go_wp2_with fail
        refine (pick_any _ _ _ _ S.rd (by omega) (by omega)).mono ?_
        rintro e w2 ⟨x2, rfl, ax2, cx2, hrx2, gx2⟩
        replace S := S.pick hrx2 gx2
        have cx2' : x2 < 3 := by omega
        clear cx2 hrx2 gx2
        have hsz := S.box.lt
        have T := Rw.new w2 3 #[.int .i64 x1, .int .i64 (1 + x2)]
        replace S := S.alloc (.cells #[.int .i64 x1, .int .i64 (1 + x2)] 3)
        go_wp2_with fail
        refine (pick_any _ _ _ _ S.rd (by omega) (by omega)).mono ?_
        rintro e w3 ⟨j, rfl, aj, cj, hrj, gj⟩
        have T3 := T.far gj (fun e => by injection e with e; omega)
        have t0 := T3.cell 0
        have t1 := T3.cell 1
        simp at t0 t1
        replace S := S.pick hrj gj
        have hjj : j = 0 ∨ j = 1 := by omega
        clear aj cj hrj gj T T3 hsz
        rcases hjj with rfl | rfl
        · have v2 := S.box.cell 2
          have fz2 := S.box.frozen 2
          replace S := S.put 2 (.int .i64 x1) (o' := ⟨1, aa, x1, 0⟩) rfl
          go_wp2_with fail
          refine (pick_any _ _ _ _ S.rd (by omega) (by omega)).mono ?_
          rintro e w4 ⟨x4, rfl, ax4, cx4, hrx4, gx4⟩
          replace S := S.pick hrx4 gx4
          have cx4' : x4 < 100 := by omega
          clear cx4 hrx4 gx4
          have v3 := S.box.cell 3
          have fz3 := S.box.frozen 3
          replace S := S.put 3 (.int .i64 x4) (o' := ⟨1, aa, x1, x4⟩) rfl
          go_wp2_with fail
          go_meet
          case rel => exact ⟨⟨1, aa, x1, x4⟩, (Hps.okCm_new rfl).2 ⟨⟨p3, p4⟩, ⟨by show (0 : Int) ≤ x1; omega, by show x1 ≤ (3 : Int); omega⟩, ⟨ax4, by show x4 ≤ 99; omega⟩⟩, S.more (by omega)⟩
        · have v2 := S.box.cell 2
          have fz2 := S.box.frozen 2
          replace S := S.put 2 (.int .i64 (1 + x2)) (o' := ⟨1, aa, (1 + x2), 0⟩) rfl
          go_wp2_with fail
          refine (pick_any _ _ _ _ S.rd (by omega) (by omega)).mono ?_
          rintro e w4 ⟨x4, rfl, ax4, cx4, hrx4, gx4⟩
          replace S := S.pick hrx4 gx4
          have cx4' : x4 < 100 := by omega
          clear cx4 hrx4 gx4
          have v3 := S.box.cell 3
          have fz3 := S.box.frozen 3
          replace S := S.put 3 (.int .i64 x4) (o' := ⟨1, aa, (1 + x2), x4⟩) rfl
          go_wp2_with fail
          go_meet
          case rel => exact ⟨⟨1, aa, (1 + x2), x4⟩, (Hps.okCm_new rfl).2 ⟨⟨p3, p4⟩, ⟨by show (0 : Int) ≤ (1 + x2); omega, by show (1 + x2) ≤ (3 : Int); omega⟩, ⟨ax4, by show x4 ≤ 99; omega⟩⟩, S.more (by omega)⟩
      · go_wp2_with fail
        refine (pick_any _ _ _ _ S.rd (by omega) (by omega)).mono ?_
        rintro e w1 ⟨x1, rfl, ax1, cx1, hrx1, gx1⟩
        replace S := S.pick hrx1 gx1
        have cx1' : x1 < 4 := by omega
        clear cx1 hrx1 gx1
        have v2 := S.box.cell 2
        have fz2 := S.box.frozen 2
        replace S := S.put 2 (.int .i64 x1) (o' := ⟨2, aa, x1, 0⟩) rfl
        go_wp2_with fail
        refine (pick_any _ _ _ _ S.rd (by omega) (by omega)).mono ?_
        rintro e w2 ⟨x2, rfl, ax2, cx2, hrx2, gx2⟩
        replace S := S.pick hrx2 gx2
        have cx2' : x2 < 3 := by omega
        clear cx2 hrx2 gx2
        have hw : IntKind.i64.wrap (1 + x2) = 1 + x2 := IntWalk.i64_in _ (by omega)
        go_wp2_with fail
        refine (pick_any _ _ _ _ S.rd (by omega) (by omega)).mono ?_
        rintro e w3 ⟨x3, rfl, ax3, cx3, hrx3, gx3⟩
        replace S := S.pick hrx3 gx3
        have cx3' : x3 < 3 := by omega
        clear cx3 hrx3 gx3
        have v3 := S.box.cell 3
        have fz3 := S.box.frozen 3
        replace S := S.put 3 (.int .i64 x3) (o' := ⟨2, aa, x1, x3⟩) rfl
        go_wp2_with fail
        go_meet
        case rel => exact ⟨⟨2, aa, x1, x3⟩, (Hps.okCm_get (.inl rfl)).2 ⟨⟨p3, p4⟩, ⟨ax1, by show x1 ≤ 3; omega⟩, ⟨ax3, by show x3 ≤ 2; omega⟩⟩, S.more (by omega)⟩
      · go_wp2_with fail
        refine (pick_any _ _ _ _ S.rd (by omega) (by omega)).mono ?_
        rintro e w1 ⟨x1, rfl, ax1, cx1, hrx1, gx1⟩
        replace S := S.pick hrx1 gx1
        have cx1' : x1 < 4 := by omega
        clear cx1 hrx1 gx1
        have v2 := S.box.cell 2
        have fz2 := S.box.frozen 2
        replace S := S.put 2 (.int .i64 x1) (o' := ⟨3, aa, x1, 0⟩) rfl
        go_wp2_with fail
        refine (pick_any _ _ _ _ S.rd (by omega) (by omega)).mono ?_
        rintro e w2 ⟨x2, rfl, ax2, cx2, hrx2, gx2⟩
        replace S := S.pick hrx2 gx2
        have cx2' : x2 < 3 := by omega
        clear cx2 hrx2 gx2
        have hw : IntKind.i64.wrap (1 + x2) = 1 + x2 := IntWalk.i64_in _ (by omega)
        go_wp2_with fail
        refine (pick_any _ _ _ _ S.rd (by omega) (by omega)).mono ?_
        rintro e w3 ⟨x3, rfl, ax3, cx3, hrx3, gx3⟩
        replace S := S.pick hrx3 gx3
        have cx3' : x3 < 3 := by omega
        clear cx3 hrx3 gx3
        have v3 := S.box.cell 3
        have fz3 := S.box.frozen 3
        replace S := S.put 3 (.int .i64 x3) (o' := ⟨3, aa, x1, x3⟩) rfl
        go_wp2_with fail
        go_meet
        case rel => exact ⟨⟨3, aa, x1, x3⟩, (Hps.okCm_get (.inr rfl)).2 ⟨⟨p3, p4⟩, ⟨ax1, by show x1 ≤ 3; omega⟩, ⟨ax3, by show x3 ≤ 2; omega⟩⟩, S.more (by omega)⟩
      · go_wp2_with fail
        refine (pick_any _ _ _ _ S.rd (by omega) (by omega)).mono ?_
        rintro e w1 ⟨x1, rfl, ax1, cx1, hrx1, gx1⟩
        replace S := S.pick hrx1 gx1
        have cx1' : x1 < 4 := by omega
        clear cx1 hrx1 gx1
        have v2 := S.box.cell 2
        have fz2 := S.box.frozen 2
        replace S := S.put 2 (.int .i64 x1) (o' := ⟨4, aa, x1, 0⟩) rfl
        go_wp2_with fail
        go_meet
        case rel => exact ⟨⟨4, aa, x1, 0⟩, (Hps.okCm_copy rfl).2 ⟨⟨p3, p4⟩, ⟨ax1, by show x1 ≤ 3; omega⟩, rfl⟩, S.more (by omega)⟩
      · go_wp2_with fail
        go_meet
        case rel => exact ⟨⟨5, aa, 0, 0⟩, (Hps.okCm_drop rfl).2 ⟨⟨p3, p4⟩, rfl, rfl⟩, S.more (by omega)⟩
      · go_wp2_with fail
        refine (pick_any _ _ _ _ S.rd (by omega) (by omega)).mono ?_
        rintro e w1 ⟨x1, rfl, ax1, cx1, hrx1, gx1⟩
        replace S := S.pick hrx1 gx1
        have cx1' : x1 < 100 := by omega
        clear cx1 hrx1 gx1
        have v2 := S.box.cell 2
        have fz2 := S.box.frozen 2
        replace S := S.put 2 (.int .i64 x1) (o' := ⟨6, aa, x1, 0⟩) rfl
        go_wp2_with fail
        go_meet
        case rel => exact ⟨⟨6, aa, x1, 0⟩, (Hps.okCm_data rfl).2 ⟨⟨p3, p4⟩, ⟨ax1, by show x1 ≤ 99; omega⟩, rfl⟩, S.more (by omega)⟩
    case rest =>
      clear y0 S p1 p2 p3 p4
      obtain ⟨o, ho, S⟩ := hcut
      have so := small_of_ok ho
      by_cases hn1 : n = 0
      · subst hn1
        have SS := Lib.hid S
        have HO := Lib.hid ho
        have SO := Lib.hid so
        have b0 : wc.cell? ⟨b, 0, none⟩ = some (.int .i64 o.op) := S.box.cell 0
        have b1 : wc.cell? ⟨b, 1, none⟩ = some (.int .i64 o.a) := S.box.cell 1
        have b2 : wc.cell? ⟨b, 2, none⟩ = some (.int .i64 o.b) := S.box.cell 2
        have b3 : wc.cell? ⟨b, 3, none⟩ = some (.int .i64 o.c) := S.box.cell 3
        have R := Lib.hid S.rd
        clear S ho so
        go_wp2_with fail
        refine (odd_zero' _ _ _ R.out).mono ?_
        rintro e w' ⟨rfl, rfl⟩
        have S9 := SS.out
        have rr := S9.res
        have r2 : (wc).frozen? ⟨w.heap.size, 0, none⟩ = false := rr.frozen 0
        have r3 : (wc).frozen? ⟨w.heap.size, 1, none⟩ = false := rr.frozen 1
        have r4 : (wc).frozen? ⟨w.heap.size, 2, none⟩ = false := rr.frozen 2
        have r5 : (wc).frozen? ⟨w.heap.size, 3, none⟩ = false := rr.frozen 3
        have s2 : (wc).cell? ⟨w.heap.size, 0, none⟩ = some (.int .i64 0) := rr.cell 0
        have s3 : (wc).cell? ⟨w.heap.size, 1, none⟩ = some (.int .i64 0) := rr.cell 1
        have s4 : (wc).cell? ⟨w.heap.size, 2, none⟩ = some (.int .i64 0) := rr.cell 2
        have s5 : (wc).cell? ⟨w.heap.size, 3, none⟩ = some (.int .i64 0) := rr.cell 3
        have bN : Below w.heap.size (wc) (((((wc).setCell ⟨w.heap.size, 0, none⟩ (.int .i64 (o.op))).setCell ⟨w.heap.size, 1, none⟩ (.int .i64 (o.a))).setCell ⟨w.heap.size, 2, none⟩ (.int .i64 (o.b))).setCell ⟨w.heap.size, 3, none⟩ (.int .i64 (o.c))) := ((((Below.refl _ _).setCell (p := ⟨w.heap.size, 0, none⟩) (Nat.le_refl _) _).setCell (p := ⟨w.heap.size, 1, none⟩) (Nat.le_refl _) _).setCell (p := ⟨w.heap.size, 2, none⟩) (Nat.le_refl _) _).setCell (p := ⟨w.heap.size, 3, none⟩) (Nat.le_refl _) _
        have RN := (((rr.put 0 (.int .i64 (o.op))).put 1 (.int .i64 (o.a))).put 2 (.int .i64 (o.b))).put 3 (.int .i64 (o.c))
        have n0 := RN.cell 0
        have n1 := RN.cell 1
        have n2 := RN.cell 2
        have n3 := RN.cell 3
        simp at n0 n1 n2 n3
        have rdN := (S9.rd.below bN hold).more (N' := N + 12) (by omega)
        have gN := grown_below S9.grown bN
        clear rr RN bN
        clear S9
        go_wp2_with fail
        exact bodyPost_ret (v := cmV o) (by simp [results, Tryd.results82, go_sem, *]) rfl ⟨o, rfl, (fun _ => HO.out), SO.out, rdN, gN⟩
      · have hn2 : 1 ≤ n := by omega
        have SO := Lib.hid so
        have R := Lib.hid S.rd
        clear ho so
        go_wp2_with fail
        refine (odd_any _ _ _ _ R.out (by omega) hn2 (by omega)).mono ?_
        rintro e w1 ⟨bb, rfl, hr1, g1⟩
        replace S := S.pick hr1 g1
        clear hr1 g1 R wc
        cases bb
        · have SS := Lib.hid S
          have b0 : w1.cell? ⟨b, 0, none⟩ = some (.int .i64 o.op) := S.box.cell 0
          have b1 : w1.cell? ⟨b, 1, none⟩ = some (.int .i64 o.a) := S.box.cell 1
          have b2 : w1.cell? ⟨b, 2, none⟩ = some (.int .i64 o.b) := S.box.cell 2
          have b3 : w1.cell? ⟨b, 3, none⟩ = some (.int .i64 o.c) := S.box.cell 3
          clear S
          have S9 := SS.out
          have rr := S9.res
          have r2 : (w1).frozen? ⟨w.heap.size, 0, none⟩ = false := rr.frozen 0
          have r3 : (w1).frozen? ⟨w.heap.size, 1, none⟩ = false := rr.frozen 1
          have r4 : (w1).frozen? ⟨w.heap.size, 2, none⟩ = false := rr.frozen 2
          have r5 : (w1).frozen? ⟨w.heap.size, 3, none⟩ = false := rr.frozen 3
          have s2 : (w1).cell? ⟨w.heap.size, 0, none⟩ = some (.int .i64 0) := rr.cell 0
          have s3 : (w1).cell? ⟨w.heap.size, 1, none⟩ = some (.int .i64 0) := rr.cell 1
          have s4 : (w1).cell? ⟨w.heap.size, 2, none⟩ = some (.int .i64 0) := rr.cell 2
          have s5 : (w1).cell? ⟨w.heap.size, 3, none⟩ = some (.int .i64 0) := rr.cell 3
          have bN : Below w.heap.size (w1) (((((w1).setCell ⟨w.heap.size, 0, none⟩ (.int .i64 (o.op))).setCell ⟨w.heap.size, 1, none⟩ (.int .i64 (o.a))).setCell ⟨w.heap.size, 2, none⟩ (.int .i64 (o.b))).setCell ⟨w.heap.size, 3, none⟩ (.int .i64 (o.c))) := ((((Below.refl _ _).setCell (p := ⟨w.heap.size, 0, none⟩) (Nat.le_refl _) _).setCell (p := ⟨w.heap.size, 1, none⟩) (Nat.le_refl _) _).setCell (p := ⟨w.heap.size, 2, none⟩) (Nat.le_refl _) _).setCell (p := ⟨w.heap.size, 3, none⟩) (Nat.le_refl _) _
          have RN := (((rr.put 0 (.int .i64 (o.op))).put 1 (.int .i64 (o.a))).put 2 (.int .i64 (o.b))).put 3 (.int .i64 (o.c))
          have n0 := RN.cell 0
          have n1 := RN.cell 1
          have n2 := RN.cell 2
          have n3 := RN.cell 3
          simp at n0 n1 n2 n3
          have rdN := (S9.rd.below bN hold).more (N' := N + 12) (by omega)
          have gN := grown_below S9.grown bN
          clear rr RN bN
          clear S9
          go_wp2_with fail
          exact bodyPost_ret (v := cmV o) (by simp [results, Tryd.results82, go_sem, *]) rfl ⟨o, rfl, (fun h => absurd h hn1), SO.out, rdN, gN⟩
        · go_wp2_with fail
          refine (pick_any _ _ _ _ S.rd (by omega) (by omega)).mono ?_
          rintro e w2 ⟨j, rfl, a2, c2, hr2, g2⟩
          replace S := S.pick hr2 g2
          clear hr2 g2
          have hj : j = 0 ∨ j = 1 ∨ j = 2 ∨ j = 3 := by omega
          clear a2 c2
          rcases hj with rfl | rfl | rfl | rfl
          · have hsz := S.box.lt
            have T := Rw.new w2 3 #[.int .i64 0, .int .i64 7]
            replace S := S.alloc (.cells #[.int .i64 0, .int .i64 7] 3)
            go_wp2_with fail
            refine (pick_any _ _ _ _ S.rd (by omega) (by omega)).mono ?_
            rintro e w3 ⟨j, rfl, aj, cj, hrj, gj⟩
            have T3 := T.far gj (fun e => by injection e with e; omega)
            have t0 := T3.cell 0
            have t1 := T3.cell 1
            simp at t0 t1
            replace S := S.pick hrj gj
            have hjj : j = 0 ∨ j = 1 := by omega
            clear aj cj hrj gj T T3 hsz
            obtain ⟨q, hq, q1, q2⟩ : ∃ q : Int, (j = 0 ∧ q = 0 ∨ j = 1 ∧ q = 7) ∧ -1 ≤ q ∧ q ≤ 100 := by
              rcases hjj with e | e
              · exact ⟨_, .inl ⟨e, rfl⟩, by omega, by omega⟩
              · exact ⟨_, .inr ⟨e, rfl⟩, by omega, by omega⟩
            have S8 := S.put 0 (.int .i64 q) (o' := ⟨q, o.a, o.b, o.c⟩) rfl
            have v0 := S.box.cell 0
            have fz0 := S.box.frozen 0
            have sm : SmallCm ⟨q, o.a, o.b, o.c⟩ := by
              obtain ⟨k1, k2, k3, k4⟩ := SO.out
              refine ⟨?_, ?_, ?_, ?_⟩ <;> first | assumption | (simp only; omega)
            obtain ⟨o', ho'⟩ : ∃ o' : Cm, o' = ⟨q, o.a, o.b, o.c⟩ := ⟨_, rfl⟩
            have W8 : ∃ w8, w3.setCell ⟨b, 0, none⟩ (.int .i64 q) = w8 := ⟨_, rfl⟩
            rw [← ho'] at S8 sm
            have b0 : (w3.setCell ⟨b, 0, none⟩ (.int .i64 q)).cell? ⟨b, 0, none⟩ = some (.int .i64 o'.op) := S8.box.cell 0
            have b1 : (w3.setCell ⟨b, 0, none⟩ (.int .i64 q)).cell? ⟨b, 1, none⟩ = some (.int .i64 o'.a) := S8.box.cell 1
            have b2 : (w3.setCell ⟨b, 0, none⟩ (.int .i64 q)).cell? ⟨b, 2, none⟩ = some (.int .i64 o'.b) := S8.box.cell 2
            have b3 : (w3.setCell ⟨b, 0, none⟩ (.int .i64 q)).cell? ⟨b, 3, none⟩ = some (.int .i64 o'.c) := S8.box.cell 3
            have S9 := S8
            have rr := S9.res
            have r2 : (w3.setCell ⟨b, 0, none⟩ (.int .i64 q)).frozen? ⟨w.heap.size, 0, none⟩ = false := rr.frozen 0
            have r3 : (w3.setCell ⟨b, 0, none⟩ (.int .i64 q)).frozen? ⟨w.heap.size, 1, none⟩ = false := rr.frozen 1
            have r4 : (w3.setCell ⟨b, 0, none⟩ (.int .i64 q)).frozen? ⟨w.heap.size, 2, none⟩ = false := rr.frozen 2
            have r5 : (w3.setCell ⟨b, 0, none⟩ (.int .i64 q)).frozen? ⟨w.heap.size, 3, none⟩ = false := rr.frozen 3
            have s2 : (w3.setCell ⟨b, 0, none⟩ (.int .i64 q)).cell? ⟨w.heap.size, 0, none⟩ = some (.int .i64 0) := rr.cell 0
            have s3 : (w3.setCell ⟨b, 0, none⟩ (.int .i64 q)).cell? ⟨w.heap.size, 1, none⟩ = some (.int .i64 0) := rr.cell 1
            have s4 : (w3.setCell ⟨b, 0, none⟩ (.int .i64 q)).cell? ⟨w.heap.size, 2, none⟩ = some (.int .i64 0) := rr.cell 2
            have s5 : (w3.setCell ⟨b, 0, none⟩ (.int .i64 q)).cell? ⟨w.heap.size, 3, none⟩ = some (.int .i64 0) := rr.cell 3
            have bN : Below w.heap.size (w3.setCell ⟨b, 0, none⟩ (.int .i64 q)) (((((w3.setCell ⟨b, 0, none⟩ (.int .i64 q)).setCell ⟨w.heap.size, 0, none⟩ (.int .i64 (o'.op))).setCell ⟨w.heap.size, 1, none⟩ (.int .i64 (o'.a))).setCell ⟨w.heap.size, 2, none⟩ (.int .i64 (o'.b))).setCell ⟨w.heap.size, 3, none⟩ (.int .i64 (o'.c))) := ((((Below.refl _ _).setCell (p := ⟨w.heap.size, 0, none⟩) (Nat.le_refl _) _).setCell (p := ⟨w.heap.size, 1, none⟩) (Nat.le_refl _) _).setCell (p := ⟨w.heap.size, 2, none⟩) (Nat.le_refl _) _).setCell (p := ⟨w.heap.size, 3, none⟩) (Nat.le_refl _) _
            have RN := (((rr.put 0 (.int .i64 (o'.op))).put 1 (.int .i64 (o'.a))).put 2 (.int .i64 (o'.b))).put 3 (.int .i64 (o'.c))
            have n0 := RN.cell 0
            have n1 := RN.cell 1
            have n2 := RN.cell 2
            have n3 := RN.cell 3
            simp at n0 n1 n2 n3
            have rdN := (S9.rd.below bN hold).more (N' := N + 12) (by omega)
            have gN := grown_below S9.grown bN
            clear rr RN bN
            have SM := Lib.hid sm
            clear S9 S8 S sm W8 ho' hjj
            rcases hq with ⟨rfl, rfl⟩ | ⟨rfl, rfl⟩ <;>
            · go_wp2_with fail
              exact bodyPost_ret (v := cmV o') (by simp [results, Tryd.results82, go_sem, *]) rfl ⟨o', rfl, fun h => absurd h hn1, SM.out, rdN, gN⟩
          · have hsz := S.box.lt
            have T := Rw.new w2 3 #[.int .i64 (-1), .int .i64 4]
            replace S := S.alloc (.cells #[.int .i64 (-1), .int .i64 4] 3)
            go_wp2_with fail
            refine (pick_any _ _ _ _ S.rd (by omega) (by omega)).mono ?_
            rintro e w3 ⟨j, rfl, aj, cj, hrj, gj⟩
            have T3 := T.far gj (fun e => by injection e with e; omega)
            have t0 := T3.cell 0
            have t1 := T3.cell 1
            simp at t0 t1
            replace S := S.pick hrj gj
            have hjj : j = 0 ∨ j = 1 := by omega
            clear aj cj hrj gj T T3 hsz
            obtain ⟨q, hq, q1, q2⟩ : ∃ q : Int, (j = 0 ∧ q = (-1) ∨ j = 1 ∧ q = 4) ∧ -1 ≤ q ∧ q ≤ 100 := by
              rcases hjj with e | e
              · exact ⟨_, .inl ⟨e, rfl⟩, by omega, by omega⟩
              · exact ⟨_, .inr ⟨e, rfl⟩, by omega, by omega⟩
            have S8 := S.put 1 (.int .i64 q) (o' := ⟨o.op, q, o.b, o.c⟩) rfl
            have v1 := S.box.cell 1
            have fz1 := S.box.frozen 1
            have sm : SmallCm ⟨o.op, q, o.b, o.c⟩ := by
              obtain ⟨k1, k2, k3, k4⟩ := SO.out
              refine ⟨?_, ?_, ?_, ?_⟩ <;> first | assumption | (simp only; omega)
            obtain ⟨o', ho'⟩ : ∃ o' : Cm, o' = ⟨o.op, q, o.b, o.c⟩ := ⟨_, rfl⟩
            have W8 : ∃ w8, w3.setCell ⟨b, 1, none⟩ (.int .i64 q) = w8 := ⟨_, rfl⟩
            rw [← ho'] at S8 sm
            have b0 : (w3.setCell ⟨b, 1, none⟩ (.int .i64 q)).cell? ⟨b, 0, none⟩ = some (.int .i64 o'.op) := S8.box.cell 0
            have b1 : (w3.setCell ⟨b, 1, none⟩ (.int .i64 q)).cell? ⟨b, 1, none⟩ = some (.int .i64 o'.a) := S8.box.cell 1
            have b2 : (w3.setCell ⟨b, 1, none⟩ (.int .i64 q)).cell? ⟨b, 2, none⟩ = some (.int .i64 o'.b) := S8.box.cell 2
            have b3 : (w3.setCell ⟨b, 1, none⟩ (.int .i64 q)).cell? ⟨b, 3, none⟩ = some (.int .i64 o'.c) := S8.box.cell 3
            have S9 := S8
            have rr := S9.res
            have r2 : (w3.setCell ⟨b, 1, none⟩ (.int .i64 q)).frozen? ⟨w.heap.size, 0, none⟩ = false := rr.frozen 0
            have r3 : (w3.setCell ⟨b, 1, none⟩ (.int .i64 q)).frozen? ⟨w.heap.size, 1, none⟩ = false := rr.frozen 1
            have r4 : (w3.setCell ⟨b, 1, none⟩ (.int .i64 q)).frozen? ⟨w.heap.size, 2, none⟩ = false := rr.frozen 2
            have r5 : (w3.setCell ⟨b, 1, none⟩ (.int .i64 q)).frozen? ⟨w.heap.size, 3, none⟩ = false := rr.frozen 3
            have s2 : (w3.setCell ⟨b, 1, none⟩ (.int .i64 q)).cell? ⟨w.heap.size, 0, none⟩ = some (.int .i64 0) := rr.cell 0
            have s3 : (w3.setCell ⟨b, 1, none⟩ (.int .i64 q)).cell? ⟨w.heap.size, 1, none⟩ = some (.int .i64 0) := rr.cell 1
            have s4 : (w3.setCell ⟨b, 1, none⟩ (.int .i64 q)).cell? ⟨w.heap.size, 2, none⟩ = some (.int .i64 0) := rr.cell 2
            have s5 : (w3.setCell ⟨b, 1, none⟩ (.int .i64 q)).cell? ⟨w.heap.size, 3, none⟩ = some (.int .i64 0) := rr.cell 3
            have bN : Below w.heap.size (w3.setCell ⟨b, 1, none⟩ (.int .i64 q)) (((((w3.setCell ⟨b, 1, none⟩ (.int .i64 q)).setCell ⟨w.heap.size, 0, none⟩ (.int .i64 (o'.op))).setCell ⟨w.heap.size, 1, none⟩ (.int .i64 (o'.a))).setCell ⟨w.heap.size, 2, none⟩ (.int .i64 (o'.b))).setCell ⟨w.heap.size, 3, none⟩ (.int .i64 (o'.c))) := ((((Below.refl _ _).setCell (p := ⟨w.heap.size, 0, none⟩) (Nat.le_refl _) _).setCell (p := ⟨w.heap.size, 1, none⟩) (Nat.le_refl _) _).setCell (p := ⟨w.heap.size, 2, none⟩) (Nat.le_refl _) _).setCell (p := ⟨w.heap.size, 3, none⟩) (Nat.le_refl _) _
            have RN := (((rr.put 0 (.int .i64 (o'.op))).put 1 (.int .i64 (o'.a))).put 2 (.int .i64 (o'.b))).put 3 (.int .i64 (o'.c))
            have n0 := RN.cell 0
            have n1 := RN.cell 1
            have n2 := RN.cell 2
            have n3 := RN.cell 3
            simp at n0 n1 n2 n3
            have rdN := (S9.rd.below bN hold).more (N' := N + 12) (by omega)
            have gN := grown_below S9.grown bN
            clear rr RN bN
            have SM := Lib.hid sm
            clear S9 S8 S sm W8 ho' hjj
            rcases hq with ⟨rfl, rfl⟩ | ⟨rfl, rfl⟩ <;>
            · go_wp2_with fail
              exact bodyPost_ret (v := cmV o') (by simp [results, Tryd.results82, go_sem, *]) rfl ⟨o', rfl, fun h => absurd h hn1, SM.out, rdN, gN⟩
          · have hsz := S.box.lt
            have T := Rw.new w2 3 #[.int .i64 (-1), .int .i64 100]
            replace S := S.alloc (.cells #[.int .i64 (-1), .int .i64 100] 3)
            go_wp2_with fail
            refine (pick_any _ _ _ _ S.rd (by omega) (by omega)).mono ?_
            rintro e w3 ⟨j, rfl, aj, cj, hrj, gj⟩
            have T3 := T.far gj (fun e => by injection e with e; omega)
            have t0 := T3.cell 0
            have t1 := T3.cell 1
            simp at t0 t1
            replace S := S.pick hrj gj
            have hjj : j = 0 ∨ j = 1 := by omega
            clear aj cj hrj gj T T3 hsz
            obtain ⟨q, hq, q1, q2⟩ : ∃ q : Int, (j = 0 ∧ q = (-1) ∨ j = 1 ∧ q = 100) ∧ -1 ≤ q ∧ q ≤ 100 := by
              rcases hjj with e | e
              · exact ⟨_, .inl ⟨e, rfl⟩, by omega, by omega⟩
              · exact ⟨_, .inr ⟨e, rfl⟩, by omega, by omega⟩
            have S8 := S.put 2 (.int .i64 q) (o' := ⟨o.op, o.a, q, o.c⟩) rfl
            have v2 := S.box.cell 2
            have fz2 := S.box.frozen 2
            have sm : SmallCm ⟨o.op, o.a, q, o.c⟩ := by
              obtain ⟨k1, k2, k3, k4⟩ := SO.out
              refine ⟨?_, ?_, ?_, ?_⟩ <;> first | assumption | (simp only; omega)
            obtain ⟨o', ho'⟩ : ∃ o' : Cm, o' = ⟨o.op, o.a, q, o.c⟩ := ⟨_, rfl⟩
            have W8 : ∃ w8, w3.setCell ⟨b, 2, none⟩ (.int .i64 q) = w8 := ⟨_, rfl⟩
            rw [← ho'] at S8 sm
            have b0 : (w3.setCell ⟨b, 2, none⟩ (.int .i64 q)).cell? ⟨b, 0, none⟩ = some (.int .i64 o'.op) := S8.box.cell 0
            have b1 : (w3.setCell ⟨b, 2, none⟩ (.int .i64 q)).cell? ⟨b, 1, none⟩ = some (.int .i64 o'.a) := S8.box.cell 1
            have b2 : (w3.setCell ⟨b, 2, none⟩ (.int .i64 q)).cell? ⟨b, 2, none⟩ = some (.int .i64 o'.b) := S8.box.cell 2
            have b3 : (w3.setCell ⟨b, 2, none⟩ (.int .i64 q)).cell? ⟨b, 3, none⟩ = some (.int .i64 o'.c) := S8.box.cell 3
            have S9 := S8
            have rr := S9.res
            have r2 : (w3.setCell ⟨b, 2, none⟩ (.int .i64 q)).frozen? ⟨w.heap.size, 0, none⟩ = false := rr.frozen 0
            have r3 : (w3.setCell ⟨b, 2, none⟩ (.int .i64 q)).frozen? ⟨w.heap.size, 1, none⟩ = false := rr.frozen 1
            have r4 : (w3.setCell ⟨b, 2, none⟩ (.int .i64 q)).frozen? ⟨w.heap.size, 2, none⟩ = false := rr.frozen 2
            have r5 : (w3.setCell ⟨b, 2, none⟩ (.int .i64 q)).frozen? ⟨w.heap.size, 3, none⟩ = false := rr.frozen 3
            have s2 : (w3.setCell ⟨b, 2, none⟩ (.int .i64 q)).cell? ⟨w.heap.size, 0, none⟩ = some (.int .i64 0) := rr.cell 0
            have s3 : (w3.setCell ⟨b, 2, none⟩ (.int .i64 q)).cell? ⟨w.heap.size, 1, none⟩ = some (.int .i64 0) := rr.cell 1
            have s4 : (w3.setCell ⟨b, 2, none⟩ (.int .i64 q)).cell? ⟨w.heap.size, 2, none⟩ = some (.int .i64 0) := rr.cell 2
            have s5 : (w3.setCell ⟨b, 2, none⟩ (.int .i64 q)).cell? ⟨w.heap.size, 3, none⟩ = some (.int .i64 0) := rr.cell 3
            have bN : Below w.heap.size (w3.setCell ⟨b, 2, none⟩ (.int .i64 q)) (((((w3.setCell ⟨b, 2, none⟩ (.int .i64 q)).setCell ⟨w.heap.size, 0, none⟩ (.int .i64 (o'.op))).setCell ⟨w.heap.size, 1, none⟩ (.int .i64 (o'.a))).setCell ⟨w.heap.size, 2, none⟩ (.int .i64 (o'.b))).setCell ⟨w.heap.size, 3, none⟩ (.int .i64 (o'.c))) := ((((Below.refl _ _).setCell (p := ⟨w.heap.size, 0, none⟩) (Nat.le_refl _) _).setCell (p := ⟨w.heap.size, 1, none⟩) (Nat.le_refl _) _).setCell (p := ⟨w.heap.size, 2, none⟩) (Nat.le_refl _) _).setCell (p := ⟨w.heap.size, 3, none⟩) (Nat.le_refl _) _
            have RN := (((rr.put 0 (.int .i64 (o'.op))).put 1 (.int .i64 (o'.a))).put 2 (.int .i64 (o'.b))).put 3 (.int .i64 (o'.c))
            have n0 := RN.cell 0
            have n1 := RN.cell 1
            have n2 := RN.cell 2
            have n3 := RN.cell 3
            simp at n0 n1 n2 n3
            have rdN := (S9.rd.below bN hold).more (N' := N + 12) (by omega)
            have gN := grown_below S9.grown bN
            clear rr RN bN
            have SM := Lib.hid sm
            clear S9 S8 S sm W8 ho' hjj
            rcases hq with ⟨rfl, rfl⟩ | ⟨rfl, rfl⟩ <;>
            · go_wp2_with fail
              exact bodyPost_ret (v := cmV o') (by simp [results, Tryd.results82, go_sem, *]) rfl ⟨o', rfl, fun h => absurd h hn1, SM.out, rdN, gN⟩
          · have hsz := S.box.lt
            have T := Rw.new w2 3 #[.int .i64 (-1), .int .i64 100]
            replace S := S.alloc (.cells #[.int .i64 (-1), .int .i64 100] 3)
            go_wp2_with fail
            refine (pick_any _ _ _ _ S.rd (by omega) (by omega)).mono ?_
            rintro e w3 ⟨j, rfl, aj, cj, hrj, gj⟩
            have T3 := T.far gj (fun e => by injection e with e; omega)
            have t0 := T3.cell 0
            have t1 := T3.cell 1
            simp at t0 t1
            replace S := S.pick hrj gj
            have hjj : j = 0 ∨ j = 1 := by omega
            clear aj cj hrj gj T T3 hsz
            obtain ⟨q, hq, q1, q2⟩ : ∃ q : Int, (j = 0 ∧ q = (-1) ∨ j = 1 ∧ q = 100) ∧ -1 ≤ q ∧ q ≤ 100 := by
              rcases hjj with e | e
              · exact ⟨_, .inl ⟨e, rfl⟩, by omega, by omega⟩
              · exact ⟨_, .inr ⟨e, rfl⟩, by omega, by omega⟩
            have S8 := S.put 3 (.int .i64 q) (o' := ⟨o.op, o.a, o.b, q⟩) rfl
            have v3 := S.box.cell 3
            have fz3 := S.box.frozen 3
            have sm : SmallCm ⟨o.op, o.a, o.b, q⟩ := by
              obtain ⟨k1, k2, k3, k4⟩ := SO.out
              refine ⟨?_, ?_, ?_, ?_⟩ <;> first | assumption | (simp only; omega)
            obtain ⟨o', ho'⟩ : ∃ o' : Cm, o' = ⟨o.op, o.a, o.b, q⟩ := ⟨_, rfl⟩
            have W8 : ∃ w8, w3.setCell ⟨b, 3, none⟩ (.int .i64 q) = w8 := ⟨_, rfl⟩
            rw [← ho'] at S8 sm
            have b0 : (w3.setCell ⟨b, 3, none⟩ (.int .i64 q)).cell? ⟨b, 0, none⟩ = some (.int .i64 o'.op) := S8.box.cell 0
            have b1 : (w3.setCell ⟨b, 3, none⟩ (.int .i64 q)).cell? ⟨b, 1, none⟩ = some (.int .i64 o'.a) := S8.box.cell 1
            have b2 : (w3.setCell ⟨b, 3, none⟩ (.int .i64 q)).cell? ⟨b, 2, none⟩ = some (.int .i64 o'.b) := S8.box.cell 2
            have b3 : (w3.setCell ⟨b, 3, none⟩ (.int .i64 q)).cell? ⟨b, 3, none⟩ = some (.int .i64 o'.c) := S8.box.cell 3
            have S9 := S8
            have rr := S9.res
            have r2 : (w3.setCell ⟨b, 3, none⟩ (.int .i64 q)).frozen? ⟨w.heap.size, 0, none⟩ = false := rr.frozen 0
            have r3 : (w3.setCell ⟨b, 3, none⟩ (.int .i64 q)).frozen? ⟨w.heap.size, 1, none⟩ = false := rr.frozen 1
            have r4 : (w3.setCell ⟨b, 3, none⟩ (.int .i64 q)).frozen? ⟨w.heap.size, 2, none⟩ = false := rr.frozen 2
            have r5 : (w3.setCell ⟨b, 3, none⟩ (.int .i64 q)).frozen? ⟨w.heap.size, 3, none⟩ = false := rr.frozen 3
            have s2 : (w3.setCell ⟨b, 3, none⟩ (.int .i64 q)).cell? ⟨w.heap.size, 0, none⟩ = some (.int .i64 0) := rr.cell 0
            have s3 : (w3.setCell ⟨b, 3, none⟩ (.int .i64 q)).cell? ⟨w.heap.size, 1, none⟩ = some (.int .i64 0) := rr.cell 1
            have s4 : (w3.setCell ⟨b, 3, none⟩ (.int .i64 q)).cell? ⟨w.heap.size, 2, none⟩ = some (.int .i64 0) := rr.cell 2
            have s5 : (w3.setCell ⟨b, 3, none⟩ (.int .i64 q)).cell? ⟨w.heap.size, 3, none⟩ = some (.int .i64 0) := rr.cell 3
            have bN : Below w.heap.size (w3.setCell ⟨b, 3, none⟩ (.int .i64 q)) (((((w3.setCell ⟨b, 3, none⟩ (.int .i64 q)).setCell ⟨w.heap.size, 0, none⟩ (.int .i64 (o'.op))).setCell ⟨w.heap.size, 1, none⟩ (.int .i64 (o'.a))).setCell ⟨w.heap.size, 2, none⟩ (.int .i64 (o'.b))).setCell ⟨w.heap.size, 3, none⟩ (.int .i64 (o'.c))) := ((((Below.refl _ _).setCell (p := ⟨w.heap.size, 0, none⟩) (Nat.le_refl _) _).setCell (p := ⟨w.heap.size, 1, none⟩) (Nat.le_refl _) _).setCell (p := ⟨w.heap.size, 2, none⟩) (Nat.le_refl _) _).setCell (p := ⟨w.heap.size, 3, none⟩) (Nat.le_refl _) _
            have RN := (((rr.put 0 (.int .i64 (o'.op))).put 1 (.int .i64 (o'.a))).put 2 (.int .i64 (o'.b))).put 3 (.int .i64 (o'.c))
            have n0 := RN.cell 0
            have n1 := RN.cell 1
            have n2 := RN.cell 2
            have n3 := RN.cell 3
            simp at n0 n1 n2 n3
            have rdN := (S9.rd.below bN hold).more (N' := N + 12) (by omega)
            have gN := grown_below S9.grown bN
            clear rr RN bN
            have SM := Lib.hid sm
            clear S9 S8 S sm W8 ho' hjj
            rcases hq with ⟨rfl, rfl⟩ | ⟨rfl, rfl⟩ <;>
            · go_wp2_with fail
              exact bodyPost_ret (v := cmV o') (by simp [results, Tryd.results82, go_sem, *]) rfl ⟨o', rfl, fun h => absurd h hn1, SM.out, rdN, gN⟩
end Go.Proofs.YthmddmddcdofaaaDoor

namespace Go.Proofs.YthmddmddcdofaaaDoor
open Go.RowKit
set_option maxRecDepth 100000
/-- a valid program has been drawn -/
def DrewP0 (w : World) (gr N : Nat) (e : Ending) (w' : World) : Prop :=
  ∃ (v : Value) (l : List Cm), e = .returned v ∧ OwnM w' w.heap.size v l ∧ Hps.okCms l = true ∧ Rd w' gr (N + 600) ∧ w.grownBy w' (some gr)
/-- what is known while instructions are drawn -/
structure DrawSM (w : World) (gr N : Nat) (wr : World) (v : Value) (l : List Cm) : Prop where
  own : OwnM wr w.heap.size v l
  rd : Rd wr gr N
  grown : w.grownBy wr (some gr)
theorem DrawSM.pick {w wr w' : World} {gr N N' : Nat} {v : Value} {l : List Cm} (h : DrawSM w gr N wr v l) (hgr : gr < w.heap.size) (hr : Rd w' gr N') (hg : wr.grownBy w' (some gr)) : DrawSM w gr N' w' v l := by
  refine ⟨h.own.far hg ?_, hr, World.grownBy.trans h.grown hg⟩
  right
  intro e
  have := (World.ownsRow.lt h.own gr e).1
  omega
theorem DrawSM.more {w wr : World} {gr N N' : Nat} {v : Value} {l : List Cm} (h : DrawSM w gr N wr v l) (hN : N ≤ N') : DrawSM w gr N' wr v l := ⟨h.own, h.rd.more hN, h.grown⟩
theorem DrawSM.next {w wr w' : World} {gr N : Nat} {v v' : Value} {l m : List Cm} (h : DrawSM w gr N wr v l) (hgr : gr < w.heap.size) (ho : OwnM w' w.heap.size v' m) (hb : Below w.heap.size wr w') : DrawSM w gr N w' v' m :=
  ⟨ho, h.rd.below hb hgr, grown_below h.grown hb⟩
set_option maxHeartbeats 2000000 in
theorem l20Program_zero (gr N : Nat) (w : World) (h : Rd w gr N) (hN : N ≤ 100000) :
    Calls Tryd.prog 114 #[.pointer (some ⟨gr, 0, none⟩), .int .i64 0] w (DrewP0 w gr N) := by
  have hgl := h.lt
  have b0 : Below w.heap.size w (w.alloc (.cells #[] 49)) := (Below.refl _ _).alloc (Nat.le_refl _) _
  have st0 : DrawSM w gr N (w.alloc (.cells #[] 49)) (.slice (some ⟨w.heap.size, 0, none⟩) 0 0) [] := ⟨own_noneM w w.heap.size (Nat.le_refl _), h.below b0 hgl, World.grownBy_alloc _ _ _⟩
  clear b0
  go_enter Tryd.func114, Tryd.ntmps114
  go_wp2_with fail
  refine (pick_any _ _ _ _ st0.rd (by omega) (by omega)).mono ?_
  rintro e w1 ⟨r1, rfl, a1, c1, hr1, g1⟩
  have c1' : r1 < 41 := by omega
  have st1 := (st0.pick hgl hr1 g1).more (N' := N + 1 + 12 * (40 - r1.toNat)) (by omega)
  clear st0 hr1 g1 c1
  obtain ⟨q, rfl⟩ := Int.eq_ofNat_of_zero_le a1
  simp only [Int.toNat_natCast] at st1
  clear a1
  go_wp2_with fail
  go_loopw [5, 6] (fun v i wr => ∃ (k : Nat) (l : List Cm), k ≤ 40 ∧ i = .int .i64 k ∧ l.length + k ≤ 40 ∧ Hid (∀ o ∈ l, Hps.okCm o = true) ∧ DrawSM w gr (N + 1 + 12 * (40 - k)) wr v l) (fun _ i _ => (intOf i).toNat)
  case atStart => exact ⟨q, [], by omega, rfl, by simp; omega, Lib.hid (by simp), st1⟩
  case round =>
    clear st1
    obtain ⟨k, l, hk, rfl, hl, HL, st⟩ := hrel
    by_cases hk0 : 0 < k
    · have hk0' : (0 : Int) < k := by omega
      have S := Lib.hid st
      clear st
      go_wp2_with fail
      refine (l20Command_any _ _ 0 _ S.out.rd (by omega) (by omega) (by omega)).mono ?_
      rintro e w2 ⟨o, rfl, ho, -, hr2, g2⟩
      have st2 := (S.out.pick hgl hr2 g2).more (N' := N + 1 + 12 * (40 - (k - 1))) (by omega)
      have HO := Lib.hid (ho rfl)
      clear S hr2 g2 ho
      have hs4 := st2.grown.size
      have ow := World.ownsRow.alloc st2.own (.cells #[.int .i64 o.op, .int .i64 o.a, .int .i64 o.b, .int .i64 o.c] 49)
      have rr : MS (w2.alloc (.cells #[.int .i64 o.op, .int .i64 o.a, .int .i64 o.b, .int .i64 o.c] 49)) (w2.alloc (.cells #[.int .i64 o.op, .int .i64 o.a, .int .i64 o.b, .int .i64 o.c] 49)).heap.size (some ⟨w2.heap.size, 0, none⟩) 1 [o] := (own_oneM w2 o 0 (Nat.zero_le _)).reads
      have hln : l.length + 1 ≤ 1099511627776 := by omega
      go_wp2_with (at_builtin; refine wpList_appendM rfl (.tmp 14) (.tmp 17) rfl w.heap.size _ l rfl ow (some ⟨w2.heap.size, 0, none⟩) 1 1 _ [o] rfl rr hln (by simp; omega) ?_; intro v5 w5 o5 g5 s5)
      have bn : Below w.heap.size w2 w5 := ((Below.refl w.heap.size w2).alloc hs4 _).grown g5 (by simp; omega) (fun k hk => (World.ownsRow.lt st2.own k hk).1)
      have st5 := st2.next hgl o5 bn
      clear ow rr g5 s5 o5 bn st2
      go_roundw
      case rel => exact ⟨k - 1, l ++ [o], by omega, int_eq (by omega), by simp; omega, Lib.hid (by intro x hx; rcases List.mem_append.1 hx with hx | hx; exact HL.out x hx; rw [List.mem_singleton] at hx; rw [hx]; exact HO.out), st5⟩
      case measure => simp [intOf]; omega
    · obtain rfl : k = 0 := by omega
      have S := Lib.hid st
      have R := Lib.hid st.rd
      have hok := Lib.hid (Hps.okCms_iff.2 ⟨HL.out, by omega⟩)
      clear st HL
      go_wp2_with fail
      refine (odd_zero' _ _ _ R.out).mono ?_
      rintro e w' ⟨rfl, rfl⟩
      go_wp2_with fail
      go_ret
      exact ⟨_, l, rfl, S.out.own, hok.out, S.out.rd.more (by omega), S.out.grown⟩
end Go.Proofs.YthmddmddcdofaaaDoor

namespace Go.Proofs.YthmddmddcdofaaaDoor
open Go.RowKit
set_option maxRecDepth 100000
/-- a slice of one's own is cut short -/
theorem OwnM.cut {w : World} {base n c k : Nat} {A : Option Addr} {xs : List Cm} (h : OwnM w base (.slice A n c) xs) (hk : k ≤ n) : OwnM w base (.slice A k c) (xs.take k) := by
  have hl : (xs.take k).length = k := by rw [List.length_take, ← h.cap.1]; omega
  unfold OwnM
  rw [hl]
  refine ⟨by rw [flatM_length, hl], ?_⟩
  rcases h.2 with ⟨e, h0⟩ | ⟨g, cap, cur, e, hb, hh, hnc, hcap, hsz, hx⟩
  · injection e with e1 e2 e3
    subst e1 e3
    left
    have : k = 0 := by omega
    rw [this]
    exact ⟨rfl, rfl⟩
  · injection e with e1 e2 e3
    subst e1 e3
    right
    refine ⟨g, c, cur, rfl, hb, hh, by omega, hcap, hsz, ?_⟩
    rw [flatM_take, ← hx, List.take_take, Nat.min_eq_left (by omega)]
end Go.Proofs.YthmddmddcdofaaaDoor

