/- What the claim DERunCounted stands on, part 3 of 4: texts of one seat put together, with what the claim needs of them. No conditions. -/
import Derived.Test.YtfgdenmlfloloaaDoorShEb
namespace Go.Proofs.YtfgdenmlfloloaaDoor
open Go.RowKit
set_option maxRecDepth 100000
theorem hasRoom_any (A R : Option Addr) (n c m d : Nat) (o : Cm) (w : World) : Calls Tryd.prog 73 #[heapV A n c R m d, cmV o] w fun e w' => e = .returned (.bool (decide (¬ (o.op = 1 ∧ 40 ≤ n)))) ∧ Below w.heap.size w w' := by
  have b2 : Below w.heap.size w ((w.alloc (.cells #[.slice A n c, .slice R m d] 26)).alloc (.cells #[.int .i64 o.op, .int .i64 o.a, .int .i64 o.b, .int .i64 o.c] 36)) := ((Below.refl w.heap.size w).alloc (Nat.le_refl _) _).alloc (by simp) _
  by_cases h1 : o.op = 1
  · have hne : (o.op != 1) = false := by simp [h1]
    have R0 := Lib.hid (show decide (¬ (o.op = 1 ∧ 40 ≤ n)) = decide ((n : Int) < 40) by rw [decide_eq_decide]; omega)
    clear h1
    go_enter Tryd.func73, Tryd.ntmps73
    go_wp2_with fail
    go_ret
    exact ⟨by rw [R0.out]; rfl, b2⟩
  · have hne : (o.op != 1) = true := by simp [h1]
    have R0 := Lib.hid (show decide (¬ (o.op = 1 ∧ 40 ≤ n)) = true by rw [decide_eq_true_iff]; omega)
    clear h1
    go_enter Tryd.func73, Tryd.ntmps73
    go_wp2_with fail
    go_ret
    exact ⟨by rw [R0.out]; rfl, b2⟩
set_option maxHeartbeats 2000000 in
theorem stepHeap_bad (A R : Option Addr) (n c m d : Nat) (h : Hp) (o : Cm) (w : World) (hb : o.op < 1 ∨ 6 < o.op) :
    Calls Tryd.prog 19 #[heapV A n c R m d, cmV o] w (GaveH2 w (Hps.stepH h o).1 (Hps.stepH h o).2) := by
  have HF := Lib.hid (Hps.stepH_no (h := h) (.inr (Hps.okCm_none hb)))
  have b2 : Below w.heap.size w (((w.alloc (.cells #[.slice A n c, .slice R m d] 26)).alloc (.cells #[.int .i64 o.op, .int .i64 o.a, .int .i64 o.b, .int .i64 o.c] 36)).alloc (.cells #[.slice none 0 0, .slice none 0 0] 26)) := (((Below.refl w.heap.size w).alloc (Nat.le_refl _) _).alloc (by simp) _).alloc (by simp; omega) _
  have q1 := ((Rw.new w 26 #[.slice A n c, .slice R m d]).alloc (.cells #[.int .i64 o.op, .int .i64 o.a, .int .i64 o.b, .int .i64 o.c] 36)).alloc (.cells #[.slice none 0 0, .slice none 0 0] 26)
  have q2 := (Rw.new (w.alloc (.cells #[.slice A n c, .slice R m d] 26)) 36 #[.int .i64 o.op, .int .i64 o.a, .int .i64 o.b, .int .i64 o.c]).alloc (.cells #[.slice none 0 0, .slice none 0 0] 26)
  have q3 := Rw.new ((w.alloc (.cells #[.slice A n c, .slice R m d] 26)).alloc (.cells #[.int .i64 o.op, .int .i64 o.a, .int .i64 o.b, .int .i64 o.c] 36)) 26 #[.slice none 0 0, .slice none 0 0]
  simp only [World.size_alloc] at q2 q3
  go_enter Tryd.func19, Tryd.ntmps19
  go_wp2_with fail
  refine (operationOf_bad o _ hb).mono ?_
  rintro e w1 ⟨rfl, b1⟩
  replace q1 := (q1.keep b1 q1.lt).alloc (.cells #[.int .i64 0, .int .i64 0, .int .i64 0, .nilFunc, .nilFunc] 111)
  replace q2 := (q2.keep b1 q2.lt).alloc (.cells #[.int .i64 0, .int .i64 0, .int .i64 0, .nilFunc, .nilFunc] 111)
  replace q3 := (q3.keep b1 q3.lt).alloc (.cells #[.int .i64 0, .int .i64 0, .int .i64 0, .nilFunc, .nilFunc] 111)
  have qp := Rw.new w1 111 #[.int .i64 0, .int .i64 0, .int .i64 0, .nilFunc, .nilFunc]
  have b4 := b2.trans (b1.mono b2.size)
  have b3 := b4.alloc b4.size (.cells #[.int .i64 0, .int .i64 0, .int .i64 0, .nilFunc, .nilFunc] 111)
  clear b1 b2 b4
  go_upto_region 2 with fail
  generalize w1.alloc (.cells #[.int .i64 0, .int .i64 0, .int .i64 0, .nilFunc, .nilFunc] 111) = w2 at q1 q2 q3 qp b3 ⊢
  generalize w1.heap.size = b5 at qp ⊢
  have r2 : (w2).frozen? ⟨w.heap.size + 1 + 1, 0, none⟩ = false := q3.frozen 0
  have r3 : (w2).frozen? ⟨w.heap.size + 1 + 1, 1, none⟩ = false := q3.frozen 1
  have r4 : (w2).cell? ⟨w.heap.size + 1 + 1, 0, none⟩ = some (.slice none 0 0) := q3.cell 0
  have r5 : (w2).cell? ⟨w.heap.size + 1 + 1, 1, none⟩ = some (.slice none 0 0) := q3.cell 1
  have r6 : (((w2).setCell ⟨w.heap.size + 1 + 1, 0, none⟩ (.slice none 0 0)).setCell ⟨w.heap.size + 1 + 1, 1, none⟩ (.slice none 0 0)).cell? ⟨w.heap.size + 1 + 1, 0, none⟩ = some (.slice none 0 0) := ((q3.put 0 (.slice none 0 0)).put 1 (.slice none 0 0)).cell 0
  have r7 : (((w2).setCell ⟨w.heap.size + 1 + 1, 0, none⟩ (.slice none 0 0)).setCell ⟨w.heap.size + 1 + 1, 1, none⟩ (.slice none 0 0)).cell? ⟨w.heap.size + 1 + 1, 1, none⟩ = some (.slice none 0 0) := ((q3.put 0 (.slice none 0 0)).put 1 (.slice none 0 0)).cell 1
  have D := Lib.hid (OwnH.out (w := w) (g := w.heap.size + 1 + 1) (own_zeroH w2 w2.heap.size (Nat.le_refl _)) (by exact q3.lt) b3 (by omega))
  clear q1 q2 q3 qp b3 hb
  go_wp2_with fail
  exact bodyPost_ret (v := .tuple #[.agg #[.slice none 0 0, .slice none 0 0], .bool false]) (by simp [results, Tryd.results19, go_sem, *]) rfl ⟨_, _, by rw [HF.out], by rw [HF.out]; exact D.out.1, D.out.2⟩
set_option maxHeartbeats 4000000 in
theorem stepHeap_walk (f g : Nat) (x y z : Int) (A R : Option Addr) (n c m d : Nat) (h : Hp) (o : Cm) (w : World) (hs : HS w w.heap.size A n R m h) (hn : n ≤ 1099511627776) (hm : m ≤ 1099511627776) (hc : n ≤ c) (hd : m ≤ d)
    (hop : ∀ w, Calls Tryd.prog 71 #[cmV o] w fun e w' => e = .returned (.tuple #[opA x y z f g, .bool (Hps.okCm o)]) ∧ Below w.heap.size w w') (hf : Hps.validH h = true → Hps.okCm o = true → PossF f o h) (hg : Hps.canH h o = true → ExecF g o h)
    (hen : ∀ args w, (callFunc f args).run Tryd.prog w = .ok (.enter f args) w) (hen2 : ∀ args w, (callFunc g args).run Tryd.prog w = .ok (.enter g args) w) :
    Calls Tryd.prog 19 #[heapV A n c R m d, cmV o] w (GaveH2 w (Hps.stepH h o).1 (Hps.stepH h o).2) := by
  have HP0 := Lib.hid hf
  have HG := Lib.hid hg
  have HO := Lib.hid hop
  have HE := Lib.hid hen
  have HE2 := Lib.hid hen2
  clear hf hg hop hen hen2
  have b2 : Below w.heap.size w (((w.alloc (.cells #[.slice A n c, .slice R m d] 26)).alloc (.cells #[.int .i64 o.op, .int .i64 o.a, .int .i64 o.b, .int .i64 o.c] 36)).alloc (.cells #[.slice none 0 0, .slice none 0 0] 26)) := (((Below.refl w.heap.size w).alloc (Nat.le_refl _) _).alloc (by simp) _).alloc (by simp; omega) _
  have q1 := ((Rw.new w 26 #[.slice A n c, .slice R m d]).alloc (.cells #[.int .i64 o.op, .int .i64 o.a, .int .i64 o.b, .int .i64 o.c] 36)).alloc (.cells #[.slice none 0 0, .slice none 0 0] 26)
  have q2 := (Rw.new (w.alloc (.cells #[.slice A n c, .slice R m d] 26)) 36 #[.int .i64 o.op, .int .i64 o.a, .int .i64 o.b, .int .i64 o.c]).alloc (.cells #[.slice none 0 0, .slice none 0 0] 26)
  have q3 := Rw.new ((w.alloc (.cells #[.slice A n c, .slice R m d] 26)).alloc (.cells #[.int .i64 o.op, .int .i64 o.a, .int .i64 o.b, .int .i64 o.c] 36)) 26 #[.slice none 0 0, .slice none 0 0]
  simp only [World.size_alloc] at q2 q3
  go_enter Tryd.func19, Tryd.ntmps19
  go_wp2_with fail
  refine (HO.out _).mono ?_
  obtain ⟨r, ho⟩ : ∃ r, Hps.okCm o = r := ⟨_, rfl⟩
  rw [ho]
  rintro e w1 ⟨rfl, b1⟩
  replace q1 := (q1.keep b1 q1.lt).alloc (.cells #[.int .i64 x, .int .i64 y, .int .i64 z, .func (.func f) #[] #[], .func (.func g) #[] #[]] 111)
  replace q2 := (q2.keep b1 q2.lt).alloc (.cells #[.int .i64 x, .int .i64 y, .int .i64 z, .func (.func f) #[] #[], .func (.func g) #[] #[]] 111)
  replace q3 := (q3.keep b1 q3.lt).alloc (.cells #[.int .i64 x, .int .i64 y, .int .i64 z, .func (.func f) #[] #[], .func (.func g) #[] #[]] 111)
  have qp := Rw.new w1 111 #[.int .i64 x, .int .i64 y, .int .i64 z, .func (.func f) #[] #[], .func (.func g) #[] #[]]
  have b4 := b2.trans (b1.mono b2.size)
  have b3 := b4.alloc b4.size (.cells #[.int .i64 x, .int .i64 y, .int .i64 z, .func (.func f) #[] #[], .func (.func g) #[] #[]] 111)
  clear b1 b2 b4
  go_upto_region 2 with fail
  generalize w1.alloc (.cells #[.int .i64 x, .int .i64 y, .int .i64 z, .func (.func f) #[] #[], .func (.func g) #[] #[]] 111) = w2 at q1 q2 q3 qp b3 ⊢
  generalize w1.heap.size = b5 at qp ⊢
  cases r
  · have HF := Lib.hid (Hps.stepH_no (h := h) (.inr ho))
    have r2 : (w2).frozen? ⟨w.heap.size + 1 + 1, 0, none⟩ = false := q3.frozen 0
    have r3 : (w2).frozen? ⟨w.heap.size + 1 + 1, 1, none⟩ = false := q3.frozen 1
    have r4 : (w2).cell? ⟨w.heap.size + 1 + 1, 0, none⟩ = some (.slice none 0 0) := q3.cell 0
    have r5 : (w2).cell? ⟨w.heap.size + 1 + 1, 1, none⟩ = some (.slice none 0 0) := q3.cell 1
    have r6 : (((w2).setCell ⟨w.heap.size + 1 + 1, 0, none⟩ (.slice none 0 0)).setCell ⟨w.heap.size + 1 + 1, 1, none⟩ (.slice none 0 0)).cell? ⟨w.heap.size + 1 + 1, 0, none⟩ = some (.slice none 0 0) := ((q3.put 0 (.slice none 0 0)).put 1 (.slice none 0 0)).cell 0
    have r7 : (((w2).setCell ⟨w.heap.size + 1 + 1, 0, none⟩ (.slice none 0 0)).setCell ⟨w.heap.size + 1 + 1, 1, none⟩ (.slice none 0 0)).cell? ⟨w.heap.size + 1 + 1, 1, none⟩ = some (.slice none 0 0) := ((q3.put 0 (.slice none 0 0)).put 1 (.slice none 0 0)).cell 1
    have D := Lib.hid (OwnH.out (w := w) (g := w.heap.size + 1 + 1) (own_zeroH w2 w2.heap.size (Nat.le_refl _)) (by exact q3.lt) b3 (by omega))
    clear q1 q2 q3 qp b3 ho
    go_wp2_with fail
    exact bodyPost_ret (v := .tuple #[.agg #[.slice none 0 0, .slice none 0 0], .bool false]) (by simp [results, Tryd.results19, go_sem, *]) rfl ⟨_, _, by rw [HF.out], by rw [HF.out]; exact D.out.1, D.out.2⟩
  have HOK := Lib.hid ho
  clear ho
  have x0 : w2.cell? ⟨w.heap.size, 0, none⟩ = some (.slice A n c) := q1.cell 0
  have x1 : w2.cell? ⟨w.heap.size, 1, none⟩ = some (.slice R m d) := q1.cell 1
  have s2 := hs.up b3
  go_wp2_with fail
  refine (heapValid_any _ _ _ _ _ _ h _ s2 hn hm hc hd).mono ?_
  obtain ⟨r, hv⟩ : ∃ r, Hps.validH h = r := ⟨_, rfl⟩
  rw [hv]
  rintro e w3 ⟨rfl, b1⟩
  replace q1 := q1.keep b1 q1.lt
  replace q2 := q2.keep b1 q2.lt
  replace q3 := q3.keep b1 q3.lt
  replace qp := qp.keep b1 qp.lt
  replace b3 := b3.trans (b1.mono b3.size)
  clear b1 s2 x0 x1
  cases r
  · have HF := Lib.hid (Hps.stepH_no (o := o) (.inl hv))
    have r2 : (w3).frozen? ⟨w.heap.size + 1 + 1, 0, none⟩ = false := q3.frozen 0
    have r3 : (w3).frozen? ⟨w.heap.size + 1 + 1, 1, none⟩ = false := q3.frozen 1
    have r4 : (w3).cell? ⟨w.heap.size + 1 + 1, 0, none⟩ = some (.slice none 0 0) := q3.cell 0
    have r5 : (w3).cell? ⟨w.heap.size + 1 + 1, 1, none⟩ = some (.slice none 0 0) := q3.cell 1
    have r6 : (((w3).setCell ⟨w.heap.size + 1 + 1, 0, none⟩ (.slice none 0 0)).setCell ⟨w.heap.size + 1 + 1, 1, none⟩ (.slice none 0 0)).cell? ⟨w.heap.size + 1 + 1, 0, none⟩ = some (.slice none 0 0) := ((q3.put 0 (.slice none 0 0)).put 1 (.slice none 0 0)).cell 0
    have r7 : (((w3).setCell ⟨w.heap.size + 1 + 1, 0, none⟩ (.slice none 0 0)).setCell ⟨w.heap.size + 1 + 1, 1, none⟩ (.slice none 0 0)).cell? ⟨w.heap.size + 1 + 1, 1, none⟩ = some (.slice none 0 0) := ((q3.put 0 (.slice none 0 0)).put 1 (.slice none 0 0)).cell 1
    have D := Lib.hid (OwnH.out (w := w) (g := w.heap.size + 1 + 1) (own_zeroH w3 w3.heap.size (Nat.le_refl _)) (by exact q3.lt) b3 (by omega))
    clear q1 q2 q3 qp b3 hv
    go_wp2_with fail
    exact bodyPost_ret (v := .tuple #[.agg #[.slice none 0 0, .slice none 0 0], .bool false]) (by simp [results, Tryd.results19, go_sem, *]) rfl ⟨_, _, by rw [HF.out], by rw [HF.out]; exact D.out.1, D.out.2⟩
  have HV := Lib.hid hv
  have h40 := (Hps.valid_iff.1 hv).2.1
  have hlc := hs.cells.1
  have H3 := Lib.hid (fun cl (hcl : cl ∈ h.cs) => show cl.r.length ≤ 1000000 by have := (Hps.okCell_iff.1 ((Hps.valid_iff.1 hv).1 cl hcl)).2.2.1; omega)
  have HLC := Lib.hid hlc
  have hn40 : n ≤ 40 := by omega
  clear hv h40 hlc
  have x0 : w3.cell? ⟨w.heap.size, 0, none⟩ = some (.slice A n c) := q1.cell 0
  have x1 : w3.cell? ⟨w.heap.size, 1, none⟩ = some (.slice R m d) := q1.cell 1
  have s3 := hs.up b3
  have B3K := Lib.hid b3
  have Q3K := Lib.hid q3
  go_wp2_with fail
  refine (cloneHeap_any _ _ _ _ _ _ h _ s3 hn hm H3.out).mono ?_
  rintro e w4 ⟨vc, vr, rfl, ow, b1⟩
  have hsz3 := q3.lt
  obtain ⟨rvs, BS0⟩ := BoxSt.of ow b1
  obtain ⟨A5, n5, c5, R5, m5, d5, rfl, rfl⟩ := ow.slices
  replace q1 := (q1.keep b1 q1.lt).alloc (.cells #[.slice A5 n5 c5, .slice R5 m5 d5] 26)
  replace q2 := (q2.keep b1 q2.lt).alloc (.cells #[.slice A5 n5 c5, .slice R5 m5 d5] 26)
  replace q3 := (q3.keep b1 q3.lt).alloc (.cells #[.slice A5 n5 c5, .slice R5 m5 d5] 26)
  replace qp := (qp.keep b1 qp.lt).alloc (.cells #[.slice A5 n5 c5, .slice R5 m5 d5] 26)
  replace b3 := b3.trans (b1.mono b3.size)
  have b6 := b3.alloc b3.size (.cells #[.slice A5 n5 c5, .slice R5 m5 d5] 26)
  clear b1 b3 s3 x0 x1 ow
  go_upto_region 5 with fail
  generalize w4.alloc (.cells #[.slice A5 n5 c5, .slice R5 m5 d5] 26) = w5 at q1 q2 q3 qp b6 BS0 ⊢
  generalize w4.heap.size = b8 at BS0 ⊢
  have x0 : w5.cell? ⟨w.heap.size, 0, none⟩ = some (.slice A n c) := q1.cell 0
  have x1 : w5.cell? ⟨w.heap.size, 1, none⟩ = some (.slice R m d) := q1.cell 1
  have y0 : w5.cell? ⟨w.heap.size + 1, 0, none⟩ = some (.int .i64 o.op) := q2.cell 0
  have y1 : w5.cell? ⟨w.heap.size + 1, 1, none⟩ = some (.int .i64 o.a) := q2.cell 1
  have y2 : w5.cell? ⟨w.heap.size + 1, 2, none⟩ = some (.int .i64 o.b) := q2.cell 2
  have y3 : w5.cell? ⟨w.heap.size + 1, 3, none⟩ = some (.int .i64 o.c) := q2.cell 3
  have z3 : w5.cell? ⟨b5, 3, none⟩ = some (.func (.func f) #[] #[]) := qp.cell 3
  have s5 := hs.up b6
  have hen := HE.out
  go_wp2_with fail
  clear hen
  refine (HP0.out HV.out HOK.out A R n c m d w5 s5 hn hm hc hd).mono ?_
  obtain ⟨r, hr⟩ : ∃ r, Hps.canH h o = r := ⟨_, rfl⟩
  rw [hr]
  rintro e w6 ⟨rfl, b1⟩
  replace q1 := q1.keep b1 q1.lt
  replace q2 := q2.keep b1 q2.lt
  replace q3 := q3.keep b1 q3.lt
  replace qp := qp.keep b1 qp.lt
  replace b6 := b6.trans (b1.mono b6.size)
  replace BS0 := BS0.up b1
  clear b1 s5 x0 x1 y0 y1 y2 y3 z3
  have v0 : w6.cell? ⟨b8, 0, none⟩ = some (.slice A5 n5 c5) := BS0.box.cell 0
  have v1 : w6.cell? ⟨b8, 1, none⟩ = some (.slice R5 m5 d5) := BS0.box.cell 1
  cases r
  · have HF := Lib.hid (Hps.stepH_cannot HV.out HOK.out hr)
    have r2 : (w6).frozen? ⟨w.heap.size + 1 + 1, 0, none⟩ = false := q3.frozen 0
    have r3 : (w6).frozen? ⟨w.heap.size + 1 + 1, 1, none⟩ = false := q3.frozen 1
    have r4 : (w6).cell? ⟨w.heap.size + 1 + 1, 0, none⟩ = some (.slice none 0 0) := q3.cell 0
    have r5 : (w6).cell? ⟨w.heap.size + 1 + 1, 1, none⟩ = some (.slice none 0 0) := q3.cell 1
    have r6 : (((w6).setCell ⟨w.heap.size + 1 + 1, 0, none⟩ (.slice A5 n5 c5)).setCell ⟨w.heap.size + 1 + 1, 1, none⟩ (.slice R5 m5 d5)).cell? ⟨w.heap.size + 1 + 1, 0, none⟩ = some (.slice A5 n5 c5) := ((q3.put 0 (.slice A5 n5 c5)).put 1 (.slice R5 m5 d5)).cell 0
    have r7 : (((w6).setCell ⟨w.heap.size + 1 + 1, 0, none⟩ (.slice A5 n5 c5)).setCell ⟨w.heap.size + 1 + 1, 1, none⟩ (.slice R5 m5 d5)).cell? ⟨w.heap.size + 1 + 1, 1, none⟩ = some (.slice R5 m5 d5) := ((q3.put 0 (.slice A5 n5 c5)).put 1 (.slice R5 m5 d5)).cell 1
    have D := Lib.hid (OwnH.out (w := w) (g := w.heap.size + 1 + 1) BS0.ownH (by omega) b6 (by omega))
    clear q1 q2 q3 qp b6 BS0 hr
    go_wp2_with fail
    exact bodyPost_ret (v := .tuple #[.agg #[.slice A5 n5 c5, .slice R5 m5 d5], .bool false]) (by simp [results, Tryd.results19, go_sem, *]) rfl ⟨_, _, by rw [HF.out], by rw [HF.out]; exact D.out.1, D.out.2⟩
  have HC := Lib.hid hr
  clear hr
  have x0 : w6.cell? ⟨w.heap.size, 0, none⟩ = some (.slice A n c) := q1.cell 0
  have x1 : w6.cell? ⟨w.heap.size, 1, none⟩ = some (.slice R m d) := q1.cell 1
  have y0 : w6.cell? ⟨w.heap.size + 1, 0, none⟩ = some (.int .i64 o.op) := q2.cell 0
  have y1 : w6.cell? ⟨w.heap.size + 1, 1, none⟩ = some (.int .i64 o.a) := q2.cell 1
  have y2 : w6.cell? ⟨w.heap.size + 1, 2, none⟩ = some (.int .i64 o.b) := q2.cell 2
  have y3 : w6.cell? ⟨w.heap.size + 1, 3, none⟩ = some (.int .i64 o.c) := q2.cell 3
  go_wp2_with fail
  refine (hasRoom_any A R n c m d o w6).mono ?_
  obtain ⟨r, hr⟩ : ∃ r, decide (¬ (o.op = 1 ∧ 40 ≤ n)) = r := ⟨_, rfl⟩
  rw [hr]
  rintro e w7 ⟨rfl, b1⟩
  replace q1 := q1.keep b1 q1.lt
  replace q2 := q2.keep b1 q2.lt
  replace q3 := q3.keep b1 q3.lt
  replace qp := qp.keep b1 qp.lt
  replace b6 := b6.trans (b1.mono b6.size)
  replace BS0 := BS0.up b1
  clear b1 x0 x1 y0 y1 y2 y3 v0 v1
  cases r
  · have v0 : w7.cell? ⟨b8, 0, none⟩ = some (.slice A5 n5 c5) := BS0.box.cell 0
    have v1 : w7.cell? ⟨b8, 1, none⟩ = some (.slice R5 m5 d5) := BS0.box.cell 1
    have HF := Lib.hid (show Hps.stepH h o = (h, false) by
      have hr := of_decide_eq_false hr
      have h1 : o.op = 1 := by omega
      have h2 : 40 ≤ n := by omega
      exact Hps.stepH_full HV.out HOK.out h1 (by rw [HLC.out]; omega))
    have r2 : (w7).frozen? ⟨w.heap.size + 1 + 1, 0, none⟩ = false := q3.frozen 0
    have r3 : (w7).frozen? ⟨w.heap.size + 1 + 1, 1, none⟩ = false := q3.frozen 1
    have r4 : (w7).cell? ⟨w.heap.size + 1 + 1, 0, none⟩ = some (.slice none 0 0) := q3.cell 0
    have r5 : (w7).cell? ⟨w.heap.size + 1 + 1, 1, none⟩ = some (.slice none 0 0) := q3.cell 1
    have r6 : (((w7).setCell ⟨w.heap.size + 1 + 1, 0, none⟩ (.slice A5 n5 c5)).setCell ⟨w.heap.size + 1 + 1, 1, none⟩ (.slice R5 m5 d5)).cell? ⟨w.heap.size + 1 + 1, 0, none⟩ = some (.slice A5 n5 c5) := ((q3.put 0 (.slice A5 n5 c5)).put 1 (.slice R5 m5 d5)).cell 0
    have r7 : (((w7).setCell ⟨w.heap.size + 1 + 1, 0, none⟩ (.slice A5 n5 c5)).setCell ⟨w.heap.size + 1 + 1, 1, none⟩ (.slice R5 m5 d5)).cell? ⟨w.heap.size + 1 + 1, 1, none⟩ = some (.slice R5 m5 d5) := ((q3.put 0 (.slice A5 n5 c5)).put 1 (.slice R5 m5 d5)).cell 1
    have D := Lib.hid (OwnH.out (w := w) (g := w.heap.size + 1 + 1) BS0.ownH (by omega) b6 (by omega))
    clear q1 q2 q3 qp b6 BS0 hr
    go_wp2_with fail
    exact bodyPost_ret (v := .tuple #[.agg #[.slice A5 n5 c5, .slice R5 m5 d5], .bool false]) (by simp [results, Tryd.results19, go_sem, *]) rfl ⟨_, _, by rw [HF.out], by rw [HF.out]; exact D.out.1, D.out.2⟩
  have HF := Lib.hid (Hps.stepH_does HV.out HOK.out HC.out (by
    have hr := of_decide_eq_true hr
    rw [HLC.out]
    omega))
  clear hr
  have y0 : w7.cell? ⟨w.heap.size + 1, 0, none⟩ = some (.int .i64 o.op) := q2.cell 0
  have y1 : w7.cell? ⟨w.heap.size + 1, 1, none⟩ = some (.int .i64 o.a) := q2.cell 1
  have y2 : w7.cell? ⟨w.heap.size + 1, 2, none⟩ = some (.int .i64 o.b) := q2.cell 2
  have y3 : w7.cell? ⟨w.heap.size + 1, 3, none⟩ = some (.int .i64 o.c) := q2.cell 3
  have z4 : w7.cell? ⟨b5, 4, none⟩ = some (.func (.func g) #[] #[]) := qp.cell 4
  have hen2 := HE2.out
  go_wp2_with fail
  clear hen2
  refine (HG.out HC.out _ _ _ _ _ _ BS0).mono ?_
  rintro e w8 ⟨⟨ev, rfl⟩, vc', vr', rvs', BS1⟩
  replace q3 := Q3K.out.keep BS1.low hsz3
  have b9 : Below w.heap.size w w8 := B3K.out.trans (BS1.low.mono B3K.out.size)
  obtain ⟨A6, n6, c6, R6, m6, d6, rfl, rfl⟩ := BS1.ownH.slices
  clear y0 y1 y2 y3 z4 q1 q2 qp BS0
  have v0 : w8.cell? ⟨b8, 0, none⟩ = some (.slice A6 n6 c6) := BS1.box.cell 0
  have v1 : w8.cell? ⟨b8, 1, none⟩ = some (.slice R6 m6 d6) := BS1.box.cell 1
  have r2 : (w8).frozen? ⟨w.heap.size + 1 + 1, 0, none⟩ = false := q3.frozen 0
  have r3 : (w8).frozen? ⟨w.heap.size + 1 + 1, 1, none⟩ = false := q3.frozen 1
  have r4 : (w8).cell? ⟨w.heap.size + 1 + 1, 0, none⟩ = some (.slice none 0 0) := q3.cell 0
  have r5 : (w8).cell? ⟨w.heap.size + 1 + 1, 1, none⟩ = some (.slice none 0 0) := q3.cell 1
  have r6 : (((w8).setCell ⟨w.heap.size + 1 + 1, 0, none⟩ (.slice A6 n6 c6)).setCell ⟨w.heap.size + 1 + 1, 1, none⟩ (.slice R6 m6 d6)).cell? ⟨w.heap.size + 1 + 1, 0, none⟩ = some (.slice A6 n6 c6) := ((q3.put 0 (.slice A6 n6 c6)).put 1 (.slice R6 m6 d6)).cell 0
  have r7 : (((w8).setCell ⟨w.heap.size + 1 + 1, 0, none⟩ (.slice A6 n6 c6)).setCell ⟨w.heap.size + 1 + 1, 1, none⟩ (.slice R6 m6 d6)).cell? ⟨w.heap.size + 1 + 1, 1, none⟩ = some (.slice R6 m6 d6) := ((q3.put 0 (.slice A6 n6 c6)).put 1 (.slice R6 m6 d6)).cell 1
  have D := Lib.hid (OwnH.out (w := w) (g := w.heap.size + 1 + 1) BS1.ownH (by omega) b9 (by omega))
  clear q3 b9 BS1
  go_wp2_with fail
  exact bodyPost_ret (v := .tuple #[.agg #[.slice A6 n6 c6, .slice R6 m6 d6], .bool true]) (by simp [results, Tryd.results19, go_sem, *]) rfl ⟨_, _, by rw [HF.out], by rw [HF.out]; exact D.out.1, D.out.2⟩
theorem exec_1 {a b cc : Int} {h : Hp} (hc : Hps.canH h ⟨1, a, b, cc⟩ = true) : ExecF 127 ⟨1, a, b, cc⟩ h := by
  obtain ⟨hv, ho⟩ := Hps.canH_parts hc
  obtain ⟨⟨a1, a2⟩, ⟨b1, b2⟩, _⟩ := (Hps.okCm_new rfl).1 ho
  simp only at a1 a2 b1 b2
  obtain ⟨a, rfl⟩ := Int.eq_ofNat_of_zero_le a1
  obtain ⟨b, rfl⟩ := Int.eq_ofNat_of_zero_le b1
  exact exec_new hv (by omega) (by omega)
theorem exec_2 {a b cc : Int} {h : Hp} (hc : Hps.canH h ⟨2, a, b, cc⟩ = true) : ExecF 129 ⟨2, a, b, cc⟩ h := by
  obtain ⟨hv, ho⟩ := Hps.canH_parts hc
  rw [Hps.canH_get hv ho rfl] at hc
  obtain ⟨⟨a1, a2⟩, ⟨b1, b2⟩, ⟨c1, c2⟩⟩ := (Hps.okCm_get (.inl rfl)).1 ho
  simp only at a1 a2 b1 b2 c1 c2 hc
  obtain ⟨a, rfl⟩ := Int.eq_ofNat_of_zero_le a1
  obtain ⟨b, rfl⟩ := Int.eq_ofNat_of_zero_le b1
  obtain ⟨cc, rfl⟩ := Int.eq_ofNat_of_zero_le c1
  obtain ⟨k, cl, hk, hcl, hp⟩ := Hps.placeH_iff.1 hc
  exact exec_get hv (by omega) (by omega) hk hcl (by omega)
theorem exec_3 {a b cc : Int} {h : Hp} (hc : Hps.canH h ⟨3, a, b, cc⟩ = true) : ExecF 131 ⟨3, a, b, cc⟩ h := by
  obtain ⟨hv, ho⟩ := Hps.canH_parts hc
  rw [Hps.canH_set hv ho rfl] at hc
  obtain ⟨⟨a1, a2⟩, ⟨b1, b2⟩, ⟨c1, c2⟩⟩ := (Hps.okCm_get (.inr rfl)).1 ho
  simp only at a1 a2 b1 b2 c1 c2 hc
  obtain ⟨a, rfl⟩ := Int.eq_ofNat_of_zero_le a1
  obtain ⟨b, rfl⟩ := Int.eq_ofNat_of_zero_le b1
  obtain ⟨cc, rfl⟩ := Int.eq_ofNat_of_zero_le c1
  obtain ⟨k, cl, hk, hcl, hp⟩ := Hps.placeH_iff.1 hc
  exact exec_set hv (by omega) (by omega) hk hcl (by omega)
theorem exec_4 {a b cc : Int} {h : Hp} (hc : Hps.canH h ⟨4, a, b, cc⟩ = true) : ExecF 132 ⟨4, a, b, cc⟩ h := by
  obtain ⟨hv, ho⟩ := Hps.canH_parts hc
  obtain ⟨⟨a1, a2⟩, ⟨b1, b2⟩, _⟩ := (Hps.okCm_copy rfl).1 ho
  simp only at a1 a2 b1 b2
  obtain ⟨a, rfl⟩ := Int.eq_ofNat_of_zero_le a1
  obtain ⟨b, rfl⟩ := Int.eq_ofNat_of_zero_le b1
  exact exec_copy hv (by omega) (by omega)
theorem exec_5 {a b cc : Int} {h : Hp} (hc : Hps.canH h ⟨5, a, b, cc⟩ = true) : ExecF 133 ⟨5, a, b, cc⟩ h := by
  obtain ⟨hv, ho⟩ := Hps.canH_parts hc
  obtain ⟨a1, a2⟩ := Hps.okCm_a ho
  simp only at a1 a2
  obtain ⟨a, rfl⟩ := Int.eq_ofNat_of_zero_le a1
  exact exec_drop hv (by omega)
theorem exec_6 {a b cc : Int} {h : Hp} (hc : Hps.canH h ⟨6, a, b, cc⟩ = true) : ExecF 135 ⟨6, a, b, cc⟩ h := by
  obtain ⟨hv, ho⟩ := Hps.canH_parts hc
  obtain ⟨a1, a2⟩ := Hps.okCm_a ho
  rw [Hps.canH_data hv ho rfl, decide_eq_true_iff] at hc
  simp only at a1 a2 hc
  obtain ⟨a, rfl⟩ := Int.eq_ofNat_of_zero_le a1
  have hr4 := (Hps.valid_iff.1 hv).2.2.1
  have hx := List.getElem?_eq_getElem (show a < h.rt.length by omega)
  generalize h.rt[a]'(by omega) = x at hx
  have hk := Hps.rootAt_nat hx
  rw [hk] at hc
  obtain ⟨k, rfl⟩ := Int.eq_ofNat_of_zero_le hc
  obtain ⟨k', e, hl, _⟩ := Hps.okRef_nat (Hps.valid_root hv hx) hc
  have e : k = k' := by omega
  subst e
  exact exec_data hv (by omega) hk (List.getElem?_eq_getElem hl)
theorem stepHeap_any (A R : Option Addr) (n c m d : Nat) (h : Hp) (o : Cm) (w : World) (hs : HS w w.heap.size A n R m h) (hn : n ≤ 1099511627776) (hm : m ≤ 1099511627776) (hc : n ≤ c) (hd : m ≤ d) :
    Calls Tryd.prog 19 #[heapV A n c R m d, cmV o] w (GaveH2 w (Hps.stepH h o).1 (Hps.stepH h o).2) := by
  by_cases hb : o.op < 1 ∨ 6 < o.op
  · exact stepHeap_bad A R n c m d h o w hb
  · obtain ⟨op, a, b, cc⟩ := o
    simp only at hb
    obtain rfl | rfl | rfl | rfl | rfl | rfl : op = 1 ∨ op = 2 ∨ op = 3 ∨ op = 4 ∨ op = 5 ∨ op = 6 := by omega
    · exact stepHeap_walk _ _ _ _ _ A R n c m d h _ w hs hn hm hc hd (operationOf_1 a b cc) (fun hv ho => poss_always (Hps.canH_else hv ho (by simp) (by simp) (by simp))) exec_1 (run_entered Tryd.func126 (by decide) (by rfl)) (run_entered Tryd.func127 (by decide) (by rfl))
    · exact stepHeap_walk _ _ _ _ _ A R n c m d h _ w hs hn hm hc hd (operationOf_2 a b cc) (fun hv ho => poss_get hv ho rfl) exec_2 (run_entered Tryd.func128 (by decide) (by rfl)) (run_entered Tryd.func129 (by decide) (by rfl))
    · exact stepHeap_walk _ _ _ _ _ A R n c m d h _ w hs hn hm hc hd (operationOf_3 a b cc) (fun hv ho => poss_set hv ho rfl) exec_3 (run_entered Tryd.func130 (by decide) (by rfl)) (run_entered Tryd.func131 (by decide) (by rfl))
    · exact stepHeap_walk _ _ _ _ _ A R n c m d h _ w hs hn hm hc hd (operationOf_4 a b cc) (fun hv ho => poss_always (Hps.canH_else hv ho (by simp) (by simp) (by simp))) exec_4 (run_entered Tryd.func126 (by decide) (by rfl)) (run_entered Tryd.func132 (by decide) (by rfl))
    · exact stepHeap_walk _ _ _ _ _ A R n c m d h _ w hs hn hm hc hd (operationOf_5 a b cc) (fun hv ho => poss_always (Hps.canH_else hv ho (by simp) (by simp) (by simp))) exec_5 (run_entered Tryd.func126 (by decide) (by rfl)) (run_entered Tryd.func133 (by decide) (by rfl))
    · exact stepHeap_walk _ _ _ _ _ A R n c m d h _ w hs hn hm hc hd (operationOf_6 a b cc) (fun hv ho => poss_data hv ho rfl) exec_6 (run_entered Tryd.func134 (by decide) (by rfl)) (run_entered Tryd.func135 (by decide) (by rfl))
end Go.Proofs.YtfgdenmlfloloaaDoor

namespace Go.Proofs.YtfgdenmlfloloaaDoor
open Go.RowKit
set_option maxRecDepth 100000
theorem mul64_14 (w : World) : Calls Tryd.prog 140 #[.int .u64 1, .int .u64 4] w fun e w' => e = .returned (.tuple #[.int .u64 0, .int .u64 4]) ∧ w = w' := by
  go_enter Tryd.func140, Tryd.ntmps140
  go_wp2_with fail
  go_ret2
  exact ⟨rfl, rfl⟩
theorem mul_14 (w : World) : Calls Tryd.prog 124 #[.int .u64 1, .int .u64 4] w fun e w' => e = .returned (.tuple #[.int .u64 0, .int .u64 4]) ∧ w = w' := by
  go_enter Tryd.func124, Tryd.ntmps124
  go_wp2_with fail
  refine (mul64_14 _).mono ?_
  rintro e w1 ⟨rfl, rfl⟩
  go_wp2_with fail
  go_ret2
  exact ⟨rfl, rfl⟩
theorem info_intsz : (Tryd.prog.info? 3).map (·.size) = some 1 := by kernel_rfl
/-- k times -1, then 0 -/
def rep4 (k : Nat) : List Value := List.replicate k (.int .i64 (-1)) ++ List.replicate (4 - k) (.int .i64 0)
def RowK (w : World) (g k : Nat) : Prop := w.heap[g]? = some (.cells (rep4 k).toArray 3 (0, 0))
theorem copy_first {w : World} {g g0 : Nat} (hr : RowK w g0 0) (hc : w.cell? ⟨g, 0, none⟩ = some (.int .i64 (-1))) (ty : TypeId) :
    (Builtin.copy_ #[24, 24] ty #[.slice (some ⟨g0, 0, none⟩) 4 4, .slice (some ⟨g, 0, none⟩) 1 1]).run Tryd.prog w = .ok (.int .i64 1) (w.setRow g0 (rep4 1).toArray) :=
  run_copy_row (P := Tryd.prog) w 24 24 ty 3 g0 0 4 4 ⟨g, 0, none⟩ 1 1 (rep4 0).toArray 3 [.int .i64 (-1)] Tryd.underlying24 info_intsz hr rfl (by
    intro j v hj
    match j, hj with
    | 0, hj => simp at hj; subst hj; exact hc) (by decide) (by intro v hv; simp at hv; subst hv; rfl)
theorem RowK.cell {w : World} {g k j : Nat} (h : RowK w g k) (hj : j < k) : w.cell? ⟨g, j, none⟩ = some (.int .i64 (-1)) := by
  have : (rep4 k)[j]? = some (.int .i64 (-1)) := by
    unfold rep4
    rw [List.getElem?_append_left (by simpa using hj)]
    simp [hj]
  have e : w.cell? ⟨g, j, none⟩ = (rep4 k).toArray[j]? := Rw.cell (cs := (rep4 k).toArray) h j
  rw [e]
  simpa using this
theorem RowK.put {w : World} {g k : Nat} (h : RowK w g k) (j : Nat) : RowK (w.setRow g (rep4 j).toArray) g j := setRow_heap w g _ _ _ _ h
theorem copy_one {w : World} {g : Nat} (h : RowK w g 1) (ty : TypeId) :
    (Builtin.copy_ #[24, 24] ty #[.slice (some ⟨g, 1, none⟩) 3 3, .slice (some ⟨g, 0, none⟩) 1 4]).run Tryd.prog w = .ok (.int .i64 1) (w.setRow g (rep4 2).toArray) :=
  run_copy_row (P := Tryd.prog) w 24 24 ty 3 g 1 3 3 ⟨g, 0, none⟩ 1 4 (rep4 1).toArray 3 [.int .i64 (-1)] Tryd.underlying24 info_intsz h rfl (by
    intro j v hj
    match j, hj with
    | 0, hj => simp at hj; subst hj; exact h.cell (by omega)) (by decide) (by intro v hv; simp at hv; subst hv; rfl)
theorem copy_two {w : World} {g : Nat} (h : RowK w g 2) (ty : TypeId) :
    (Builtin.copy_ #[24, 24] ty #[.slice (some ⟨g, 2, none⟩) 2 2, .slice (some ⟨g, 0, none⟩) 2 4]).run Tryd.prog w = .ok (.int .i64 2) (w.setRow g (rep4 4).toArray) :=
  run_copy_row (P := Tryd.prog) w 24 24 ty 3 g 2 2 2 ⟨g, 0, none⟩ 2 4 (rep4 2).toArray 3 [.int .i64 (-1), .int .i64 (-1)] Tryd.underlying24 info_intsz h rfl (by
    intro j v hj
    match j, hj with
    | 0, hj => simp at hj; subst hj; exact h.cell (j := 0) (by omega)
    | 1, hj => simp at hj; subst hj; exact h.cell (j := 1) (by omega)) (by decide) (by intro v hv; simp at hv; subst hv; rfl)
set_option maxHeartbeats 1000000 in
theorem repeat_any (g : Nat) (w : World) (hg : g < w.heap.size) (hc : w.cell? ⟨g, 0, none⟩ = some (.int .i64 (-1))) :
    Calls Tryd.prog 100 #[.slice (some ⟨g, 0, none⟩) 1 1, .int .i64 4] w (GaveI w (List.replicate 4 (-1))) := by
  have hmk := makeI w 4 (by omega)
  have b2 : Below w.heap.size w (w.alloc (.cells (Array.replicate 4 (.int .i64 0)) 3)) := (Below.refl _ _).alloc (Nat.le_refl _) _
  have k2 : RowK (w.alloc (.cells (Array.replicate 4 (.int .i64 0)) 3)) w.heap.size 0 := Rw.new w 3 (Array.replicate 4 (.int .i64 0))
  have hc2 := (b2.cell (p := ⟨g, 0, none⟩) hg).trans hc
  obtain ⟨w2, hw2⟩ : ∃ w2, w.alloc (.cells (Array.replicate 4 (.int .i64 0)) 3) = w2 := ⟨_, rfl⟩
  rw [hw2] at hmk b2 k2 hc2
  obtain ⟨G, hG⟩ : ∃ G, w.heap.size = G := ⟨_, rfl⟩
  rw [hG] at hmk b2 k2
  simp at hmk
  have hcp := copy_first k2 hc2
  have k3 := k2.put 1
  have b3 : Below G w (w2.setRow G (rep4 1).toArray) := below_setRow b2 (Nat.le_refl _) _
  obtain ⟨w3, hw3⟩ : ∃ w3, w2.setRow G (rep4 1).toArray = w3 := ⟨_, rfl⟩
  rw [hw3] at hcp k3 b3
  clear hw2 hw3
  go_enter Tryd.func100, Tryd.ntmps100
  go_wp2_with fail
  refine (mul_14 _).mono ?_
  rintro e w1 ⟨rfl, rfl⟩
  go_wp2_with fail
  clear k2 hc2 hmk hcp b2
  go_loopw [8] (fun v wr => ∃ k : Nat, (k = 1 ∨ k = 2 ∨ k = 4) ∧ v = .int .i64 k ∧ RowK wr G k ∧ Below G w wr) (fun v _ => 4 - (intOf v).toNat)
  case atStart => exact ⟨1, .inl rfl, rfl, k3, b3⟩
  case round =>
    clear k3 b3
    obtain ⟨k, hk, rfl, hr, bb⟩ := hrel
    rcases hk with rfl | rfl | rfl
    · have hcp := copy_one (w := wr.drew) hr
      have kn := RowK.put (w := wr.drew) hr 2
      have bn : Below G w (wr.drew.setRow G (rep4 2).toArray) := below_setRow bb.drew (Nat.le_refl _) _
      obtain ⟨w3, hw3⟩ : ∃ w3, wr.drew.setRow G (rep4 2).toArray = w3 := ⟨_, rfl⟩
      rw [hw3] at hcp kn bn
      clear hw3
      go_wp2_with fail
      go_region
      go_wp2
      go_roundw
      case rel => exact ⟨2, .inr (.inl rfl), rfl, kn, bn⟩
      case measure => simp [intOf]
    · have hcp := copy_two (w := wr.drew) hr
      have kn := RowK.put (w := wr.drew) hr 4
      have bn : Below G w (wr.drew.setRow G (rep4 4).toArray) := below_setRow bb.drew (Nat.le_refl _) _
      obtain ⟨w3, hw3⟩ : ∃ w3, wr.drew.setRow G (rep4 4).toArray = w3 := ⟨_, rfl⟩
      rw [hw3] at hcp kn bn
      clear hw3
      go_wp2_with fail
      go_region
      go_wp2
      go_roundw
      case rel => exact ⟨4, .inr (.inr rfl), rfl, kn, bn⟩
      case measure => simp [intOf]
    · go_wp2_with fail
      go_ret
      refine ⟨_, rfl, ⟨by simp, .inr ⟨G, 4, (rep4 4).toArray, by simp, by omega, hr, by simp, by unfold maxLen; omega, by decide, rfl⟩⟩, by rw [hG]; exact bb⟩
set_option maxHeartbeats 1000000 in
theorem emptyHeap_any (w : World) : Calls Tryd.prog 78 #[] w (GaveH w Hps.emptyH) := by
  go_enter Tryd.func78, Tryd.ntmps78
  go_wp2_with fail
  have b0 : Below w.heap.size w ((w.alloc (.cells #[.slice none 0 0, .slice none 0 0] 26)).alloc (.cells #[.int .i64 (-1)] 3)) := ((Below.refl w.heap.size w).alloc (Nat.le_refl _) _).alloc (by simp) _
  have x0 := (Rw.new w 26 #[.slice none 0 0, .slice none 0 0]).alloc (.cells #[.int .i64 (-1)] 3)
  have c1 : ((w.alloc (.cells #[.slice none 0 0, .slice none 0 0] 26)).alloc (.cells #[.int .i64 (-1)] 3)).cell? ⟨w.heap.size + 1, 0, none⟩ = some (.int .i64 (-1)) := by
    have := (Rw.new (w.alloc (.cells #[.slice none 0 0, .slice none 0 0] 26)) 3 #[.int .i64 (-1)]).cell 0
    rw [World.size_alloc] at this
    exact this
  have hsz : w.heap.size + 1 < ((w.alloc (.cells #[.slice none 0 0, .slice none 0 0] 26)).alloc (.cells #[.int .i64 (-1)] 3)).heap.size := by simp
  have hs2 : ((w.alloc (.cells #[.slice none 0 0, .slice none 0 0] 26)).alloc (.cells #[.int .i64 (-1)] 3)).heap.size = w.heap.size + 2 := by simp
  refine (repeat_any (w.heap.size + 1) _ hsz c1).mono ?_
  rintro e wr ⟨v3, rfl, ho, b3⟩
  rw [hs2] at ho
  have bb := b0.trans (b3.mono b0.size)
  have hr := x0.keep b3 x0.lt
  clear b0 x0 c1 hsz hs2 b3
  obtain ⟨A, c, e, _⟩ := ho.form
  rw [List.length_replicate] at e
  subst e
  have y0 : wr.cell? ⟨w.heap.size, 0, none⟩ = some (.slice none 0 0) := hr.cell 0
  have y1 : wr.cell? ⟨w.heap.size, 1, none⟩ = some (.slice none 0 0) := hr.cell 1
  have y2 := hr.frozen 0
  have y3 := hr.frozen 1
  have bn := (bb.setCell (p := ⟨w.heap.size, 0, none⟩) (Nat.le_refl _) (.slice none 0 0)).setCell (p := ⟨w.heap.size, 1, none⟩) (Nat.le_refl _) (.slice A 4 c)
  have q0 := ((hr.put 0 (.slice none 0 0)).put 1 (.slice A 4 c)).cell 0
  have q1 := ((hr.put 0 (.slice none 0 0)).put 1 (.slice A 4 c)).cell 1
  have oh : OwnH ((wr.setCell ⟨w.heap.size, 0, none⟩ (.slice none 0 0)).setCell ⟨w.heap.size, 1, none⟩ (.slice A 4 c)) w.heap.size (.slice none 0 0) (.slice A 4 c) Hps.emptyH := by
    refine ⟨[], rfl, World.ownsRow_nil _ _ _ _, fun k c v hc => by simp [Hps.emptyH] at hc, ?_, ?_⟩
    · have a1 := ho.far (only_put (g := w.heap.size) (World.grownBy.refl _ _) 0 (.slice none 0 0)) (.inr fun e => row_ne (b := w.heap.size) ho (by omega) e.symm)
      exact (a1.far (only_put (g := w.heap.size) (World.grownBy.refl _ _) 1 (.slice A 4 c)) (.inr fun e => row_ne (b := w.heap.size) ho (by omega) e.symm)).base (by omega)
    · simp [Sep, Value.ownBlock]
  simp at q0 q1
  go_wp2_with fail
  exact bodyPost_ret (v := .agg #[.slice none 0 0, .slice A 4 c]) (by simp [results, Tryd.results78, go_sem, *]) rfl ⟨_, _, rfl, oh, bn⟩
end Go.Proofs.YtfgdenmlfloloaaDoor

namespace Go.Proofs.YtfgdenmlfloloaaDoor
open Go.RowKit
set_option maxRecDepth 100000
end Go.Proofs.YtfgdenmlfloloaaDoor

namespace Go.Proofs.YtfgdenmlfloloaaDoor
open Go.ChangeShapes Go.WideShapes Go.ChangeAt Go.RowKit Go.Deep
theorem own : ownKnob Tryd.prog.godebug = none := by kernel_rfl
theorem laidOut : laidOutB Tryd.prog = true := by kernel_rfl
section
variable {H : Type} {enc : TypeId × Value → H} {P : Program} {W W' : World}
/-- all arguments read as they did -/
theorem stay_all (hl : laidOutB P = true) (hb : Below W.heap.size W W') : ∀ {ts : List TypeId} {vs : List Value} {ds : List (DataW H)} {p : List MemPlace},
    (∀ t ∈ ts, P.readableRec t = true ∧ t < P.types.size) → DataW.TrodAll enc P W 0 (fun _ => true) true ts vs ds p → (∀ x ∈ p, x.block < W.heap.size) →
    DataW.TrodAll enc P W' 0 (fun b => decide (b < W.heap.size)) true ts vs ds p
  | [], _, _, _, _, h, _ => by
    obtain ⟨rfl, rfl, rfl⟩ := trodAll_nil h
    exact trodAll_mk0
  | t :: ts, _, _, _, hts, h, hlt => by
    obtain ⟨v, vs, d, ds, p, q, rfl, rfl, rfl, h0, hr⟩ := trodAll_cons h
    have ht := hts t (by simp)
    exact trodAll_cons_mk (Below.trod hl ht.1 ht.2 h0 hb (fun x hx => hlt x (by simp [hx])))
      (stay_all hl hb (fun t' h' => hts t' (by simp [h'])) hr (fun x hx => hlt x (by simp [hx])))
/-- a law that returned true and left old memory alone has met its row -/
theorem law_post {f : Func} {s : ChangeSpec} {args : Array Value} {ds gs : List (DataW H)} {before : List MemPlace} {tb : TypeId}
    (hl : laidOutB P = true) (hts : ∀ t ∈ f.params.toList, P.readableRec t = true ∧ t < P.types.size) (hrt : f.resultTypes = #[tb]) (htb : P.underlying tb = some .bool)
    (hvars : s.vars = []) (hfn : s.fn H ds = { results := [.lit (.bool true)], args := ds })
    (hW : DataW.Whole enc P f.params.toList s.vars false W args.toList ds gs before) (hb : Below W.heap.size W W') :
    s.post enc P f false true false false W args (.bool true) W' := by
  have hW' := hW
  obtain ⟨p, q, hA, hV, rfl, hfz, hnd⟩ := hW
  rw [hvars] at hV
  obtain ⟨rfl, rfl⟩ := trodVars_none hV
  have hlt : ∀ x ∈ p, x.block < W.heap.size := fun x hx => by simpa using hW'.lt x (by simp [hx])
  refine ⟨ds, [], p ++ [], [], p, [], hW', ?_, ?_, ?_, ?_, fun h => by cases h⟩
  · rw [List.append_nil, hfn, hrt]
    exact trodAll_mk1 (shut_bool htb true)
  · rw [List.append_nil, hfn]
    exact stay_all hl hb hts hA hlt
  · rw [List.append_nil, hfn, hvars]
    rfl
  · exact hb.frame _
/-- an address at which a cell lies has no spot -/
theorem addr_of_cell {w : World} {a : Addr} {v : Value} (h : w.cell? a = some v) : a = ⟨a.block, a.off, none⟩ := by
  obtain ⟨b, o, sp⟩ := a
  cases sp with
  | none => rfl
  | some s =>
    unfold World.cell? at h
    simp only [] at h
    split at h <;> simp at h
theorem add_none (b o n : Nat) : (⟨b, o, none⟩ : Addr).add n = ⟨b, o + n, none⟩ := by
  unfold Addr.add
  split
  · next h => subst h; rfl
  · rfl
end
end Go.Proofs.YtfgdenmlfloloaaDoor

namespace Go.Proofs.YtfgdenmlfloloaaDoor
open Go.ChangeShapes Go.WideShapes Go.ChangeAt Go.RowKit Go.Deep
theorem eqIntS_any (A B : Option Addr) (n m c d : Nat) (xs ys : List Int) (w : World) (h : IS w w.heap.size A n xs) (h' : IS w w.heap.size B m ys) (hn : n ≤ 1099511627776) (hm : m ≤ 1099511627776) :
    Calls Tryd.prog 40 #[.slice A n c, .slice B m d] w fun e w' => e = .returned (.bool (decide (xs = ys))) ∧ Below w.heap.size w w' := by
  have HL := Lib.hid h.1
  have HL' := Lib.hid h'.1
  by_cases hnm : n = m
  · subst hnm
    go_enter Tryd.func40, Tryd.ntmps40
    go_wp2
    go_loopw [5] (fun i wr => ∃ (k : Nat), k ≤ n ∧ i = .int .i64 k ∧ Hid (xs.take k = ys.take k) ∧ Below w.heap.size w wr) (fun i _ => n - (intOf i).toNat)
    case atStart => exact ⟨0, Nat.zero_le _, rfl, by simp [Hid], Below.refl _ _⟩
    case round =>
      obtain ⟨k, hk, rfl, hpre, hb⟩ := hrel
      by_cases hlt : k < n
      · obtain ⟨g, o, x, rfl, hg, hx, c1⟩ := (h.below hb).at_ hlt
        obtain ⟨g', o', y, rfl, hg', hx', c1'⟩ := (h'.below hb).at_ hlt
        have HX := Lib.hid hx
        have HX' := Lib.hid hx'
        have hlt' : (k : Int) < n := by omega
        clear hx hx'
        by_cases hxy : x = y
        · subst hxy
          go_wp2_with fail
          go_quiet (fail)
          go_wp2
          go_roundw
          case rel => exact ⟨k + 1, by omega, by go_num, Lib.hid (take_eq_succI hpre.out HX.out HX'.out), below_drewN hb _⟩
          case measure => simp [intOf]; omega
        · have hne : (x == y) = false := by rw [beq_eq_false_iff_ne]; exact hxy
          have hne2 : (x != y) = true := by rw [bne_iff_ne]; exact hxy
          have HNE := Lib.hid (show xs ≠ ys from fun e => hxy (by
            have a := HX.out
            have b := HX'.out
            rw [e, b] at a
            exact (Option.some.inj a).symm))
          clear hxy
          go_wp2_with fail
          go_quiet (fail)
          go_wp2
          go_ret
          exact ⟨ret_bool (decide_eq_false HNE.out).symm, below_drewN hb _⟩
      · have hkn : k = n := by omega
        have HK := Lib.hid hkn
        clear hkn
        go_wp2
        go_ret
        refine ⟨ret_bool ?_, hb⟩
        have hp := hpre.out
        rw [HK.out, List.take_of_length_le (by rw [HL.out]; omega), List.take_of_length_le (by rw [HL'.out]; omega)] at hp
        simp [hp]
  · have hne : ((n : Int) != m) = true := by rw [bne_iff_ne]; omega
    have HN := Lib.hid hnm
    clear hnm
    go_enter Tryd.func40, Tryd.ntmps40
    go_wp2
    go_ret
    refine ⟨ret_bool ?_, Below.refl _ _⟩
    simp
    rintro rfl
    exact HN.out (HL.out.symm.trans HL'.out)
/-- the marks that are laid into a slice of numbers -/
def marksI (k : Int) (n : Nat) : List Int := (List.range n).map fun (i : Nat) => k + (i : Int)
theorem marksI_len (k : Int) (n : Nat) : (marksI k n).length = n := by simp [marksI]
theorem marksI_at (k : Int) {n i : Nat} (h : i < n) : (marksI k n)[i]? = some (k + i) := by
  simp [marksI, h]
theorem set_marksI (k : Int) (xs : List Int) {i : Nat} (h : i < xs.length) : (marksI k i ++ xs.drop i).set i (k + i) = marksI k (i + 1) ++ xs.drop (i + 1) := by
  rw [List.set_append_right _ _ (by rw [marksI_len]; omega), marksI_len, Nat.sub_self]
  rw [List.drop_eq_getElem_cons h, List.set_cons_zero]
  simp [marksI, List.range_succ]
set_option maxHeartbeats 1000000 in
theorem markIntS_any (v : Value) (xs : List Int) (k : Int) (base : Nat) (w : World) (h : OwnI w base v xs) (hk : 0 ≤ k) (hk2 : k ≤ 1099511627776) (hn : xs.length ≤ 1099511627776) :
    Calls Tryd.prog 43 #[v, .int .i64 k] w fun e w' => e = .returned (.int .i64 (k + xs.length)) ∧ OwnI w' base v (marksI k xs.length) ∧ w.grownBy w' v.ownBlock := by
  obtain ⟨A, c, rfl, hA⟩ := h.form
  obtain ⟨n, hn'⟩ : ∃ n, xs.length = n := ⟨_, rfl⟩
  rw [hn'] at h hn hA ⊢
  go_enter Tryd.func43, Tryd.ntmps43
  go_wp2
  go_loopw [1, 5] (fun q a wr => ∃ i : Nat, i ≤ n ∧ a = .int .i64 i ∧ q = .int .i64 (k + i) ∧ OwnI wr base (.slice A n c) (marksI k i ++ xs.drop i) ∧ w.grownBy wr (Value.slice A n c).ownBlock) (fun _ a _ => n - (intOf a).toNat)
  case atStart => exact ⟨0, Nat.zero_le _, rfl, by simp, by simpa [marksI] using h, World.grownBy.refl _ _⟩
  case round =>
    clear h
    obtain ⟨i, hi, rfl, rfl, ho, hg⟩ := hrel
    have hl : (marksI k i ++ xs.drop i).length = n := by simp [marksI]; omega
    by_cases hlt : i < n
    · obtain ⟨g, rfl, hbg, hgl⟩ := hA (by omega)
      obtain ⟨g', o', x, e', _, _, c1⟩ := ho.reads.at_ (k := i) (by omega)
      injection e' with e'
      injection e' with e1 e2
      subst e1 e2
      rw [Nat.zero_add] at c1
      have fz : wr.frozen? ⟨g, i, none⟩ = false := ho.frozen hl i
      have t1 : (i : Int) < n := by omega
      have on := OwnI.cast (set_marksI k xs (show i < xs.length by omega)) (ho.put' (j := i) hl (k + i))
      have gn := only_put hg i (.int .i64 (k + i))
      clear ho hl hA
      go_wp2
      go_roundw
      case rel => exact ⟨i + 1, by omega, by go_num, int_eq (by omega), on, gn⟩
      case measure => simp [intOf]; omega
    · obtain rfl : i = n := by omega
      have ho : OwnI wr base (.slice A i c) (marksI k i) := by
        rw [List.drop_of_length_le (by omega), List.append_nil] at ho
        exact ho
      clear hl hA
      go_wp2
      go_ret
      exact ⟨rfl, ho, hg⟩
theorem heldIntS_any (A : Option Addr) (n c : Nat) (k : Int) (w : World) (h : IS w w.heap.size A n (marksI k n)) (hk : 0 ≤ k) (hk2 : k ≤ 1099511627776) (hn : n ≤ 1099511627776) :
    Calls Tryd.prog 44 #[.slice A n c, .int .i64 k] w fun e w' => e = .returned (.int .i64 (k + n)) ∧ w = w' := by
  go_enter Tryd.func44, Tryd.ntmps44
  go_wp2
  go_loop [1, 5] (fun q a => ∃ i : Nat, i ≤ n ∧ a = .int .i64 i ∧ q = .int .i64 (k + i)) (fun _ a => n - (intOf a).toNat)
  case atStart => exact ⟨0, Nat.zero_le _, rfl, by simp⟩
  case round =>
    obtain ⟨i, hi, rfl, rfl⟩ := hrel
    by_cases hlt : i < n
    · obtain ⟨g, o, x, rfl, hg, hx, c1⟩ := h.at_ hlt
      rw [marksI_at k hlt] at hx
      injection hx with hx
      subst hx
      go_wp2
      go_round
      case rel => exact ⟨i + 1, by omega, by go_num, int_eq (by omega)⟩
      case measure => simp [intOf]; omega
    · have hin : i = n := by omega
      have HI := Lib.hid hin
      clear hin
      go_wp2
      go_ret
      exact ⟨by rw [← HI.out]; rfl, rfl⟩
section
variable {H : Type} {enc : TypeId × Value → H} {P : Program} {W W' : World}
end
end Go.Proofs.YtfgdenmlfloloaaDoor
namespace Go.Proofs.YtfgdenmlfloloaaDoor
open Go.RowKit
end Go.Proofs.YtfgdenmlfloloaaDoor
namespace Go.Proofs.YtfgdenmlfloloaaDoor
open Go.RowKit
end Go.Proofs.YtfgdenmlfloloaaDoor
namespace Go.Proofs.YtfgdenmlfloloaaDoor
open Go.RowKit
set_option maxRecDepth 100000
set_option maxHeartbeats 1000000 in
theorem eqCell_any (x y : Cl) (A B : Option Addr) (m q c d : Nat) (w : World) (hx : IS w w.heap.size A m x.r) (hy : IS w w.heap.size B q y.r) (hm : m ≤ 1099511627776) (hq : q ≤ 1099511627776) :
    Calls Tryd.prog 119 #[.agg #[.bool x.u, .int .i64 x.d, .slice A m c], .agg #[.bool y.u, .int .i64 y.d, .slice B q d]] w fun e w' => e = .returned (.bool (decide (x = y))) ∧ Below w.heap.size w w' := by
  have b2 : Below w.heap.size w ((w.alloc (.cells #[.bool x.u, .int .i64 x.d, .slice A m c] 43)).alloc (.cells #[.bool y.u, .int .i64 y.d, .slice B q d] 43)) := ((Below.refl w.heap.size w).alloc (Nat.le_refl _) _).alloc (by simp) _
  have x2 := hx.up b2
  have y2 := hy.up b2
  by_cases hu : x.u = y.u
  · have hu' : (!x.u == y.u) = false := by simp [hu]
    have HU := Lib.hid hu
    clear hu
    by_cases hd : x.d = y.d
    · have hd' : (x.d != y.d) = false := by rw [bne_eq_false_iff_eq]; exact hd
      have HD := Lib.hid hd
      clear hd
      cases hr : decide (x.r = y.r)
      · have HR := Lib.hid (show decide (x = y) = false by
          have hne := of_decide_eq_false hr
          apply decide_eq_false
          rintro rfl
          exact hne rfl)
        have HRR := Lib.hid hr
        clear hr
        go_enter Tryd.func119, Tryd.ntmps119
        go_wp2_with fail
        refine (eqIntS_any _ _ _ _ _ _ x.r y.r _ x2 y2 hm hq).mono ?_
        rw [HRR.out]
        rintro e w1 ⟨rfl, b1⟩
        go_wp2_with fail
        go_ret
        exact ⟨by rw [HR.out]; rfl, b2.trans (b1.mono b2.size)⟩
      · have HR := Lib.hid (show decide (x = y) = true by
          have hrr := of_decide_eq_true hr
          apply decide_eq_true
          have h1 := HU.out
          have h2 := HD.out
          cases x
          cases y
          simp_all)
        have HRR := Lib.hid hr
        clear hr
        go_enter Tryd.func119, Tryd.ntmps119
        go_wp2_with fail
        refine (eqIntS_any _ _ _ _ _ _ x.r y.r _ x2 y2 hm hq).mono ?_
        rw [HRR.out]
        rintro e w1 ⟨rfl, b1⟩
        go_wp2_with fail
        go_ret
        exact ⟨by rw [HR.out]; rfl, b2.trans (b1.mono b2.size)⟩
    · have hd' : (x.d != y.d) = true := by rw [bne_iff_ne]; exact hd
      have HR := Lib.hid (show decide (x = y) = false by apply decide_eq_false; rintro rfl; exact hd rfl)
      clear hd
      go_enter Tryd.func119, Tryd.ntmps119
      go_wp2_with fail
      go_ret
      exact ⟨by rw [HR.out]; rfl, b2⟩
  · have hu' : (!x.u == y.u) = true := by simp [hu]
    have HR := Lib.hid (show decide (x = y) = false by apply decide_eq_false; rintro rfl; exact hu rfl)
    clear hu
    go_enter Tryd.func119, Tryd.ntmps119
    go_wp2_with fail
    go_ret
    exact ⟨by rw [HR.out]; rfl, b2⟩
theorem take_eq_succC {xs ys : List Cl} {k : Nat} {x y : Cl} (h : xs.take k = ys.take k) (hx : xs[k]? = some x) (hy : ys[k]? = some y) (he : decide (x = y) = true) : xs.take (k + 1) = ys.take (k + 1) := by
  rw [List.take_add_one, List.take_add_one, h, hx, hy, of_decide_eq_true he]
theorem ne_of_atC {xs ys : List Cl} {k : Nat} {x y : Cl} (hx : xs[k]? = some x) (hy : ys[k]? = some y) (he : decide (x = y) = false) : decide (xs = ys) = false := by
  apply decide_eq_false
  rintro rfl
  rw [hx] at hy
  injection hy with hy
  exact of_decide_eq_false he hy
set_option maxHeartbeats 1000000 in
theorem eqCellS_any (A B : Option Addr) (n m c d : Nat) (xs ys : List Cl) (w : World) (h : CS w w.heap.size A n xs) (h' : CS w w.heap.size B m ys) (hn : n ≤ 1099511627776) (hm : m ≤ 1099511627776) (hb : ∀ cl ∈ xs, cl.r.length ≤ 1099511627776) (hb' : ∀ cl ∈ ys, cl.r.length ≤ 1099511627776) :
    Calls Tryd.prog 87 #[.slice A n c, .slice B m d] w fun e w' => e = .returned (.bool (decide (xs = ys))) ∧ Below w.heap.size w w' := by
  have HL := Lib.hid h.1
  have HL' := Lib.hid h'.1
  have HB := Lib.hid hb
  have HB' := Lib.hid hb'
  clear hb hb'
  by_cases hnm : n = m
  · subst hnm
    go_enter Tryd.func87, Tryd.ntmps87
    go_wp2
    go_loopw [5] (fun i wr => ∃ (k : Nat), k ≤ n ∧ i = .int .i64 k ∧ Hid (xs.take k = ys.take k) ∧ Below w.heap.size w wr) (fun i _ => n - (intOf i).toNat)
    case atStart => exact ⟨0, Nat.zero_le _, rfl, by simp [Hid], Below.refl _ _⟩
    case round =>
      obtain ⟨k, hk, rfl, hpre, hb⟩ := hrel
      by_cases hlt : k < n
      · obtain ⟨g, o, x, A1, m1, c1, rfl, hg, hx, p1, p2, p3, _, hi⟩ := (h.below hb).at_ hlt
        obtain ⟨g', o', y, B1, q1, d1, rfl, hg', hx', r1, r2, r3, _, hi'⟩ := (h'.below hb).at_ hlt
        have HX := Lib.hid hx
        have HX' := Lib.hid hx'
        have hm1 : m1 ≤ 1099511627776 := by have := HB.out x (List.mem_of_getElem? hx); have := hi.1; omega
        have hq1 : q1 ≤ 1099511627776 := by have := HB'.out y (List.mem_of_getElem? hx'); have := hi'.1; omega
        have hi2 : IS wr.drew wr.drew.heap.size A1 m1 x.r := hi.more hb.size
        have hi2' : IS wr.drew wr.drew.heap.size B1 q1 y.r := hi'.more hb.size
        clear hx hx' hi hi'
        go_wp2
        go_still_tail 8, (by kernel_rfl)
        change wpList _ _ _ _ _ wr.drew
        have hbd : Below w.heap.size w wr.drew := hb.drew
        generalize wr.drew = w2 at hbd hi2 hi2'
        cases he : decide (x = y)
        all_goals
          have HE := Lib.hid he
          clear he
          go_wp2_with (go_at_call 119; refine (eqCell_any x y _ _ _ _ _ _ _ hi2 hi2' hm1 hq1).mono ?_; rw [HE.out]; rintro e w1 ⟨rfl, hb1⟩)
        · go_ret
          exact ⟨ret_bool (ne_of_atC HX.out HX'.out HE.out).symm, hbd.trans (hb1.mono hbd.size)⟩
        · go_roundw
          case rel => exact ⟨k + 1, by omega, by go_num, Lib.hid (take_eq_succC hpre.out HX.out HX'.out HE.out), hbd.trans (hb1.mono hbd.size)⟩
          case measure => simp [intOf]; omega
      · have hkn : k = n := by omega
        have HK := Lib.hid hkn
        clear hkn
        go_wp2
        go_ret
        refine ⟨ret_bool ?_, hb⟩
        have hp := hpre.out
        rw [HK.out, List.take_of_length_le (by rw [HL.out]; omega), List.take_of_length_le (by rw [HL'.out]; omega)] at hp
        simp [hp]
  · have hne : ((n : Int) != m) = true := by rw [bne_iff_ne]; omega
    have HN := Lib.hid hnm
    clear hnm
    go_enter Tryd.func87, Tryd.ntmps87
    go_wp2
    go_ret
    refine ⟨ret_bool ?_, Below.refl _ _⟩
    simp
    rintro rfl
    exact HN.out (HL.out.symm.trans HL'.out)
set_option maxHeartbeats 1000000 in
theorem eqHeap_any (A R A' R' : Option Addr) (n c m d n' c' m' d' : Nat) (x y : Hp) (w : World) (hx : HS w w.heap.size A n R m x) (hy : HS w w.heap.size A' n' R' m' y) (hn : n ≤ 1099511627776) (hm : m ≤ 1099511627776) (hn' : n' ≤ 1099511627776) (hm' : m' ≤ 1099511627776) (hb : ∀ cl ∈ x.cs, cl.r.length ≤ 1099511627776) (hb' : ∀ cl ∈ y.cs, cl.r.length ≤ 1099511627776) :
    Calls Tryd.prog 41 #[heapV A n c R m d, heapV A' n' c' R' m' d'] w fun e w' => e = .returned (.bool (decide (x = y))) ∧ Below w.heap.size w w' := by
  have b2 : Below w.heap.size w ((w.alloc (.cells #[.slice A n c, .slice R m d] 26)).alloc (.cells #[.slice A' n' c', .slice R' m' d'] 26)) := ((Below.refl w.heap.size w).alloc (Nat.le_refl _) _).alloc (by simp) _
  have x2 := hx.up b2
  have y2 := hy.up b2
  have r0 := (Rw.new w 26 #[.slice A n c, .slice R m d]).alloc (.cells #[.slice A' n' c', .slice R' m' d'] 26)
  have r1 := Rw.new (w.alloc (.cells #[.slice A n c, .slice R m d] 26)) 26 #[.slice A' n' c', .slice R' m' d']
  simp only [World.size_alloc] at r1
  cases hc : decide (x.cs = y.cs)
  · have HC := Lib.hid hc
    have HR := Lib.hid (show decide (x = y) = false by
      have hne := of_decide_eq_false hc
      apply decide_eq_false
      rintro rfl
      exact hne rfl)
    clear hc
    go_enter Tryd.func41, Tryd.ntmps41
    go_wp2_with fail
    refine (eqCellS_any _ _ _ _ _ _ x.cs y.cs _ x2.cells y2.cells hn hn' hb hb').mono ?_
    rw [HC.out]
    rintro e w1 ⟨rfl, b1⟩
    go_wp2_with fail
    go_ret
    exact ⟨by rw [HR.out]; rfl, b2.trans (b1.mono b2.size)⟩
  · have HC := Lib.hid hc
    clear hc
    cases hr : decide (x.rt = y.rt)
    all_goals
      have HRT := Lib.hid hr
      have HR := Lib.hid (show decide (x = y) = decide (x.rt = y.rt) by
        have e1 := of_decide_eq_true HC.out
        rw [decide_eq_decide]
        cases x
        cases y
        simp_all)
      clear hr
      go_enter Tryd.func41, Tryd.ntmps41
      go_wp2_with fail
      refine (eqCellS_any _ _ _ _ _ _ x.cs y.cs _ x2.cells y2.cells hn hn' hb hb').mono ?_
      rw [HC.out]
      rintro e w1 ⟨rfl, b1⟩
      have bb1 := b2.trans (b1.mono b2.size)
      have c0 := r0.keep b1 (by simp; omega)
      have c1 := r1.keep b1 (by simp)
      have x3 := x2.up b1
      have y3 := y2.up b1
      have z0 : w1.cell? ⟨w.heap.size, 1, none⟩ = some (.slice R m d) := c0.cell 1
      have z1 : w1.cell? ⟨w.heap.size + 1, 1, none⟩ = some (.slice R' m' d') := c1.cell 1
      clear c0 c1 r0 r1 x2 y2
      go_wp2_with fail
      refine (eqIntS_any _ _ _ _ _ _ x.rt y.rt _ x3.roots y3.roots hm hm').mono ?_
      rw [HRT.out]
      rintro e w2 ⟨rfl, b2'⟩
      go_wp2_with fail
      go_ret
      exact ⟨by rw [HR.out, HRT.out]; rfl, bb1.trans (b2'.mono bb1.size)⟩
end Go.Proofs.YtfgdenmlfloloaaDoor
namespace Go.Proofs.YtfgdenmlfloloaaDoor
open Go.ChangeShapes Go.WideShapes Go.ChangeAt Go.RowKit Go.Deep
set_option maxRecDepth 100000
/-- how many references the first k cells have -/
def refN (cs : List Cl) (k : Nat) : Nat := ((cs.take k).map (·.r.length)).sum
theorem refN_succ {cs : List Cl} {k : Nat} {c : Cl} (h : cs[k]? = some c) : refN cs (k + 1) = refN cs k + c.r.length := by
  simp [refN, List.take_add_one, h]
theorem refN_mono (cs : List Cl) : ∀ {j k : Nat}, j ≤ k → refN cs j ≤ refN cs k := by
  intro j k hjk
  induction hjk with
  | refl => exact Nat.le_refl _
  | step _ ih =>
    refine Nat.le_trans ih ?_
    rename_i k _
    cases h : cs[k]? with
    | none => simp [refN, List.take_add_one, h]
    | some c => rw [refN_succ h]; omega
/-- all that a heap has: cells, references and roots -/
def sizeH (h : Hp) : Nat := h.cs.length + refN h.cs h.cs.length + h.rt.length
end Go.Proofs.YtfgdenmlfloloaaDoor
namespace Go.Proofs.YtfgdenmlfloloaaDoor
open Go.RowKit
set_option maxRecDepth 100000
/-- only blocks of the values l have been written -/
structure Touched (w w' : World) (l : List Value) : Prop where
  os : w'.os = w.os
  tape : w'.tape = w.tape
  output : w'.output = w.output
  size : w.heap.size ≤ w'.heap.size
  block : ∀ j, j < w.heap.size → (∀ v ∈ l, v.ownBlock ≠ some j) → w'.heap[j]? = w.heap[j]?
theorem Touched.refl (w : World) (l : List Value) : Touched w w l := ⟨rfl, rfl, rfl, Nat.le_refl _, fun _ _ _ => rfl⟩
theorem Touched.grown {w w1 w2 : World} {l : List Value} {v : Value} (h : Touched w w1 l) (hg : w1.grownBy w2 v.ownBlock) (hv : v ∈ l) : Touched w w2 l :=
  ⟨hg.os.trans h.os, hg.tape.trans h.tape, hg.output.trans h.output, Nat.le_trans h.size hg.size, fun j hj hn => (hg.block j (Nat.lt_of_lt_of_le hj h.size) (fun e => hn v hv e.symm)).trans (h.block j hj hn)⟩
theorem Touched.put {w w1 : World} {l : List Value} {g : Nat} {v : Value} (h : Touched w w1 l) (hv : v ∈ l) (hg : v.ownBlock = some g) (i : Nat) (u : Value) : Touched w (w1.setCell ⟨g, i, none⟩ u) l :=
  h.grown (v := v) (by rw [hg]; exact put_any w1 g i u) hv
theorem Touched.below {w0 w w' : World} {B : Nat} {l : List Value} (h : Touched w w' l) (hb : Below B w0 w) (hB : B ≤ w.heap.size) (hl : ∀ v ∈ l, ∀ k, v.ownBlock = some k → B ≤ k) : Below B w0 w' :=
  ⟨h.os.trans hb.os, h.tape.trans hb.tape, h.output.trans hb.output, Nat.le_trans hb.size h.size, fun j hj => (h.block j (by omega) (fun v hv e => by have := hl v hv j e; omega)).trans (hb.block j hj)⟩
theorem Touched.first {w w' : World} {o : Obj} {l : List Value} (h : Touched (w.alloc o) w' l) : Touched w w' l :=
  ⟨h.os, h.tape, h.output, Nat.le_trans (by simp) h.size, fun j hj hn => (h.block j (by simp; omega) hn).trans (Below.heap_alloc w o j hj)⟩
theorem Touched.more {w w' : World} {l l' : List Value} (h : Touched w w' l) (hl : ∀ v ∈ l, v ∈ l') : Touched w w' l' :=
  ⟨h.os, h.tape, h.output, h.size, fun j hj hn => h.block j hj fun v hv => hn v (hl v hv)⟩
theorem Rw.touched {w w' : World} {g : Nat} {t : TypeId} {cs : Array Value} {l : List Value} (h : Rw w g t cs) (ht : Touched w w' l) (hn : ∀ v ∈ l, v.ownBlock ≠ some g) : Rw w' g t cs := (ht.block g h.lt hn).trans h
theorem row_touched {w w' : World} {base n s : Nat} {e : TypeId} {v : Value} {xs : List Value} {l : List Value} (h : w.ownsRow base e s v n xs) (ht : Touched w w' l) (hne : ∀ u ∈ l, v.ownBlock = none ∨ v.ownBlock ≠ u.ownBlock) : w'.ownsRow base e s v n xs := by
  refine ⟨h.1, ?_⟩
  rcases h.2 with h0 | ⟨g, cap, cur, e, hb', hh, hr⟩
  · exact .inl h0
  · refine .inr ⟨g, cap, cur, e, hb', (ht.block g (Array.getElem?_eq_some_iff.1 hh).1 (fun u hu eu => ?_)).trans hh, hr⟩
    rcases hne u hu with h1 | h1
    · rw [e] at h1; simp [Value.ownBlock] at h1
    · apply h1; rw [e, eu]; simp [Value.ownBlock]
/-- whether a cell is used is written -/
theorem OwnHx.used {w : World} {base g c k : Nat} {vr : Value} {rvs : List Value} {h : Hp} {cl : Cl} (S : OwnHx w base (.slice (some ⟨g, 0, none⟩) h.cs.length c) vr rvs h) (hc : h.cs[k]? = some cl) (b : Bool) :
    OwnHx (w.setCell ⟨g, k * 3, none⟩ (.bool b)) base (.slice (some ⟨g, 0, none⟩) h.cs.length c) vr rvs ⟨h.cs.set k ⟨b, cl.d, cl.r⟩, h.rt⟩ := by
  have ap : ∀ v ∈ vr :: rvs, v.ownBlock = none ∨ v.ownBlock ≠ some g := S.apart_cells
  refine ⟨by simp [S.len], ?_, fun j c' v hc' hv => ?_, S.roots.far (put_any w g _ _) (ap vr (by simp)), S.sep⟩
  · have := (World.ownsRow.stored S.row (k * 3) (.bool b)).1
    rw [flatC_set_u _ _ _ _ _ S.len hc] at this
    simpa using this
  · rw [List.getElem?_set] at hc'
    have hmem := List.mem_of_getElem? hv
    by_cases hj : k = j
    · subst hj
      rw [if_pos rfl, if_pos (List.getElem?_eq_some_iff.1 hc).1] at hc'
      injection hc' with hc'
      subst hc'
      exact (S.refs k cl v hc hv).far (put_any w g _ _) (ap v (by simp [hmem]))
    · rw [if_neg hj] at hc'
      exact (S.refs j c' v hc' hv).far (put_any w g _ _) (ap v (by simp [hmem]))
/-- all references of a cell are written -/
theorem OwnHx.refAll {w w' : World} {base k : Nat} {vc vr v : Value} {rvs : List Value} {h : Hp} {cl : Cl} {xs : List Int} (S : OwnHx w base vc vr rvs h) (hc : h.cs[k]? = some cl) (hv : rvs[k]? = some v) (o : OwnI w' base v xs) (hg : w.grownBy w' v.ownBlock) :
    OwnHx w' base vc vr rvs ⟨h.cs.set k ⟨cl.u, cl.d, xs⟩, h.rt⟩ := by
  have hmem := List.mem_of_getElem? hv
  have hvc : vc.ownBlock = none ∨ vc.ownBlock ≠ v.ownBlock := sep_back (S.apart_cells v (List.mem_cons_of_mem _ hmem))
  have hvr : vr.ownBlock = none ∨ vr.ownBlock ≠ v.ownBlock := sep_back (S.apart_roots v (List.mem_cons_of_mem _ hmem))
  have hgt : ∀ (j : Nat) (u : Value), j ≠ k → rvs[j]? = some u → u.ownBlock = none ∨ u.ownBlock ≠ v.ownBlock := fun j u hj hvj => by
    have hs := S.sep
    unfold Sep at hs
    rw [List.pairwise_cons, List.pairwise_cons] at hs
    rcases Nat.lt_or_ge j k with h1 | h1
    · exact Sep.get hs.2.2 hvj hv h1
    · exact sep_back (Sep.get hs.2.2 hv hvj (by omega))
  refine ⟨by simp [S.len], ?_, fun j c' u hc' hvj => ?_, S.roots.far hg hvr, S.sep⟩
  · have := World.ownsRow.kept S.row hg hvc
    rw [List.length_set, flatC_refs _ _ _ _ _ hc]
    exact this
  · rw [List.getElem?_set] at hc'
    by_cases hj : k = j
    · subst hj
      rw [if_pos rfl, if_pos (List.getElem?_eq_some_iff.1 hc).1] at hc'
      injection hc' with hc'
      subst hc'
      rw [hv] at hvj
      injection hvj with hvj
      subst hvj
      exact o
    · rw [if_neg hj] at hc'
      exact (S.refs j c' u hc' hvj).far hg (hgt j u (by omega) hvj)
/-- the mark before cell i -/
def mkK (k : Int) (cs : List Cl) (i : Nat) : Int := k + 2 * i + refN cs i
def mkCl (k : Int) (c : Cl) : Cl := ⟨k % 3 == 0, k + 1, marksI (k + 1 + 1) c.r.length⟩
/-- the first i cells marked -/
def mkTo (k : Int) (cs : List Cl) : Nat → List Cl
  | 0 => cs
  | i + 1 => match cs[i]? with
    | some c => (mkTo k cs i).set i (mkCl (mkK k cs i) c)
    | none => mkTo k cs i
theorem mkTo_len (k : Int) (cs : List Cl) : ∀ i, (mkTo k cs i).length = cs.length
  | 0 => rfl
  | i + 1 => by
    simp only [mkTo]
    split
    · rw [List.length_set, mkTo_len k cs i]
    · exact mkTo_len k cs i
theorem mkTo_succ {k : Int} {cs : List Cl} {i : Nat} {c : Cl} (h : cs[i]? = some c) : mkTo k cs (i + 1) = (mkTo k cs i).set i (mkCl (mkK k cs i) c) := by simp [mkTo, h]
theorem mkTo_later {k : Int} {cs : List Cl} : ∀ {i j : Nat}, i ≤ j → (mkTo k cs i)[j]? = cs[j]?
  | 0, _, _ => rfl
  | i + 1, j, h => by
    simp only [mkTo]
    split
    · rw [List.getElem?_set, if_neg (by omega), mkTo_later (by omega)]
    · exact mkTo_later (by omega)
theorem mkTo_done {k : Int} {cs : List Cl} {j : Nat} {c : Cl} (hc : cs[j]? = some c) : ∀ {i : Nat}, j < i → (mkTo k cs i)[j]? = some (mkCl (mkK k cs j) c)
  | 0, h => by omega
  | i + 1, h => by
    have hj := (List.getElem?_eq_some_iff.1 hc).1
    rcases Nat.eq_or_lt_of_le (show j ≤ i by omega) with e | e
    · subst e
      rw [mkTo_succ hc, List.getElem?_set, if_pos rfl, if_pos (by rw [mkTo_len]; exact hj)]
    · have ih := mkTo_done (k := k) hc e
      simp only [mkTo]
      split
      · rw [List.getElem?_set, if_neg (by omega)]
        exact ih
      · exact ih
theorem mkK_succ {k : Int} {cs : List Cl} {i : Nat} {c : Cl} (h : cs[i]? = some c) : mkK k cs (i + 1) = mkK k cs i + 1 + 1 + c.r.length := by
  simp only [mkK]
  rw [refN_succ h]
  omega
set_option maxHeartbeats 2000000 in
theorem markCellS_any (vc vr : Value) (rvs : List Value) (h : Hp) (k : Int) (base : Nat) (w : World) (S : OwnHx w base vc vr rvs h) (hk : 0 ≤ k) (hk2 : k ≤ 1000000000) (hn : sizeH h ≤ 1000000000) :
    Calls Tryd.prog 88 #[vc, .int .i64 k] w fun e w' => e = .returned (.int .i64 (mkK k h.cs h.cs.length)) ∧ OwnHx w' base vc vr rvs ⟨mkTo k h.cs h.cs.length, h.rt⟩ ∧ Touched w w' (vc :: rvs) := by
  obtain ⟨A, c, R, d, rfl, rfl, _, _, fA, _⟩ := S.form
  obtain ⟨n, hn'⟩ : ∃ n, h.cs.length = n := ⟨_, rfl⟩
  have hsz : n + refN h.cs n ≤ 1000000000 := by unfold sizeH at hn; rw [hn'] at hn; omega
  obtain ⟨v0, hv0⟩ : ∃ v0, Value.slice R h.rt.length d = v0 := ⟨_, rfl⟩
  rw [hv0] at S ⊢
  rw [hn'] at S fA ⊢
  clear hv0 hn
  go_enter Tryd.func88, Tryd.ntmps88
  go_wp2_with fail
  go_loopw [1, 5] (fun q a wr => ∃ i : Nat, i ≤ n ∧ a = .int .i64 i ∧ q = .int .i64 (mkK k h.cs i) ∧ OwnHx wr base (.slice A n c) v0 rvs ⟨mkTo k h.cs i, h.rt⟩ ∧ Touched w wr (.slice A n c :: rvs)) (fun _ a _ => n - (intOf a).toNat)
  case atStart => exact ⟨0, Nat.zero_le _, rfl, by simp [mkK, refN], S, Touched.refl _ _⟩
  case round =>
    clear S
    obtain ⟨i, hi, rfl, rfl, S, T⟩ := hrel
    have hml := mkTo_len k h.cs i
    rw [hn'] at hml
    by_cases hlt : i < n
    · obtain ⟨g, rfl, hbg, hgl⟩ := fA (by omega)
      have hlt' : (i : Int) < n := by omega
      obtain ⟨cl, hcl⟩ : ∃ cl, h.cs[i]? = some cl := ⟨_, List.getElem?_eq_getElem (by omega)⟩
      have hcm : (mkTo k h.cs i)[i]? = some cl := by rw [mkTo_later (Nat.le_refl _)]; exact hcl
      obtain ⟨rv, hrv, hro⟩ := S.ref (k := i) (c := cl) hcm
      obtain ⟨A8, c8, e8, f8⟩ := hro.form
      subst e8
      have hrs := refN_succ hcl
      have hrm := refN_mono h.cs (j := i + 1) (k := n) (by omega)
      have hri := refN_mono h.cs (j := i) (k := i + 1) (by omega)
      obtain ⟨q, hq⟩ : ∃ q, mkK k h.cs i = q := ⟨_, rfl⟩
      have hq0 : 0 ≤ q := by rw [← hq]; simp only [mkK]; omega
      have hq1 : q + cl.r.length + 2 ≤ 4000000100 := by rw [← hq]; simp only [mkK]; omega
      have HQS := Lib.hid (mkK_succ (k := k) hcl)
      have HTS := Lib.hid (mkTo_succ (k := k) hcl)
      rw [hq] at HQS HTS ⊢
      -- the two numbers of the cell
      have ST : OwnHx wr base (.slice (some ⟨g, 0, none⟩) (Hp.mk (mkTo k h.cs i) h.rt).cs.length c) v0 rvs ⟨mkTo k h.cs i, h.rt⟩ := by
        show OwnHx wr base (.slice (some ⟨g, 0, none⟩) (mkTo k h.cs i).length c) v0 rvs ⟨mkTo k h.cs i, h.rt⟩
        rw [hml]
        exact S
      have S1 := ST.used hcm (q % 3 == 0)
      have hc1 : ((mkTo k h.cs i).set i ⟨q % 3 == 0, cl.d, cl.r⟩)[i]? = some ⟨q % 3 == 0, cl.d, cl.r⟩ := by simp [hml, hlt]
      have S1' : OwnHx (wr.setCell ⟨g, i * 3, none⟩ (.bool (q % 3 == 0))) base (.slice (some ⟨g, 0, none⟩) (Hp.mk ((mkTo k h.cs i).set i ⟨q % 3 == 0, cl.d, cl.r⟩) h.rt).cs.length c) v0 rvs ⟨(mkTo k h.cs i).set i ⟨q % 3 == 0, cl.d, cl.r⟩, h.rt⟩ := by
        simpa using S1
      have S2 := S1'.data hc1 (q + 1)
      have row := S.row
      simp only [hml] at row
      obtain ⟨p1, p2, p3⟩ := flatC_at _ _ _ _ _ hcm hrv
      have x1 := (World.ownsRow.cellAt row (i * 3) (by omega)).trans p1
      have x2 := (World.ownsRow.cellAt row (i * 3 + 1) (by omega)).trans p2
      have z1 := World.ownsRow.frozenAt row (i * 3)
      have row2 := S2.row
      have hl2 : (Hp.mk (((mkTo k h.cs i).set i ⟨q % 3 == 0, cl.d, cl.r⟩).set i ⟨q % 3 == 0, q + 1, cl.r⟩) h.rt).cs.length = n := by simp [hml]
      have T2 := (T.put (v := .slice (some ⟨g, 0, none⟩) n c) (by simp) rfl (i * 3) (.bool (q % 3 == 0))).put (v := .slice (some ⟨g, 0, none⟩) n c) (by simp) rfl (i * 3 + 1) (.int .i64 (q + 1))
      have hro2 := S2.refs i ⟨q % 3 == 0, q + 1, cl.r⟩ (.slice A8 cl.r.length c8) (by simp [hml, hlt]) hrv
      have hl1 : (Hp.mk ((mkTo k h.cs i).set i ⟨q % 3 == 0, cl.d, cl.r⟩) h.rt).cs.length = n := by simp [hml]
      have row1 := S1'.row
      simp only [hl1] at row1
      obtain ⟨_, p2', _⟩ := flatC_at _ _ _ _ _ hc1 hrv
      have y2 := (World.ownsRow.cellAt row1 (i * 3 + 1) (by omega)).trans p2'
      have z2 := World.ownsRow.frozenAt row1 (i * 3 + 1)
      simp only [hl1, hl2] at row2
      have hc2 : (((mkTo k h.cs i).set i ⟨q % 3 == 0, cl.d, cl.r⟩).set i ⟨q % 3 == 0, q + 1, cl.r⟩)[i]? = some ⟨q % 3 == 0, q + 1, cl.r⟩ := by simp [hml, hlt]
      obtain ⟨_, _, p3'⟩ := flatC_at _ _ _ _ _ hc2 hrv
      have y3 := (World.ownsRow.cellAt row2 (i * 3 + 2) (by omega)).trans p3'
      simp only [hl1] at S2
      have FIN := Lib.hid (fun w' (o : OwnI w' base (.slice A8 cl.r.length c8) (marksI (q + 1 + 1) cl.r.length)) hg => S2.refAll (w' := w') hc2 hrv o hg)
      have HRO := Lib.hid hro2
      have hwr : ∀ W : World, W = W := fun _ => rfl
      clear ST S S1 S1' S2 row row1 row2 hc1 hc2 p1 p2 p3 p2' p3' hro hro2 f8 hcm hcl hrs hrm hri hq hwr
      go_wp2_with fail
      refine (markIntS_any _ cl.r _ _ _ HRO.out (by omega) (by omega) (by omega)).mono ?_
      rintro e w3 ⟨rfl, o3, g3⟩
      have T3 := T2.grown g3 (List.mem_cons_of_mem _ (List.mem_of_getElem? hrv))
      have F := FIN.out w3 o3 g3
      simp only [List.set_set] at F
      have NN := Lib.hid F
      clear F FIN HRO
      go_wp2_with fail
      go_roundw
      case rel => exact ⟨i + 1, by omega, by go_num, int_eq (by rw [HQS.out]), by rw [HTS.out]; exact NN.out, T3⟩
      case measure => simp [intOf]; omega
    · obtain rfl : i = n := by omega
      clear hml
      go_wp2_with fail
      go_ret
      exact ⟨rfl, S, T⟩
/-- a heap, marked; the mark behind it -/
def markH (k : Int) (h : Hp) : Hp := ⟨mkTo k h.cs h.cs.length, marksI (mkK k h.cs h.cs.length) h.rt.length⟩
def markKH (k : Int) (h : Hp) : Int := mkK k h.cs h.cs.length + h.rt.length
set_option maxHeartbeats 1000000 in
theorem markHeap_any (vc vr : Value) (rvs : List Value) (h : Hp) (k : Int) (base : Nat) (w : World) (S : OwnHx w base vc vr rvs h) (hk : 0 ≤ k) (hk2 : k ≤ 1000000000) (hn : sizeH h ≤ 1000000000) :
    Calls Tryd.prog 42 #[.agg #[vc, vr], .int .i64 k] w fun e w' => e = .returned (.int .i64 (markKH k h)) ∧ OwnHx w' base vc vr rvs (markH k h) ∧ Touched w w' (vc :: vr :: rvs) := by
  have b1 : Below w.heap.size w (w.alloc (.cells #[vc, vr] 26)) := (Below.refl _ _).alloc (Nat.le_refl _) _
  have S1 := S.below b1 (Nat.le_refl _)
  have r1 := Rw.new w 26 #[vc, vr]
  have hfar : ∀ v ∈ vc :: vr :: rvs, v.ownBlock ≠ some w.heap.size := fun v hv e => by have := (S.blocks hv e).2; omega
  have hs1 : h.cs.length + refN h.cs h.cs.length + h.rt.length ≤ 1000000000 := hn
  have hk0 : 0 ≤ mkK k h.cs h.cs.length := by simp only [mkK]; omega
  have hk1 : mkK k h.cs h.cs.length ≤ 1099511627776 := by simp only [mkK]; omega
  obtain ⟨q, hq⟩ : ∃ q, mkK k h.cs h.cs.length = q := ⟨_, rfl⟩
  have HQ := Lib.hid hq
  have HKH := Lib.hid (show markKH k h = q + h.rt.length by rw [markKH, hq])
  have HMH := Lib.hid (show markH k h = ⟨mkTo k h.cs h.cs.length, marksI q h.rt.length⟩ by rw [markH, hq])
  rw [hq] at hk0 hk1
  clear hq
  go_enter Tryd.func42, Tryd.ntmps42
  go_wp2_with fail
  refine (markCellS_any vc vr rvs h k base _ S1 hk hk2 hn).mono ?_
  rw [HQ.out]
  rintro e w2 ⟨rfl, S2, T2⟩
  have z1 : w2.cell? ⟨w.heap.size, 1, none⟩ = some vr := (Rw.touched r1 T2 (fun v hv => hfar v (by simp only [List.mem_cons] at hv ⊢; rcases hv with e | e <;> simp [e]))).cell 1
  have T2' : Touched w w2 (vc :: vr :: rvs) := T2.first.more (fun v hv => by simp only [List.mem_cons] at hv ⊢; rcases hv with e | e <;> simp [e])
  have hro : OwnI w2 base vr h.rt := S2.roots
  go_wp2_with fail
  refine (markIntS_any vr h.rt q base _ hro hk0 hk1 (by omega)).mono ?_
  rintro e w3 ⟨rfl, o3, g3⟩
  have T3 := T2'.grown g3 (by simp)
  have hapr := S2.apart_roots
  have S3 : OwnHx w3 base vc vr rvs (markH k h) := by
    rw [HMH.out]
    exact ⟨S2.len, World.ownsRow.kept S2.row g3 (hapr vc (by simp)), fun j c v hc hv => (S2.refs j c v hc hv).far g3 (hapr v (by simp [List.mem_of_getElem? hv])), o3, S2.sep⟩
  clear S2 T2 T2' hro hapr o3 g3
  go_wp2_with fail
  go_ret
  exact ⟨by rw [HKH.out]; rfl, S3, T3⟩
end Go.Proofs.YtfgdenmlfloloaaDoor
namespace Go.Proofs.YtfgdenmlfloloaaDoor
open Go.RowKit
set_option maxRecDepth 100000
set_option maxHeartbeats 2000000 in
theorem heldCellS_any (A : Option Addr) (n c : Nat) (cs : List Cl) (k : Int) (w : World) (h : CS w w.heap.size A n (mkTo k cs cs.length)) (hl : cs.length = n) (hk : 0 ≤ k) (hk2 : k ≤ 1000000000) (hn : n + refN cs n ≤ 1000000000) :
    Calls Tryd.prog 116 #[.slice A n c, .int .i64 k] w fun e w' => e = .returned (.int .i64 (mkK k cs n)) ∧ w = w' := by
  go_enter Tryd.func116, Tryd.ntmps116
  go_wp2_with fail
  go_loopw [1, 5] (fun q a wr => ∃ i : Nat, i ≤ n ∧ a = .int .i64 i ∧ q = .int .i64 (mkK k cs i) ∧ wr = w) (fun _ a _ => n - (intOf a).toNat)
  case atStart => exact ⟨0, Nat.zero_le _, rfl, by simp [mkK, refN], rfl⟩
  case round =>
    obtain ⟨i, hi, rfl, rfl, rfl⟩ := hrel
    by_cases hlt : i < n
    · have hlt' : (i : Int) < n := by omega
      obtain ⟨cl, hcl⟩ : ∃ cl, cs[i]? = some cl := ⟨_, List.getElem?_eq_getElem (by omega)⟩
      obtain ⟨g, o, mc, A', m', cc, e1, hg, hmc, d1, d2, d3, _, hir⟩ := h.at_ hlt
      subst e1
      rw [mkTo_done hcl (by omega)] at hmc
      injection hmc with hmc
      subst hmc
      have hm' := hir.1
      have hrs := refN_succ hcl
      have hrm := refN_mono cs (j := i + 1) (k := n) (by omega)
      obtain ⟨q, hq⟩ : ∃ q, mkK k cs i = q := ⟨_, rfl⟩
      have hq0 : 0 ≤ q := by rw [← hq]; simp only [mkK]; omega
      have hq1 : q + cl.r.length + 2 ≤ 4000000100 := by rw [← hq]; simp only [mkK]; omega
      have HQS := Lib.hid (mkK_succ (k := k) hcl)
      rw [hq] at HQS d1 d2 hir hm' ⊢
      simp only [mkCl] at d1 d2 hir hm'
      rw [marksI_len] at hm'
      subst hm'
      have hk0 : decide (q + 1 + 1 + (cl.r.length : Int) < 0) = false := decide_eq_false (by omega)
      clear hcl hrs hrm hq
      go_wp2_with fail
      refine (heldIntS_any _ _ _ _ _ hir (by omega) (by omega) (by omega)).mono ?_
      rintro e w' ⟨rfl, rfl⟩
      go_wp2_with fail
      go_roundw
      case rel => exact ⟨i + 1, by omega, by go_num, int_eq (by rw [HQS.out]), trivial⟩
      case measure => simp [intOf]; omega
    · obtain rfl : i = n := by omega
      go_wp2_with fail
      go_ret
      exact ⟨rfl, rfl⟩
set_option maxHeartbeats 1000000 in
theorem heldHeap_any (A R : Option Addr) (n c m d : Nat) (h : Hp) (k : Int) (w : World) (hs : HS w w.heap.size A n R m (markH k h)) (hl : h.cs.length = n) (hr : h.rt.length = m) (hk : 0 ≤ k) (hk2 : k ≤ 1000000000) (hn : sizeH h ≤ 1000000000) :
    Calls Tryd.prog 82 #[heapV A n c R m d, .int .i64 k] w fun e w' => e = .returned (.int .i64 (markKH k h)) ∧ Below w.heap.size w w' := by
  have b1 : Below w.heap.size w (w.alloc (.cells #[.slice A n c, .slice R m d] 26)) := (Below.refl _ _).alloc (Nat.le_refl _) _
  have s1 := hs.up b1
  have r1 := Rw.new w 26 #[.slice A n c, .slice R m d]
  have z1 : (w.alloc (.cells #[.slice A n c, .slice R m d] 26)).cell? ⟨w.heap.size, 1, none⟩ = some (.slice R m d) := r1.cell 1
  have hs1 : h.cs.length + refN h.cs h.cs.length + h.rt.length ≤ 1000000000 := hn
  have hk0 : 0 ≤ mkK k h.cs n := by simp only [mkK]; omega
  have hk1 : mkK k h.cs n ≤ 1099511627776 := by simp only [mkK]; rw [hl] at hs1; omega
  obtain ⟨q, hq⟩ : ∃ q, mkK k h.cs n = q := ⟨_, rfl⟩
  have HQ := Lib.hid hq
  have HKH := Lib.hid (show markKH k h = q + m by rw [markKH, hl, hr, hq])
  have c1 : CS (w.alloc (.cells #[.slice A n c, .slice R m d] 26)) (w.alloc (.cells #[.slice A n c, .slice R m d] 26)).heap.size A n (mkTo k h.cs h.cs.length) := s1.cells
  have i1 : IS (w.alloc (.cells #[.slice A n c, .slice R m d] 26)) (w.alloc (.cells #[.slice A n c, .slice R m d] 26)).heap.size R m (marksI q m) := by
    have := s1.roots
    simp only [markH] at this
    rw [hl, hq, hr] at this
    exact this
  rw [hq] at hk0 hk1
  have hq0 : decide (q < 0) = false := decide_eq_false (by omega)
  have hq1 : decide (q + (m : Int) < 0) = false := decide_eq_false (by omega)
  clear hq
  go_enter Tryd.func82, Tryd.ntmps82
  go_wp2_with fail
  refine (heldCellS_any _ _ _ h.cs _ _ c1 hl hk hk2 (by rw [hl] at hs1; omega)).mono ?_
  rw [HQ.out]
  rintro e w' ⟨rfl, rfl⟩
  go_wp2_with fail
  refine (heldIntS_any _ _ _ _ _ i1 hk0 hk1 (by omega)).mono ?_
  rintro e w' ⟨rfl, rfl⟩
  go_wp2_with fail
  go_ret
  exact ⟨by rw [HKH.out]; rfl, b1⟩
end Go.Proofs.YtfgdenmlfloloaaDoor

namespace Go.Proofs.YtfgdenmlfloloaaDoor
open Go.RowKit
set_option maxRecDepth 100000
theorem OwnHx.touched' {w w' : World} {base : Nat} {vc vr : Value} {rvs l : List Value} {h : Hp} (o : OwnHx w base vc vr rvs h) (ht : Touched w w' l) (hne : ∀ v ∈ vc :: vr :: rvs, ∀ u ∈ l, v.ownBlock = none ∨ v.ownBlock ≠ u.ownBlock) : OwnHx w' base vc vr rvs h :=
  ⟨o.len, row_touched o.row ht (hne vc (by simp)), fun k c v hc hv => row_touched (o.refs k c v hc hv) ht (hne v (by simp [List.mem_of_getElem? hv])), row_touched o.roots ht (hne vr (by simp)), o.sep⟩
theorem refN_le {cs : List Cl} {m : Nat} (h : ∀ cl ∈ cs, cl.r.length ≤ m) : ∀ k, k ≤ cs.length → refN cs k ≤ m * k
  | 0, _ => by simp [refN]
  | k + 1, hk => by
    have ih := refN_le h k (by omega)
    have hc := List.getElem?_eq_getElem (show k < cs.length by omega)
    have := h _ (List.mem_of_getElem? hc)
    rw [refN_succ hc, Nat.mul_add]
    omega
/-- what runs from an empty heap is small -/
def Tiny (h : Hp) : Prop := h.cs.length ≤ 40 ∧ h.rt.length ≤ 4 ∧ ∀ cl ∈ h.cs, cl.r.length ≤ 3
theorem Tiny.size {h : Hp} (t : Tiny h) : sizeH h ≤ 1000000000 := by
  have := refN_le t.2.2 _ (Nat.le_refl _)
  have h1 := t.1
  have h2 := t.2.1
  unfold sizeH
  omega
theorem tiny_zero : Tiny Hps.zeroH := ⟨by decide, by decide, fun cl hcl => by simp [Hps.zeroH] at hcl⟩
theorem tiny_valid {h : Hp} (hv : Hps.validH h = true) : Tiny h := by
  obtain ⟨a, b, c⟩ := Hps.valid_small hv
  exact ⟨a, by omega, c⟩
end Go.Proofs.YtfgdenmlfloloaaDoor

namespace Go.Proofs.YtfgdenmlfloloaaDoor
namespace Hps
/-- the numbers ns are met, in order: those that are none, or are there, are passed over -/
def meet1 (l : List Int) (n : Int) : List Int := if 0 ≤ n ∧ n ∉ l then l ++ [n] else l
def meet (l : List Int) (ns : List Int) : List Int := ns.foldl meet1 l
theorem meet_cons (l : List Int) (n : Int) (ns : List Int) : meet l (n :: ns) = meet (meet1 l n) ns := rfl
theorem meet1_prefix (l : List Int) (n : Int) : l <+: meet1 l n := by
  unfold meet1
  split
  · exact List.prefix_append _ _
  · exact List.prefix_refl _
theorem meet_prefix (ns : List Int) : ∀ l : List Int, l <+: meet l ns := by
  induction ns with
  | nil => intro l; exact List.prefix_refl _
  | cons n ns ih => intro l; rw [meet_cons]; exact (meet1_prefix l n).trans (ih _)
theorem mem_meet1 {l : List Int} {n m : Int} : m ∈ meet1 l n ↔ m ∈ l ∨ (0 ≤ n ∧ m = n) := by
  unfold meet1
  split
  · next h => simp; constructor
              · rintro (h1 | rfl)
                · exact .inl h1
                · exact .inr ⟨h.1, rfl⟩
              · rintro (h1 | ⟨_, h1⟩)
                · exact .inl h1
                · exact .inr h1
  · next h =>
    constructor
    · exact .inl
    · rintro (h1 | ⟨h0, rfl⟩)
      · exact h1
      · by_cases hm : m ∈ l
        · exact hm
        · exact absurd ⟨h0, hm⟩ h
theorem mem_meet {m : Int} (ns : List Int) : ∀ {l : List Int}, m ∈ meet l ns ↔ m ∈ l ∨ (0 ≤ m ∧ m ∈ ns) := by
  induction ns with
  | nil => intro l; simp [meet]
  | cons n ns ih =>
    intro l
    rw [meet_cons, ih, mem_meet1]
    constructor
    · rintro ((h | ⟨h0, rfl⟩) | ⟨h0, h⟩)
      · exact .inl h
      · exact .inr ⟨h0, by simp⟩
      · exact .inr ⟨h0, by simp [h]⟩
    · rintro (h | ⟨h0, h⟩)
      · exact .inl (.inl h)
      · rcases List.mem_cons.1 h with rfl | h
        · exact .inl (.inr ⟨h0, rfl⟩)
        · exact .inr ⟨h0, h⟩
theorem meet1_nodup {l : List Int} (h : l.Nodup) (n : Int) : (meet1 l n).Nodup := by
  unfold meet1
  split
  · next hn =>
    rw [List.nodup_append]
    refine ⟨h, by simp, fun a ha b hb => ?_⟩
    rw [List.mem_singleton] at hb
    rintro rfl
    exact hn.2 (hb ▸ ha)
  · exact h
theorem meet_nodup (ns : List Int) : ∀ {l : List Int}, l.Nodup → (meet l ns).Nodup := by
  induction ns with
  | nil => intro l h; exact h
  | cons n ns ih => intro l h; exact ih (meet1_nodup h n)
/-- the references of the cell with a number -/
def refsAt (cs : List Cl) (n : Int) : List Int := match cs[n.toNat]? with
  | some c => c.r
  | none => []
/-- the list from its place k on is worked off -/
def bfs (cs : List Cl) : Nat → Nat → List Int → List Int
  | 0, _, l => l
  | f + 1, k, l => match l[k]? with
    | none => l
    | some n => bfs cs f (k + 1) (meet l (refsAt cs n))
def orderL (cs : List Cl) (rt : List Int) : List Int := bfs cs (cs.length + 1) 0 (meet [] rt)
def orderH (h : Hp) : List Int := if validH h = true then orderL h.cs h.rt else []
/-- all that is on the list are numbers of cells -/
def InB (cs : List Cl) (l : List Int) : Prop := ∀ n ∈ l, ∃ k : Nat, n = k ∧ k < cs.length
theorem few_numbers : ∀ (n : Nat) (l : List Int), l.Nodup → (∀ x ∈ l, ∃ k : Nat, x = k ∧ k < n) → l.length ≤ n
  | 0, l, _, h => by
    cases l with
    | nil => exact Nat.le_refl _
    | cons x l =>
      obtain ⟨k, _, hk⟩ := h x (by simp)
      omega
  | n + 1, l, hd, h => by
    have h1 := few_numbers n (l.erase (n : Int)) (hd.erase _) (fun x hx => by
      rw [hd.mem_erase_iff] at hx
      obtain ⟨k, e, hk⟩ := h x hx.2
      exact ⟨k, e, by have := hx.1; omega⟩)
    by_cases hm : (n : Int) ∈ l
    · rw [List.length_erase_of_mem hm] at h1
      omega
    · rw [List.erase_of_not_mem hm] at h1
      omega
theorem InB.le {cs : List Cl} {l : List Int} (h : InB cs l) (hd : l.Nodup) : l.length ≤ cs.length := few_numbers _ l hd h
theorem prefix_back {l l' : List Int} (h : l <+: l') {i : Nat} {x : Int} (hi : i < l.length) (hx : l'[i]? = some x) : l[i]? = some x := by
  have := List.prefix_iff_getElem?.1 h i hi
  rw [this] at hx
  rw [List.getElem?_eq_getElem hi]
  exact hx
theorem InB.meet {cs : List Cl} {l ns : List Int} (h : InB cs l) (hn : okRefs cs ns = true) : InB cs (meet l ns) := by
  intro m hm
  rcases (mem_meet ns).1 hm with h1 | ⟨h0, h1⟩
  · exact h m h1
  · obtain ⟨k, e, hk, _⟩ := okRef_nat (okRefs_iff.1 hn m h1) h0
    exact ⟨k, e, hk⟩
theorem refsAt_ok {cs : List Cl} (hc : ∀ c ∈ cs, okRefs cs c.r = true) (n : Int) : okRefs cs (refsAt cs n) = true := by
  unfold refsAt
  cases e : cs[n.toNat]? with
  | none => simp [okRefs]
  | some c => exact hc c (List.mem_of_getElem? e)
/-- what holds while the list is worked off -/
structure Bf (cs : List Cl) (rt : List Int) (k : Nat) (l : List Int) : Prop where
  nodup : l.Nodup
  inb : InB cs l
  rch : ∀ n ∈ l, Rch cs rt n.toNat
  roots : ∀ n ∈ rt, 0 ≤ n → n ∈ l
  done : ∀ (i : Nat) (n : Int), i < k → l[i]? = some n → ∀ m ∈ refsAt cs n, 0 ≤ m → m ∈ l
theorem Bf.start {cs : List Cl} {rt : List Int} (hr : okRefs cs rt = true) : Bf cs rt 0 (meet [] rt) := by
  refine ⟨meet_nodup rt (by simp), InB.meet (fun n hn => by simp at hn) hr, fun n hn => ?_, fun n hn h0 => (mem_meet rt).2 (.inr ⟨h0, hn⟩), fun i n hi => by omega⟩
  rcases (mem_meet rt).1 hn with h1 | ⟨h0, h1⟩
  · simp at h1
  · exact .root (by rwa [Int.toNat_of_nonneg h0])
theorem Bf.next {cs : List Cl} {rt : List Int} {k : Nat} {l : List Int} (h : Bf cs rt k l) (hc : ∀ c ∈ cs, okRefs cs c.r = true) {n : Int} (hn : l[k]? = some n) : Bf cs rt (k + 1) (meet l (refsAt cs n)) := by
  have hp := meet_prefix (refsAt cs n) l
  have hlk := (List.getElem?_eq_some_iff.1 hn).1
  refine ⟨meet_nodup _ h.nodup, h.inb.meet (refsAt_ok hc n), fun m hm => ?_, fun m hm h0 => hp.subset (h.roots m hm h0), fun i m hi hm x hx h0 => ?_⟩
  · rcases (mem_meet _).1 hm with h1 | ⟨h0, h1⟩
    · exact h.rch m h1
    · unfold refsAt at h1
      cases e : cs[n.toNat]? with
      | none => rw [e] at h1; simp at h1
      | some c =>
        rw [e] at h1
        exact .step (h.rch n (List.mem_of_getElem? hn)) e (by rwa [Int.toNat_of_nonneg h0])
  · rcases Nat.lt_or_ge i k with h1 | h1
    · have hm' : l[i]? = some m := prefix_back hp (by omega) hm
      exact hp.subset (h.done i m h1 hm' x hx h0)
    · have hik : i = k := by omega
      subst hik
      have hm' : l[i]? = some m := prefix_back hp hlk hm
      rw [hn] at hm'
      obtain rfl := Option.some.inj hm'
      exact (mem_meet _).2 (.inr ⟨h0, hx⟩)
theorem bfs_fin {cs : List Cl} {rt : List Int} (hc : ∀ c ∈ cs, okRefs cs c.r = true) : ∀ (f k : Nat) (l : List Int), Bf cs rt k l → k ≤ l.length → cs.length + 1 ≤ f + k → ∃ k', Bf cs rt k' (bfs cs f k l) ∧ k' = (bfs cs f k l).length
  | 0, k, l, h, hk, hf => by
    have := h.inb.le h.nodup
    omega
  | f + 1, k, l, h, hk, hf => by
    unfold bfs
    cases e : l[k]? with
    | none =>
      have : l.length ≤ k := by simpa using e
      exact ⟨k, h, by simp; omega⟩
    | some n =>
      have hlk := (List.getElem?_eq_some_iff.1 e).1
      have hp := (meet_prefix (refsAt cs n) l).length_le
      exact bfs_fin hc f (k + 1) _ (h.next hc e) (by omega) (by omega)
theorem orderL_fin {cs : List Cl} {rt : List Int} (hc : ∀ c ∈ cs, okRefs cs c.r = true) (hr : okRefs cs rt = true) : Bf cs rt (orderL cs rt).length (orderL cs rt) := by
  obtain ⟨k, h, e⟩ := bfs_fin hc (cs.length + 1) 0 (meet [] rt) (.start hr) (Nat.zero_le _) (by omega)
  rw [← orderL] at h e
  rw [← e]
  exact h
theorem order_valid {h : Hp} (hv : validH h = true) : orderH h = orderL h.cs h.rt := by rw [orderH, if_pos hv]
theorem orderH_fin {h : Hp} (hv : validH h = true) : Bf h.cs h.rt (orderH h).length (orderH h) := by
  rw [order_valid hv]
  exact orderL_fin (valid_refs hv) (valid_iff.1 hv).2.2.2
theorem order_nodup (h : Hp) : (orderH h).Nodup := by
  cases hv : validH h
  · rw [orderH, if_neg (by rw [hv]; decide)]
    simp
  · exact (orderH_fin hv).nodup
theorem mem_order {h : Hp} (hv : validH h = true) {k : Nat} : (k : Int) ∈ orderH h ↔ Rch h.cs h.rt k := by
  have B := orderH_fin hv
  constructor
  · intro hk
    exact B.rch _ hk
  · intro hr
    refine Rch.inside (S := fun k : Nat => (k : Int) ∈ orderH h) (fun k hk => B.roots _ hk (by omega)) (fun k m c hk hc hm => ?_) hr
    obtain ⟨i, hi⟩ := List.mem_iff_getElem?.1 hk
    exact B.done i _ (List.getElem?_eq_some_iff.1 hi).1 hi m (by unfold refsAt; rw [Int.toNat_natCast, hc]; exact hm) (by omega)
theorem order_nat {h : Hp} {n : Int} (hn : n ∈ orderH h) : ∃ k : Nat, n = k ∧ k < h.cs.length := by
  cases hv : validH h
  · rw [orderH, if_neg (by rw [hv]; decide)] at hn
    simp at hn
  · exact (orderH_fin hv).inb n hn
/-- the place of a number on a list, or -1 -/
def nameL (l : List Int) (n : Int) : Int := if n ∈ l then (l.idxOf n : Int) else -1
theorem nameL_at {l : List Int} {n : Int} {i : Nat} (hd : l.Nodup) (h : l[i]? = some n) : nameL l n = i := by
  obtain ⟨h1, h2⟩ := List.getElem?_eq_some_iff.1 h
  rw [nameL, if_pos (List.mem_of_getElem? h), ← h2, hd.idxOf_getElem i h1]
theorem nameL_none {l : List Int} {n : Int} (h : n ∉ l) : nameL l n = -1 := by rw [nameL, if_neg h]
theorem nameL_neg {l : List Int} {n : Int} (h : nameL l n = -1) : n ∉ l := by
  intro hm
  rw [nameL, if_pos hm] at h
  omega
theorem nameL_get {l : List Int} {n : Int} {i : Nat} (h : nameL l n = i) : l[i]? = some n := by
  by_cases hm : n ∈ l
  · rw [nameL, if_pos hm] at h
    have e : l.idxOf n = i := by omega
    have hlt := List.idxOf_lt_length_of_mem hm
    rw [List.getElem?_eq_some_iff]
    refine ⟨by omega, ?_⟩
    subst e
    exact List.getElem_idxOf hlt
  · rw [nameL_none hm] at h
    omega
/-- what is seen of one cell -/
def cellV (l : List Int) (c : Cl) : List Int := c.d :: (c.r.length : Int) :: c.r.map (nameL l)
def cellAt (cs : List Cl) (n : Int) : Cl := (cs[n.toNat]?).getD ⟨false, 0, []⟩
def viewH (h : Hp) : List Int := if validH h = true then h.rt.map (nameL (orderH h)) ++ ((orderH h).map fun n => cellV (orderH h) (cellAt h.cs n)).flatten else []
theorem view_valid {h : Hp} (hv : validH h = true) : viewH h = h.rt.map (nameL (orderH h)) ++ ((orderH h).map fun n => cellV (orderH h) (cellAt h.cs n)).flatten := by rw [viewH, if_pos hv]
theorem view_not {h : Hp} (hv : validH h = false) : viewH h = [] := by rw [viewH, if_neg (by rw [hv]; decide)]
theorem view_len {h : Hp} (hv : validH h = true) : 4 ≤ (viewH h).length := by
  rw [view_valid hv, List.length_append, List.length_map, (valid_iff.1 hv).2.2.1]
  omega
theorem view_nil {h : Hp} : viewH h = [] ↔ validH h = false := by
  constructor
  · intro e
    cases hv : validH h
    · rfl
    · have := view_len hv
      rw [e] at this
      simp at this
  · exact view_not
def sameV (a b : Hp) : Bool := validH a && decide (viewH a = viewH b)
theorem sameV_iff {a b : Hp} : sameV a b = true ↔ validH a = true ∧ validH b = true ∧ viewH a = viewH b := by
  unfold sameV
  rw [Bool.and_eq_true, decide_eq_true_eq]
  constructor
  · rintro ⟨h1, h2⟩
    refine ⟨h1, ?_, h2⟩
    cases hv : validH b
    · rw [view_not hv, view_nil] at h2
      rw [h1] at h2
      cases h2
    · rfl
  · rintro ⟨h1, _, h2⟩
    exact ⟨h1, h2⟩
theorem sameV_comm (a b : Hp) : sameV a b = sameV b a := by
  rw [Bool.eq_iff_iff, sameV_iff, sameV_iff]
  constructor <;> (rintro ⟨h1, h2, h3⟩; exact ⟨h2, h1, h3.symm⟩)
end Hps
end Go.Proofs.YtfgdenmlfloloaaDoor
namespace Go.Proofs.YtfgdenmlfloloaaDoor
namespace Hps
/-- references that are related: none of both, or related cells -/
def RR (R : Nat → Nat → Prop) (n m : Int) : Prop := (n = -1 ∧ m = -1) ∨ ∃ k x : Nat, n = k ∧ m = x ∧ R k x
theorem RR.mono {R R' : Nat → Nat → Prop} (h : ∀ k x, R k x → R' k x) {n m : Int} (hr : RR R n m) : RR R' n m := by
  rcases hr with h1 | ⟨k, x, e1, e2, h1⟩
  · exact .inl h1
  · exact .inr ⟨k, x, e1, e2, h _ _ h1⟩
/-- lists of related references -/
def LR (R : Nat → Nat → Prop) (la lb : List Int) : Prop := la.length = lb.length ∧ ∀ (i : Nat) (n m : Int), la[i]? = some n → lb[i]? = some m → RR R n m
theorem LR.nil (R : Nat → Nat → Prop) : LR R [] [] := ⟨rfl, fun i n m h => by simp at h⟩
theorem LR.mono {R R' : Nat → Nat → Prop} (h : ∀ k x, R k x → R' k x) {la lb : List Int} (hr : LR R la lb) : LR R' la lb := ⟨hr.1, fun i n m h1 h2 => (hr.2 i n m h1 h2).mono h⟩
theorem LR.set {R : Nat → Nat → Prop} {la lb : List Int} (h : LR R la lb) (i : Nat) {n m : Int} (hr : RR R n m) : LR R (la.set i n) (lb.set i m) := by
  refine ⟨by simp [h.1], fun j x y h1 h2 => ?_⟩
  rw [List.getElem?_set] at h1 h2
  by_cases e : i = j
  · subst e
    rw [if_pos rfl] at h1 h2
    split at h1
    · split at h2
      · rw [← Option.some.inj h1, ← Option.some.inj h2]
        exact hr
      · cases h2
    · cases h1
  · rw [if_neg e] at h1 h2
    exact h.2 j x y h1 h2
theorem LR.cons {R : Nat → Nat → Prop} {n m : Int} {la lb : List Int} (h : LR R (n :: la) (m :: lb)) : RR R n m ∧ LR R la lb := by
  refine ⟨h.2 0 n m rfl rfl, by simpa using h.1, fun i x y h1 h2 => h.2 (i + 1) x y (by simpa using h1) (by simpa using h2)⟩
theorem LR.get {R : Nat → Nat → Prop} {la lb : List Int} (h : LR R la lb) (i : Nat) : RR R ((la[i]?).getD (-1)) ((lb[i]?).getD (-1)) := by
  rcases Nat.lt_or_ge i la.length with h1 | h1
  · have a1 := List.getElem?_eq_getElem h1
    have a2 := List.getElem?_eq_getElem (show i < lb.length by rw [← h.1]; exact h1)
    rw [a1, a2]
    exact h.2 i _ _ a1 a2
  · rw [List.getElem?_eq_none h1, List.getElem?_eq_none (by rw [← h.1]; exact h1)]
    exact .inl ⟨rfl, rfl⟩
/-- cells of two heaps that are related by turns: what a program sees of them is the same -/
structure Sim (a b : Hp) (R : Nat → Nat → Prop) : Prop where
  one : ∀ k x y : Nat, R k x → R k y → x = y
  back : ∀ k m x : Nat, R k x → R m x → k = m
  roots : LR R a.rt b.rt
  cell : ∀ {k x : Nat}, R k x → ∃ c c', a.cs[k]? = some c ∧ b.cs[x]? = some c' ∧ c.d = c'.d ∧ LR R c.r c'.r
section
variable {a b : Hp} {R : Nat → Nat → Prop}
/-- lists of related cells -/
def CR (R : Nat → Nat → Prop) (la lb : List Int) : Prop := la.length = lb.length ∧ ∀ (i : Nat) (n m : Int), la[i]? = some n → lb[i]? = some m → ∃ k x : Nat, n = k ∧ m = x ∧ R k x
theorem CR.mem (one : ∀ k x y : Nat, R k x → R k y → x = y) {la lb : List Int} (h : CR R la lb) {k x : Nat} (hr : R k x) (hm : (k : Int) ∈ la) : (x : Int) ∈ lb := by
  obtain ⟨i, hi⟩ := List.mem_iff_getElem?.1 hm
  have hl := (List.getElem?_eq_some_iff.1 hi).1
  have hb := List.getElem?_eq_getElem (show i < lb.length by rw [← h.1]; exact hl)
  obtain ⟨k', x', e1, e2, hr'⟩ := h.2 i _ _ hi hb
  have e1 : k = k' := by omega
  subst e1
  have := one _ _ _ hr hr'
  subst this
  rw [← e2]
  exact List.getElem_mem _
theorem CR.mem' (back : ∀ k m x : Nat, R k x → R m x → k = m) {la lb : List Int} (h : CR R la lb) {k x : Nat} (hr : R k x) (hm : (x : Int) ∈ lb) : (k : Int) ∈ la := by
  obtain ⟨i, hi⟩ := List.mem_iff_getElem?.1 hm
  have hl := (List.getElem?_eq_some_iff.1 hi).1
  have hb := List.getElem?_eq_getElem (show i < la.length by rw [h.1]; exact hl)
  obtain ⟨k', x', e1, e2, hr'⟩ := h.2 i _ _ hb hi
  have e2 : x = x' := by omega
  subst e2
  have := back _ _ _ hr hr'
  subst this
  rw [← e1]
  exact List.getElem_mem _
theorem CR.snoc {la lb : List Int} (h : CR R la lb) {k x : Nat} (hr : R k x) : CR R (la ++ [(k : Int)]) (lb ++ [(x : Int)]) := by
  refine ⟨by simp [h.1], fun i n m h1 h2 => ?_⟩
  rcases Nat.lt_or_ge i la.length with hi | hi
  · rw [List.getElem?_append_left hi] at h1
    rw [List.getElem?_append_left (by rw [← h.1]; exact hi)] at h2
    exact h.2 i n m h1 h2
  · rw [List.getElem?_append_right hi] at h1
    rw [List.getElem?_append_right (by rw [← h.1]; exact hi), ← h.1] at h2
    have hz : i - la.length = 0 := by
      have := (List.getElem?_eq_some_iff.1 h1).1
      simp at this
      omega
    rw [hz] at h1 h2
    exact ⟨k, x, by simpa using h1.symm, by simpa using h2.symm, hr⟩
theorem Sim.meet1 (S : Sim a b R) {la lb : List Int} (h : CR R la lb) {n m : Int} (hr : RR R n m) : CR R (meet1 la n) (meet1 lb m) := by
  unfold Hps.meet1
  rcases hr with ⟨rfl, rfl⟩ | ⟨k, x, rfl, rfl, hr⟩
  · rw [if_neg (by omega), if_neg (by omega)]
    exact h
  · by_cases hm : (k : Int) ∈ la
    · have hm' := h.mem S.one hr hm
      rw [if_neg (fun q => q.2 hm), if_neg (fun q => q.2 hm')]
      exact h
    · have hm' : (x : Int) ∉ lb := fun q => hm (h.mem' S.back hr q)
      rw [if_pos ⟨by omega, hm⟩, if_pos ⟨by omega, hm'⟩]
      exact h.snoc hr
theorem Sim.meet (S : Sim a b R) : ∀ (ns ms : List Int) {la lb : List Int}, CR R la lb → LR R ns ms → CR R (meet la ns) (meet lb ms)
  | [], [], la, lb, h, _ => h
  | [], _ :: _, _, _, _, h => by have := h.1; simp at this
  | _ :: _, [], _, _, _, h => by have := h.1; simp at this
  | n :: ns, m :: ms, la, lb, h, hl => by
    obtain ⟨h1, h2⟩ := hl.cons
    rw [meet_cons, meet_cons]
    exact S.meet ns ms (S.meet1 h h1) h2
theorem Sim.bfs (S : Sim a b R) : ∀ (f k : Nat) {la lb : List Int}, CR R la lb → CR R (bfs a.cs f k la) (bfs b.cs f k lb)
  | 0, _, _, _, h => h
  | f + 1, k, la, lb, h => by
    unfold Hps.bfs
    rcases Nat.lt_or_ge k la.length with h1 | h1
    · have a1 := List.getElem?_eq_getElem h1
      have a2 := List.getElem?_eq_getElem (show k < lb.length by rw [← h.1]; exact h1)
      obtain ⟨q, x, e1, e2, hr⟩ := h.2 k _ _ a1 a2
      rw [a1, a2]
      simp only
      obtain ⟨c, c', hc, hc', _, hl⟩ := S.cell hr
      have r1 : refsAt a.cs la[k] = c.r := by rw [e1, refsAt, Int.toNat_natCast, hc]
      have r2 : refsAt b.cs (lb[k]'(by rw [← h.1]; exact h1)) = c'.r := by rw [e2, refsAt, Int.toNat_natCast, hc']
      rw [r1, r2]
      exact S.bfs f (k + 1) (S.meet _ _ h hl)
    · rw [List.getElem?_eq_none h1, List.getElem?_eq_none (by rw [← h.1]; exact h1)]
      exact h
end
/-- more fuel than enough changes nothing -/
theorem bfs_more {cs : List Cl} {rt : List Int} (hc : ∀ c ∈ cs, okRefs cs c.r = true) : ∀ (f k : Nat) (l : List Int), Bf cs rt k l → cs.length + 1 ≤ f + k → bfs cs (f + 1) k l = bfs cs f k l
  | 0, k, l, h, hf => by
    have hl := h.inb.le h.nodup
    unfold bfs
    rw [List.getElem?_eq_none (by omega)]
  | f + 1, k, l, h, hf => by
    rw [bfs, bfs]
    cases e : l[k]? with
    | none => rfl
    | some n => exact bfs_more hc f (k + 1) _ (h.next hc e) (by omega)
theorem bfs_enough {cs : List Cl} {rt : List Int} (hc : ∀ c ∈ cs, okRefs cs c.r = true) (hr : okRefs cs rt = true) : ∀ g, bfs cs (cs.length + 1 + g) 0 (meet [] rt) = orderL cs rt
  | 0 => rfl
  | g + 1 => by
    rw [← Nat.add_assoc, bfs_more hc _ 0 _ (.start hr) (by omega)]
    exact bfs_enough hc hr g
theorem order_fuel {h : Hp} (hv : validH h = true) : orderH h = bfs h.cs 41 0 (meet [] h.rt) := by
  have hl := (valid_iff.1 hv).2.1
  rw [order_valid hv, ← bfs_enough (valid_refs hv) (valid_iff.1 hv).2.2.2 (40 - h.cs.length)]
  congr 1
  omega
theorem Sim.order {a b : Hp} {R : Nat → Nat → Prop} (S : Sim a b R) (ha : validH a = true) (hb : validH b = true) : CR R (orderH a) (orderH b) := by
  rw [order_fuel ha, order_fuel hb]
  exact S.bfs 41 0 (S.meet _ _ ⟨rfl, fun i n m h => by simp at h⟩ S.roots)
theorem Sim.name {a b : Hp} {R : Nat → Nat → Prop} (S : Sim a b R) (ha : validH a = true) (hb : validH b = true) {n m : Int} (hr : RR R n m) : nameL (orderH a) n = nameL (orderH b) m := by
  have C := S.order ha hb
  have neg : ∀ h : Hp, (-1 : Int) ∉ orderH h := fun h hm => by
    obtain ⟨k, e, _⟩ := order_nat hm
    omega
  rcases hr with ⟨rfl, rfl⟩ | ⟨k, x, rfl, rfl, hr⟩
  · rw [nameL_none (neg a), nameL_none (neg b)]
  · by_cases hm : (k : Int) ∈ orderH a
    · obtain ⟨i, hi⟩ := List.mem_iff_getElem?.1 hm
      have hl := (List.getElem?_eq_some_iff.1 hi).1
      have hb' := List.getElem?_eq_getElem (show i < (orderH b).length by rw [← C.1]; exact hl)
      obtain ⟨k', x', e1, e2, hr'⟩ := C.2 i _ _ hi hb'
      have e1 : k = k' := by omega
      subst e1
      have := S.one _ _ _ hr hr'
      subst this
      rw [nameL_at (order_nodup a) hi, nameL_at (order_nodup b) (hb'.trans (by rw [e2]))]
    · rw [nameL_none hm, nameL_none (fun q => hm (C.mem' S.back hr q))]
theorem Sim.names {a b : Hp} {R : Nat → Nat → Prop} (S : Sim a b R) (ha : validH a = true) (hb : validH b = true) {ns ms : List Int} (h : LR R ns ms) : ns.map (nameL (orderH a)) = ms.map (nameL (orderH b)) := by
  apply List.ext_getElem?
  intro i
  rw [List.getElem?_map, List.getElem?_map]
  rcases Nat.lt_or_ge i ns.length with h1 | h1
  · have a1 := List.getElem?_eq_getElem h1
    have a2 := List.getElem?_eq_getElem (show i < ms.length by rw [← h.1]; exact h1)
    rw [a1, a2, Option.map_some, Option.map_some, S.name ha hb (h.2 i _ _ a1 a2)]
  · rw [List.getElem?_eq_none h1, List.getElem?_eq_none (by rw [← h.1]; exact h1)]
    rfl
/-- related heaps: a program sees the same -/
theorem Sim.view {a b : Hp} {R : Nat → Nat → Prop} (S : Sim a b R) (ha : validH a = true) (hb : validH b = true) : viewH a = viewH b := by
  rw [view_valid ha, view_valid hb, S.names ha hb S.roots]
  congr 2
  have C := S.order ha hb
  apply List.ext_getElem?
  intro i
  rw [List.getElem?_map, List.getElem?_map]
  rcases Nat.lt_or_ge i (orderH a).length with h1 | h1
  · have a1 := List.getElem?_eq_getElem h1
    have a2 := List.getElem?_eq_getElem (show i < (orderH b).length by rw [← C.1]; exact h1)
    obtain ⟨k, x, e1, e2, hr⟩ := C.2 i _ _ a1 a2
    obtain ⟨c, c', hc, hc', hd, hl⟩ := S.cell hr
    rw [a1, a2, Option.map_some, Option.map_some, e1, e2, cellAt, cellAt, Int.toNat_natCast, Int.toNat_natCast, hc, hc', Option.getD_some, Option.getD_some, cellV, cellV, hd, hl.1, S.names ha hb hl]
  · rw [List.getElem?_eq_none h1, List.getElem?_eq_none (by rw [← C.1]; exact h1)]
    rfl
/-- a part of a view: it tells its length -/
def SegOK (s : List Int) : Prop := ∃ (d : Int) (xs : List Int), s = d :: (xs.length : Int) :: xs
theorem segs_eq : ∀ (ss ts : List (List Int)), (∀ s ∈ ss, SegOK s) → (∀ t ∈ ts, SegOK t) → ss.flatten = ts.flatten → ss = ts
  | [], [], _, _, _ => rfl
  | [], t :: ts, _, h2, h => by
    obtain ⟨d, xs, rfl⟩ := h2 t (by simp)
    simp at h
  | s :: ss, [], h1, _, h => by
    obtain ⟨d, xs, rfl⟩ := h1 s (by simp)
    simp at h
  | s :: ss, t :: ts, h1, h2, h => by
    obtain ⟨d, xs, rfl⟩ := h1 s (by simp)
    obtain ⟨e, ys, rfl⟩ := h2 t (by simp)
    simp only [List.flatten_cons, List.cons_append, List.cons.injEq] at h
    obtain ⟨q1, q2, q3⟩ := h
    have q2 : xs.length = ys.length := by omega
    obtain ⟨q4, q5⟩ := List.append_inj q3 q2
    rw [q1, q4, segs_eq ss ts (fun x hx => h1 x (by simp [hx])) (fun x hx => h2 x (by simp [hx])) q5]
theorem seg_cell (l : List Int) (c : Cl) : SegOK (cellV l c) := ⟨c.d, c.r.map (nameL l), by simp [cellV]⟩
theorem segs_cells (l : List Int) (f : Int → Cl) (o : List Int) : ∀ s ∈ o.map (fun n => cellV l (f n)), SegOK s := by
  intro s hs
  obtain ⟨n, _, rfl⟩ := List.mem_map.1 hs
  exact seg_cell _ _
/-- cells at the same place of the orders -/
def SameAt (a b : Hp) (k x : Nat) : Prop := ∃ i : Nat, (orderH a)[i]? = some (k : Int) ∧ (orderH b)[i]? = some (x : Int)
/-- references with the same name lead to cells at the same place -/
theorem same_name {a b : Hp} {n m : Int} (ho : nameL (orderH a) n = nameL (orderH b) m) (hn : n = -1 ∨ (0 ≤ n ∧ n ∈ orderH a)) (hm : m = -1 ∨ (0 ≤ m ∧ m ∈ orderH b)) : RR (SameAt a b) n m := by
  have neg : ∀ h : Hp, (-1 : Int) ∉ orderH h := fun h hm => by
    obtain ⟨k, e, _⟩ := order_nat hm
    omega
  rcases hn with rfl | ⟨n0, hn⟩
  · rcases hm with rfl | ⟨m0, hm⟩
    · exact .inl ⟨rfl, rfl⟩
    · rw [nameL_none (neg a)] at ho
      exact absurd hm (nameL_neg ho.symm)
  · obtain ⟨i, hi⟩ := List.mem_iff_getElem?.1 hn
    rw [nameL_at (order_nodup a) hi] at ho
    have hj := nameL_get ho.symm
    obtain ⟨k, rfl, _⟩ := order_nat (List.mem_of_getElem? hi)
    obtain ⟨x, rfl, _⟩ := order_nat (List.mem_of_getElem? hj)
    exact .inr ⟨k, x, rfl, rfl, i, hi, hj⟩
theorem ref_met {h : Hp} (hv : validH h = true) {k : Nat} {c : Cl} (hk : (k : Int) ∈ orderH h) (hc : h.cs[k]? = some c) {n : Int} (hn : n ∈ c.r) : n = -1 ∨ (0 ≤ n ∧ n ∈ orderH h) := by
  have ok := okRefs_iff.1 (valid_refs hv c (List.mem_of_getElem? hc)) n hn
  by_cases h0 : 0 ≤ n
  · obtain ⟨m, rfl, _⟩ := okRef_nat ok h0
    exact .inr ⟨h0, (mem_order hv).2 (.step ((mem_order hv).1 hk) hc hn)⟩
  · rcases okRef_iff.1 ok with e | ⟨e, _⟩
    · exact .inl e
    · omega
theorem root_met {h : Hp} (hv : validH h = true) {n : Int} (hn : n ∈ h.rt) : n = -1 ∨ (0 ≤ n ∧ n ∈ orderH h) := by
  have ok := okRefs_iff.1 (valid_iff.1 hv).2.2.2 n hn
  by_cases h0 : 0 ≤ n
  · obtain ⟨m, rfl, _⟩ := okRef_nat ok h0
    exact .inr ⟨h0, (mem_order hv).2 (.root hn)⟩
  · rcases okRef_iff.1 ok with e | ⟨e, _⟩
    · exact .inl e
    · omega
theorem names_same {a b : Hp} {ns ms : List Int} (he : ns.map (nameL (orderH a)) = ms.map (nameL (orderH b))) (hn : ∀ n ∈ ns, n = -1 ∨ (0 ≤ n ∧ n ∈ orderH a)) (hm : ∀ m ∈ ms, m = -1 ∨ (0 ≤ m ∧ m ∈ orderH b)) : LR (SameAt a b) ns ms := by
  have hl : ns.length = ms.length := by simpa using congrArg List.length he
  refine ⟨hl, fun i n m h1 h2 => same_name ?_ (hn n (List.mem_of_getElem? h1)) (hm m (List.mem_of_getElem? h2))⟩
  have := congrArg (fun l => l[i]?) he
  simp only [List.getElem?_map, h1, h2, Option.map_some, Option.some.injEq] at this
  exact this
/-- heaps of which a program sees the same are related -/
theorem sim_of_view {a b : Hp} (ha : validH a = true) (hb : validH b = true) (he : viewH a = viewH b) : Sim a b (SameAt a b) := by
  rw [view_valid ha, view_valid hb] at he
  obtain ⟨e1, e2⟩ := List.append_inj he (by simp [(valid_iff.1 ha).2.2.1, (valid_iff.1 hb).2.2.1])
  have e3 := segs_eq _ _ (segs_cells _ _ _) (segs_cells _ _ _) e2
  refine ⟨?_, ?_, names_same e1 (fun n hn => root_met ha hn) (fun n hn => root_met hb hn), ?_⟩
  · rintro k x y ⟨i, h1, h2⟩ ⟨j, h3, h4⟩
    have e := nameL_at (order_nodup a) h1
    rw [nameL_at (order_nodup a) h3] at e
    have e : j = i := by omega
    subst e
    rw [h2] at h4
    have := Option.some.inj h4
    omega
  · rintro k m x ⟨i, h1, h2⟩ ⟨j, h3, h4⟩
    have e := nameL_at (order_nodup b) h2
    rw [nameL_at (order_nodup b) h4] at e
    have e : j = i := by omega
    subst e
    rw [h1] at h3
    have := Option.some.inj h3
    omega
  · rintro k x ⟨i, h1, h2⟩
    obtain ⟨k', ek, hk⟩ := order_nat (List.mem_of_getElem? h1)
    obtain ⟨x', ex, hx⟩ := order_nat (List.mem_of_getElem? h2)
    have ek : k = k' := by omega
    have ex : x = x' := by omega
    subst ek ex
    have hc := List.getElem?_eq_getElem hk
    have hc' := List.getElem?_eq_getElem hx
    have := congrArg (fun l => l[i]?) e3
    simp only [List.getElem?_map, h1, h2, Option.map_some, Option.some.injEq, cellAt, Int.toNat_natCast, hc, hc', Option.getD_some, cellV, List.cons.injEq] at this
    exact ⟨_, _, hc, hc', this.1, names_same this.2.2 (fun n hn => ref_met ha (List.mem_of_getElem? h1) hc hn) (fun n hn => ref_met hb (List.mem_of_getElem? h2) hc' hn)⟩
theorem Sim.lt {a b : Hp} {R : Nat → Nat → Prop} (S : Sim a b R) {k x : Nat} (h : R k x) : k < a.cs.length ∧ x < b.cs.length := by
  obtain ⟨c, c', h1, h2, _⟩ := S.cell h
  exact ⟨(List.getElem?_eq_some_iff.1 h1).1, (List.getElem?_eq_some_iff.1 h2).1⟩
/-! what an instruction does to related heaps -/
section
variable {a b : Hp} {R : Nat → Nat → Prop}
theorem Sim.setRoot (S : Sim a b R) (i : Nat) {n m : Int} (hr : RR R n m) : Sim ⟨a.cs, a.rt.set i n⟩ ⟨b.cs, b.rt.set i m⟩ R := ⟨S.one, S.back, S.roots.set i hr, S.cell⟩
theorem Sim.setCell (S : Sim a b R) {k x : Nat} (hr : R k x) {c c' : Cl} (hd : c.d = c'.d) (hl : LR R c.r c'.r) : Sim ⟨a.cs.set k c, a.rt⟩ ⟨b.cs.set x c', b.rt⟩ R := by
  refine ⟨S.one, S.back, S.roots, fun {m y} hm => ?_⟩
  obtain ⟨h1, h2⟩ := S.lt hr
  by_cases e : k = m
  · subst e
    have := S.one _ _ _ hr hm
    subst this
    exact ⟨c, c', by simp [h1], by simp [h2], hd, hl⟩
  · have e' : x ≠ y := fun q => e (S.back _ _ _ hr (q ▸ hm))
    obtain ⟨q, q', g1, g2, g3⟩ := S.cell hm
    exact ⟨q, q', by simp [e, g1], by simp [e', g2], g3⟩
theorem Sim.snoc (S : Sim a b R) {c c' : Cl} (hd : c.d = c'.d) (hl : LR (fun _ _ => False) c.r c'.r) (i : Nat) :
    Sim ⟨a.cs ++ [c], a.rt.set i (a.cs.length : Int)⟩ ⟨b.cs ++ [c'], b.rt.set i (b.cs.length : Int)⟩ (fun k x => R k x ∨ (k = a.cs.length ∧ x = b.cs.length)) := by
  refine ⟨?_, ?_, ?_, ?_⟩
  · rintro k x y (h1 | ⟨rfl, rfl⟩) (h2 | ⟨e, e2⟩)
    · exact S.one _ _ _ h1 h2
    · have := (S.lt h1).1; omega
    · have := (S.lt h2).1; omega
    · omega
  · rintro k m x (h1 | ⟨rfl, rfl⟩) (h2 | ⟨e, e2⟩)
    · exact S.back _ _ _ h1 h2
    · have := (S.lt h1).2; omega
    · have := (S.lt h2).2; omega
    · omega
  · exact (S.roots.mono (fun _ _ h => .inl h)).set i (.inr ⟨_, _, rfl, rfl, .inr ⟨rfl, rfl⟩⟩)
  · rintro k x (h1 | ⟨rfl, rfl⟩)
    · obtain ⟨q, q', g1, g2, g3, g4⟩ := S.cell h1
      obtain ⟨l1, l2⟩ := S.lt h1
      exact ⟨q, q', by rw [List.getElem?_append_left l1]; exact g1, by rw [List.getElem?_append_left l2]; exact g2, g3, g4.mono (fun _ _ h => .inl h)⟩
    · exact ⟨c, c', by simp, by simp, hd, hl.mono (fun _ _ h => h.elim)⟩
theorem Sim.rootAt (S : Sim a b R) (i : Int) : RR R (rootAt a i) (rootAt b i) := S.roots.get i.toNat
theorem Sim.place (S : Sim a b R) {n m : Int} (hr : RR R n m) (p : Int) : placeH a.cs n p = placeH b.cs m p := by
  rcases hr with ⟨rfl, rfl⟩ | ⟨k, x, rfl, rfl, hr⟩
  · rfl
  · obtain ⟨c, c', h1, h2, _, hl⟩ := S.cell hr
    simp [placeH, h1, h2, hl.1]
theorem Sim.refAt (S : Sim a b R) {n m : Int} (hr : RR R n m) (hn : 0 ≤ n) (p : Int) : RR R (refAt a.cs n p) (refAt b.cs m p) := by
  rcases hr with ⟨rfl, rfl⟩ | ⟨k, x, rfl, rfl, hr⟩
  · omega
  · obtain ⟨c, c', h1, h2, _, hl⟩ := S.cell hr
    simp only [Hps.refAt, Int.toNat_natCast, h1, h2]
    exact hl.get _
theorem Sim.can (S : Sim a b R) (ha : validH a = true) (hb : validH b = true) (o : Cm) : canH a o = canH b o := by
  unfold canH
  rw [ha, hb, S.place (S.rootAt o.b), S.place (S.rootAt o.a)]
  have : decide (0 ≤ Hps.rootAt a o.a) = decide (0 ≤ Hps.rootAt b o.a) := by
    rw [decide_eq_decide]
    rcases S.rootAt o.a with ⟨e1, e2⟩ | ⟨k, x, e1, e2, _⟩ <;> omega
  rw [this]
theorem Sim.does (S : Sim a b R) {o : Cm} (hc : canH a o = true) : ∃ R', Sim (doH a o a.cs.length) (doH b o b.cs.length) R' := by
  obtain ⟨⟨hv, ho⟩, hc⟩ : (validH a = true ∧ okCm o = true) ∧ _ := by
    unfold canH at hc
    rw [Bool.and_eq_true, Bool.and_eq_true] at hc
    exact hc
  unfold doH
  by_cases h1 : o.op = 1
  · rw [if_pos h1, if_pos h1, putCl, if_pos rfl, putCl, if_pos rfl]
    refine ⟨_, S.snoc (c := newCl o) (c' := newCl o) rfl ⟨rfl, fun i n m h1 h2 => .inl ?_⟩ _⟩
    have e1 := List.mem_of_getElem? h1
    have e2 := List.mem_of_getElem? h2
    simp only [newCl, List.mem_replicate] at e1 e2
    exact ⟨e1.2, e2.2⟩
  rw [if_neg h1, if_neg h1]
  by_cases h2 : o.op = 2
  · rw [if_pos h2, if_pos h2]
    rw [if_pos h2] at hc
    obtain ⟨k, c, e, _⟩ := placeH_iff.1 hc
    exact ⟨R, S.setRoot _ (S.refAt (S.rootAt o.b) (by omega) _)⟩
  rw [if_neg h2, if_neg h2]
  by_cases h3 : o.op = 3
  · rw [if_pos h3, if_pos h3]
    rw [if_neg h2, if_pos h3] at hc
    obtain ⟨k, c, e, hk, _⟩ := placeH_iff.1 hc
    rcases S.rootAt o.a with ⟨e1, e2⟩ | ⟨k', x, e1, e2, hr⟩
    · omega
    · obtain ⟨c1, c2, g1, g2, g3, g4⟩ := S.cell hr
      rw [e1, e2, Int.toNat_natCast, Int.toNat_natCast, setRef, setRef, g1, g2]
      exact ⟨R, S.setCell hr (c := ⟨c1.u, c1.d, _⟩) (c' := ⟨c2.u, c2.d, _⟩) g3 (g4.set _ (S.rootAt o.b))⟩
  rw [if_neg h3, if_neg h3]
  by_cases h4 : o.op = 4
  · rw [if_pos h4, if_pos h4]
    exact ⟨R, S.setRoot _ (S.rootAt o.b)⟩
  rw [if_neg h4, if_neg h4]
  by_cases h5 : o.op = 5
  · rw [if_pos h5, if_pos h5]
    exact ⟨R, S.setRoot _ (.inl ⟨rfl, rfl⟩)⟩
  rw [if_neg h5, if_neg h5]
  by_cases h6 : o.op = 6
  · rw [if_pos h6, if_pos h6]
    rw [if_neg h2, if_neg h3, if_pos h6] at hc
    have hc := of_decide_eq_true hc
    rcases S.rootAt o.a with ⟨e1, e2⟩ | ⟨k', x, e1, e2, hr⟩
    · omega
    · obtain ⟨c1, c2, g1, g2, g3, g4⟩ := S.cell hr
      rw [e1, e2, Int.toNat_natCast, Int.toNat_natCast, setDat, setDat, g1, g2]
      exact ⟨R, S.setCell hr (c := ⟨c1.u, o.b, _⟩) (c' := ⟨c2.u, o.b, _⟩) rfl g4⟩
  rw [if_neg h6, if_neg h6]
  exact ⟨R, S⟩
theorem Sim.step (S : Sim a b R) (ha : validH a = true) (hb : validH b = true) {o : Cm} (ho : okCm o = true) (la : a.cs.length ≠ 40) (lb : b.cs.length ≠ 40) : ∃ R', Sim (stepH a o).1 (stepH b o).1 R' := by
  have hcan := S.can ha hb o
  cases hc : canH a o
  · rw [hc] at hcan
    have e1 : stepH a o = (a, false) := by simp [stepH, ha, ho, hc]
    have e2 : stepH b o = (b, false) := by simp [stepH, hb, ho, ← hcan]
    rw [e1, e2]
    exact ⟨R, S⟩
  · rw [hc] at hcan
    have e1 : stepH a o = (doH a o a.cs.length, true) := by simp [stepH, ha, ho, hc, la]
    have e2 : stepH b o = (doH b o b.cs.length, true) := by simp [stepH, hb, ho, ← hcan, lb]
    rw [e1, e2]
    exact S.does hc
end
/-- equal views go on equally -/
theorem same_step {a b : Hp} {o : Cm} (h : sameV a b = true) (ho : okCm o = true) (la : a.cs.length ≠ 40) (lb : b.cs.length ≠ 40) : sameV (stepH a o).1 (stepH b o).1 = true := by
  obtain ⟨ha, hb, he⟩ := sameV_iff.1 h
  obtain ⟨R, S⟩ := (sim_of_view ha hb he).step ha hb ho la lb
  have va := stepH_valid ha ho
  have vb := stepH_valid hb ho
  exact sameV_iff.2 ⟨va, vb, S.view va vb⟩
end Hps
end Go.Proofs.YtfgdenmlfloloaaDoor
namespace Go.Proofs.YtfgdenmlfloloaaDoor
namespace Hps
end Hps
end Go.Proofs.YtfgdenmlfloloaaDoor
namespace Go.Proofs.YtfgdenmlfloloaaDoor
open Go.RowKit
set_option maxRecDepth 100000
/-- the list of the cells that were met, the marks in a block of their own, the heap's box -/
structure RO (w wr : World) (box : Array Value) (n : Nat) (lv : Value) (cs : List Cl) (outs : List Bool) (l : List Int) : Prop where
  own : OwnO wr w.heap.size (.slice (some ⟨w.heap.size + 2, 0, none⟩) n n) outs
  lst : OwnI wr (w.heap.size + 1) lv l
  ne : lv.ownBlock = none ∨ lv.ownBlock ≠ some (w.heap.size + 2)
  box : Rw wr w.heap.size 26 box
  bel : Below w.heap.size w wr
  len : outs.length = n
  mem : ∀ k : Nat, outs[k]? = some true ↔ (k : Int) ∈ l
  nodup : l.Nodup
  inb : Hps.InB cs l
  cells : cs.length = n
  big : w.heap.size + 3 ≤ wr.heap.size
section
variable {w wr w5 : World} {box : Array Value} {n y : Nat} {lv v5 : Value} {cs : List Cl} {outs : List Bool} {l : List Int}
theorem RO.le (h : RO w wr box n lv cs outs l) : l.length ≤ n := by
  rw [← h.cells]
  exact h.inb.le h.nodup
theorem RO.pre (h : RO w wr box n lv cs outs l) (y : Nat) : OwnI ((wr.setCell ⟨w.heap.size + 2, y, none⟩ (.bool true)).alloc (.cells #[.int .i64 y] 3)) (w.heap.size + 1) lv l :=
  World.ownsRow.alloc (h.lst.far (only_put (World.grownBy.refl _ _) y (.bool true)) h.ne) _
/-- one more is met -/
theorem RO.mark (h : RO w wr box n lv cs outs l) (hy : outs[y]? = some false) (ho : OwnI w5 (w.heap.size + 1) v5 (l ++ [(y : Int)])) (hg : ((wr.setCell ⟨w.heap.size + 2, y, none⟩ (.bool true)).alloc (.cells #[.int .i64 y] 3)).grownBy w5 lv.ownBlock)
    (hs : v5.ownBlock = lv.ownBlock ∨ v5.ownBlock = some ((wr.setCell ⟨w.heap.size + 2, y, none⟩ (.bool true)).alloc (.cells #[.int .i64 y] 3)).heap.size) : RO w w5 box n v5 cs (outs.set y true) (Hps.meet1 l (y : Int)) := by
  have hlv : ∀ k, lv.ownBlock = some k → w.heap.size + 1 ≤ k := fun k hk => (World.ownsRow.lt h.lst k hk).1
  obtain ⟨hyl, hye⟩ := List.getElem?_eq_some_iff.1 hy
  have hyn : (y : Int) ∉ l := fun hm => by
    have := (h.mem y).2 hm
    rw [hy] at this
    cases this
  have hm1 : Hps.meet1 l (y : Int) = l ++ [(y : Int)] := by rw [Hps.meet1, if_pos ⟨by omega, hyn⟩]
  have o1 := h.own.put' (j := y) h.len true
  have o2 := World.ownsRow.alloc o1 (.cells #[.int .i64 y] 3)
  have o3 : OwnO w5 w.heap.size (.slice (some ⟨w.heap.size + 2, 0, none⟩) n n) (outs.set y true) := World.ownsRow.kept o2 hg (by
    right
    intro e
    rcases h.ne with e' | e'
    · rw [e'] at e; cases e
    · exact e' e.symm)
  have b1 := (h.bel.setCell (p := ⟨w.heap.size + 2, y, none⟩) (by simp) (.bool true)).alloc (by simp; have := h.bel.size; omega) (.cells #[.int .i64 y] 3)
  have hbig := h.big
  refine ⟨o3, by rw [hm1]; exact ho, ?_, ?_, b1.grown hg (by simp; have := h.bel.size; omega) (fun k hk => by have := hlv k hk; omega), by simp [h.len], fun k => ?_, Hps.meet1_nodup h.nodup _, fun x hx => ?_, h.cells, ?_⟩
  · rcases hs with e | e
    · rw [e]; exact h.ne
    · right
      rw [e]
      intro e'
      have := Option.some.inj e'
      simp at this
      omega
  · exact Rw.far ((Rw.other (w := wr) h.box (by omega) _).alloc _) hg (fun e => by have := hlv w.heap.size e.symm; omega)
  · rw [Hps.mem_meet1, ← h.mem, List.getElem?_set]
    by_cases e : y = k
    · subst e
      simp [hyl]
    · rw [if_neg e]
      constructor
      · exact .inl
      · rintro (h1 | ⟨_, h1⟩)
        · exact h1
        · omega
  · rcases Hps.mem_meet1.1 hx with h1 | ⟨_, rfl⟩
    · exact h.inb x h1
    · exact ⟨y, rfl, by rw [h.cells, ← h.len]; exact hyl⟩
  · have := hg.size
    simp at *
    omega
/-- a number that is none, or has been met -/
theorem RO.same (_h : RO w wr box n lv cs outs l) {x : Int} (hx : ¬ 0 ≤ x ∨ x ∈ l) : Hps.meet1 l x = l := by
  rw [Hps.meet1, if_neg]
  rintro ⟨h0, h1⟩
  rcases hx with h2 | h2
  · exact h2 h0
  · exact h1 h2
end
namespace Hps
end Hps
end Go.Proofs.YtfgdenmlfloloaaDoor
namespace Go.Proofs.YtfgdenmlfloloaaDoor
open Go.RowKit
set_option maxRecDepth 100000
/-- the view so far, the order, the heap's box -/
structure VS (w wr : World) (box : Array Value) (ov : Value) (o : List Int) (lv : Value) (l : List Int) : Prop where
  lst : OwnI wr (w.heap.size + 1) lv l
  ord : OwnI wr (w.heap.size + 1) ov o
  sep : lv.ownBlock = none ∨ lv.ownBlock ≠ ov.ownBlock
  box : Rw wr w.heap.size 26 box
  bel : Below w.heap.size w wr
section
variable {w wr w1 : World} {box : Array Value} {ov lv v5 : Value} {o l xs : List Int}
theorem VS.up (S : VS w wr box ov o lv l) (hb : Below wr.heap.size wr w1) : VS w w1 box ov o lv l :=
  ⟨S.lst.below hb (Nat.le_refl _), S.ord.below hb (Nat.le_refl _), S.sep, S.box.keep hb S.box.lt, S.bel.trans (hb.mono S.bel.size)⟩
theorem VS.app (S : VS w wr box ov o lv l) (h : OwnI w1 (w.heap.size + 1) v5 (l ++ xs)) (hg : wr.grownBy w1 lv.ownBlock) (hs : v5.ownBlock = lv.ownBlock ∨ v5.ownBlock = some wr.heap.size) : VS w w1 box ov o v5 (l ++ xs) := by
  have hlo : ∀ k, lv.ownBlock = some k → w.heap.size + 1 ≤ k := fun k hk => (World.ownsRow.lt S.lst k hk).1
  refine ⟨h, S.ord.far hg (sep_back S.sep), ?_, Rw.far S.box hg (fun e => by have := hlo _ e.symm; omega), S.bel.grown hg S.bel.size (fun k hk => by have := hlo k hk; omega)⟩
  rcases hs with e | e
  · rw [e]; exact S.sep
  · right
    rw [e]
    intro e'
    have := (World.ownsRow.lt S.ord _ e'.symm).2
    omega
end
namespace Hps
end Hps
namespace Hps
theorem take_ne {xs ys : List Int} {k : Nat} {x y : Int} (hx : xs[k]? = some x) (hy : ys[k]? = some y) (hne : ¬ x = y) : xs ≠ ys := fun e => hne (by
  rw [e, hy] at hx
  exact (Option.some.inj hx).symm)
end Hps
end Go.Proofs.YtfgdenmlfloloaaDoor

namespace Go.Proofs.YtfgdenmlfloloaaDoor
namespace Hps
/-- nothing is left of a cell -/
def freeCl : Cl := ⟨false, 0, []⟩
def freeK (h : Hp) (k : Nat) : Hp := ⟨h.cs.set k freeCl, h.rt⟩
/-- used cells to each of which a root or one of them leads -/
def Sup (h : Hp) (K : Nat → Prop) : Prop := ∀ k, K k → usedAt h.cs k = true ∧ ((k : Int) ∈ h.rt ∨ ∃ (m : Nat) (c : Cl), K m ∧ h.cs[m]? = some c ∧ (k : Int) ∈ c.r)
/-- a cell that is never freed -/
def Kept (h : Hp) (k : Nat) : Prop := ∃ K : Nat → Prop, Sup h K ∧ K k
open Classical in
/-- what is left when everything is freed to which nothing leads -/
noncomputable def freeH (h : Hp) : Hp := ⟨(List.range h.cs.length).map fun k => if Kept h k then (h.cs[k]?).getD freeCl else freeCl, h.rt⟩
theorem mem_refsOf {h : Hp} {n : Int} : n ∈ refsOf h ↔ n ∈ h.rt ∨ ∃ (m : Nat) (c : Cl), h.cs[m]? = some c ∧ n ∈ c.r := by
  unfold refsOf
  rw [List.mem_append, List.mem_flatten]
  constructor
  · rintro (h1 | ⟨l, hl, hn⟩)
    · exact .inl h1
    · obtain ⟨c, hc, rfl⟩ := List.mem_map.1 hl
      obtain ⟨m, hm⟩ := List.mem_iff_getElem?.1 hc
      exact .inr ⟨m, c, hm, hn⟩
  · rintro (h1 | ⟨m, c, hm, hn⟩)
    · exact .inl h1
    · exact .inr ⟨c.r, List.mem_map.2 ⟨c, List.mem_of_getElem? hm, rfl⟩, hn⟩
theorem Kept.used {h : Hp} {k : Nat} (hk : Kept h k) : usedAt h.cs k = true := by
  obtain ⟨K, hs, hk⟩ := hk
  exact (hs k hk).1
theorem freeH_len (h : Hp) : (freeH h).cs.length = h.cs.length := by simp [freeH]
theorem freeH_cell {h : Hp} {k : Nat} (hk : Kept h k) : (freeH h).cs[k]? = h.cs[k]? := by
  obtain ⟨c, hc, _⟩ := usedAt_iff.1 hk.used
  have hl := (List.getElem?_eq_some_iff.1 hc).1
  simp [freeH, hl, hk]
theorem freeH_gone {h : Hp} {k : Nat} (hk : ¬ Kept h k) (hl : k < h.cs.length) : (freeH h).cs[k]? = some freeCl := by simp [freeH, hl, hk]
/-- while cells are freed: x is what h has become -/
structure Frees (h x : Hp) : Prop where
  rt : x.rt = h.rt
  len : x.cs.length = h.cs.length
  cell : ∀ k, x.cs[k]? = h.cs[k]? ∨ (x.cs[k]? = some freeCl ∧ ¬ Kept h k)
theorem Frees.refl (h : Hp) : Frees h h := ⟨rfl, rfl, fun _ => .inl rfl⟩
theorem Frees.kept {h x : Hp} (F : Frees h x) {k : Nat} (hk : Kept h k) : x.cs[k]? = h.cs[k]? := by
  rcases F.cell k with e | ⟨_, e⟩
  · exact e
  · exact absurd hk e
theorem Frees.free {h x : Hp} (F : Frees h x) {k : Nat} (hlt : k < x.cs.length) (hn : (k : Int) ∉ refsOf x) : Frees h (freeK x k) := by
  refine ⟨F.rt, by simp [freeK, F.len], fun j => ?_⟩
  by_cases e : k = j
  · subst e
    refine .inr ⟨by simp [freeK, hlt], fun hk => ?_⟩
    obtain ⟨K, hs, hkk⟩ := hk
    obtain ⟨_, h1 | ⟨m, c, hm, hc, hr⟩⟩ := hs k hkk
    · exact hn (mem_refsOf.2 (.inl (by rw [F.rt]; exact h1)))
    · exact hn (mem_refsOf.2 (.inr ⟨m, c, by rw [F.kept ⟨K, hs, hm⟩]; exact hc, hr⟩))
  · rw [freeK, List.getElem?_set_ne e]
    exact F.cell j
theorem valid_unused {h : Hp} (hv : validH h = true) {k : Nat} {c : Cl} (hc : h.cs[k]? = some c) (hu : c.u = false) : c = freeCl := by
  have := okCell_iff.1 (valid_cell hv hc)
  obtain ⟨u, d, r⟩ := c
  simp only at hu this
  subst hu
  rcases this.1 with e | ⟨e1, e2⟩
  · cases e
  · rw [freeCl, e1, e2]
theorem Frees.used {h x : Hp} (F : Frees h x) (hv : validH h = true) {k : Nat} {c : Cl} (hc : x.cs[k]? = some c) (hr : c.r ≠ []) : h.cs[k]? = some c ∧ c.u = true := by
  rcases F.cell k with e | ⟨e, _⟩
  · rw [e] at hc
    refine ⟨hc, ?_⟩
    cases hu : c.u
    · rw [valid_unused hv hc hu] at hr
      exact absurd rfl hr
    · rfl
  · rw [hc] at e
    rw [Option.some.inj e] at hr
    exact absurd rfl hr
/-- when nothing is left that could be freed, it is what is kept -/
theorem Frees.fin {h x : Hp} (F : Frees h x) (hv : validH h = true) (hd : ∀ k, usedAt x.cs k = true → (k : Int) ∈ refsOf x) : x = freeH h := by
  have hs : Sup h (fun k => usedAt x.cs k = true) := fun k hk => by
    obtain ⟨c, hc, hu⟩ := usedAt_iff.1 hk
    refine ⟨?_, ?_⟩
    · rcases F.cell k with e | ⟨e, _⟩
      · exact usedAt_iff.2 ⟨c, by rw [← e]; exact hc, hu⟩
      · rw [hc] at e
        rw [Option.some.inj e] at hu
        cases hu
    · rcases mem_refsOf.1 (hd k hk) with h1 | ⟨m, c', hm, hn⟩
      · exact .inl (by rw [← F.rt]; exact h1)
      · obtain ⟨h1, h2⟩ := F.used hv hm (List.ne_nil_of_mem hn)
        exact .inr ⟨m, c', usedAt_iff.2 ⟨c', hm, h2⟩, h1, hn⟩
  have hcs : x.cs = (freeH h).cs := by
    apply List.ext_getElem?
    intro k
    rcases Nat.lt_or_ge k h.cs.length with hk | hk
    · obtain ⟨c, hc⟩ : ∃ c, h.cs[k]? = some c := ⟨_, List.getElem?_eq_getElem hk⟩
      by_cases q : Kept h k
      · rw [freeH_cell q, F.kept q]
      · rw [freeH_gone q hk]
        rcases F.cell k with e | ⟨e, _⟩
        · rw [e, hc]
          congr 1
          refine valid_unused hv hc ?_
          cases hu : c.u
          · rfl
          · exact absurd ⟨_, hs, usedAt_iff.2 ⟨c, by rw [e]; exact hc, hu⟩⟩ q
        · exact e
    · rw [List.getElem?_eq_none (by rw [F.len]; exact hk), List.getElem?_eq_none (by simp [freeH]; exact hk)]
  obtain ⟨xc, xr⟩ := x
  have := F.rt
  simp only at this hcs
  rw [this, hcs]
  rfl
theorem freeK_valid {x : Hp} (hv : validH x = true) {k : Nat} (hn : (k : Int) ∉ refsOf x) : validH (freeK x k) = true := by
  obtain ⟨v1, v2, v3, v4⟩ := valid_iff.1 hv
  have hu : ∀ n : Int, okRef x.cs n = true → n ≠ (k : Int) → okRef (x.cs.set k freeCl) n = true := fun n ho hne => by
    rcases okRef_iff.1 ho with e | ⟨e, hu⟩
    · exact okRef_iff.2 (.inl e)
    · refine okRef_iff.2 (.inr ⟨e, ?_⟩)
      obtain ⟨c, hc, hcu⟩ := usedAt_iff.1 hu
      exact usedAt_iff.2 ⟨c, by rw [List.getElem?_set_ne (by omega)]; exact hc, hcu⟩
  refine valid_iff.2 ⟨fun c hc => ?_, by simpa [freeK] using v2, v3, okRefs_iff.2 fun n h1 => hu n (okRefs_iff.1 v4 n h1) fun e => hn (mem_refsOf.2 (.inl (e ▸ h1)))⟩
  rcases List.mem_or_eq_of_mem_set hc with h1 | rfl
  · obtain ⟨m, hm⟩ := List.mem_iff_getElem?.1 h1
    obtain ⟨w1, w2, w3, w4⟩ := okCell_iff.1 (v1 c h1)
    exact okCell_iff.2 ⟨w1, w2, w3, okRefs_iff.2 fun n h2 => hu n (okRefs_iff.1 w4 n h2) fun e => hn (mem_refsOf.2 (.inr ⟨m, c, hm, e ▸ h2⟩))⟩
  · exact okCell_iff.2 ⟨.inr ⟨rfl, rfl⟩, by decide, by decide, rfl⟩
/-- a used cell to which nothing leads, the last one below n; -1 if there is none -/
def idleTo (h : Hp) : Nat → Int
  | 0 => -1
  | n + 1 => if usedAt h.cs n = true ∧ (n : Int) ∉ refsOf h then (n : Int) else idleTo h n
theorem idleTo_cases (h : Hp) : ∀ n, (idleTo h n = -1 ∧ ∀ k, k < n → usedAt h.cs k = true → (k : Int) ∈ refsOf h) ∨ ∃ k : Nat, idleTo h n = k ∧ k < n ∧ usedAt h.cs k = true ∧ (k : Int) ∉ refsOf h
  | 0 => .inl ⟨rfl, fun k hk => by omega⟩
  | n + 1 => by
    rw [idleTo]
    by_cases e : usedAt h.cs n = true ∧ (n : Int) ∉ refsOf h
    · rw [if_pos e]
      exact .inr ⟨n, rfl, by omega, e⟩
    · rw [if_neg e]
      rcases idleTo_cases h n with ⟨h1, h2⟩ | ⟨k, h1, h2, h3⟩
      · refine .inl ⟨h1, fun k hk hu => ?_⟩
        rcases Nat.lt_or_ge k n with h3 | h3
        · exact h2 k h3 hu
        · obtain rfl : k = n := by omega
          exact Classical.byContradiction fun q => e ⟨hu, q⟩
      · exact .inr ⟨k, h1, by omega, h3⟩
def usedN (h : Hp) : Nat := usedTo h.cs h.cs.length
theorem usedN_eq (h : Hp) : usedN h = h.cs.countP (·.u) := by simp [usedN, usedTo]
theorem usedN_free {x : Hp} {k : Nat} (hu : usedAt x.cs k = true) : usedN (freeK x k) + 1 = usedN x := by
  rw [usedN_eq, usedN_eq, freeK]
  obtain ⟨c, hc, hcu⟩ := usedAt_iff.1 hu
  have key : ∀ (cs : List Cl) (k : Nat), cs[k]? = some c → (cs.set k freeCl).countP (·.u) + 1 = cs.countP (·.u) := by
    intro cs
    induction cs with
    | nil => intro k h; simp at h
    | cons a l ih =>
      intro k h
      cases k with
      | zero =>
        simp only [List.getElem?_cons_zero, Option.some.injEq] at h
        subst h
        simp [hcu, freeCl]
      | succ k =>
        have := ih k (by simpa using h)
        rw [List.set_cons_succ, List.countP_cons, List.countP_cons]
        omega
  exact key x.cs k hc
def freeF : Nat → Hp → Hp
  | 0, x => x
  | f + 1, x => if idleTo x x.cs.length < 0 then x else freeF f (freeK x (idleTo x x.cs.length).toNat)
theorem freeF_frees {h : Hp} (hv : validH h = true) : ∀ (f : Nat) (x : Hp), Frees h x → validH x = true → usedN x < f → freeF f x = freeH h ∧ validH (freeH h) = true
  | 0, x, _, _, hu => by omega
  | f + 1, x, F, vx, hu => by
    rw [freeF]
    rcases idleTo_cases x x.cs.length with ⟨h1, h2⟩ | ⟨k, h1, h2, h3, h4⟩
    · rw [if_pos (by omega)]
      have := F.fin hv fun k hk => h2 k (usedAt_lt hk) hk
      exact ⟨this, this ▸ vx⟩
    · rw [if_neg (by omega), h1, Int.toNat_natCast]
      exact freeF_frees hv f _ (F.free h2 h4) (freeK_valid vx h4) (by have := usedN_free h3; omega)
theorem usedN_lt (h : Hp) : usedN h < h.cs.length + 1 := by have := usedTo_le h.cs h.cs.length; unfold usedN; omega
theorem freeH_valid {h : Hp} (hv : validH h = true) : validH (freeH h) = true := (freeF_frees hv _ h (Frees.refl h) hv (usedN_lt h)).2
/-- what is left is led to -/
theorem freeH_led {h : Hp} {k : Nat} (hu : usedAt (freeH h).cs k = true) : (k : Int) ∈ refsOf (freeH h) := by
  have hl := usedAt_lt hu
  rw [freeH_len] at hl
  have hk : Kept h k := by
    refine Classical.byContradiction fun q => ?_
    obtain ⟨c, hc, hcu⟩ := usedAt_iff.1 hu
    rw [freeH_gone q hl] at hc
    rw [← Option.some.inj hc] at hcu
    cases hcu
  obtain ⟨K, hs, hkk⟩ := hk
  obtain ⟨_, h1 | ⟨m, c, hm, hc, hr⟩⟩ := hs k hkk
  · exact mem_refsOf.2 (.inl h1)
  · exact mem_refsOf.2 (.inr ⟨m, c, by rw [freeH_cell ⟨K, hs, hm⟩]; exact hc, hr⟩)
theorem reached_kept {h : Hp} (hv : validH h = true) {k : Nat} (hr : Rch h.cs h.rt k) : Kept h k := by
  refine ⟨fun k => Rch h.cs h.rt k, fun k hk => ⟨hk.live hv, ?_⟩, hr⟩
  cases hk with
  | root h1 => exact .inl h1
  | step h1 h2 h3 => exact .inr ⟨_, _, h1, h2, h3⟩
/-- a program sees the same -/
theorem freeH_sim {h : Hp} (hv : validH h = true) : Sim h (freeH h) (fun k x => k = x ∧ Rch h.cs h.rt k) := by
  refine ⟨fun k x y h1 h2 => by omega, fun k m x h1 h2 => by omega, ⟨rfl, fun i n m h1 h2 => ?_⟩, ?_⟩
  · have e : n = m := by
      rw [show (freeH h).rt = h.rt from rfl, h1] at h2
      exact Option.some.inj h2
    subst e
    rcases okRef_iff.1 (valid_root hv h1) with e | ⟨e, _⟩
    · exact .inl ⟨e, e⟩
    · exact .inr ⟨n.toNat, n.toNat, by omega, by omega, rfl, .root (by rw [Int.toNat_of_nonneg e]; exact List.mem_of_getElem? h1)⟩
  · rintro k x ⟨rfl, hr⟩
    obtain ⟨c, hc, _⟩ := usedAt_iff.1 (hr.live hv)
    refine ⟨c, c, hc, by rw [freeH_cell (reached_kept hv hr)]; exact hc, rfl, rfl, fun i n m h1 h2 => ?_⟩
    have e : n = m := by
      rw [h1] at h2
      exact Option.some.inj h2
    subst e
    rcases okRef_iff.1 (valid_ref hv hc h1) with e | ⟨e, _⟩
    · exact .inl ⟨e, e⟩
    · exact .inr ⟨n.toNat, n.toNat, by omega, by omega, rfl, .step hr hc (by rw [Int.toNat_of_nonneg e]; exact List.mem_of_getElem? h1)⟩
theorem freeH_same {h : Hp} (hv : validH h = true) : sameV (freeH h) h = true := by
  rw [sameV_comm]
  exact sameV_iff.2 ⟨hv, freeH_valid hv, (freeH_sim hv).view hv (freeH_valid hv)⟩
/-- the first cell that is not used, or the place behind the last one -/
def gapTo (cs : List Cl) (n : Nat) : Nat := ((List.range n).find? fun k => !usedAt cs k).getD n
def gapH (h : Hp) : Nat := gapTo h.cs h.cs.length
theorem gapH_cases (h : Hp) : (gapH h = h.cs.length ∧ ∀ k, k < h.cs.length → usedAt h.cs k = true) ∨ (gapH h < h.cs.length ∧ usedAt h.cs (gapH h) = false ∧ ∀ k, k < gapH h → usedAt h.cs k = true) := by
  unfold gapH gapTo
  cases e : (List.range h.cs.length).find? fun k => !usedAt h.cs k with
  | none =>
    refine .inl ⟨rfl, fun k hk => ?_⟩
    have := List.find?_eq_none.1 e k (List.mem_range.2 hk)
    simpa using this
  | some k =>
    refine .inr ⟨?_, ?_, ?_⟩
    · exact List.mem_range.1 (List.mem_of_find?_eq_some e)
    · simpa using List.find?_some e
    · intro j hj
      simp only [Option.getD_some] at hj
      obtain ⟨_, l1, l2, e1, e2⟩ := List.find?_eq_some_iff_append.1 e
      have hk := List.mem_range.1 (List.mem_of_find?_eq_some e)
      have hm : j ∈ l1 := by
        have hj1 : j ∈ List.range h.cs.length := List.mem_range.2 (by omega)
        rw [e1, List.mem_append, List.mem_cons] at hj1
        rcases hj1 with h1 | h1 | h1
        · exact h1
        · omega
        · have hs : (l1 ++ k :: l2).Pairwise (· < ·) := by rw [← e1]; exact List.pairwise_lt_range
          rw [List.pairwise_append, List.pairwise_cons] at hs
          have := hs.2.1.1 j h1
          omega
      simpa using e2 j hm
theorem gapH_le (h : Hp) : gapH h ≤ h.cs.length := by rcases gapH_cases h with ⟨e, _⟩ | ⟨e, _⟩ <;> omega
/-- counts are those of RefCounts -/
def okCt (h : Hp) (l : List Int) : Bool := validH h && decide (l = countsL h)
theorem okCt_iff {h : Hp} {l : List Int} : okCt h l = true ↔ validH h = true ∧ l = countsL h := by simp [okCt]
/-- a step with counts -/
noncomputable def stepCt (h : Hp) (l : List Int) (o : Cm) : (Hp × List Int) × Bool :=
  if okCt h l && okCm o then
    (if !canH h o || (decide (o.op = 1) && decide (gapH h = 40)) then ((h, l), false) else ((freeH (doH h o (gapH h)), countsL (freeH (doH h o (gapH h)))), true))
  else ((zeroH, []), false)
noncomputable def runCtFrom (x : Hp × List Int) (l : List Cm) : Hp × List Int := l.foldl (fun x o => (stepCt x.1 x.2 o).1) x
noncomputable def runCt (l : List Cm) : Hp × List Int := if okCms l = true then runCtFrom (emptyH, []) l else (zeroH, [])
theorem stepCt_no {h : Hp} {l : List Int} {o : Cm} (e : okCt h l = false ∨ okCm o = false) : stepCt h l o = ((zeroH, []), false) := by
  rw [stepCt, if_neg]
  rw [Bool.and_eq_true]
  rintro ⟨h1, h2⟩
  rcases e with e | e
  · rw [e] at h1; cases h1
  · rw [e] at h2; cases h2
theorem stepCt_cannot {h : Hp} {l : List Int} {o : Cm} (h1 : okCt h l = true) (h2 : okCm o = true) (h3 : canH h o = false ∨ (o.op = 1 ∧ gapH h = 40)) : stepCt h l o = ((h, l), false) := by
  rw [stepCt, if_pos (by rw [h1, h2]; rfl), if_pos]
  rcases h3 with e | ⟨e1, e2⟩
  · simp [e]
  · simp [e1, e2]
theorem stepCt_does {h : Hp} {l : List Int} {o : Cm} (h1 : okCt h l = true) (h2 : okCm o = true) (h3 : canH h o = true) (h4 : ¬ (o.op = 1 ∧ gapH h = 40)) : stepCt h l o = ((freeH (doH h o (gapH h)), countsL (freeH (doH h o (gapH h)))), true) := by
  rw [stepCt, if_pos (by rw [h1, h2]; rfl), if_neg]
  simp only [h3, Bool.not_true, Bool.false_or, Bool.and_eq_true, decide_eq_true_eq]
  exact h4
theorem gap_room {h : Hp} (hv : validH h = true) {o : Cm} (h4 : ¬ (o.op = 1 ∧ gapH h = 40)) : o.op = 1 → gapH h ≤ h.cs.length ∧ gapH h < 40 := fun h1 => by
  have := gapH_le h
  have := (valid_iff.1 hv).2.1
  exact ⟨gapH_le h, by omega⟩
theorem stepCt_ok {h : Hp} {l : List Int} {o : Cm} (h1 : okCt h l = true) (h2 : okCm o = true) : okCt (stepCt h l o).1.1 (stepCt h l o).1.2 = true := by
  by_cases h3 : canH h o = false ∨ (o.op = 1 ∧ gapH h = 40)
  · rw [stepCt_cannot h1 h2 h3]
    exact h1
  · rw [not_or] at h3
    have h3' : canH h o = true := by simpa using h3.1
    rw [stepCt_does h1 h2 h3' h3.2]
    exact okCt_iff.2 ⟨freeH_valid (doH_valid h3' (gap_room (okCt_iff.1 h1).1 h3.2)), rfl⟩
/-! a new cell at a gap and a new cell behind the last one -/
theorem new_sim {h : Hp} (hv : validH h = true) {p : Nat} (hp : p < h.cs.length) (hu : usedAt h.cs p = false) (c : Cl) (hc : ∀ n ∈ c.r, n = -1) (i : Nat) :
    Sim ⟨h.cs.set p c, h.rt.set i (p : Int)⟩ ⟨h.cs ++ [c], h.rt.set i (h.cs.length : Int)⟩ (fun k x => (k = x ∧ usedAt h.cs k = true) ∨ (k = p ∧ x = h.cs.length)) := by
  have hlt : ∀ k, usedAt h.cs k = true → k < h.cs.length := fun k hk => usedAt_lt hk
  have hne : ∀ k, usedAt h.cs k = true → k ≠ p := fun k hk e => by rw [e, hu] at hk; cases hk
  have hrr : ∀ n : Int, okRef h.cs n = true → RR (fun k x => (k = x ∧ usedAt h.cs k = true) ∨ (k = p ∧ x = h.cs.length)) n n := fun n ho => by
    rcases okRef_iff.1 ho with e | ⟨e, hu⟩
    · exact .inl ⟨e, e⟩
    · exact .inr ⟨n.toNat, n.toNat, by omega, by omega, .inl ⟨rfl, hu⟩⟩
  refine ⟨?_, ?_, ?_, ?_⟩
  · rintro k x y (⟨rfl, h1⟩ | ⟨rfl, rfl⟩) (⟨rfl, h2⟩ | ⟨e, rfl⟩)
    · rfl
    · exact absurd e (hne _ h1)
    · exact absurd rfl (hne _ h2)
    · rfl
  · rintro k m x (⟨rfl, h1⟩ | ⟨rfl, rfl⟩) (⟨rfl, h2⟩ | ⟨rfl, e⟩)
    · rfl
    · have := hlt _ h1; omega
    · have := hlt _ h2; omega
    · rfl
  · refine LR.set (R := fun k x => (k = x ∧ usedAt h.cs k = true) ∨ (k = p ∧ x = h.cs.length)) ⟨rfl, fun j n m h1 h2 => ?_⟩ i (.inr ⟨_, _, rfl, rfl, .inr ⟨rfl, rfl⟩⟩)
    rw [h1] at h2
    rw [← Option.some.inj h2]
    exact hrr n (valid_root hv h1)
  · rintro k x (⟨rfl, h1⟩ | ⟨rfl, rfl⟩)
    · obtain ⟨q, hq, _⟩ := usedAt_iff.1 h1
      refine ⟨q, q, by rw [List.getElem?_set_ne (fun e => hne k h1 e.symm)]; exact hq, by rw [List.getElem?_append_left (hlt k h1)]; exact hq, rfl, rfl, fun j n m h1 h2 => ?_⟩
      rw [h1] at h2
      rw [← Option.some.inj h2]
      exact hrr n (valid_ref hv hq h1)
    · refine ⟨c, c, by simp [hp], by simp, rfl, rfl, fun j n m h1 h2 => ?_⟩
      rw [h1] at h2
      have e := hc n (List.mem_of_getElem? h1)
      exact .inl ⟨e, by rw [← Option.some.inj h2]; exact e⟩
theorem gap_same {h : Hp} {o : Cm} (hv : validH h = true) (hc : canH h o = true) (h4 : ¬ (o.op = 1 ∧ gapH h = 40)) (hl : o.op = 1 → h.cs.length < 40) : sameV (doH h o (gapH h)) (doH h o h.cs.length) = true := by
  have v1 : validH (doH h o (gapH h)) = true := doH_valid hc (gap_room hv h4)
  have v2 : validH (doH h o h.cs.length) = true := doH_valid hc (fun h1 => ⟨Nat.le_refl _, hl h1⟩)
  by_cases h1 : o.op = 1
  · rcases gapH_cases h with ⟨e, _⟩ | ⟨e1, e2, _⟩
    · rw [e] at v1 ⊢
      exact sameV_iff.2 ⟨v1, v1, rfl⟩
    · have S := new_sim hv e1 e2 (newCl o) (fun n hn => by simp only [newCl, List.mem_replicate] at hn; exact hn.2) o.a.toNat
      have d1 : doH h o (gapH h) = ⟨h.cs.set (gapH h) (newCl o), h.rt.set o.a.toNat (gapH h : Int)⟩ := by rw [doH, if_pos h1, putCl, if_neg (by omega)]
      have d2 : doH h o h.cs.length = ⟨h.cs ++ [newCl o], h.rt.set o.a.toNat (h.cs.length : Int)⟩ := by rw [doH, if_pos h1, putCl, if_pos rfl]
      rw [← d1, ← d2] at S
      exact sameV_iff.2 ⟨v1, v2, S.view v1 v2⟩
  · have : doH h o (gapH h) = doH h o h.cs.length := by
      unfold doH
      rw [if_neg h1, if_neg h1]
    rw [this]
    exact sameV_iff.2 ⟨v2, v2, rfl⟩
theorem sameV_trans {a b c : Hp} (h1 : sameV a b = true) (h2 : sameV b c = true) : sameV a c = true := by
  obtain ⟨a1, _, a3⟩ := sameV_iff.1 h1
  obtain ⟨_, b2, b3⟩ := sameV_iff.1 h2
  exact sameV_iff.2 ⟨a1, b2, a3.trans b3⟩
/-- P56: with room, a program sees what StepHeap shows -/
theorem stepCt_same {h : Hp} {l : List Int} {o : Cm} (hd : (stepCt h l o).2 = true) (hr : (stepH h o).2 = true) : sameV (stepCt h l o).1.1 (stepH h o).1 = true := by
  have h1 : okCt h l = true := by
    cases e : okCt h l
    · rw [stepCt_no (.inl e)] at hd; cases hd
    · rfl
  have h2 : okCm o = true := by
    cases e : okCm o
    · rw [stepCt_no (.inr e)] at hd; cases hd
    · rfl
  have hv := (okCt_iff.1 h1).1
  by_cases h3 : canH h o = false ∨ (o.op = 1 ∧ gapH h = 40)
  · rw [stepCt_cannot h1 h2 h3] at hd
    cases hd
  rw [not_or] at h3
  have h3' : canH h o = true := by simpa using h3.1
  have h5 : ¬ (o.op = 1 ∧ h.cs.length = 40) := by
    rintro ⟨e1, e2⟩
    simp [stepH, hv, h2, e1, e2] at hr
  have e : stepH h o = (doH h o h.cs.length, true) := by
    unfold stepH
    rw [hv, h2, h3']
    simp only [Bool.and_self, if_true, Bool.not_true, Bool.false_or]
    rw [if_neg]
    simpa using h5
  rw [stepCt_does h1 h2 h3' h3.2, e]
  exact sameV_trans (freeH_same (doH_valid h3' (gap_room hv h3.2))) (gap_same hv h3' h3.2 (fun q => by have := (valid_iff.1 hv).2.1; omega))
/-- counts tell what is used, once everything is freed to which nothing leads -/
theorem counts_at {h : Hp} {k : Nat} (hk : k < h.cs.length) : (countsL h)[k]? = some (((refsOf h).count (k : Int) : Nat) : Int) := by simp [countsL, hk]
theorem counts_pos {h : Hp} {k : Nat} : (0 : Int) < (((refsOf h).count (k : Int) : Nat) : Int) ↔ (k : Int) ∈ refsOf h := by
  rw [← List.count_pos_iff]
  omega
theorem empty_ok : okCt emptyH [] = true := by decide
/-- while a program runs with counts: at most as many cells as steps; a program sees what it sees without freeing; everything used has a count -/
structure RunsCt (x : Hp × List Int) (y : Hp) (n : Nat) : Prop where
  ok : okCt x.1 x.2 = true
  same : sameV x.1 y = true
  few : x.1.cs.length ≤ n ∧ y.cs.length ≤ n
  led : ∀ k, usedAt x.1.cs k = true → (k : Int) ∈ refsOf x.1
theorem RunsCt.start : RunsCt (emptyH, []) emptyH 0 := ⟨empty_ok, by rw [sameV_iff]; exact ⟨empty_valid, empty_valid, rfl⟩, by decide, fun k hk => by simp [emptyH, usedAt] at hk⟩
theorem doH_len {h : Hp} {o : Cm} {p : Nat} : (doH h o p).cs.length ≤ h.cs.length + 1 := by
  have h1 : ∀ c, (putCl h.cs p c).length ≤ h.cs.length + 1 := fun c => by unfold putCl; split <;> simp
  have h2 : ∀ k i x, (setRef h.cs k i x).length = h.cs.length := fun k i x => by unfold setRef; split <;> simp
  have h3 : ∀ k x, (setDat h.cs k x).length = h.cs.length := fun k x => by unfold setDat; split <;> simp
  unfold doH
  split
  · exact h1 _
  split
  · simp
  split
  · rw [h2]; omega
  split
  · simp
  split
  · simp
  split
  · rw [h3]; omega
  · omega
theorem stepH_len {h : Hp} {o : Cm} : (stepH h o).1.cs.length ≤ h.cs.length + 1 := by
  unfold stepH
  split
  · split
    · simp
    · exact doH_len
  · simp [zeroH]
theorem stepCt_len {h : Hp} {l : List Int} {o : Cm} : (stepCt h l o).1.1.cs.length ≤ h.cs.length + 1 := by
  unfold stepCt
  split
  · split
    · simp
    · simp only [freeH_len]; exact doH_len
  · simp [zeroH]
theorem RunsCt.step {x : Hp × List Int} {y : Hp} {n : Nat} (S : RunsCt x y n) {o : Cm} (ho : okCm o = true) (hn : n < 40) : RunsCt (stepCt x.1 x.2 o).1 (stepH y o).1 (n + 1) := by
  have hv := (okCt_iff.1 S.ok).1
  obtain ⟨_, hy, he⟩ := sameV_iff.1 S.same
  have hcan := (sim_of_view hv hy he).can hv hy o
  have hg := gapH_le x.1
  have hf := S.few
  refine ⟨stepCt_ok S.ok ho, ?_, ⟨Nat.le_trans stepCt_len (by omega), Nat.le_trans stepH_len (by omega)⟩, ?_⟩
  · cases hc : canH x.1 o
    · rw [stepCt_cannot S.ok ho (.inl hc)]
      have : stepH y o = (y, false) := by simp [stepH, hy, ho, ← hcan, hc]
      rw [this]
      exact S.same
    · have h4 : ¬ (o.op = 1 ∧ gapH x.1 = 40) := by omega
      refine sameV_trans (stepCt_same (by rw [stepCt_does S.ok ho hc h4]) ?_) (same_step S.same ho (by omega) (by omega))
      have h5 : ¬ (o.op = 1 ∧ x.1.cs.length = 40) := by omega
      unfold stepH
      rw [hv, ho, hc]
      simp only [Bool.and_self, if_true, Bool.not_true, Bool.false_or]
      rw [if_neg (by simpa using h5)]
  · by_cases h3 : canH x.1 o = false ∨ (o.op = 1 ∧ gapH x.1 = 40)
    · rw [stepCt_cannot S.ok ho h3]
      exact S.led
    · rw [not_or] at h3
      rw [stepCt_does S.ok ho (by simpa using h3.1) h3.2]
      exact fun k hk => freeH_led hk
theorem runs_from : ∀ (l : List Cm) (x : Hp × List Int) (y : Hp) (n : Nat), RunsCt x y n → (∀ o ∈ l, okCm o = true) → n + l.length ≤ 40 → RunsCt (runCtFrom x l) (runFrom y l) (n + l.length)
  | [], x, y, n, S, _, _ => S
  | o :: l, x, y, n, S, ho, hn => by
    have h1 := S.step (ho o (by simp)) (by simp at hn; omega)
    have := runs_from l _ _ _ h1 (fun o' h' => ho o' (by simp [h'])) (by simp at hn ⊢; omega)
    rw [show n + 1 + l.length = n + (o :: l).length by simp; omega] at this
    exact this
/-- P57: with counts a program sees what it sees without freeing -/
theorem run_same {l : List Cm} (hl : okCms l = true) : okCt (runCt l).1 (runCt l).2 = true ∧ sameV (runCt l).1 (runH l) = true ∧ ∀ k, usedAt (runCt l).1.cs k = true → (k : Int) ∈ refsOf (runCt l).1 := by
  obtain ⟨h1, h2⟩ := okCms_iff.1 hl
  have S := runs_from l _ _ _ RunsCt.start h1 (by omega)
  rw [runCt, if_pos hl, runH, if_pos hl]
  exact ⟨S.ok, S.same, S.led⟩
end Hps
end Go.Proofs.YtfgdenmlfloloaaDoor

namespace Go.Proofs.YtfgdenmlfloloaaDoor
open Go.RowKit
set_option maxRecDepth 100000
/-- a heap with counts as a value -/
abbrev ctV (A : Option Addr) (n c : Nat) (R : Option Addr) (m d : Nat) (K : Option Addr) (p q : Nat) : Value := .agg #[.slice A n c, .slice R m d, .slice K p q]
/-- a heap with counts of the call's own -/
structure OwnCt (w : World) (base : Nat) (vc vr vk : Value) (rvs : List Value) (h : Hp) (l : List Int) : Prop where
  heap : OwnHx w base vc vr rvs h
  cnts : OwnI w base vk l
  sep : ∀ u ∈ vc :: vr :: rvs, u.ownBlock = none ∨ u.ownBlock ≠ vk.ownBlock
def OwnC (w : World) (base : Nat) (vc vr vk : Value) (h : Hp) (l : List Int) : Prop := ∃ rvs, OwnCt w base vc vr vk rvs h l
def GaveCt (w : World) (h : Hp) (l : List Int) (e : Ending) (w' : World) : Prop := ∃ vc vr vk, e = .returned (.agg #[vc, vr, vk]) ∧ OwnC w' w.heap.size vc vr vk h l ∧ Below w.heap.size w w'
def GaveCt2 (w : World) (h : Hp) (l : List Int) (ok : Bool) (e : Ending) (w' : World) : Prop := ∃ vc vr vk, e = .returned (.tuple #[.agg #[vc, vr, vk], .bool ok]) ∧ OwnC w' w.heap.size vc vr vk h l ∧ Below w.heap.size w w'
section
variable {w w' : World} {bs bs' B g : Nat} {vc vr vk : Value} {rvs : List Value} {h : Hp} {l : List Int}
theorem OwnCt.below (o : OwnCt w bs vc vr vk rvs h l) (hb : Below B w w') (hB : w.heap.size ≤ B) : OwnCt w' bs vc vr vk rvs h l := ⟨o.heap.below hb hB, o.cnts.below hb hB, o.sep⟩
theorem OwnCt.base (o : OwnCt w bs vc vr vk rvs h l) (hb : bs' ≤ bs) : OwnCt w bs' vc vr vk rvs h l := ⟨o.heap.base hb, o.cnts.base hb, o.sep⟩
theorem OwnCt.blocks (o : OwnCt w bs vc vr vk rvs h l) {v : Value} (hv : v ∈ vc :: vr :: vk :: rvs) {k : Nat} (hk : v.ownBlock = some k) : bs ≤ k ∧ k < w.heap.size := by
  simp only [List.mem_cons] at hv
  rcases hv with rfl | rfl | rfl | hv
  · exact o.heap.blocks (v := v) (by simp) hk
  · exact o.heap.blocks (v := v) (by simp) hk
  · exact World.ownsRow.lt o.cnts k hk
  · exact o.heap.blocks (v := v) (by simp [hv]) hk
theorem OwnCt.apart_below (o : OwnCt w bs vc vr vk rvs h l) (hb : g < bs) : Apart (some g) (vc :: vr :: vk :: rvs) := fun v hv => by
  cases e : v.ownBlock with
  | none => exact .inl rfl
  | some k =>
    right
    intro e'
    have := (o.blocks hv e).1
    have := Option.some.inj e'
    omega
theorem OwnCt.apart_new (o : OwnCt w bs vc vr vk rvs h l) (hb : w.heap.size ≤ g) : Apart (some g) (vc :: vr :: vk :: rvs) := fun v hv => by
  cases e : v.ownBlock with
  | none => exact .inl rfl
  | some k =>
    right
    intro e'
    have := (o.blocks hv e).2
    have := Option.some.inj e'
    omega
theorem OwnCt.far {row : Option Nat} (o : OwnCt w bs vc vr vk rvs h l) (hg : w.grownBy w' row) (ha : Apart row (vc :: vr :: vk :: rvs)) : OwnCt w' bs vc vr vk rvs h l :=
  ⟨o.heap.far hg (fun v hv => ha v (by simp only [List.mem_cons] at hv ⊢; rcases hv with e | e | e <;> simp [e])), o.cnts.far hg (ha vk (by simp)), o.sep⟩
theorem OwnCt.put (o : OwnCt w bs vc vr vk rvs h l) (ha : Apart (some g) (vc :: vr :: vk :: rvs)) (i : Nat) (u : Value) : OwnCt (w.setCell ⟨g, i, none⟩ u) bs vc vr vk rvs h l := o.far (put_any w g i u) ha
theorem OwnCt.slices (o : OwnCt w bs vc vr vk rvs h l) : ∃ A c R d K q, vc = .slice A h.cs.length c ∧ vr = .slice R h.rt.length d ∧ vk = .slice K l.length q := by
  obtain ⟨A, c, R, d, e1, e2, _⟩ := o.heap.form
  obtain ⟨K, q, e3, _⟩ := o.cnts.form
  exact ⟨A, c, R, d, K, q, e1, e2, e3⟩
theorem OwnC.slices (ho : OwnC w bs vc vr vk h l) : ∃ A n c R m d K p q, vc = .slice A n c ∧ vr = .slice R m d ∧ vk = .slice K p q := by
  obtain ⟨rvs, o⟩ := ho
  obtain ⟨A, c, R, d, K, q, e1, e2, e3⟩ := o.slices
  exact ⟨A, _, c, R, _, d, K, _, q, e1, e2, e3⟩
theorem OwnC.below (ho : OwnC w bs vc vr vk h l) (hb : Below B w w') (hB : w.heap.size ≤ B) : OwnC w' bs vc vr vk h l := by
  obtain ⟨rvs, o⟩ := ho
  exact ⟨rvs, o.below hb hB⟩
theorem OwnC.base (ho : OwnC w bs vc vr vk h l) (hb : bs' ≤ bs) : OwnC w bs' vc vr vk h l := by
  obtain ⟨rvs, o⟩ := ho
  exact ⟨rvs, o.base hb⟩
theorem OwnC.heap (ho : OwnC w bs vc vr vk h l) : OwnH w bs vc vr h := by
  obtain ⟨rvs, o⟩ := ho
  exact ⟨rvs, o.heap⟩
theorem own_zeroC (w : World) (bs : Nat) (hb : bs ≤ w.heap.size) : OwnC w bs (.slice none 0 0) (.slice none 0 0) (.slice none 0 0) Hps.zeroH [] := by
  obtain ⟨rvs, o⟩ := own_zeroH w bs hb
  refine ⟨rvs, o, World.ownsRow_nil _ _ _ _, fun u hu => ?_⟩
  obtain rfl : rvs = [] := List.eq_nil_of_length_eq_zero o.len
  simp only [List.mem_cons, List.not_mem_nil, or_false] at hu
  rcases hu with rfl | rfl <;> exact .inl rfl
/-- a heap with counts of the call's own goes into the box of a result -/
theorem OwnC.out {wr : World} (ho : OwnC wr bs vc vr vk h l) (hg : g < bs) (hb : Below w.heap.size w wr) (hw : w.heap.size ≤ g) :
    OwnC (((wr.setCell ⟨g, 0, none⟩ vc).setCell ⟨g, 1, none⟩ vr).setCell ⟨g, 2, none⟩ vk) w.heap.size vc vr vk h l ∧ Below w.heap.size w (((wr.setCell ⟨g, 0, none⟩ vc).setCell ⟨g, 1, none⟩ vr).setCell ⟨g, 2, none⟩ vk) := by
  obtain ⟨rvs, own⟩ := ho
  have ap := own.apart_below hg
  exact ⟨⟨rvs, (((own.put ap 0 vc).put ap 1 vr).put ap 2 vk).base (by omega)⟩, ((hb.setCell (p := ⟨g, 0, none⟩) hw vc).setCell (p := ⟨g, 1, none⟩) hw vr).setCell (p := ⟨g, 2, none⟩) hw vk⟩
/-- a heap and counts that were made one after the other are a heap with counts -/
theorem OwnHx.counted {w1 : World} (o : OwnHx w bs vc vr rvs h) (hb : Below w.heap.size w w1) (k : OwnI w1 w.heap.size vk l) (hbase : bs ≤ w.heap.size) : OwnCt w1 bs vc vr vk rvs h l := by
  refine ⟨o.below hb (Nat.le_refl _), k.base hbase, fun u hu => ?_⟩
  cases e : u.ownBlock with
  | none => exact .inl rfl
  | some j =>
    right
    intro e'
    have h1 := (o.blocks hu e).2
    have h2 := (World.ownsRow.lt k j e'.symm).1
    omega
theorem OwnC.of (ho : OwnH w bs vc vr h) {w1 : World} (hb : Below w.heap.size w w1) (k : OwnI w1 w.heap.size vk l) (hbase : bs ≤ w.heap.size) : OwnC w1 bs vc vr vk h l := by
  obtain ⟨rvs, o⟩ := ho
  exact ⟨rvs, o.counted hb k hbase⟩
end
end Go.Proofs.YtfgdenmlfloloaaDoor

namespace Go.Proofs.YtfgdenmlfloloaaDoor
open Go.RowKit
set_option maxRecDepth 100000
set_option maxHeartbeats 2000000 in
theorem eqCounted_any (A R K A' R' K' : Option Addr) (n c m d p q n' c' m' d' p' q' : Nat) (x y : Hp) (l l' : List Int) (w : World) (hx : HS w w.heap.size A n R m x) (hkx : IS w w.heap.size K p l) (hy : HS w w.heap.size A' n' R' m' y) (hky : IS w w.heap.size K' p' l') (hn : n ≤ 1099511627776) (hm : m ≤ 1099511627776) (hp : p ≤ 1099511627776) (hn' : n' ≤ 1099511627776) (hm' : m' ≤ 1099511627776) (hp' : p' ≤ 1099511627776) (hb : ∀ cl ∈ x.cs, cl.r.length ≤ 1099511627776) (hb' : ∀ cl ∈ y.cs, cl.r.length ≤ 1099511627776) :
    Calls Tryd.prog 30 #[ctV A n c R m d K p q, ctV A' n' c' R' m' d' K' p' q'] w fun e w' => e = .returned (.bool (decide (x = y ∧ l = l'))) ∧ Below w.heap.size w w' := by
  have b2 : Below w.heap.size w ((w.alloc (.cells #[.slice A n c, .slice R m d, .slice K p q] 34)).alloc (.cells #[.slice A' n' c', .slice R' m' d', .slice K' p' q'] 34)) := ((Below.refl w.heap.size w).alloc (Nat.le_refl _) _).alloc (by simp) _
  have x2 := hx.up b2
  have y2 := hy.up b2
  have q1 := (Rw.new w 34 #[.slice A n c, .slice R m d, .slice K p q]).alloc (.cells #[.slice A' n' c', .slice R' m' d', .slice K' p' q'] 34)
  have q2 := Rw.new (w.alloc (.cells #[.slice A n c, .slice R m d, .slice K p q] 34)) 34 #[.slice A' n' c', .slice R' m' d', .slice K' p' q']
  simp only [World.size_alloc] at q2
  have HB := Lib.hid hb
  have HB' := Lib.hid hb'
  obtain ⟨v, hv⟩ : ∃ v, decide (x = y) = v := ⟨_, rfl⟩
  have HV := Lib.hid hv
  have HR := Lib.hid (show decide (x = y ∧ l = l') = (v && decide (l = l')) by rw [← hv, Bool.decide_and])
  clear hb hb' hv
  go_enter Tryd.func30, Tryd.ntmps30
  go_wp2_with fail
  refine (eqHeap_any _ _ _ _ _ _ _ _ _ _ _ _ x y _ x2 y2 hn hm hn' hm' HB.out HB'.out).mono ?_
  rw [HV.out]
  rintro e w3 ⟨rfl, b3⟩
  replace q1 := q1.keep b3 q1.lt
  replace q2 := q2.keep b3 q2.lt
  replace b2 := b2.trans (b3.mono b2.size)
  have z1 : w3.cell? ⟨w.heap.size, 2, none⟩ = some (.slice K p q) := q1.cell 2
  have z2 : w3.cell? ⟨w.heap.size + 1, 2, none⟩ = some (.slice K' p' q') := q2.cell 2
  have i1 := hkx.up b2
  have i2 := hky.up b2
  clear x2 y2 b3
  cases v
  · go_wp2_with fail
    go_ret
    exact ⟨by rw [HR.out]; rfl, b2⟩
  obtain ⟨v, hv⟩ : ∃ v, decide (l = l') = v := ⟨_, rfl⟩
  rw [hv] at HR
  have HV2 := Lib.hid hv
  clear hv
  go_wp2_with fail
  refine (eqIntS_any _ _ _ _ _ _ l l' _ i1 i2 hp hp').mono ?_
  rw [HV2.out]
  rintro e w4 ⟨rfl, b4⟩
  have bb4 := b2.trans (b4.mono b2.size)
  clear z1 z2
  cases v
  · go_wp2_with fail
    go_ret
    exact ⟨by rw [HR.out]; rfl, bb4⟩
  · go_wp2_with fail
    go_ret
    exact ⟨by rw [HR.out]; rfl, bb4⟩
set_option maxHeartbeats 2000000 in
theorem markCounted_any (vc vr vk : Value) (rvs : List Value) (h : Hp) (l : List Int) (k : Int) (base : Nat) (w : World) (S : OwnCt w base vc vr vk rvs h l) (hk : 0 ≤ k) (hk2 : k ≤ 1000000000) (hn : sizeH h ≤ 1000000000) (hl : l.length ≤ 1000000000) :
    Calls Tryd.prog 31 #[.agg #[vc, vr, vk], .int .i64 k] w fun e w' => e = .returned (.int .i64 (markKH k h + l.length)) ∧ OwnCt w' base vc vr vk rvs (markH k h) (marksI (markKH k h) l.length) ∧ Touched w w' (vc :: vr :: vk :: rvs) := by
  have b1 : Below w.heap.size w (w.alloc (.cells #[vc, vr, vk] 34)) := (Below.refl _ _).alloc (Nat.le_refl _) _
  have S1 := S.below b1 (Nat.le_refl _)
  have r1 := Rw.new w 34 #[vc, vr, vk]
  have hfar : ∀ v ∈ vc :: vr :: vk :: rvs, v.ownBlock ≠ some w.heap.size := fun v hv e => by have := (S.blocks hv e).2; omega
  have hs1 : h.cs.length + refN h.cs h.cs.length + h.rt.length ≤ 1000000000 := hn
  have hk0 : 0 ≤ markKH k h := by simp only [markKH, mkK]; omega
  have hk1 : markKH k h ≤ 1099511627776 := by simp only [markKH, mkK]; omega
  obtain ⟨q, hq⟩ : ∃ q, markKH k h = q := ⟨_, rfl⟩
  obtain ⟨hm, hhm⟩ : ∃ hm, markH k h = hm := ⟨_, rfl⟩
  rw [hq] at hk0 hk1
  have HQ := Lib.hid hq
  have HM := Lib.hid hhm
  clear hq hhm
  obtain ⟨AA, n, c, RR, m, d, KK, p, q5, rfl, rfl, rfl⟩ := OwnC.slices ⟨rvs, S⟩
  go_enter Tryd.func31, Tryd.ntmps31
  go_wp2_with fail
  refine (markHeap_any _ _ rvs h k base _ S1.heap hk hk2 hn).mono ?_
  rw [HQ.out, HM.out]
  rintro e w2 ⟨rfl, S2, T2⟩
  have T2' : Touched w w2 ((Value.slice AA n c) :: (.slice RR m d) :: (.slice KK p q5) :: rvs) := T2.first.more (fun v hv => by simp only [List.mem_cons] at hv ⊢; rcases hv with e | e | e <;> simp [e])
  have z2 : w2.cell? ⟨w.heap.size, 2, none⟩ = some (.slice KK p q5) := (Rw.touched r1 T2 (fun v hv => hfar v (by simp only [List.mem_cons] at hv ⊢; rcases hv with e | e | e <;> simp [e]))).cell 2
  have hko : OwnI w2 base (.slice KK p q5) l := row_touched S1.cnts T2 (fun u hu => by
    rcases S.sep u hu with e | e
    · cases e3 : (Value.slice KK p q5).ownBlock with
      | none => exact .inl rfl
      | some j => exact .inr (by rw [e]; simp)
    · exact .inr (Ne.symm e))
  go_wp2_with fail
  refine (markIntS_any _ l q base _ hko hk0 hk1 (by omega)).mono ?_
  rintro e w3 ⟨rfl, o3, g3⟩
  have T3 := T2'.grown g3 (by simp)
  have S3 : OwnCt w3 base (.slice AA n c) (.slice RR m d) (.slice KK p q5) rvs hm (marksI q l.length) := ⟨S2.far g3 (fun u hu => S.sep u hu), o3, S.sep⟩
  clear S2 T2 T2' hko o3 g3
  go_wp2_with fail
  go_ret
  exact ⟨by rw [HQ.out]; rfl, by rw [HQ.out, HM.out]; exact S3, T3⟩
set_option maxHeartbeats 2000000 in
theorem heldCounted_any (A R K : Option Addr) (n c m d p q : Nat) (h : Hp) (k : Int) (w : World) (hs : HS w w.heap.size A n R m (markH k h)) (hki : IS w w.heap.size K p (marksI (markKH k h) p)) (hl : h.cs.length = n) (hr : h.rt.length = m) (hk : 0 ≤ k) (hk2 : k ≤ 1000000000) (hn : sizeH h ≤ 1000000000) (hp : p ≤ 1000000000) :
    Calls Tryd.prog 32 #[ctV A n c R m d K p q, .int .i64 k] w fun e w' => e = .returned (.int .i64 (markKH k h + p)) ∧ Below w.heap.size w w' := by
  have b1 : Below w.heap.size w (w.alloc (.cells #[.slice A n c, .slice R m d, .slice K p q] 34)) := (Below.refl _ _).alloc (Nat.le_refl _) _
  have s1 := hs.up b1
  have q1 := Rw.new w 34 #[.slice A n c, .slice R m d, .slice K p q]
  have hs1 : h.cs.length + refN h.cs h.cs.length + h.rt.length ≤ 1000000000 := hn
  have hk0 : 0 ≤ markKH k h := by simp only [markKH, mkK]; omega
  have hk1 : markKH k h ≤ 1099511627776 := by simp only [markKH, mkK]; omega
  obtain ⟨y, hy⟩ : ∃ y, markKH k h = y := ⟨_, rfl⟩
  rw [hy] at hk0 hk1 hki
  have HY := Lib.hid hy
  have hy1 : decide (y < 0) = false := decide_eq_false (by omega)
  have hy2 : decide (y + (p : Int) < 0) = false := decide_eq_false (by omega)
  clear hy
  go_enter Tryd.func32, Tryd.ntmps32
  go_wp2_with fail
  refine (heldHeap_any _ _ _ _ _ _ h k _ s1 hl hr hk hk2 hn).mono ?_
  rw [HY.out]
  rintro e w2 ⟨rfl, b2⟩
  replace q1 := q1.keep b2 q1.lt
  replace b1 := b1.trans (b2.mono b1.size)
  have z2 : w2.cell? ⟨w.heap.size, 2, none⟩ = some (.slice K p q) := q1.cell 2
  have i2 := hki.up b1
  clear s1 b2
  go_wp2_with fail
  refine (heldIntS_any _ _ _ _ _ i2 hk0 hk1 (by omega)).mono ?_
  rintro e w3 ⟨rfl, rfl⟩
  go_wp2_with fail
  go_ret
  exact ⟨by rw [HY.out]; rfl, b1⟩
end Go.Proofs.YtfgdenmlfloloaaDoor

namespace Go.Proofs.YtfgdenmlfloloaaDoor
open Go.RowKit
set_option maxRecDepth 100000
/-- an append to a slice that begins at cell o of its block, where there is room -/
theorem run_append_room_off {P : Program} (w : World) (t ty e : TypeId) (i : TypeInfo) (ht : P.underlying t = some (.slice e)) (hi : P.info? e = some i)
    (g o sLen sCap : Nat) (cur : Array Value) (hg : w.heap[g]? = some (.cells cur e (0, 0)))
    (a : Addr) (m c : Nat) (news : List Value) (hl : news.length = m * i.size) (hnews : ∀ j u, news[j]? = some u → w.cell? (a.add j) = some u) (h1 : ∀ u ∈ news, u.oneCell' = true)
    (hroom : sLen + m ≤ sCap) (hfit : o + sLen * i.size + news.length ≤ cur.size) :
    (Builtin.append_ #[t, t] ty #[.slice (some ⟨g, o, none⟩) sLen sCap, .slice (some a) m c]).run P w =
      .ok (.slice (some ⟨g, o, none⟩) (sLen + m) sCap) (w.setRow g (cur.toList.take (o + sLen * i.size) ++ news ++ cur.toList.drop (o + sLen * i.size + news.length)).toArray) := by
  have hf := run_firstCells_some (P := P) w i.size m a m c news hl hnews
  have hst := run_storeCells_at P g (o + sLen * i.size) e news 0 cur w hg (by simpa using hfit) h1
  simp only [Nat.add_zero] at hst
  simp [Builtin.append_, run_underlying ht, sizeOf, typeInfo, hi, Builtin.lenOf, hroom, hf, add_lit, hst]
/-- the value v owns the numbers xs: a row that begins somewhere in a block, from block 'base' on -/
def OwnQ (w : World) (base : Nat) (v : Value) (xs : List Int) : Prop :=
  (v = .slice none 0 0 ∧ xs = []) ∨ ∃ g o cap cur, v = .slice (some ⟨g, o, none⟩) xs.length cap ∧ base ≤ g ∧ w.heap[g]? = some (.cells cur 3 (0, 0)) ∧ xs.length ≤ cap ∧ o + cap ≤ cur.size ∧ cap ≤ 9223372036854775807 ∧ ∀ (k : Nat) (u : Int), xs[k]? = some u → cur[o + k]? = some (.int .i64 u)
section
variable {w w' : World} {bs bs' B : Nat} {v : Value} {xs ys : List Int}
theorem OwnI.queue (h : OwnI w bs v xs) : OwnQ w bs v xs := by
  rcases h.2 with ⟨rfl, h0⟩ | ⟨g, cap, cur, rfl, hb, hh, hnc, hcap, hsz, hx⟩
  · exact .inl ⟨rfl, List.eq_nil_of_length_eq_zero h0⟩
  · refine .inr ⟨g, 0, cap, cur, rfl, hb, hh, hnc, by omega, by unfold maxLen at hcap; omega, fun k u hk => ?_⟩
    have h1 : (xs.map (Value.int .i64))[k]? = some (.int .i64 u) := by rw [List.getElem?_map, hk]; rfl
    rw [← hx, List.getElem?_take] at h1
    split at h1
    · rw [Nat.zero_add]; simpa using h1
    · cases h1
theorem OwnQ.lt (h : OwnQ w bs v xs) : ∀ k, v.ownBlock = some k → bs ≤ k ∧ k < w.heap.size := by
  intro k hk
  rcases h with ⟨rfl, _⟩ | ⟨g, o, cap, cur, rfl, hb, hh, _⟩
  · cases hk
  · obtain rfl : g = k := Option.some.inj hk
    exact ⟨hb, (Array.getElem?_eq_some_iff.1 hh).1⟩
theorem OwnQ.kept {row : Option Nat} (h : OwnQ w bs v xs) (hg : w.grownBy w' row) (hne : v.ownBlock = none ∨ v.ownBlock ≠ row) : OwnQ w' bs v xs := by
  rcases h with h0 | ⟨g, o, cap, cur, rfl, hb, hh, hr⟩
  · exact .inl h0
  · refine .inr ⟨g, o, cap, cur, rfl, hb, (hg.block g (Array.getElem?_eq_some_iff.1 hh).1 fun e => ?_).trans hh, hr⟩
    rcases hne with h1 | h1
    · cases h1
    · exact h1 e
theorem OwnQ.below (h : OwnQ w bs v xs) (hb : Below B w w') (hB : w.heap.size ≤ B) : OwnQ w' bs v xs := by
  rcases h with h0 | ⟨g, o, cap, cur, e, hb', hh, hr⟩
  · exact .inl h0
  · exact .inr ⟨g, o, cap, cur, e, hb', (hb.block g (Nat.lt_of_lt_of_le (Array.getElem?_eq_some_iff.1 hh).1 hB)).trans hh, hr⟩
theorem OwnQ.base (h : OwnQ w bs v xs) (hb : bs' ≤ bs) : OwnQ w bs' v xs := by
  rcases h with h0 | ⟨g, o, cap, cur, e, hb', hr⟩
  · exact .inl h0
  · exact .inr ⟨g, o, cap, cur, e, by omega, hr⟩
theorem OwnQ.form (h : OwnQ w bs v xs) : ∃ A c, v = .slice A xs.length c := by
  rcases h with ⟨rfl, rfl⟩ | ⟨g, o, cap, cur, rfl, _⟩
  · exact ⟨none, 0, rfl⟩
  · exact ⟨_, _, rfl⟩
/-- the first number, and what is left without it -/
theorem OwnQ.head {x : Int} (h : OwnQ w bs v (x :: xs)) : ∃ g o c, v = .slice (some ⟨g, o, none⟩) (xs.length + 1) c ∧ g < w.heap.size ∧ w.cell? ⟨g, o, none⟩ = some (.int .i64 x) ∧ xs.length + 1 ≤ c ∧ c ≤ 9223372036854775807 ∧ OwnQ w bs (if c = 1 then .slice (some ⟨g, o, none⟩) 0 0 else .slice (some ⟨g, o + 1, none⟩) xs.length (c - 1)) xs := by
  rcases h with ⟨_, h0⟩ | ⟨g, o, cap, cur, e, hb, hh, hnc, hsz, hcap, hc⟩
  · cases h0
  · refine ⟨g, o, cap, e, (Array.getElem?_eq_some_iff.1 hh).1, ?_, hnc, hcap, ?_⟩
    · have := hc 0 x rfl
      rw [Nat.add_zero] at this
      exact (cell_of_row w g o cur 3 (0, 0) hh).trans this
    · have hnc' : xs.length + 1 ≤ cap := hnc
      by_cases h1 : cap = 1
      · rw [if_pos h1]
        obtain rfl : xs = [] := List.eq_nil_of_length_eq_zero (by omega)
        exact .inr ⟨g, o, 0, cur, rfl, hb, hh, Nat.le_refl _, by omega, by omega, fun k u hk => by simp at hk⟩
      · rw [if_neg h1]
        refine .inr ⟨g, o + 1, cap - 1, cur, rfl, hb, hh, by omega, by omega, by omega, fun k u hk => ?_⟩
        have := hc (k + 1) u (by simpa using hk)
        rw [show o + 1 + k = o + (k + 1) by omega]
        exact this
end
theorem run_appendQ (w : World) (base : Nat) (v : Value) (xs : List Int) (hown : OwnQ w base v xs) (ag c : Nat) (y : Int) (hr : w.cell? ⟨ag, 0, none⟩ = some (.int .i64 y)) (hn : xs.length + 1 ≤ 1099511627776) (hbase : base ≤ w.heap.size) (ty : TypeId) :
    ∃ v' w', (Builtin.append_ #[24, 24] ty #[v, .slice (some ⟨ag, 0, none⟩) 1 c]).run Tryd.prog w = .ok v' w' ∧ OwnQ w' base v' (xs ++ [y]) ∧ w.grownBy w' v.ownBlock ∧ (v'.ownBlock = v.ownBlock ∨ v'.ownBlock = some w.heap.size) := by
  rcases hown with ⟨rfl, rfl⟩ | ⟨g, o, cap, cur, rfl, hbg, hg, hnc, hsz, hcap, hx⟩
  · obtain ⟨v', w', h1, h2, h3, h4⟩ := run_appendI w base (.slice none 0 0) [] (World.ownsRow_nil _ _ _ _) (some ⟨ag, 0, none⟩) 1 c (ag + 1) [y] ⟨rfl, fun _ => ⟨ag, 0, rfl, by omega, fun k b hk => by
      obtain rfl : k = 0 := by have := (List.getElem?_eq_some_iff.1 hk).1; simpa using this
      obtain rfl : y = b := by simpa using hk
      exact hr⟩⟩ hn hbase ty
    exact ⟨v', w', h1, h2.queue, h3, h4⟩
  · obtain ⟨i0, hi0, hz0, hz1, hz2⟩ := info_parts info_int
    have hnews : ∀ (j : Nat) (u : Value), [Value.int .i64 y][j]? = some u → w.cell? ((⟨ag, 0, none⟩ : Addr).add j) = some u := by
      intro j u hj
      cases j with
      | zero =>
        obtain rfl : Value.int .i64 y = u := by simpa using hj
        rw [Addr.add_zero']
        exact hr
      | succ j => simp at hj
    have hgt : g < w.heap.size := (Array.getElem?_eq_some_iff.1 hg).1
    by_cases hroom : xs.length + 1 ≤ cap
    · have hrun := run_append_room_off (P := Tryd.prog) w 24 ty 3 i0 Tryd.underlying24 hi0 g o xs.length cap cur hg ⟨ag, 0, none⟩ 1 c [.int .i64 y] (by simp [hz1]) hnews (by simp [Value.oneCell']) hroom (by rw [hz1]; simp; omega)
      rw [hz1, Nat.mul_one] at hrun
      refine ⟨_, _, hrun, .inr ⟨g, o, cap, _, by simp, hbg, setRow_heap w g cur _ 3 _ hg, by simpa using hroom, ?_, hcap, ?_⟩, ⟨rfl, rfl, rfl, by simp, fun k _ hk => setRow_other w g k _ (fun e => hk (by simp [Value.ownBlock, e]))⟩, .inl rfl⟩
      · simp only [List.size_toArray, List.length_append, List.length_take, List.length_drop, Array.length_toList, List.length_singleton]
        omega
      · intro k u hk
        simp only [List.getElem?_toArray]
        rcases Nat.lt_or_ge k xs.length with hlt | hge
        · rw [List.getElem?_append_left (by simp; omega), List.getElem?_append_left (by simp; omega), List.getElem?_take, if_pos (by omega)]
          rw [List.getElem?_append_left hlt] at hk
          simpa using hx k u hk
        · have hk1 : k = xs.length := by
            have := (List.getElem?_eq_some_iff.1 hk).1
            simp at this
            omega
          subst hk1
          rw [List.getElem?_append_right (Nat.le_refl _), Nat.sub_self] at hk
          obtain rfl : y = u := by simpa using hk
          rw [List.getElem?_append_left (by simp; omega), List.getElem?_append_right (by simp; omega), List.length_take, Nat.min_eq_left (by simp; omega), Nat.sub_self]
          rfl
    · have holds : ∀ (j : Nat) (u : Value), (xs.map (Value.int .i64))[j]? = some u → w.cell? ((⟨g, o, none⟩ : Addr).add j) = some u := by
        intro j u hj
        rw [add_lit, cell_of_row w g (o + j) cur 3 (0, 0) hg]
        rw [List.getElem?_map] at hj
        cases hq : xs[j]? with
        | none => rw [hq] at hj; cases hj
        | some b =>
          rw [hq] at hj
          rw [← Option.some.inj hj]
          exact hx j b hq
      have hrun := run_append_grow (P := Tryd.prog) w 24 ty 3 i0 _ Tryd.underlying24 hi0 hz0 ⟨g, o, none⟩ xs.length cap (xs.map (.int .i64)) (by simp [hz1]) holds ⟨ag, 0, none⟩ 1 c [.int .i64 y] (by simp [hz1]) hnews (by omega) (by omega) (growslice_fits (by omega) (by rw [hz2]; omega))
      refine ⟨_, _, hrun, ?_, ⟨rfl, rfl, rfl, by simp, fun k hk _ => heap_alloc_old w.drew _ hk⟩, .inr rfl⟩
      have hge := grownCap_ge w (xs.length + 1) cap 3
      refine .inr ⟨w.heap.size, 0, grownCap w (xs.length + 1) cap 3, _, by simp, hbase, heap_alloc_new w.drew _, by simpa using hge, ?_, ?_, ?_⟩
      · simp [size_zeroCells, Value.cells]
        omega
      · have := grownCap_le_maxLen w (xs.length + 1) cap 3 (by unfold maxLen; omega)
        unfold maxLen at this
        omega
      · intro k u hk
        rw [Nat.zero_add, Array.getElem?_append_left (by simp; have := (List.getElem?_eq_some_iff.1 hk).1; simpa using this)]
        rw [show (xs.map (Value.int .i64)).toArray ++ #[Value.int .i64 y] = (xs.map (Value.int .i64) ++ [Value.int .i64 y]).toArray by simp, List.getElem?_toArray, show xs.map (Value.int .i64) ++ [Value.int .i64 y] = (xs ++ [y]).map (Value.int .i64) by simp, List.getElem?_map, hk]
        rfl
theorem wpList_appendQ {w : World} {ops : Array Oper} {rest : List Oper} {o : Oper} {a : Act} {Q : Exit → Act → World → Prop} (hgd : o.guard = none) (s x : Operand)
    (ho : o.op = .call { callee := .builtin .append, args := #[s, x], argTypes := #[24, 24] })
    (base : Nat) (v : Value) (xs : List Int) (hs : a.eval s = v) (hown : OwnQ w base v xs) (ag c : Nat) (y : Int) (hx : a.eval x = .slice (some ⟨ag, 0, none⟩) 1 c) (hr : w.cell? ⟨ag, 0, none⟩ = some (.int .i64 y))
    (hn : xs.length + 1 ≤ 1099511627776) (hbase : base ≤ w.heap.size)
    (h : ∀ v' w', OwnQ w' base v' (xs ++ [y]) → w.grownBy w' v.ownBlock → (v'.ownBlock = v.ownBlock ∨ v'.ownBlock = some w.heap.size) → wpList Tryd.prog ops Q rest (a.put o.dst v') w') : wpList Tryd.prog ops Q (o :: rest) a w :=
  wpList_plain hgd fun _ hK => by
    obtain ⟨v', w', hrun, h2, h3, h4⟩ := run_appendQ w base v xs hown ag c y hr hn hbase o.type
    unfold Oper.wp execOp
    simp only [ho, resolve, invoke, builtin, Sem.run_bind, Sem.run_pure, Result.andThen_ok, List.map_toArray, List.map_cons, List.map_nil, hs, hx, hrun]
    exact hK _ _ (h v' w' h2 h3 h4)
end Go.Proofs.YtfgdenmlfloloaaDoor

namespace Go.Proofs.YtfgdenmlfloloaaDoor
open Go.RowKit
namespace Hps
/-- the numbers that are lost when the references rs are taken away from B ++ rs, one after the other -/
def lostF (B : List Int) : List Int → List Int
  | [] => []
  | t :: r => if t ≠ -1 ∧ t ∉ B ++ r then t :: lostF B r else lostF B r
theorem mem_lost {B : List Int} {x : Int} : ∀ {rs : List Int}, x ∈ lostF B rs ↔ x ∈ rs ∧ x ≠ -1 ∧ x ∉ B
  | [] => by simp [lostF]
  | t :: r => by
    rw [lostF]
    by_cases h : t ≠ -1 ∧ t ∉ B ++ r
    · rw [if_pos h, List.mem_cons, mem_lost, List.mem_cons]
      constructor
      · rintro (rfl | ⟨h1, h2, h3⟩)
        · exact ⟨.inl rfl, h.1, fun hb => h.2 (List.mem_append.2 (.inl hb))⟩
        · exact ⟨.inr h1, h2, h3⟩
      · rintro ⟨rfl | h1, h2, h3⟩
        · exact .inl rfl
        · exact .inr ⟨h1, h2, h3⟩
    · rw [if_neg h, mem_lost, List.mem_cons]
      constructor
      · rintro ⟨h1, h2, h3⟩
        exact ⟨.inr h1, h2, h3⟩
      · rintro ⟨rfl | h1, h2, h3⟩
        · refine ⟨?_, h2, h3⟩
          by_cases hr : x ∈ r
          · exact hr
          · exact absurd ⟨h2, fun hm => by rcases List.mem_append.1 hm with e | e; exact h3 e; exact hr e⟩ h
        · exact ⟨h1, h2, h3⟩
theorem lost_nodup (B : List Int) : ∀ rs : List Int, (lostF B rs).Nodup
  | [] => List.nodup_nil
  | t :: r => by
    rw [lostF]
    split
    · next h => exact List.nodup_cons.2 ⟨fun hm => h.2 (List.mem_append.2 (.inr (mem_lost.1 hm).1)), lost_nodup B r⟩
    · exact lost_nodup B r
theorem lost_len (B : List Int) : ∀ rs : List Int, (lostF B rs).length ≤ rs.length
  | [] => Nat.le_refl _
  | t :: r => by
    have := lost_len B r
    rw [lostF]
    split <;> simp <;> omega
theorem lost_none {B r : List Int} : lostF B (-1 :: r) = lostF B r := by rw [lostF, if_neg (by simp)]
theorem lost_yes {B r : List Int} {y : Nat} (h : (B ++ r).count (y : Int) = 0) : lostF B ((y : Int) :: r) = (y : Int) :: lostF B r := by
  rw [lostF, if_pos ⟨by omega, List.count_eq_zero.1 h⟩]
theorem lost_no {B r : List Int} {y : Nat} (h : (B ++ r).count (y : Int) ≠ 0) : lostF B ((y : Int) :: r) = lostF B r := by
  rw [lostF, if_neg]
  rintro ⟨_, h2⟩
  exact h (List.count_eq_zero.2 h2)
theorem cntN_neg1 {n : Nat} {B r : List Int} : cntN n (B ++ -1 :: r) = cntN n (B ++ r) := by
  unfold cntN
  apply List.map_congr_left
  intro k _
  rw [List.count_append, List.count_append, List.count_cons]
  have : ((-1 : Int) == (k : Int)) = false := by rw [beq_eq_false_iff_ne]; omega
  rw [this]
  simp
theorem count_cons_y {B r : List Int} {y : Nat} : (B ++ (y : Int) :: r).count (y : Int) = (B ++ r).count (y : Int) + 1 := by
  rw [List.count_append, List.count_append, List.count_cons]
  simp
  omega
theorem cntN_drop {n y : Nat} {B r : List Int} (h : y < n) : (cntN n (B ++ (y : Int) :: r)).set y (((B ++ r).count (y : Int) : Nat) : Int) = cntN n (B ++ r) := by
  apply List.ext_getElem?
  intro k
  rw [List.getElem?_set, cntN_len]
  rcases Nat.lt_or_ge k n with hk | hk
  · rw [cntN_at _ hk, cntN_at _ hk]
    by_cases e : y = k
    · subst e
      rw [if_pos rfl, if_pos h]
    · rw [if_neg e]
      have : ((y : Int) == (k : Int)) = false := by rw [beq_eq_false_iff_ne]; omega
      rw [List.count_append, List.count_append, List.count_cons, this]
      simp
  · rw [if_neg (by omega), List.getElem?_eq_none (by rw [cntN_len]; omega), List.getElem?_eq_none (by rw [cntN_len]; omega)]
/-- the used cells below n to which nothing leads, ascending -/
def idleL (h : Hp) (n : Nat) : List Int := ((List.range n).filter fun k => usedAt h.cs k && decide ((k : Int) ∉ refsOf h)).map fun (k : Nat) => (k : Int)
theorem idleL_yes {h : Hp} {k : Nat} (hu : usedAt h.cs k = true) (hm : (k : Int) ∉ refsOf h) : idleL h (k + 1) = idleL h k ++ [(k : Int)] := by
  simp [idleL, List.range_succ, hu, hm]
theorem idleL_no {h : Hp} {k : Nat} (hn : usedAt h.cs k = false ∨ (k : Int) ∈ refsOf h) : idleL h (k + 1) = idleL h k := by
  rcases hn with e | e <;> simp [idleL, List.range_succ, e]
theorem idleL_len (h : Hp) (n : Nat) : (idleL h n).length ≤ n := by
  unfold idleL
  rw [List.length_map]
  exact Nat.le_trans (List.length_filter_le _ _) (by simp)
/-- the queue holds the used cells to which nothing leads, each once -/
structure Waits (x : Hp) (Q : List Int) : Prop where
  nodup : Q.Nodup
  mem : ∀ t : Int, t ∈ Q ↔ ∃ k : Nat, t = k ∧ usedAt x.cs k = true ∧ (k : Int) ∉ refsOf x
theorem Waits.start (x : Hp) : Waits x (idleL x x.cs.length) := by
  refine ⟨?_, fun t => ?_⟩
  · unfold idleL
    unfold List.Nodup
    rw [List.pairwise_map]
    exact (List.nodup_range.filter _).imp fun h e => h (by omega)
  · unfold idleL
    simp only [List.mem_map, List.mem_filter, List.mem_range, Bool.and_eq_true, decide_eq_true_eq]
    constructor
    · rintro ⟨k, ⟨_, h2, h3⟩, rfl⟩
      exact ⟨k, rfl, h2, h3⟩
    · rintro ⟨k, rfl, h2, h3⟩
      exact ⟨k, ⟨usedAt_lt h2, h2, h3⟩, rfl⟩
theorem free_refs {x : Hp} {k : Nat} {c : Cl} (hc : x.cs[k]? = some c) (t : Int) : (refsOf x).count t = (refsOf (freeK x k) ++ c.r).count t := by
  have key : ∀ (cs : List Cl) (k : Nat), cs[k]? = some c → ((cs.map (·.r)).flatten).count t = (((cs.set k freeCl).map (·.r)).flatten).count t + c.r.count t := by
    intro cs
    induction cs with
    | nil => intro k h; simp at h
    | cons a cs ih =>
      intro k h
      cases k with
      | zero =>
        obtain rfl : a = c := by simpa using h
        simp [freeCl, List.count_append]
        omega
      | succ k =>
        have := ih k (by simpa using h)
        simp only [List.set_cons_succ, List.map_cons, List.flatten_cons, List.count_append]
        omega
  simp only [refsOf, freeK, List.count_append]
  have := key x.cs k hc
  omega
theorem free_mem {x : Hp} {k : Nat} {c : Cl} (hc : x.cs[k]? = some c) (t : Int) : t ∈ refsOf x ↔ t ∈ refsOf (freeK x k) ∨ t ∈ c.r := by
  have h := free_refs hc t
  rw [← List.count_pos_iff, h, List.count_pos_iff, List.mem_append]
theorem counts_free {x : Hp} {k : Nat} {c : Cl} (hc : x.cs[k]? = some c) : countsL x = cntN x.cs.length (refsOf (freeK x k) ++ c.r) := by
  rw [countsL_eq]
  unfold cntN
  exact List.map_congr_left fun j _ => by rw [free_refs hc]
theorem counts_freed (x : Hp) (k : Nat) : countsL (freeK x k) = cntN x.cs.length (refsOf (freeK x k)) := by
  rw [countsL_eq]
  simp [freeK]
theorem usedAt_is {cs : List Cl} {k : Nat} {c : Cl} (hc : cs[k]? = some c) : usedAt cs k = c.u := by rw [usedAt, hc]
theorem used_free {x : Hp} {k j : Nat} (hk : k < x.cs.length) : usedAt (freeK x k).cs j = (usedAt x.cs j && decide (j ≠ k)) := by
  unfold usedAt freeK
  simp only []
  by_cases e : j = k
  · subst e
    rw [List.getElem?_set_self hk]
    simp [freeCl]
  · rw [List.getElem?_set_ne (by omega)]
    simp [e]
theorem Waits.next {x : Hp} {k : Nat} {c : Cl} {Q : List Int} (hv : validH x = true) (h : Waits x ((k : Int) :: Q)) (hc : x.cs[k]? = some c) : Waits (freeK x k) (Q ++ lostF (refsOf (freeK x k)) c.r) := by
  have hk : k < x.cs.length := (List.getElem?_eq_some_iff.1 hc).1
  obtain ⟨hkQ, hQ⟩ := List.nodup_cons.1 h.nodup
  obtain ⟨k', ek, _, hkn⟩ := (h.mem k).1 (by simp)
  obtain rfl : k = k' := by omega
  have hr := okRefs_iff.1 (okCell_iff.1 (valid_cell hv hc)).2.2.2
  have inQ : ∀ t, t ∈ Q → ∃ j : Nat, t = j ∧ usedAt x.cs j = true ∧ (j : Int) ∉ refsOf x ∧ j ≠ k := fun t ht => by
    obtain ⟨j, e, h1, h2⟩ := (h.mem t).1 (by simp [ht])
    exact ⟨j, e, h1, h2, fun e2 => hkQ (by rw [← e2, ← e]; exact ht)⟩
  refine ⟨?_, fun t => ?_⟩
  · rw [List.nodup_append]
    refine ⟨hQ, lost_nodup _ _, fun a ha b hb e => ?_⟩
    obtain ⟨j, rfl, _, h2, _⟩ := inQ a ha
    rw [← e] at hb
    exact h2 ((free_mem hc _).2 (.inr (mem_lost.1 hb).1))
  · rw [List.mem_append]
    constructor
    · rintro (ht | ht)
      · obtain ⟨j, rfl, h1, h2, h3⟩ := inQ t ht
        exact ⟨j, rfl, by rw [used_free hk, h1]; simp [h3], fun hm => h2 ((free_mem hc _).2 (.inl hm))⟩
      · obtain ⟨h1, h2, h3⟩ := mem_lost.1 ht
        rcases okRef_iff.1 (hr t h1) with e | ⟨e, hu⟩
        · exact absurd e h2
        · obtain ⟨j, rfl⟩ := Int.eq_ofNat_of_zero_le e
          refine ⟨j, rfl, ?_, h3⟩
          rw [used_free hk]
          have hu' : usedAt x.cs j = true := by simpa using hu
          rw [hu']
          have : j ≠ k := fun e2 => hkn ((free_mem hc _).2 (.inr (by rw [← e2]; exact h1)))
          simp [this]
    · rintro ⟨j, rfl, h1, h2⟩
      rw [used_free hk, Bool.and_eq_true, decide_eq_true_eq] at h1
      by_cases hm : (j : Int) ∈ refsOf x
      · right
        rcases (free_mem hc _).1 hm with e | e
        · exact absurd e h2
        · exact mem_lost.2 ⟨e, by omega, h2⟩
      · left
        have := (h.mem j).2 ⟨j, rfl, h1.1, hm⟩
        rcases List.mem_cons.1 this with e | e
        · exact absurd (by omega) h1.2
        · exact e
end Hps
end Go.Proofs.YtfgdenmlfloloaaDoor

namespace Go.Proofs.YtfgdenmlfloloaaDoor
open Go.RowKit
set_option maxRecDepth 100000
/-- counts and a queue in the box b, all from block B on -/
structure FqSt (wr : World) (B b : Nat) (vk vq : Value) (ks Q : List Int) : Prop where
  own : OwnI wr B vk ks
  que : OwnQ wr B vq Q
  sep : vk.ownBlock = none ∨ vk.ownBlock ≠ vq.ownBlock
  box : Rw wr b 140 #[vk, vq]
  lo : B ≤ b
section
variable {wr w' : World} {B b g i : Nat} {vk vq vq' : Value} {ks ks' Q Q' : List Int}
theorem que_type {w : World} {bs g : Nat} {t : TypeId} {v : Value} {xs : List Int} {cs : Array Value} (h : OwnQ w bs v xs) (hr : Rw w g t cs) (hne : t ≠ 3) : some g ≠ v.ownBlock := fun hg => by
  rcases h with ⟨rfl, _⟩ | ⟨g', o, cap, cur, rfl, _, hh, _⟩
  · cases hg
  · obtain rfl : g = g' := Option.some.inj hg
    have hr' : w.heap[g]? = some (.cells cs t (0, 0)) := hr
    rw [hr'] at hh
    injection hh with hh
    injection hh with h1 h2
    exact hne h2
/-- a slice goes into the box as the queue -/
theorem FqSt.setq (S : FqSt wr B b vk vq ks Q) (ho : OwnQ wr B vq' Q') (hs : vk.ownBlock = none ∨ vk.ownBlock ≠ vq'.ownBlock) : FqSt (wr.setCell ⟨b, 1, none⟩ vq') B b vk vq' ks Q' := by
  have h1 := row_type S.own S.box (by decide)
  have h2 := que_type ho S.box (by decide)
  have hp := put_any wr b 1 vq'
  exact ⟨S.own.far hp (.inr h1.symm), ho.kept hp (.inr h2.symm), hs, S.box.put 1 vq', S.lo⟩
/-- one count is written -/
theorem FqSt.cnt {n c : Nat} (S : FqSt wr B b (.slice (some ⟨g, 0, none⟩) n c) vq ks Q) (hn : ks.length = n) (x : Int) : FqSt (wr.setCell ⟨g, i, none⟩ (.int .i64 x)) B b (.slice (some ⟨g, 0, none⟩) n c) vq (ks.set i x) Q := by
  have h1 : some b ≠ some g := row_type S.own S.box (by decide)
  have hp := put_any wr g i (.int .i64 x)
  refine ⟨S.own.put' hn x, S.que.kept hp ?_, S.sep, S.box.other (fun e => h1 (by rw [e])) _, S.lo⟩
  rcases S.sep with e | e
  · cases e
  · exact .inr fun e2 => e (by rw [e2]; rfl)
theorem FqSt.app {w1 : World} (S : FqSt wr B b vk vq ks Q) (ho : OwnQ w1 B vq' Q') (hg : wr.grownBy w1 vq.ownBlock) (hq : vq'.ownBlock = vq.ownBlock ∨ vq'.ownBlock = some wr.heap.size) : FqSt (w1.setCell ⟨b, 1, none⟩ vq') B b vk vq' ks Q' := by
  have h1 : some b ≠ vq.ownBlock := que_type S.que S.box (by decide)
  have hbx := Rw.far S.box hg h1
  have hk1 : OwnI w1 B vk ks := S.own.far hg S.sep
  have hsep : vk.ownBlock = none ∨ vk.ownBlock ≠ vq'.ownBlock := by
    rcases hq with e | e
    · rw [e]; exact S.sep
    · cases e2 : vk.ownBlock with
      | none => exact .inl rfl
      | some k =>
        right
        rw [e]
        intro e3
        have := (World.ownsRow.lt S.own k e2).2
        have := Option.some.inj e3
        omega
  have h2 : some b ≠ vk.ownBlock := row_type hk1 hbx (by decide)
  have h3 : some b ≠ vq'.ownBlock := que_type ho hbx (by decide)
  have hp := put_any w1 b 1 vq'
  exact ⟨hk1.far hp (.inr h2.symm), ho.kept hp (.inr h3.symm), hsep, hbx.put 1 vq', S.lo⟩
theorem FqSt.keep {w1 : World} (S : FqSt wr B b vk vq ks Q) (hk : ∀ j, B ≤ j → j < wr.heap.size → w1.heap[j]? = wr.heap[j]?) : FqSt w1 B b vk vq ks Q := by
  refine ⟨⟨S.own.1, ?_⟩, ?_, S.sep, (hk b S.lo S.box.lt).trans S.box, S.lo⟩
  · rcases S.own.2 with h0 | ⟨g, cap, cur, e, hb', hh, hr⟩
    · exact .inl h0
    · exact .inr ⟨g, cap, cur, e, hb', (hk g hb' (Array.getElem?_eq_some_iff.1 hh).1).trans hh, hr⟩
  · rcases S.que with h0 | ⟨g, o, cap, cur, e, hb', hh, hr⟩
    · exact .inl h0
    · exact .inr ⟨g, o, cap, cur, e, hb', (hk g hb' (Array.getElem?_eq_some_iff.1 hh).1).trans hh, hr⟩
end
set_option maxHeartbeats 1000000 in
theorem next_any (B b : Nat) (vk vq : Value) (ks Q : List Int) (x : Int) (w : World) (S : FqSt w B b vk vq ks (x :: Q)) :
    Calls Tryd.prog 108 #[.pointer (some ⟨b, 0, none⟩)] w fun e w' => e = .returned (.int .i64 x) ∧ ∃ vq', FqSt w' B b vk vq' ks Q ∧ Below B w w' := by
  obtain ⟨g, o, c, rfl, hg, c0, hc1, hc2, hr⟩ := S.que.head
  have S2 := S.setq (vq' := if c = 1 then .slice (some ⟨g, o, none⟩) 0 0 else .slice (some ⟨g, o + 1, none⟩) Q.length (c - 1)) hr (by
    have := S.sep
    split <;> exact this)
  have b2 : Below B w (w.setCell ⟨b, 1, none⟩ (if c = 1 then .slice (some ⟨g, o, none⟩) 0 0 else .slice (some ⟨g, o + 1, none⟩) Q.length (c - 1))) := (Below.refl _ _).setCell (p := ⟨b, 1, none⟩) S.lo _
  have x1 : w.cell? ⟨b, 1, none⟩ = some (.slice (some ⟨g, o, none⟩) (Q.length + 1) c) := S.box.cell 1
  have f1 : w.frozen? ⟨b, 1, none⟩ = false := S.box.frozen 1
  clear S hr
  by_cases h1 : c = 1
  · rw [if_pos h1] at S2 b2
    subst h1
    obtain ⟨ln, hln⟩ : ∃ ln, Q.length = ln := ⟨_, rfl⟩
    rw [hln] at x1 hc1
    obtain rfl : ln = 0 := by omega
    go_enter Tryd.func108, Tryd.ntmps108
    go_wp2_with fail
    go_ret
    exact ⟨rfl, _, S2, b2⟩
  · rw [if_neg h1] at S2 b2
    go_enter Tryd.func108, Tryd.ntmps108
    go_wp2_with fail
    go_ret
    exact ⟨rfl, _, S2, b2⟩
set_option maxHeartbeats 1000000 in
theorem lose_any (B b n q cq : Nat) (F : Option Addr) (vk vq : Value) (Bs Q rs : List Int) (w : World) (S : FqSt w B b vk vq (Hps.cntN n (Bs ++ rs)) Q) (hf : IS w B F q rs) (hok : ∀ t ∈ rs, t = -1 ∨ ∃ y : Nat, t = y ∧ y < n)
    (hn : n ≤ 1000000) (hq : q ≤ 1000000) (hB : Bs.length ≤ 1000000000) (hQ : Q.length ≤ 1000000) :
    Calls Tryd.prog 109 #[.pointer (some ⟨b, 0, none⟩), .slice F q cq] w fun e w' => e = .returned (.tuple #[]) ∧ ∃ vq', FqSt w' B b vk vq' (Hps.cntN n Bs) (Q ++ Hps.lostF Bs rs) ∧ Below B w w' := by
  have hlr := hf.1
  have HO := Lib.hid hok
  obtain ⟨A, c, rfl, hA⟩ := S.own.form
  rw [Hps.cntN_len] at S hA ⊢
  have HA := Lib.hid hA
  clear hok hA
  go_enter Tryd.func109, Tryd.ntmps109
  go_wp2_with fail
  go_loopw [8] (fun i wr => ∃ (k : Nat) (vq' : Value) (L : List Int), k ≤ q ∧ i = .int .i64 k ∧ FqSt wr B b (.slice A n c) vq' (Hps.cntN n (Bs ++ rs.drop k)) (Q ++ L) ∧ L ++ Hps.lostF Bs (rs.drop k) = Hps.lostF Bs rs ∧ Below B w wr) (fun i _ => q - (intOf i).toNat)
  case atStart => exact ⟨0, vq, [], Nat.zero_le _, rfl, by rw [List.drop_zero, List.append_nil]; exact S, rfl, Below.refl _ _⟩
  case round =>
    clear S vq
    obtain ⟨k, vq, L, hk, rfl, S, hL, bb⟩ := hrel
    by_cases hlt : k < q
    · obtain ⟨gr, or, x, e2, hgr, hx1, d0⟩ := hf.at_ hlt
      subst e2
      have d1 := (bb.cell (p := ⟨gr, or + k, none⟩) hgr).trans d0
      have hltk : (k : Int) < q := by omega
      have HT := Lib.hid (show rs.drop k = x :: rs.drop (k + 1) by rw [List.drop_eq_getElem_cons (by omega)]; congr 1; exact Option.some.inj ((List.getElem?_eq_getElem (by omega)).symm.trans hx1))
      have hox := HO.out x (List.mem_of_getElem? hx1)
      have x0 : wr.cell? ⟨b, 0, none⟩ = some (.slice A n c) := S.box.cell 0
      clear d0 hx1
      by_cases hm1 : x = -1
      · subst hm1
        have S2 := Lib.hid S
        rw [HT.out, Hps.cntN_neg1] at S2
        have HL := Lib.hid hL
        rw [HT.out, Hps.lost_none] at HL
        clear hox S hL
        go_wp2_with fail
        go_roundw
        case rel => exact ⟨k + 1, vq, L, by omega, by go_num, S2.out, HL.out, bb⟩
        case measure => simp [intOf]; omega
      · have hne : (x == -1) = false := by rw [beq_eq_false_iff_ne]; exact hm1
        obtain ⟨y, rfl, hy⟩ : ∃ y : Nat, x = y ∧ y < n := by
          rcases hox with e | e
          · exact absurd e hm1
          · exact e
        obtain ⟨g, e1, -, -⟩ := HA.out (by omega)
        subst e1
        obtain ⟨g', o', v, e1, _, hv, c1⟩ := S.own.reads.at_ (k := y) hy
        injection e1 with e1
        injection e1 with e2 e3
        subst e2 e3
        rw [Nat.zero_add] at c1
        rw [Hps.cntN_at _ hy, HT.out, Hps.count_cons_y] at hv
        obtain ⟨m, hm⟩ : ∃ m, (Bs ++ rs.drop (k + 1)).count (y : Int) = m := ⟨_, rfl⟩
        have hml := Hps.count_le_len (Bs ++ rs.drop (k + 1)) (y : Int)
        rw [List.length_append, List.length_drop, hm] at hml
        rw [hm] at hv
        obtain rfl : (m : Int) + 1 = v := by have := Option.some.inj hv; omega
        have hy' : (y : Int) < n := by omega
        have hu : IntKind.i64.wrap ((m : Int) + 1 - 1) = m := by rw [IntWalk.i64_in _ (by omega)]; omega
        have hu2 : IntKind.i64.wrap (m : Int) = m := IntWalk.i64_in _ (by omega)
        have fz : wr.frozen? ⟨g, y, none⟩ = false := S.own.frozen (Hps.cntN_len _ _) y
        have S2 := S.cnt (i := y) (Hps.cntN_len _ _) (m : Int)
        rw [HT.out, ← hm, Hps.cntN_drop hy, hm] at S2
        have SS := Lib.hid S2
        have x2 : (wr.setCell ⟨g, y, none⟩ (.int .i64 m)).cell? ⟨b, 0, none⟩ = some (.slice (some ⟨g, 0, none⟩) n c) := S2.box.cell 0
        have x3 : (wr.setCell ⟨g, y, none⟩ (.int .i64 m)).cell? ⟨b, 1, none⟩ = some vq := S2.box.cell 1
        have bn := bb.setCell (p := ⟨g, y, none⟩) (World.ownsRow.lt S.own g rfl).1 (.int .i64 m)
        have hLl : (L ++ Hps.lostF Bs (rs.drop k)).length ≤ q := by
          rw [hL]
          exact Nat.le_trans (Hps.lost_len _ _) (by omega)
        rw [List.length_append] at hLl
        have HL := Lib.hid hL
        rw [HT.out] at HL
        have HM := Lib.hid hm
        have sz := bb.size
        have hBw := S.own.2
        have hgl := World.ownsRow.lt S.own g rfl
        have cy : (wr.setCell ⟨g, y, none⟩ (.int .i64 m)).cell? ⟨g, y, none⟩ = some (.int .i64 m) := by
          obtain ⟨g', o', v, e1, _, hv2, c2⟩ := S2.own.reads.at_ (k := y) hy
          injection e1 with e1
          injection e1 with e2 e3
          subst e2 e3
          rw [Nat.zero_add] at c2
          rw [Hps.cntN_at _ hy, hm] at hv2
          rw [c2, ← Option.some.inj hv2]
        have fb : (wr.setCell ⟨g, y, none⟩ (.int .i64 m)).frozen? ⟨b, 1, none⟩ = false := S2.box.frozen 1
        clear hL hm S S2 hv hox hml hBw
        by_cases hm0 : m = 0
        · have HL2 := Lib.hid (show (L ++ [(y : Int)]) ++ Hps.lostF Bs (rs.drop (k + 1)) = Hps.lostF Bs rs by rw [← HL.out, Hps.lost_yes (by rw [HM.out]; exact hm0)]; simp)
          have hm0' : ((m : Int) == 0) = true := by simp [hm0]
          have SA := SS.out.keep (w1 := (wr.setCell ⟨g, y, none⟩ (.int .i64 m)).alloc (.cells #[.int .i64 y] 3)) (fun j _ hj => Below.heap_alloc _ _ j hj)
          have RN := Rw.new (wr.setCell ⟨g, y, none⟩ (.int .i64 m)) 3 #[.int .i64 y]
          rw [show (wr.setCell ⟨g, y, none⟩ (.int .i64 m)).heap.size = wr.heap.size by simp] at RN
          have cn : ((wr.setCell ⟨g, y, none⟩ (.int .i64 m)).alloc (.cells #[.int .i64 y] 3)).cell? ⟨wr.heap.size, 0, none⟩ = some (.int .i64 y) := RN.cell 0
          have hwl : B ≤ ((wr.setCell ⟨g, y, none⟩ (.int .i64 m)).alloc (.cells #[.int .i64 y] 3)).heap.size := by simp; omega
          have bna := bn.alloc (show B ≤ (wr.setCell ⟨g, y, none⟩ (.int .i64 m)).heap.size by simp; omega) (.cells #[.int .i64 y] 3)
          clear hm0
          go_wp2_with (at_builtin; refine wpList_appendQ rfl (.tmp 35) (.tmp 37) rfl B _ (Q ++ L) rfl SA.que wr.heap.size 1 (y : Int) rfl cn (by simp; omega) hwl ?_; intro v5 w5 o5 g5 s5; replace g5 : World.grownBy _ w5 vq.ownBlock := g5; replace s5 : v5.ownBlock = vq.ownBlock ∨ v5.ownBlock = some (World.heap _).size := s5; have S5 := Lib.hid (SA.app o5 g5 s5); have hbx := Rw.far SA.box g5 (que_type SA.que SA.box (by decide)); have f5 : w5.frozen? ⟨b, 1, none⟩ = false := hbx.frozen 1; have z5 : w5.cell? ⟨b, 1, none⟩ = some vq := hbx.cell 1; have bn5 := (bna.grown g5 hwl (fun k hk => (SA.que.lt k hk).1)).setCell (p := ⟨b, 1, none⟩) SA.lo v5; obtain ⟨A5, c5, e5⟩ := o5.form; generalize (Q ++ L ++ [(y : Int)]).length = l5 at e5; clear o5 g5 s5 hbx; subst e5)
          go_roundw
          case rel => exact ⟨k + 1, _, L ++ [(y : Int)], by omega, by go_num, by rw [← List.append_assoc]; exact S5.out, HL2.out, bn5⟩
          case measure => simp [intOf]; omega
        · have HL2 := Lib.hid (show L ++ Hps.lostF Bs (rs.drop (k + 1)) = Hps.lostF Bs rs by rw [← HL.out, Hps.lost_no (by rw [HM.out]; exact hm0)])
          have hm0' : ((m : Int) == 0) = false := by rw [beq_eq_false_iff_ne]; omega
          clear hm0
          go_wp2_with fail
          go_roundw
          case rel => exact ⟨k + 1, vq, L, by omega, by go_num, SS.out, HL2.out, bn⟩
          case measure => simp [intOf]; omega
    · obtain rfl : k = q := by omega
      rw [List.drop_eq_nil_of_le (by omega)] at S hL
      rw [List.append_nil] at S
      rw [Hps.lostF, List.append_nil] at hL
      go_wp2_with fail
      exact bodyPost_end (results_none rfl _ _ _) rfl ⟨rfl, vq, by rw [← hL]; exact S, bb⟩
end Go.Proofs.YtfgdenmlfloloaaDoor

namespace Go.Proofs.YtfgdenmlfloloaaDoor
open Go.RowKit
set_option maxRecDepth 100000
set_option maxHeartbeats 1000000 in
/-- one more list of references is counted -/
theorem countTargetsC_any (g n cn q cq : Nat) (F : Option Addr) (cs : List Cl) (xs rs : List Int) (w : World) (B : Nat) (hcs : cs.length = n) (ho : OwnI w B (.slice (some ⟨g, 0, none⟩) n cn) (Hps.cntN n xs)) (hf : IS w B F q rs) (hok : Hps.okRefs cs rs = true)
    (_hn : n ≤ 1000000) (hq : q ≤ 1000000) (hx : xs.length ≤ 1000000000) (hg : B ≤ g) (_hB : B ≤ w.heap.size) :
    Calls Tryd.prog 137 #[.slice (some ⟨g, 0, none⟩) n cn, .slice F q cq] w fun e w' => e = .returned (.tuple #[]) ∧ OwnI w' B (.slice (some ⟨g, 0, none⟩) n cn) (Hps.cntN n (xs ++ rs)) ∧ Below B w w' ∧ World.grownBy w w' (some g) := by
  have hG := World.grownBy.refl w (some g)
  have hlr := hf.1
  have HO := Lib.hid hok
  clear hok
  go_enter Tryd.func137, Tryd.ntmps137
  go_wp2_with fail
  go_loopw [8] (fun i wr => ∃ k : Nat, k ≤ q ∧ i = .int .i64 k ∧ OwnI wr B (.slice (some ⟨g, 0, none⟩) n cn) (Hps.cntN n (xs ++ rs.take k)) ∧ Below B w wr ∧ World.grownBy w wr (some g)) (fun i _ => q - (intOf i).toNat)
  case atStart => exact ⟨0, Nat.zero_le _, rfl, by rw [List.take_zero, List.append_nil]; exact ho, Below.refl _ _, hG⟩
  case round =>
    clear ho hG
    obtain ⟨k, hk, rfl, ho, bb, hG⟩ := hrel
    by_cases hlt : k < q
    · obtain ⟨gr, or, x, e2, hgr, hx1, d0⟩ := hf.at_ hlt
      subst e2
      have d1 := (bb.cell (p := ⟨gr, or + k, none⟩) hgr).trans d0
      have hltk : (k : Int) < q := by omega
      have HT := Lib.hid (take_snocI hx1)
      have hok := Hps.okRefs_at HO.out hx1
      clear d0
      by_cases hm1 : x = -1
      · subst hm1
        have HTN := Lib.hid (show Hps.cntN n (xs ++ rs.take (k + 1)) = Hps.cntN n (xs ++ rs.take k) by rw [HT.out, ← List.append_assoc]; exact Hps.cntN_neg (by omega))
        clear hok hx1
        go_wp2_with fail
        go_roundw
        case rel => exact ⟨k + 1, by omega, by go_num, by rw [HTN.out]; exact ho, bb, hG⟩
        case measure => simp [intOf]; omega
      · have hne : (x != -1) = true := by rw [bne_iff_ne]; exact hm1
        have hx0 : 0 ≤ x := by have := Hps.okRef_lo hok; omega
        obtain ⟨y, rfl, hy, _⟩ := Hps.okRef_nat hok hx0
        rw [hcs] at hy
        obtain ⟨g', o', v, e1, _, hv, c1⟩ := ho.reads.at_ (k := y) hy
        injection e1 with e1
        injection e1 with e2 e3
        subst e2 e3
        rw [Nat.zero_add] at c1
        rw [Hps.cntN_at _ hy] at hv
        injection hv with hv
        have hvl := Hps.count_le_len (xs ++ rs.take k) (y : Int)
        rw [List.length_append, List.length_take] at hvl
        have hv0 : 0 ≤ v := by omega
        have hv1 : v ≤ 10000000000000 := by omega
        have fz : wr.frozen? ⟨g, y, none⟩ = false := ho.frozen (Hps.cntN_len _ _) y
        have hy' : (y : Int) < n := by omega
        have HV := Lib.hid hv
        have hu : IntKind.i64.wrap (v + 1) = v + 1 := IntWalk.i64_in _ (by omega)
        have on : OwnI (wr.setCell ⟨g, y, none⟩ (.int .i64 (v + 1))) B (.slice (some ⟨g, 0, none⟩) n cn) (Hps.cntN n (xs ++ rs.take (k + 1))) := by
          rw [HT.out, ← List.append_assoc, ← Hps.cntN_set hy, HV.out]
          exact ho.put' (Hps.cntN_len _ _) (v + 1)
        have bn := bb.setCell (p := ⟨g, y, none⟩) hg (.int .i64 (v + 1))
        have gn := only_put hG y (.int .i64 (v + 1))
        clear hx1 hok hv hvl hm1
        go_wp2_with fail
        go_roundw
        case rel => exact ⟨k + 1, by omega, by go_num, on, bn, gn⟩
        case measure => simp [intOf]; omega
    · obtain rfl : k = q := by omega
      rw [List.take_of_length_le (by omega)] at ho
      go_wp2_with fail
      exact bodyPost_end (results_none rfl _ _ _) rfl ⟨rfl, ho, bb, hG⟩
theorem countTargets_any (g n q cq : Nat) (F : Option Addr) (cs : List Cl) (xs rs : List Int) (w : World) (B : Nat) (hcs : cs.length = n) (ho : OwnI w B (.slice (some ⟨g, 0, none⟩) n n) (Hps.cntN n xs)) (hf : IS w B F q rs) (hok : Hps.okRefs cs rs = true)
    (hn : n ≤ 1000000) (hq : q ≤ 1000000) (hx : xs.length ≤ 1000000000) (hg : B ≤ g) (hB : B ≤ w.heap.size) :
    Calls Tryd.prog 137 #[.slice (some ⟨g, 0, none⟩) n n, .slice F q cq] w fun e w' => e = .returned (.tuple #[]) ∧ OwnI w' B (.slice (some ⟨g, 0, none⟩) n n) (Hps.cntN n (xs ++ rs)) ∧ Below B w w' :=
  (countTargetsC_any g n n q cq F cs xs rs w B hcs ho hf hok hn hq hx hg hB).mono fun _ _ h => ⟨h.1, h.2.1, h.2.2.1⟩
namespace Hps
/-- the references of the roots and of those of the first i cells that are not in the set -/
def outW (h : Hp) (V : Nat) : Nat → List Int
  | 0 => h.rt
  | i + 1 => outW h V i ++ (if V.testBit i = true then [] else match h.cs[i]? with | some c => c.r | none => [])
theorem outW_in {h : Hp} {V i : Nat} (hs : V.testBit i = true) : outW h V (i + 1) = outW h V i := by rw [outW, if_pos hs, List.append_nil]
theorem outW_out {h : Hp} {V i : Nat} {c : Cl} (hs : V.testBit i = false) (hc : h.cs[i]? = some c) : outW h V (i + 1) = outW h V i ++ c.r := by rw [outW, if_neg (by rw [hs]; decide), hc]
theorem outW_zero (h : Hp) : ∀ i, i ≤ h.cs.length → outW h 0 i = refsTo h i
  | 0, _ => by rw [refsTo_zero]; rfl
  | i + 1, hi => by
    have hc := List.getElem?_eq_getElem (show i < h.cs.length by omega)
    rw [outW_out (by simp) hc, refsTo_succ hc, outW_zero h i (by omega)]
theorem outW_len (h : Hp) (V : Nat) : ∀ i, i ≤ h.cs.length → (outW h V i).length ≤ (refsTo h i).length
  | 0, _ => by rw [refsTo_zero]; exact Nat.le_refl _
  | i + 1, hi => by
    have ih := outW_len h V i (by omega)
    have hc := List.getElem?_eq_getElem (show i < h.cs.length by omega)
    rw [refsTo_succ hc, List.length_append]
    cases e : V.testBit i
    · rw [outW_out e hc, List.length_append]
      omega
    · rw [outW_in e]
      omega
end Hps
set_option maxHeartbeats 2000000 in
theorem countsWithout_any (A R : Option Addr) (n c m d V : Nat) (h : Hp) (w : World) (hs : HS w w.heap.size A n R m h) (hv : Hps.validH h = true) (hVl : V < 18446744073709551616) :
    Calls Tryd.prog 115 #[heapV A n c R m d, .int .u64 V] w (GaveI w (Hps.cntN n (Hps.outW h V n))) := by
  have hlc := hs.cells.1
  have hlr := hs.roots.1
  obtain ⟨s1, s2, s3⟩ := Hps.valid_small hv
  have HRF := Lib.hid (Hps.valid_refs hv)
  have HRO := Lib.hid (Hps.valid_iff.1 hv).2.2.2
  have HS3 := Lib.hid s3
  have HTO := Lib.hid (fun i hi => Nat.le_trans (Hps.outW_len h V i hi) (Hps.refsTo_len (h := h) (fun cl hcl => by have := HS3.out cl hcl; omega) (k := i) hi))
  have b0 : Below w.heap.size w (w.alloc (.cells #[.slice A n c, .slice R m d] 26)) := (Below.refl _ _).alloc (Nat.le_refl _) _
  have hw1 := Rw.new w 26 #[.slice A n c, .slice R m d]
  clear hv s3
  obtain ⟨w1, hw1e⟩ : ∃ w1, w.alloc (.cells #[.slice A n c, .slice R m d] 26) = w1 := ⟨_, rfl⟩
  have r1 := hs.up b0
  rw [hw1e] at b0 hw1 r1
  have z0 : w1.cell? ⟨w.heap.size, 0, none⟩ = some (.slice A n c) := hw1.cell 0
  have z1 : w1.cell? ⟨w.heap.size, 1, none⟩ = some (.slice R m d) := hw1.cell 1
  have hwl := hw1.lt
  have hmk := makeI w1 n (by omega)
  have b2 : Below w1.heap.size w1 (w1.alloc (.cells (Array.replicate n (.int .i64 0)) 3)) := (Below.refl _ _).alloc (Nat.le_refl _) _
  have o2 := own_madeI w1 n (by omega)
  rw [← Hps.cntN_nil] at o2
  obtain ⟨w2, hw2⟩ : ∃ w2, w1.alloc (.cells (Array.replicate n (.int .i64 0)) 3) = w2 := ⟨_, rfl⟩
  rw [hw2] at hmk b2 o2
  obtain ⟨B, hB⟩ : ∃ B, w1.heap.size = B := ⟨_, rfl⟩
  have hB2 : B ≤ w2.heap.size := by have := b2.size; omega
  have f2 := r1.roots.below b2
  have hbw : w.heap.size ≤ B := by omega
  have C1 := r1.cells
  rw [hB] at hmk b2 o2 f2 hwl C1
  have y0 : w2.cell? ⟨w.heap.size, 0, none⟩ = some (.slice A n c) := (b2.cell (p := ⟨w.heap.size, 0, none⟩) hwl).trans z0
  have y1 : w2.cell? ⟨w.heap.size, 1, none⟩ = some (.slice R m d) := (b2.cell (p := ⟨w.heap.size, 1, none⟩) hwl).trans z1
  clear hw2
  go_enter Tryd.func115, Tryd.ntmps115
  go_wp2_with fail
  refine (countTargets_any B n m d R h.cs [] h.rt _ B hlc o2 f2 HRO.out (by omega) (by omega) (by simp) (Nat.le_refl _) hB2).mono ?_
  rintro e w3 ⟨rfl, o3, b3⟩
  rw [List.nil_append] at o3
  have bb3 := b2.trans b3
  clear o2 f2 b3 y0 y1 hmk
  have y0 : w3.cell? ⟨w.heap.size, 0, none⟩ = some (.slice A n c) := (bb3.cell (p := ⟨w.heap.size, 0, none⟩) hwl).trans z0
  go_wp2_with fail
  go_loopw [19] (fun i wr => ∃ k : Nat, k ≤ n ∧ i = .int .i64 k ∧ OwnI wr B (.slice (some ⟨B, 0, none⟩) n n) (Hps.cntN n (Hps.outW h V k)) ∧ Below B w1 wr) (fun i _ => n - (intOf i).toNat)
  case atStart => exact ⟨0, Nat.zero_le _, rfl, o3, bb3⟩
  case round =>
    clear o3 bb3 y0
    obtain ⟨k, hk, rfl, ho, bb⟩ := hrel
    by_cases hlt : k < n
    · obtain ⟨g, o, cl, A', m', cc, e1, hg, hcl, d1, d2, d3, hmc, hi⟩ := C1.at_ hlt
      subst e1
      replace d1 := (bb.cell (p := ⟨g, o + k * 3, none⟩) hg).trans d1
      replace d2 := (bb.cell (p := ⟨g, o + k * 3 + 1, none⟩) hg).trans d2
      replace d3 := (bb.cell (p := ⟨g, o + k * 3 + 2, none⟩) hg).trans d3
      have hlt' : (k : Int) < n := by omega
      have hsz : B ≤ wr.heap.size := by have := bb.size; omega
      have bW := bb.alloc hsz (.cells #[.bool cl.u, .int .i64 cl.d, .slice A' m' cc] 43)
      have oW := World.ownsRow.alloc ho (.cells #[.bool cl.u, .int .i64 cl.d, .slice A' m' cc] 43)
      have fW := hi.below bW
      have hm3 : m' ≤ 3 := by have := HS3.out cl (List.mem_of_getElem? hcl); have := hi.1; omega
      have hok := HRF.out cl (List.mem_of_getElem? hcl)
      have HOK := Lib.hid hok
      have HB := Lib.hid (show Hps.hasB V (k : Int) = V.testBit k by simp [Hps.hasB])
      cases hbit : V.testBit k
      · have HSU := Lib.hid (Hps.outW_out hbit hcl)
        have HBF := Lib.hid (HB.out.trans hbit)
        have hrl : (Hps.outW h V k).length ≤ 1000000000 := by have := HTO.out k (by omega); omega
        clear hcl hok hbit HB
        go_wp2_with fail
        refine (has_any V k _ hVl).mono ?_
        rw [HBF.out]
        rintro e w4 ⟨rfl, rfl⟩
        go_wp2_with fail
        refine (countTargets_any B n m' cc A' h.cs (Hps.outW h V k) cl.r _ B hlc oW fW HOK.out (by omega) (by omega) hrl (Nat.le_refl _) (by simp; omega)).mono ?_
        rintro e w5 ⟨rfl, o5, b5⟩
        rw [← HSU.out] at o5
        have bn := bW.trans b5
        go_wp2_with fail
        go_roundw
        case rel => exact ⟨k + 1, by omega, by go_num, o5, bn⟩
        case measure => simp [intOf]; omega
      · have HSU := Lib.hid (Hps.outW_in (h := h) hbit)
        have HBF := Lib.hid (HB.out.trans hbit)
        clear hcl hok hbit HB
        go_wp2_with fail
        refine (has_any V k _ hVl).mono ?_
        rw [HBF.out]
        rintro e w4 ⟨rfl, rfl⟩
        go_wp2_with fail
        go_roundw
        case rel => exact ⟨k + 1, by omega, by go_num, by rw [HSU.out]; exact oW, bW⟩
        case measure => simp [intOf]; omega
    · obtain rfl : k = n := by omega
      go_wp2_with fail
      go_ret
      exact ⟨_, rfl, ho.base (by omega), b0.trans (bb.mono (by omega))⟩
set_option maxHeartbeats 1000000 in
theorem refCounts_any (A R : Option Addr) (n c m d : Nat) (h : Hp) (w : World) (hs : HS w w.heap.size A n R m h) (hn : n ≤ 1099511627776) (hm : m ≤ 1099511627776) (hc : n ≤ c) (hd : m ≤ d) :
    Calls Tryd.prog 75 #[heapV A n c R m d] w (GaveI w (Hps.countsH h)) := by
  have hlc := hs.cells.1
  have b0 : Below w.heap.size w (w.alloc (.cells #[.slice A n c, .slice R m d] 26)) := (Below.refl _ _).alloc (Nat.le_refl _) _
  have r0 := hs.up b0
  have hw0 := Rw.new w 26 #[.slice A n c, .slice R m d]
  cases hv : Hps.validH h
  · have HR := Lib.hid (show Hps.countsH h = [] by rw [Hps.countsH, hv]; rfl)
    have HV := Lib.hid hv
    clear hv
    go_enter Tryd.func75, Tryd.ntmps75
    go_wp2_with fail
    refine (heapValid_any _ _ _ _ _ _ h _ r0 hn hm hc hd).mono ?_
    rw [HV.out]
    rintro e w1 ⟨rfl, b1⟩
    have bb1 := b0.trans (b1.mono b0.size)
    go_wp2_with fail
    go_ret
    exact ⟨_, rfl, by rw [HR.out]; exact World.ownsRow_nil _ _ _ _, bb1⟩
  · have HR := Lib.hid (show Hps.cntN n (Hps.outW h 0 n) = Hps.countsH h by rw [Hps.countsH, hv, if_pos rfl, Hps.outW_zero h n (by omega), Hps.countsL_eq, hlc, ← Hps.refsTo_all, hlc])
    have HV := Lib.hid hv
    clear hv
    go_enter Tryd.func75, Tryd.ntmps75
    go_wp2_with fail
    refine (heapValid_any _ _ _ _ _ _ h _ r0 hn hm hc hd).mono ?_
    rw [HV.out]
    rintro e w1 ⟨rfl, b1⟩
    have bb1 := b0.trans (b1.mono b0.size)
    have r1 := r0.up b1
    have hw1 := hw0.keep b1 (by simp)
    have z0 : w1.cell? ⟨w.heap.size, 0, none⟩ = some (.slice A n c) := hw1.cell 0
    have z1 : w1.cell? ⟨w.heap.size, 1, none⟩ = some (.slice R m d) := hw1.cell 1
    clear r0 hw0
    go_wp2_with fail
    refine (countsWithout_any A R n c m d 0 h _ r1 HV.out (by omega)).mono ?_
    rintro e w2 ⟨v2, rfl, o2, b2⟩
    rw [HR.out] at o2
    go_wp2_with fail
    go_ret
    exact ⟨_, rfl, o2.base bb1.size, bb1.trans (b2.mono bb1.size)⟩
end Go.Proofs.YtfgdenmlfloloaaDoor

namespace Go.Proofs.YtfgdenmlfloloaaDoor
open Go.RowKit
set_option maxRecDepth 100000
/-- counts and a queue of the call's own -/
def GaveQ (w : World) (ks Q : List Int) (e : Ending) (w' : World) : Prop := ∃ vk vq, e = .returned (.agg #[vk, vq]) ∧ OwnI w' w.heap.size vk ks ∧ OwnQ w' w.heap.size vq Q ∧ (vk.ownBlock = none ∨ vk.ownBlock ≠ vq.ownBlock) ∧ Below w.heap.size w w'
theorem OwnQ.grown {w w' : World} {bs : Nat} {v : Value} {xs : List Int} (h : OwnQ w bs v xs) (hk : ∀ j, j < w.heap.size → w'.heap[j]? = w.heap[j]?) : OwnQ w' bs v xs := by
  rcases h with h0 | ⟨g, o, cap, cur, e, hb', hh, hr⟩
  · exact .inl h0
  · exact .inr ⟨g, o, cap, cur, e, hb', (hk g (Array.getElem?_eq_some_iff.1 hh).1).trans hh, hr⟩
/-- counts and a queue go into a new box -/
theorem FqSt.of {w : World} {B : Nat} {vk vq : Value} {ks Q : List Int} (ok : OwnI w B vk ks) (oq : OwnQ w B vq Q) (hs : vk.ownBlock = none ∨ vk.ownBlock ≠ vq.ownBlock) (hB : B ≤ w.heap.size) :
    FqSt (w.alloc (.cells #[vk, vq] 140)) B w.heap.size vk vq ks Q := by
  have b0 : Below w.heap.size w (w.alloc (.cells #[vk, vq] 140)) := (Below.refl _ _).alloc (Nat.le_refl _) _
  exact ⟨ok.below b0 (Nat.le_refl _), oq.below b0 (Nat.le_refl _), hs, Rw.new w 140 #[vk, vq], hB⟩
theorem FqSt.alloc {wr : World} {B b : Nat} {vk vq : Value} {ks Q : List Int} (S : FqSt wr B b vk vq ks Q) (o : Obj) : FqSt (wr.alloc o) B b vk vq ks Q := S.keep (fun j _ hj => Below.heap_alloc _ _ j hj)
set_option maxHeartbeats 2000000 in
theorem queueOf_any (A R : Option Addr) (n c m d : Nat) (h : Hp) (w : World) (hs : HS w w.heap.size A n R m h) (hv : Hps.validH h = true) (hc : n ≤ c) (hd : m ≤ d) :
    Calls Tryd.prog 107 #[heapV A n c R m d] w (GaveQ w (Hps.countsL h) (Hps.idleL h n)) := by
  have hlc := hs.cells.1
  have hlr := hs.roots.1
  obtain ⟨s1, s2, s3⟩ := Hps.valid_small hv
  have HR := Lib.hid (show Hps.countsH h = Hps.countsL h by rw [Hps.countsH, hv]; rfl)
  have HCL := Lib.hid (fun (k : Nat) (hk : k < h.cs.length) => Hps.counts_at hk)
  have B2 : Below w.heap.size w ((w.alloc (.cells #[.slice A n c, .slice R m d] 26)).alloc (.cells #[.slice none 0 0, .slice none 0 0] 140)) := ((Below.refl _ _).alloc (Nat.le_refl _) _).alloc (by simp) _
  have Q1 := (Rw.new w 26 #[.slice A n c, .slice R m d]).alloc (.cells #[.slice none 0 0, .slice none 0 0] 140)
  have Q2 := Rw.new (w.alloc (.cells #[.slice A n c, .slice R m d] 26)) 140 #[.slice none 0 0, .slice none 0 0]
  simp only [World.size_alloc] at Q2
  have S2 := hs.up B2
  clear hv s3
  go_enter Tryd.func107, Tryd.ntmps107
  go_upto_region 1 with fail
  generalize ((w.alloc (.cells #[.slice A n c, .slice R m d] 26)).alloc (.cells #[.slice none 0 0, .slice none 0 0] 140)) = w2 at B2 Q1 Q2 S2 ⊢
  have hz := Q2.lt
  have y0 : w2.cell? ⟨w.heap.size, 0, none⟩ = some (.slice A n c) := Q1.cell 0
  have y1 : w2.cell? ⟨w.heap.size, 1, none⟩ = some (.slice R m d) := Q1.cell 1
  go_wp2_with fail
  refine (refCounts_any _ _ _ _ _ _ h _ S2 (by omega) (by omega) hc hd).mono ?_
  rw [HR.out]
  rintro e w3 ⟨vk, rfl, o3, b3⟩
  obtain ⟨K, ck, rfl, -⟩ := o3.form
  rw [show (Hps.countsL h).length = n by rw [Hps.countsL_eq, Hps.cntN_len, hlc]] at o3 ⊢
  have F0 := FqSt.of o3 (vq := .slice none 0 0) (Q := []) (.inl ⟨rfl, rfl⟩) (by
    cases K with
    | none => exact .inl rfl
    | some a => exact .inr (by simp [Value.ownBlock])) b3.size
  have T1 := Q1.keep b3 (by omega)
  have T2 := Q2.keep b3 hz
  have bb : Below w2.heap.size w2 (w3.alloc (.cells #[.slice K n ck, .slice none 0 0] 140)) := b3.alloc b3.size _
  have z0 : (w3.alloc (.cells #[.slice K n ck, .slice none 0 0] 140)).cell? ⟨w.heap.size, 0, none⟩ = some (.slice A n c) := (bb.cell (p := ⟨w.heap.size, 0, none⟩) (by show w.heap.size < _; omega)).trans y0
  have hb3 := b3.size
  have HK := Lib.hid (show ∀ (k : Nat), k < n → ∃ g, K = some ⟨g, 0, none⟩ from fun k hk => by
    rcases o3.2 with ⟨e, h0⟩ | ⟨g, cap, cur, e, _⟩
    · injection e with e1 e2 e3
      omega
    · injection e with e1
      exact ⟨g, e1⟩)
  have C2 := S2.cells
  clear o3 T1 T2 Q1 b3 y0 y1 S2 hs
  go_upto_block 0 with fail
  generalize w3.alloc (.cells #[.slice K n ck, .slice none 0 0] 140) = w4 at F0 bb z0 ⊢
  generalize w3.heap.size = b at F0 hb3 ⊢
  clear w3
  go_wp2_with fail
  go_loopw [12] (fun i wr => ∃ (k : Nat) (vq : Value), k ≤ n ∧ i = .int .i64 k ∧ FqSt wr w2.heap.size b (.slice K n ck) vq (Hps.countsL h) (Hps.idleL h k) ∧ Below w2.heap.size w2 wr) (fun i _ => n - (intOf i).toNat)
  case atStart => exact ⟨0, _, Nat.zero_le _, rfl, F0, bb⟩
  case round =>
    clear F0 bb z0
    obtain ⟨k, vq, hk, rfl, S, bb⟩ := hrel
    by_cases hlt : k < n
    · obtain ⟨g, o, cl, A', m', cc, e1, hg, hcl, d1, d2, d3, hmc, -⟩ := C2.at_ hlt
      subst e1
      replace d1 := (bb.cell (p := ⟨g, o + k * 3, none⟩) hg).trans d1
      replace d2 := (bb.cell (p := ⟨g, o + k * 3 + 1, none⟩) hg).trans d2
      replace d3 := (bb.cell (p := ⟨g, o + k * 3 + 2, none⟩) hg).trans d3
      have hlt' : (k : Int) < n := by omega
      have bW := bb.alloc bb.size (.cells #[.bool cl.u, .int .i64 cl.d, .slice A' m' cc] 43)
      have SW := S.alloc (.cells #[.bool cl.u, .int .i64 cl.d, .slice A' m' cc] 43)
      have hu := Hps.usedAt_is hcl
      cases hcu : cl.u
      · rw [hcu] at d1 bW SW hu
        have HI := Lib.hid (Hps.idleL_no (h := h) (k := k) (.inl hu))
        clear hcl hu hcu S
        go_wp2_with fail
        go_roundw
        case rel => exact ⟨k + 1, vq, by omega, by go_num, by rw [HI.out]; exact SW, bW⟩
        case measure => simp [intOf]; omega
      · rw [hcu] at d1 bW SW hu
        obtain ⟨gk, e1⟩ := HK.out k hlt
        subst e1
        obtain ⟨g', o', v, e1, _, hv, c1⟩ := SW.own.reads.at_ (k := k) hlt
        injection e1 with e1
        injection e1 with e2 e3
        subst e2 e3
        rw [Nat.zero_add] at c1
        rw [HCL.out k (by omega)] at hv
        obtain ⟨m9, hm9⟩ : ∃ m9, (Hps.refsOf h).count (k : Int) = m9 := ⟨_, rfl⟩
        rw [hm9] at hv
        obtain rfl : (m9 : Int) = v := Option.some.inj hv
        have x0 : (wr.alloc (.cells #[.bool true, .int .i64 cl.d, .slice A' m' cc] 43)).cell? ⟨b, 0, none⟩ = some (.slice (some ⟨gk, 0, none⟩) n ck) := SW.box.cell 0
        have x1 : (wr.alloc (.cells #[.bool true, .int .i64 cl.d, .slice A' m' cc] 43)).cell? ⟨b, 1, none⟩ = some vq := SW.box.cell 1
        by_cases hm0 : m9 = 0
        · have HI := Lib.hid (Hps.idleL_yes (h := h) (k := k) hu (List.count_eq_zero.1 (by omega)))
          have hm0' : ((m9 : Int) == 0) = true := by simp [hm0]
          have hql := Hps.idleL_len h k
          have SA := SW.alloc (.cells #[.int .i64 k] 3)
          have RN := Rw.new (wr.alloc (.cells #[.bool true, .int .i64 cl.d, .slice A' m' cc] 43)) 3 #[.int .i64 k]
          rw [show (wr.alloc (.cells #[.bool true, .int .i64 cl.d, .slice A' m' cc] 43)).heap.size = wr.heap.size + 1 by simp] at RN
          have cn : ((wr.alloc (.cells #[.bool true, .int .i64 cl.d, .slice A' m' cc] 43)).alloc (.cells #[.int .i64 k] 3)).cell? ⟨wr.heap.size + 1, 0, none⟩ = some (.int .i64 k) := RN.cell 0
          have hsz := bb.size
          have hwl : w2.heap.size ≤ ((wr.alloc (.cells #[.bool true, .int .i64 cl.d, .slice A' m' cc] 43)).alloc (.cells #[.int .i64 k] 3)).heap.size := by simp; omega
          have bna := bW.alloc (show w2.heap.size ≤ (wr.alloc (.cells #[.bool true, .int .i64 cl.d, .slice A' m' cc] 43)).heap.size by simp; omega) (.cells #[.int .i64 k] 3)
          clear hm0 hcl hu hcu S hm9 hv
          go_wp2_with (at_builtin; refine wpList_appendQ rfl (.tmp 28) (.tmp 30) rfl w2.heap.size _ (Hps.idleL h k) rfl SA.que (wr.heap.size + 1) 1 (k : Int) rfl cn (by omega) hwl ?_; intro v5 w5 o5 g5 s5; replace g5 : World.grownBy _ w5 vq.ownBlock := g5; replace s5 : v5.ownBlock = vq.ownBlock ∨ v5.ownBlock = some (World.heap _).size := s5; have S5 := Lib.hid (SA.app o5 g5 s5); have hbx := Rw.far SA.box g5 (que_type SA.que SA.box (by decide)); have f5 : w5.frozen? ⟨b, 1, none⟩ = false := hbx.frozen 1; have z5 : w5.cell? ⟨b, 1, none⟩ = some vq := hbx.cell 1; have bn5 := (bna.grown g5 hwl (fun k hk => (SA.que.lt k hk).1)).setCell (p := ⟨b, 1, none⟩) SA.lo v5; obtain ⟨A5, c5, e5⟩ := o5.form; generalize (Hps.idleL h k ++ [(k : Int)]).length = l5 at e5; clear o5 g5 s5 hbx; subst e5)
          go_roundw
          case rel => exact ⟨k + 1, _, by omega, by go_num, by rw [HI.out]; exact S5.out, bn5⟩
          case measure => simp [intOf]; omega
        · have HI := Lib.hid (Hps.idleL_no (h := h) (k := k) (.inr (List.count_pos_iff.1 (by omega))))
          have hm0' : ((m9 : Int) == 0) = false := by rw [beq_eq_false_iff_ne]; omega
          clear hm0 hcl hu hcu S hm9 hv
          go_wp2_with fail
          go_roundw
          case rel => exact ⟨k + 1, vq, by omega, by go_num, by rw [HI.out]; exact SW, bW⟩
          case measure => simp [intOf]; omega
    · obtain rfl : k = n := by omega
      have x0 : wr.cell? ⟨b, 0, none⟩ = some (.slice K k ck) := S.box.cell 0
      have x1 : wr.cell? ⟨b, 1, none⟩ = some vq := S.box.cell 1
      obtain ⟨A5, c5, e5⟩ := S.que.form
      generalize (Hps.idleL h k).length = l5 at e5
      subst e5
      have T := Q2.keep bb hz
      have r2 : wr.frozen? ⟨w.heap.size + 1, 0, none⟩ = false := T.frozen 0
      have r3 : wr.frozen? ⟨w.heap.size + 1, 1, none⟩ = false := T.frozen 1
      have r5 : wr.cell? ⟨w.heap.size + 1, 0, none⟩ = some (.slice none 0 0) := T.cell 0
      have r6 : wr.cell? ⟨w.heap.size + 1, 1, none⟩ = some (.slice none 0 0) := T.cell 1
      have T4 := (T.put 0 (.slice K k ck)).put 1 (.slice A5 l5 c5)
      have r8 : ((wr.setCell ⟨w.heap.size + 1, 0, none⟩ (.slice K k ck)).setCell ⟨w.heap.size + 1, 1, none⟩ (.slice A5 l5 c5)).cell? ⟨w.heap.size + 1, 0, none⟩ = some (.slice K k ck) := T4.cell 0
      have r9 : ((wr.setCell ⟨w.heap.size + 1, 0, none⟩ (.slice K k ck)).setCell ⟨w.heap.size + 1, 1, none⟩ (.slice A5 l5 c5)).cell? ⟨w.heap.size + 1, 1, none⟩ = some (.slice A5 l5 c5) := T4.cell 1
      have SF := Lib.hid S
      have hs2 := B2.size
      clear S T T4 C2
      go_wp2_with fail
      have SS := SF.out.keep (w1 := (wr.setCell ⟨w.heap.size + 1, 0, none⟩ (.slice K k ck)).setCell ⟨w.heap.size + 1, 1, none⟩ (.slice A5 l5 c5)) (fun j hj _ => by rw [Below.heap_setCell _ _ _ _ (by show j ≠ w.heap.size + 1; omega), Below.heap_setCell _ _ _ _ (by show j ≠ w.heap.size + 1; omega)])
      exact bodyPost_ret (v := .agg #[.slice K k ck, .slice A5 l5 c5]) (by simp [results, Tryd.results107, go_sem, *]) rfl ⟨_, _, rfl, SS.own.base (by omega), SS.que.base (by omega), SS.sep, ((B2.trans (bb.mono hs2)).setCell (p := ⟨w.heap.size + 1, 0, none⟩) (by show w.heap.size ≤ w.heap.size + 1; omega) _).setCell (p := ⟨w.heap.size + 1, 1, none⟩) (by show w.heap.size ≤ w.heap.size + 1; omega) _⟩
end Go.Proofs.YtfgdenmlfloloaaDoor

namespace Go.Proofs.YtfgdenmlfloloaaDoor
open Go.RowKit
set_option maxRecDepth 100000
namespace Hps
theorem idleTo_yes {h : Hp} {k : Nat} (hu : usedAt h.cs k = true) (hm : (k : Int) ∉ refsOf h) : idleTo h (k + 1) = k := by rw [idleTo, if_pos ⟨hu, hm⟩]
theorem idleTo_no {h : Hp} {k : Nat} (hn : usedAt h.cs k = false ∨ (k : Int) ∈ refsOf h) : idleTo h (k + 1) = idleTo h k := by
  rw [idleTo, if_neg]
  rintro ⟨a, b⟩
  rcases hn with e | e
  · rw [a] at e; cases e
  · exact b e
theorem usedAt_of2 {cs : List Cl} {k : Nat} {c : Cl} (hc : cs[k]? = some c) : usedAt cs k = c.u := by rw [usedAt, hc]
theorem count_iff {h : Hp} {k : Nat} {y : Int} (hk : k < h.cs.length) (hy : (countsL h)[k]? = some y) : y = 0 ↔ (k : Int) ∉ refsOf h := by
  rw [counts_at hk] at hy
  obtain rfl := Option.some.inj hy
  rw [← counts_pos]
  omega
theorem counts_len (h : Hp) : (countsL h).length = h.cs.length := by simp [countsL]
end Hps
open Classical in
/-- how many cells of a row that lies at A are used -/
noncomputable def usedW (w : World) (A : Option Addr) (n : Nat) : Nat := (List.range n).countP fun k => decide (∃ g o, A = some ⟨g, o, none⟩ ∧ w.cell? ⟨g, o + k * 3, none⟩ = some (.bool true))
open Classical in
theorem usedW_eq {w : World} {B n : Nat} {A : Option Addr} {h : Hp} (hc : CS w B A n h.cs) : usedW w A n = Hps.usedN h := by
  have hl : h.cs.length = n := hc.1
  have hp : ∀ m, m ≤ n → ((List.range m).countP fun k => decide (∃ g o, A = some ⟨g, o, none⟩ ∧ w.cell? ⟨g, o + k * 3, none⟩ = some (.bool true))) = (h.cs.take m).countP (·.u) := by
    intro m
    induction m with
    | zero => intro _; simp
    | succ m ih =>
      intro hm
      obtain ⟨g, o, cl, A', m', cc, e1, hg, hcl, d1, _⟩ := hc.at_ (k := m) (by omega)
      rw [List.range_succ, List.countP_append, ih (by omega), List.take_add_one, hcl, Option.toList_some, List.countP_append]
      congr 1
      have hd : (∃ g o, A = some ⟨g, o, none⟩ ∧ w.cell? ⟨g, o + m * 3, none⟩ = some (.bool true)) ↔ cl.u = true := by
        constructor
        · rintro ⟨g', o', e2, e3⟩
          rw [e1] at e2
          injection e2 with e2
          injection e2 with e4 e5
          subst e4; subst e5
          rw [d1] at e3
          injection e3 with e3
          injection e3
        · intro e
          exact ⟨g, o, e1, by rw [d1, e]⟩
      cases hu : cl.u
      · simp [hd, hu]
      · simp [hd, hu]
  have := hp n (Nat.le_refl _)
  rw [List.take_of_length_le (by omega)] at this
  rw [Hps.usedN_eq, usedW]
  exact this
set_option maxHeartbeats 4000000 in
theorem l10Free_any (A R : Option Addr) (n c m d : Nat) (h : Hp) (w : World) (hs : HS w w.heap.size A n R m h) (hv : Hps.validH h = true) :
    Calls Tryd.prog 67 #[heapV A n c R m d] w (GaveCt w (Hps.freeH h) (Hps.countsL (Hps.freeH h))) := by
  have hlc := hs.cells.1
  have hlr := hs.roots.1
  obtain ⟨V1, V2, V3, V4⟩ := Hps.valid_iff.1 hv
  have hn40 : n ≤ 40 := by omega
  have HM := Lib.hid (show m = 4 by omega)
  have h3 : ∀ cl ∈ h.cs, cl.r.length ≤ 1000000 := fun cl hcl => by have := (Hps.okCell_iff.1 (V1 cl hcl)).2.2.1; omega
  clear V1 V2 V3 V4
  have b2 : Below w.heap.size w ((w.alloc (.cells #[.slice A n c, .slice R m d] 26)).alloc (.cells #[.slice none 0 0, .slice none 0 0, .slice none 0 0] 34)) := ((Below.refl w.heap.size w).alloc (Nat.le_refl _) _).alloc (by simp) _
  have s2 := hs.up b2
  have q2 := Rw.new (w.alloc (.cells #[.slice A n c, .slice R m d] 26)) 34 #[.slice none 0 0, .slice none 0 0, .slice none 0 0]
  simp only [World.size_alloc] at q2
  have q1 := (Rw.new w 26 #[.slice A n c, .slice R m d]).alloc (.cells #[.slice none 0 0, .slice none 0 0, .slice none 0 0] 34)
  have hz : ((w.alloc (.cells #[.slice A n c, .slice R m d] 26)).alloc (.cells #[.slice none 0 0, .slice none 0 0, .slice none 0 0] 34)).heap.size = w.heap.size + 1 + 1 := by simp
  go_enter Tryd.func67, Tryd.ntmps67
  go_upto_region 1 with fail
  generalize (w.alloc (.cells #[.slice A n c, .slice R m d] 26)).alloc (.cells #[.slice none 0 0, .slice none 0 0, .slice none 0 0] 34) = w0 at b2 s2 q1 q2 hz ⊢
  have HZ := Lib.hid hz
  clear hz
  have y0 : w0.cell? ⟨w.heap.size, 0, none⟩ = some (.slice A n c) := q1.cell 0
  have y1 : w0.cell? ⟨w.heap.size, 1, none⟩ = some (.slice R m d) := q1.cell 1
  go_wp2_with fail
  clear y0 y1 q1
  refine (l7Copy_any _ _ _ _ _ _ h _ s2 (by omega) (by have := HM.out; omega) h3).mono ?_
  rintro e w1 ⟨vc, vr, rfl, oh, b1⟩
  obtain ⟨rvs, S0⟩ := BoxSt.of oh b1
  obtain ⟨Ac, cc, Rc, dc, rfl, rfl, -⟩ := oh.form
  rw [hlc, hlr] at S0 ⊢
  have HV := Lib.hid hv
  have HN := Lib.hid hn40
  clear oh b1 s2 h3 hv hn40
  go_upto_block 0 with fail
  generalize w1.alloc (.cells #[.slice Ac n cc, .slice Rc m dc] 26) = w3 at S0 ⊢
  generalize w1.heap.size = b at S0 ⊢
  clear w1
  have HLC := Lib.hid hlc
  have HLR := Lib.hid hlr
  clear hlc hlr
  go_wp2_with fail
  go_loopw [5] (fun i wr => ∃ (x : Hp) (rvs : List Value), BoxSt w0 wr b (.slice Ac n cc) (.slice Rc m dc) rvs x ∧ Hid (Hps.Frees h x) ∧ Hid (Hps.validH x = true)) (fun _ wr => usedW wr Ac n)
  case atStart => exact ⟨h, rvs, S0, Lib.hid (Hps.Frees.refl h), HV⟩
  case round =>
    clear S0 rvs
    obtain ⟨x, rvs, S, F, HX⟩ := hrel
    have bw := b2.trans (S.low.mono b2.size)
    have hxl : x.cs.length = n := S.own.reads.cells.1
    have x0 : wr.cell? ⟨b, 0, none⟩ = some (.slice Ac n cc) := S.box.cell 0
    have x1 : wr.cell? ⟨b, 1, none⟩ = some (.slice Rc m dc) := S.box.cell 1
    obtain ⟨X1, X2, X3, X4⟩ := Hps.valid_iff.1 HX.out
    have HX1 := Lib.hid X1
    clear X1 X2 X3
    go_wp2_with fail
    refine (l7Counts_any _ _ _ _ _ _ x _ S.own.reads (by have := HN.out; omega) (by have := HM.out; omega) X4 (fun cl hcl => (Hps.okCell_iff.1 (HX1.out cl hcl)).2.2.2) (fun cl hcl => by have := (Hps.okCell_iff.1 (HX1.out cl hcl)).2.2.1; omega)).mono ?_
    rintro e w2 ⟨v2, rfl, o2, bk⟩
    have S2 := S.up bk
    obtain ⟨A2, c2, rfl, -⟩ := o2.form
    have HO := Lib.hid (OwnC.of ⟨rvs, S.own⟩ bk o2 S.low.size)
    have HCI := Lib.hid (fun (k : Nat) (y : Int) (hk : k < x.cs.length) (hy : (Hps.countsL x)[k]? = some y) => Hps.count_iff hk hy)
    have hyl := Hps.counts_len x
    rw [hxl] at hyl
    have HU := Lib.hid (show usedW wr Ac n = Hps.usedN x from usedW_eq S.own.reads.cells)
    have R2 := o2.reads
    obtain ⟨ys, hys⟩ : ∃ ys, Hps.countsL x = ys := ⟨_, rfl⟩
    have HYS := Lib.hid hys
    rw [hys] at R2 hyl HO HCI ⊢
    rw [hyl] at HO R2 ⊢
    have HXL := Lib.hid hxl
    clear hys x0 x1 X4 S o2 hxl hyl bw
    go_wp2_with fail
    go_loopw [5, 6] (fun i kk ww => ∃ k : Nat, k ≤ n ∧ kk = .int .i64 k ∧ i = .int .i64 (Hps.idleTo x k) ∧ ww = w2) (fun _ kk _ => n - (intOf kk).toNat)
    case atStart => exact ⟨0, Nat.zero_le _, rfl, rfl, rfl⟩
    case round =>
      obtain ⟨k, hk, rfl, rfl, rfl⟩ := hrel
      have x0 : wr.cell? ⟨b, 0, none⟩ = some (.slice Ac n cc) := S2.box.cell 0
      by_cases hlt : k < n
      · have hlt' : (k : Int) < n := by omega
        have hk40 : k < 40 := by have := HN.out; omega
        obtain ⟨g, o, cl, A', m', c3, e1, hg, hcl, d1, _, _, _, _⟩ := S2.own.reads.cells.at_ hlt
        subst e1
        obtain ⟨g2, o2, y, e2, hg2, hy, d2⟩ := R2.at_ hlt
        subst e2
        have hu := Hps.usedAt_of2 hcl
        have hci := HCI.out k y (by rw [HXL.out]; exact hlt) hy
        clear hcl hy
        cases hcu : cl.u <;> rw [hcu] at d1 hu
        · have HI := Lib.hid (Hps.idleTo_no (h := x) (k := k) (.inl hu))
          clear hu hci hcu
          go_wp2_with fail
          go_roundw
          case rel => exact ⟨k + 1, by omega, by go_num, by rw [HI.out], trivial⟩
          case measure => simp [intOf]; omega
        · by_cases hy0 : y = 0
          · subst hy0
            have HI := Lib.hid (Hps.idleTo_yes (h := x) (k := k) hu (hci.1 rfl))
            clear hu hci hcu
            go_wp2_with fail
            go_roundw
            case rel => exact ⟨k + 1, by omega, by go_num, by rw [HI.out], trivial⟩
            case measure => simp [intOf]; omega
          · have HI := Lib.hid (Hps.idleTo_no (h := x) (k := k) (.inr (Classical.not_not.1 fun q => hy0 (hci.2 q))))
            have hne : (y == 0) = false := by rw [beq_eq_false_iff_ne]; exact hy0
            clear hu hci hcu
            go_wp2_with fail
            go_roundw
            case rel => exact ⟨k + 1, by omega, by go_num, by rw [HI.out], trivial⟩
            case measure => simp [intOf]; omega
      · obtain rfl : k = n := by omega
        rcases Hps.idleTo_cases x k with ⟨hi, hd⟩ | ⟨j, hi, hj, hju, hjn⟩
        · have x1 : wr.cell? ⟨b, 1, none⟩ = some (.slice Rc m dc) := S2.box.cell 1
          have HE := Lib.hid (F.out.fin HV.out (fun j hj => hd j (by have := Hps.usedAt_lt hj; have := HXL.out; omega) hj))
          have q3 := q2.keep S2.low (by have := HZ.out; omega)
          have hsz := HZ.out
          have D := Lib.hid (OwnC.out (w := w) (g := w.heap.size + 1) HO.out (by omega) (b2.trans (S2.low.mono b2.size)) (by omega))
          have r2 : wr.frozen? ⟨w.heap.size + 1, 0, none⟩ = false := q3.frozen 0
          have r3 : wr.frozen? ⟨w.heap.size + 1, 1, none⟩ = false := q3.frozen 1
          have r4 : wr.frozen? ⟨w.heap.size + 1, 2, none⟩ = false := q3.frozen 2
          have r5 : wr.cell? ⟨w.heap.size + 1, 0, none⟩ = some (.slice none 0 0) := q3.cell 0
          have r6 : wr.cell? ⟨w.heap.size + 1, 1, none⟩ = some (.slice none 0 0) := q3.cell 1
          have r7 : wr.cell? ⟨w.heap.size + 1, 2, none⟩ = some (.slice none 0 0) := q3.cell 2
          have q4 := ((q3.put 0 (.slice Ac k cc)).put 1 (.slice Rc m dc)).put 2 (.slice A2 k c2)
          have r8 : (((wr.setCell ⟨w.heap.size + 1, 0, none⟩ (.slice Ac k cc)).setCell ⟨w.heap.size + 1, 1, none⟩ (.slice Rc m dc)).setCell ⟨w.heap.size + 1, 2, none⟩ (.slice A2 k c2)).cell? ⟨w.heap.size + 1, 0, none⟩ = some (.slice Ac k cc) := q4.cell 0
          have r9 : (((wr.setCell ⟨w.heap.size + 1, 0, none⟩ (.slice Ac k cc)).setCell ⟨w.heap.size + 1, 1, none⟩ (.slice Rc m dc)).setCell ⟨w.heap.size + 1, 2, none⟩ (.slice A2 k c2)).cell? ⟨w.heap.size + 1, 1, none⟩ = some (.slice Rc m dc) := q4.cell 1
          have r10 : (((wr.setCell ⟨w.heap.size + 1, 0, none⟩ (.slice Ac k cc)).setCell ⟨w.heap.size + 1, 1, none⟩ (.slice Rc m dc)).setCell ⟨w.heap.size + 1, 2, none⟩ (.slice A2 k c2)).cell? ⟨w.heap.size + 1, 2, none⟩ = some (.slice A2 k c2) := q4.cell 2
          rw [hi]
          clear hi hd S2 hsz q3 q4 q2 b2 bk R2
          go_wp2_with fail
          exact bodyPost_ret (v := .agg #[.slice Ac k cc, .slice Rc m dc, .slice A2 k c2]) (by simp [results, Tryd.results67, go_sem, *]) rfl ⟨_, _, _, rfl, by rw [← HE.out, HYS.out]; exact D.out.1, D.out.2⟩
        · rw [hi]
          have hjx : j < x.cs.length := by have := HXL.out; omega
          have hneg : ¬ ((j : Int) < 0) := by omega
          obtain ⟨old, hold⟩ : ∃ old, x.cs[j]? = some old := ⟨_, List.getElem?_eq_getElem hjx⟩
          obtain ⟨gc, v, e4, hgc1, hgc2, -, -, y0, y1, y2, fz⟩ := S2.own.cell_at hold
          subst e4
          have f0 := fz (j * 3)
          have f1 := fz (j * 3 + 1)
          have f2 := fz (j * 3 + 2)
          have SN := S2.cell (cl := Hps.freeCl) (rv := .slice none 0 0) HXL.out hold (World.ownsRow_nil _ _ _ _) (fun _ _ => .inl rfl) (.inl rfl)
          have HF := Lib.hid (F.out.free hjx hjn)
          have HVN := Lib.hid (Hps.freeK_valid HX.out hjn)
          have HMs := Lib.hid (usedW_eq SN.own.reads.cells)
          have HLT := Lib.hid (Hps.usedN_free hju)
          have SH := Lib.hid SN
          have hj' : (j : Int) < k := by omega
          clear hi hold S2 SN fz hju hjn hjx HO HCI R2
          go_wp2_with fail
          go_roundw
          case rel => exact ⟨_, _, SH.out, HF, HVN⟩
          case measure =>
            have h1 := HMs.out
            have h2 := HLT.out
            have h3 := HU.out
            refine Nat.lt_of_lt_of_eq (m := Hps.usedN x) ?_ h3.symm
            refine Nat.lt_of_le_of_lt (Nat.le_of_eq h1) ?_
            change Hps.usedN (Hps.freeK x j) < _
            omega
end Go.Proofs.YtfgdenmlfloloaaDoor

namespace Go.Proofs.YtfgdenmlfloloaaDoor
open Go.RowKit
set_option maxRecDepth 100000
section
variable {w0 wr w1 : World} {b B g : Nat} {vc vr : Value} {rvs : List Value} {h : Hp}
theorem row_keepB {w w' : World} {base n s : Nat} {e : TypeId} {v : Value} {xs : List Value} (h : w.ownsRow base e s v n xs) (hb : Below B w w') (hv : ∀ k, v.ownBlock = some k → k < B) : w'.ownsRow base e s v n xs := by
  refine ⟨h.1, ?_⟩
  rcases h.2 with h0 | ⟨g, cap, cur, rfl, hb', hh, hr⟩
  · exact .inl h0
  · exact .inr ⟨g, cap, cur, rfl, hb', (hb.block g (hv g rfl)).trans hh, hr⟩
/-- a heap in a box all of whose blocks lie below B stays when all below B stays -/
theorem BoxSt.keepB (S : BoxSt w0 wr b vc vr rvs h) (hb : Below B wr w1) (hv : ∀ v ∈ vc :: vr :: rvs, ∀ k, v.ownBlock = some k → k < B) (hlt : b < B) : BoxSt w0 w1 b vc vr rvs h := by
  have hlo := S.lo
  exact ⟨⟨S.own.len, row_keepB S.own.row hb (hv vc (by simp)), fun k c v hc hk => row_keepB (S.own.refs k c v hc hk) hb (hv v (by simp [List.mem_of_getElem? hk])), row_keepB S.own.roots hb (hv vr (by simp)), S.own.sep⟩, S.apart, (hb.block b hlt).trans S.box, S.low.trans (hb.mono (by omega)), hlo⟩
end
set_option maxHeartbeats 2000000 in
theorem freeLost_any (w0 : World) (b : Nat) (vc vr : Value) (rvs : List Value) (h : Hp) (w : World) (S0 : BoxSt w0 w b vc vr rvs h) (hv : Hps.validH h = true) :
    Calls Tryd.prog 61 #[.pointer (some ⟨b, 0, none⟩)] w fun e w' => ∃ vk rvs', e = .returned vk ∧ BoxSt w0 w' b vc vr rvs' (Hps.freeH h) ∧ (∀ v ∈ vc :: vr :: rvs', ∀ k, v.ownBlock = some k → k < w.heap.size) ∧ OwnI w' w.heap.size vk (Hps.countsL (Hps.freeH h)) := by
  obtain ⟨A, c, R, d, rfl, rfl, hc, hd, -⟩ := S0.own.form
  obtain ⟨n, hn⟩ : ∃ n, h.cs.length = n := ⟨_, rfl⟩
  obtain ⟨V1, V2, V3, V4⟩ := Hps.valid_iff.1 hv
  rw [hn, V3] at S0 ⊢
  rw [hn] at hc V2
  rw [V3] at hd
  have HB0 := Lib.hid (fun (v : Value) (hv : v ∈ (Value.slice A n c) :: (Value.slice R 4 d) :: rvs) (k : Nat) (hk : v.ownBlock = some k) => (S0.own.blocks hv hk).2)
  have x0 : w.cell? ⟨b, 0, none⟩ = some (.slice A n c) := S0.box.cell 0
  have x1 : w.cell? ⟨b, 1, none⟩ = some (.slice R 4 d) := S0.box.cell 1
  have hbl := S0.box.lt
  have HV := Lib.hid hv
  have HN := Lib.hid hn
  have HSS := Lib.hid S0
  have HRD := Lib.hid (show HS w w.heap.size A n R 4 h from S0.own.reads)
  clear hv hn V1 V3 V4 S0
  go_enter Tryd.func61, Tryd.ntmps61
  go_wp2_with fail
  refine (queueOf_any _ _ _ _ _ _ h _ HRD.out HV.out hc hd).mono ?_
  rintro e w3 ⟨vk, vq, rfl, ok, oq, hsep, b3⟩
  obtain ⟨K, ck, rfl, -⟩ := ok.form
  obtain ⟨Qa, qc, rfl⟩ := oq.form
  rw [show (Hps.countsL h).length = n by rw [Hps.countsL_eq, Hps.cntN_len, HN.out]] at ok hsep ⊢
  have hb3 := b3.size
  have F0 := FqSt.of ok oq hsep hb3
  have hql := Hps.idleL_len h n
  have bb := b3.alloc hb3 (.cells #[.slice K n ck, .slice Qa (Hps.idleL h n).length qc] 140)
  clear ok oq hsep x0 x1
  go_upto_block 0 with fail
  generalize w3.alloc (.cells #[.slice K n ck, .slice Qa (Hps.idleL h n).length qc] 140) = w4 at F0 bb ⊢
  generalize w3.heap.size = q at F0 hb3 ⊢
  clear b3
  have S4 := HSS.out.keepB bb HB0.out hbl
  have HW0 := Lib.hid (Hps.Waits.start h)
  rw [HN.out] at HW0
  have HU0 := Hps.usedN_lt h
  rw [HN.out] at HU0
  generalize Hps.idleL h n = Q0 at F0 hql HW0 ⊢
  generalize (Value.slice Qa Q0.length qc) = vq0 at F0 ⊢
  go_wp2_with fail
  go_loopw [4] (fun _ ww => ∃ (x : Hp) (rvs : List Value) (vq : Value) (Q : List Int), FqSt ww w.heap.size q (.slice K n ck) vq (Hps.countsL x) Q ∧ BoxSt w0 ww b (.slice A n c) (.slice R 4 d) rvs x ∧ Hid (∀ v ∈ (Value.slice A n c) :: (Value.slice R 4 d) :: rvs, ∀ k, v.ownBlock = some k → k < w.heap.size) ∧ Hid (Hps.Frees h x) ∧ Hid (Hps.validH x = true) ∧ Hid (Hps.Waits x Q) ∧ Q.length + 3 * Hps.usedN x ≤ 200) (fun _ ww => usedW ww A n)
  case atStart => exact ⟨h, rvs, vq0, Q0, F0, S4, HB0, Lib.hid (Hps.Frees.refl h), HV, HW0, by omega⟩
  case round =>
    clear F0 S4 bb HW0 HU0 hql
    obtain ⟨x, rv, vq, Q, F, S, HB, FR, HX, HW, hlen⟩ := hrel
    obtain ⟨X1, X2, X3, X4⟩ := Hps.valid_iff.1 HX.out
    have hxl : x.cs.length = n := S.own.reads.cells.1
    cases Q with
    | nil =>
      have hE := F.que.form
      obtain ⟨Qb, qb, rfl⟩ := hE
      have z0 : wr.cell? ⟨q, 0, none⟩ = some (.slice K n ck) := F.box.cell 0
      have z1 : wr.cell? ⟨q, 1, none⟩ = some (.slice Qb 0 qb) := F.box.cell 1
      have HE : x = Hps.freeH h := FR.out.fin HV.out (fun j hj => Classical.not_not.1 fun hq => by
        have := (HW.out.mem (j : Int)).2 ⟨j, rfl, hj, hq⟩
        cases this)
      rw [HE] at S F
      have SH := Lib.hid S
      have FH := Lib.hid F.own
      clear HE S F HW X1 X2 X3 X4
      go_wp2_with fail
      go_ret
      exact ⟨_, rv, rfl, SH.out, HB.out, FH.out⟩
    | cons t Q =>
      obtain ⟨k, rfl, hku, hkn⟩ := (HW.out.mem t).1 (by simp)
      obtain ⟨Qb, qb, e5⟩ := F.que.form
      have hkl : k < n := by have := Hps.usedAt_lt hku; omega
      obtain ⟨old, hold⟩ : ∃ old, x.cs[k]? = some old := ⟨_, List.getElem?_eq_getElem (by omega)⟩
      have z1 : wr.cell? ⟨q, 1, none⟩ = some vq := F.box.cell 1
      have hk1 : (k : Int) < n := by omega
      have hqp : decide ((0 : Int) < (((k : Int) :: Q).length : Nat)) = true := by simp
      subst e5
      go_wp2_with fail
      refine (next_any _ _ _ _ _ _ _ _ F).mono ?_
      rintro e w5 ⟨rfl, vq5, F5, b5⟩
      have S5 := S.keepB b5 HB.out hbl
      have y0 : w5.cell? ⟨b, 0, none⟩ = some (.slice A n c) := S5.box.cell 0
      obtain ⟨gc, v, e4, hgc1, hgc2, hrv, ho, c0, c1, c2, fz⟩ := S5.own.cell_at hold
      subst e4
      have f0 := fz (k * 3)
      have f1 := fz (k * 3 + 1)
      have f2 := fz (k * 3 + 2)
      have hgB : gc < w.heap.size := HB.out (.slice (some ⟨gc, 0, none⟩) n c) (by simp) gc rfl
      have SN := S5.cell (cl := Hps.freeCl) (rv := .slice none 0 0) hxl hold (World.ownsRow_nil _ _ _ _) (fun _ _ => .inl rfl) (.inl rfl)
      have FN := F5.keep (w1 := ((w5.setCell ⟨gc, k * 3, none⟩ (.bool false)).setCell ⟨gc, k * 3 + 1, none⟩ (.int .i64 0)).setCell ⟨gc, k * 3 + 2, none⟩ (.slice none 0 0)) (fun j hj _ => by rw [Below.heap_setCell _ _ _ _ (by show j ≠ gc; omega), Below.heap_setCell _ _ _ _ (by show j ≠ gc; omega), Below.heap_setCell _ _ _ _ (by show j ≠ gc; omega)])
      have hvg : v.ownBlock = none ∨ v.ownBlock ≠ some gc := S5.own.apart_cells v (by simp [List.mem_of_getElem? hrv])
      have ho2 := ((ho.far (put_any w5 gc (k * 3) (.bool false)) hvg).far (put_any _ gc (k * 3 + 1) (.int .i64 0)) hvg).far (put_any _ gc (k * 3 + 2) (.slice none 0 0)) hvg
      obtain ⟨vA, vc9, rfl, -⟩ := ho.form
      have hvB := HB.out (.slice vA old.r.length vc9) (by simp [List.mem_of_getElem? hrv])
      have hrf : IS (((w5.setCell ⟨gc, k * 3, none⟩ (.bool false)).setCell ⟨gc, k * 3 + 1, none⟩ (.int .i64 0)).setCell ⟨gc, k * 3 + 2, none⟩ (.slice none 0 0)) w.heap.size vA old.r.length old.r := by
        have hr := ho2.reads
        refine ⟨hr.1, fun hpos => ?_⟩
        obtain ⟨g', o', e6, _, h8⟩ := hr.2 hpos
        exact ⟨g', o', e6, hvB g' (by rw [e6]; rfl), h8⟩
      have hvalid := Hps.okCell_iff.1 (Hps.valid_cell HX.out hold)
      have hr3 := hvalid.2.2.1
      have hrn : ∀ t ∈ old.r, t = -1 ∨ ∃ y : Nat, t = y ∧ y < n := fun t ht => by
        rcases Hps.okRef_iff.1 (Hps.okRefs_iff.1 hvalid.2.2.2 t ht) with e | ⟨e, hu⟩
        · exact .inl e
        · obtain ⟨y, rfl⟩ := Int.eq_ofNat_of_zero_le e
          refine .inr ⟨y, rfl, ?_⟩
          have := Hps.usedAt_lt hu
          omega
      have hBl : (Hps.refsOf (Hps.freeK x k)).length ≤ 1000000000 := by
        obtain ⟨t1, t2, t3⟩ := Hps.valid_small (Hps.freeK_valid HX.out hkn)
        have := Hps.refsTo_len (h := Hps.freeK x k) (fun cl hcl => by have := t3 cl hcl; omega) _ (Nat.le_refl _)
        rw [Hps.refsTo_all] at this
        omega
      rw [Hps.counts_free hold, hxl] at FN
      have HNX := Lib.hid (HW.out.next HX.out hold)
      have HFN := Lib.hid (FR.out.free (by omega) hkn)
      have HVN := Lib.hid (Hps.freeK_valid HX.out hkn)
      have HUF := Lib.hid (Hps.usedN_free hku)
      have HU := Lib.hid (show usedW wr (some ⟨gc, 0, none⟩) n = Hps.usedN x from usedW_eq S.own.reads.cells)
      have hll := Hps.lost_len (Hps.refsOf (Hps.freeK x k)) old.r
      have SNH := Lib.hid SN
      have HBN := Lib.hid (show ∀ v ∈ (Value.slice (some ⟨gc, 0, none⟩) n c) :: (Value.slice R 4 d) :: (rv.set k (.slice none 0 0)), ∀ k, v.ownBlock = some k → k < w.heap.size from fun u hu j hj => by
        simp only [List.mem_cons] at hu
        rcases hu with rfl | rfl | hu
        · exact HB.out _ (by simp) j hj
        · exact HB.out _ (by simp) j hj
        · rcases List.mem_or_eq_of_mem_set hu with hu | rfl
          · exact HB.out u (by simp [hu]) j hj
          · cases hj)
      clear F S S5 SN ho ho2 X1 X2 X3 X4 hvalid hvB hvg fz hku hkn hold hrv HX HW FR
      go_wp2_with fail
      refine (lose_any w.heap.size q n old.r.length vc9 vA _ vq5 (Hps.refsOf (Hps.freeK x k)) Q old.r _ FN hrf hrn (by omega) (by omega) hBl (by simp at hlen; omega)).mono ?_
      rintro e w7 ⟨rfl, vq7, F7, b7⟩
      have S7 := SNH.out.keepB b7 HBN.out hbl
      have HMs := usedW_eq S7.own.reads.cells
      have h7 := HUF.out
      have h8 := HU.out
      simp only [List.length_cons] at hlen
      go_wp2_with fail
      refine ⟨⟨Hps.freeK x k, _, vq7, _, ?_, S7, HBN, HFN, HVN, HNX, ?_⟩, ?_⟩
      · rw [Hps.counts_freed, hxl]
        exact F7
      · rw [List.length_append]
        omega
      · rw [h8]
        refine Nat.lt_of_le_of_lt (Nat.le_of_eq HMs) ?_
        change Hps.usedN (Hps.freeK x k) < _
        omega
end Go.Proofs.YtfgdenmlfloloaaDoor

namespace Go.Proofs.YtfgdenmlfloloaaDoor
open Go.RowKit
/-- the table of math/bits lies as laid -/
def TzT (w : World) : Prop := 0 < w.heap.size ∧ ∀ i : Nat, i < 64 → w.cell? ⟨0, i, none⟩ = some (.int .u8 (Lib.deBruijn64tab.getD i 0 : Nat))
theorem TzT.below {w w' : World} (h : TzT w) (hb : Below w.heap.size w w') : TzT w' := ⟨Nat.lt_of_lt_of_le h.1 hb.size, fun i hi => (hb.cell (p := ⟨0, i, none⟩) h.1).trans (h.2 i hi)⟩
namespace Bm
theorem tz_key (x : Nat) (hx : x < 18446744073709551616) (hx0 : x ≠ 0) : ∃ idx : Nat, idx < 64 ∧ IntKind.u64.wrap (bits BinOp.and IntKind.u64 (x : Int) (IntKind.u64.wrap (-(x : Int))) * 285870213051353865) / 288230376151711744 = (idx : Int) ∧ Lib.deBruijn64tab.getD idx 0 = Lib.ctz 64 x ∧ Lib.ctz 64 x < 64 := by
  obtain ⟨hlow, hk⟩ := Lib.lowest_bit 64 x hx0 hx
  obtain ⟨hi, htab⟩ := Lib.deBruijn64_at _ hk
  refine ⟨_, hi, ?_, htab, hk⟩
  have e1 : IntKind.u64.wrap (-(x : Int)) = ((18446744073709551616 - x : Nat) : Int) := by rw [IntKind.wrap_u64]; omega
  have hl2 : x &&& (18446744073709551616 - x) = 2 ^ Lib.ctz 64 x := hlow
  rw [e1, u64_and_nat x _ hx (by omega), hl2, IntKind.wrap_u64]
  generalize 2 ^ Lib.ctz 64 x = a
  omega
end Bm
set_option maxHeartbeats 1000000 in
theorem tz64_any (x : Nat) (w : World) (hT : TzT w) (h0 : x ≠ 0) (h1 : x < 18446744073709551616) :
    Calls Tryd.prog 103 #[.int .u64 x] w fun e w' => e = .returned (.int .i64 (Lib.ctz 64 x)) ∧ w = w' := by
  obtain ⟨idx, hi, key, htab, hk⟩ := Bm.tz_key x h1 h0
  have hcell := hT.2 idx hi
  rw [htab] at hcell
  have hx0 : ((x : Int) == 0) = false := by rw [beq_eq_false_iff_ne]; omega
  obtain ⟨k, hkk⟩ : ∃ k, Lib.ctz 64 x = k := ⟨_, rfl⟩
  rw [hkk] at hcell hk ⊢
  clear htab hkk
  go_enter Tryd.func103, Tryd.ntmps103
  go_wp2_with (simp only [key])
  go_ret
  exact ⟨rfl, rfl⟩
end Go.Proofs.YtfgdenmlfloloaaDoor

namespace Go.Proofs.YtfgdenmlfloloaaDoor
open Go.RowKit
set_option maxRecDepth 100000
namespace Hps
end Hps
set_option maxHeartbeats 1000000 in
theorem firstOutside_any (S : Nat) (w : World) (hT : TzT w) (hS : S < 18446744073709551615) :
    Calls Tryd.prog 105 #[.int .u64 S] w fun e w' => e = .returned (.int .i64 (Lib.ctz 64 (18446744073709551615 - S))) ∧ w = w' := by
  have hx : bits .xor .u64 IntKind.u64.max (S : Int) = ((18446744073709551615 - S : Nat) : Int) := by
    rw [show IntKind.u64.max = ((18446744073709551615 : Nat) : Int) from rfl, u64_xor_nat _ _ (by omega) (by omega)]
    congr 1
    apply Nat.eq_of_testBit_eq
    intro i
    rw [Nat.testBit_xor, show 18446744073709551615 - S = 2 ^ 64 - (S + 1) by omega, Nat.testBit_two_pow_sub_succ (by omega), show (18446744073709551615 : Nat) = 2 ^ 64 - 1 from rfl, Nat.testBit_two_pow_sub_one]
    by_cases hi : i < 64
    · simp [hi]
    · have : S.testBit i = false := Nat.testBit_lt_two_pow (Nat.lt_of_lt_of_le hS (Nat.le_trans (by decide : 18446744073709551615 ≤ 2 ^ 64) (Nat.pow_le_pow_right (by decide) (by omega))))
      simp [hi, this]
  have hX := Lib.hid hx
  clear hx
  go_enter Tryd.func105, Tryd.ntmps105
  go_wp2_with fail
  rw [hX.out]
  refine (tz64_any _ w hT (by omega) (by omega)).mono ?_
  rintro e w1 ⟨rfl, rfl⟩
  go_wp2_with fail
  go_ret
  exact ⟨rfl, rfl⟩
end Go.Proofs.YtfgdenmlfloloaaDoor

namespace Go.Proofs.YtfgdenmlfloloaaDoor
open Go.RowKit
set_option maxRecDepth 100000
namespace Hps
/-- an instruction that uses the first cell that is not used -/
def reuH (h : Hp) (o : Cm) : Hp × Bool := if !canH h o || (decide (o.op = 1) && decide (gapH h = 40)) then (h, false) else (doH h o (gapH h), true)
theorem reuH_step {h : Hp} {o : Cm} (hv : validH h = true) (ho : okCm o = true) (hne : o.op ≠ 1 ∨ gapH h = h.cs.length) : stepH h o = reuH h o := by
  unfold stepH reuH
  rw [if_pos (by rw [hv, ho]; rfl)]
  by_cases h1 : o.op = 1
  · rcases hne with e | e
    · exact absurd h1 e
    · rw [e]
  · rw [decide_eq_false h1, Bool.false_and, Bool.false_and, show doH h o h.cs.length = doH h o (gapH h) by unfold doH; rw [if_neg h1, if_neg h1]]
theorem reuH_new {h : Hp} {o : Cm} (hv : validH h = true) (ho : okCm o = true) (h1 : o.op = 1) (hg : gapH h < h.cs.length) : reuH h o = (⟨h.cs.set (gapH h) ⟨true, o.c, List.replicate o.b.toNat (-1)⟩, h.rt.set o.a.toNat (gapH h : Int)⟩, true) := by
  have h40 := (valid_iff.1 hv).2.1
  unfold reuH
  rw [if_neg]
  · unfold doH
    rw [if_pos h1]
    unfold putCl
    rw [if_neg (by omega)]
    rfl
  · rw [canH_else hv ho (by omega) (by omega) (by omega), decide_eq_false (show ¬ gapH h = 40 by omega)]
    simp
theorem gap_ctz {h : Hp} (hl : h.cs.length ≤ 40) : Lib.ctz 64 (18446744073709551615 - usedW h.cs) = gapH h ∧ usedW h.cs < 18446744073709551615 := by
  have hlt := usedW_lt (cs := h.cs) (by omega)
  have hb : ∀ i, (18446744073709551615 - usedW h.cs).testBit i = (decide (i < 64) && !usedAt h.cs i) := fun i => by
    rw [show 18446744073709551615 - usedW h.cs = 2 ^ 64 - (usedW h.cs + 1) by omega, Nat.testBit_two_pow_sub_succ (by omega), usedW_bit]
  have hout : ∀ i, h.cs.length ≤ i → usedAt h.cs i = false := fun i hi => by
    unfold usedAt
    rw [List.getElem?_eq_none hi]
  have h0 : 18446744073709551615 - usedW h.cs ≠ 0 := fun e => by
    have := hb 63
    rw [e, hout 63 (by omega)] at this
    simp at this
  refine ⟨?_, by omega⟩
  obtain ⟨h1, h2⟩ := Bm.ctz_bit h0 (by omega)
  generalize Lib.ctz 64 (18446744073709551615 - usedW h.cs) = k at h1 h2 ⊢
  rw [hb] at h1
  have hk : k ≤ h.cs.length := by
    rcases Nat.lt_or_ge h.cs.length k with e | e
    · have := h2 _ e
      rw [hb, hout _ (Nat.le_refl _)] at this
      simp at this
      omega
    · exact e
  have hbef : ∀ j, j < k → usedAt h.cs j = true := fun j hj => by
    have := h2 j hj
    rw [hb] at this
    have hj64 : j < 64 := by omega
    simpa [hj64] using this
  rcases gapH_cases h with ⟨e1, e2⟩ | ⟨e1, e2, e3⟩
  · rw [e1]
    rcases Nat.lt_or_ge k h.cs.length with e | e
    · rw [e2 k e] at h1
      simp at h1
    · omega
  · rcases Nat.lt_trichotomy k (gapH h) with e | e | e
    · rw [e3 k e] at h1
      simp at h1
    · exact e
    · rw [hbef _ e] at e2
      cases e2
end Hps
set_option maxHeartbeats 4000000 in
theorem stepReusing_any (A R : Option Addr) (n c m d : Nat) (h : Hp) (o : Cm) (w : World) (hT : TzT w) (hs : HS w w.heap.size A n R m h) (hv : Hps.validH h = true) (ho : Hps.okCm o = true) (hc : n ≤ c) (hd : m ≤ d) :
    Calls Tryd.prog 59 #[heapV A n c R m d, cmV o] w (GaveH2 w (Hps.reuH h o).1 (Hps.reuH h o).2) := by
  obtain ⟨op, oa, ob, oc⟩ := o
  have hlc := hs.cells.1
  have hlr := hs.roots.1
  have h40 := (Hps.valid_iff.1 hv).2.1
  have hr4 := (Hps.valid_iff.1 hv).2.2.1
  have hgl := Hps.gapH_le h
  obtain ⟨HCZ, HUL⟩ := Hps.gap_ctz h40
  have b2 : Below w.heap.size w (((w.alloc (.cells #[.slice A n c, .slice R m d] 26)).alloc (.cells #[.int .i64 op, .int .i64 oa, .int .i64 ob, .int .i64 oc] 36)).alloc (.cells #[.slice none 0 0, .slice none 0 0] 26)) := (((Below.refl w.heap.size w).alloc (Nat.le_refl _) _).alloc (by simp) _).alloc (by simp; omega) _
  have q1 := ((Rw.new w 26 #[.slice A n c, .slice R m d]).alloc (.cells #[.int .i64 op, .int .i64 oa, .int .i64 ob, .int .i64 oc] 36)).alloc (.cells #[.slice none 0 0, .slice none 0 0] 26)
  have q2 := (Rw.new (w.alloc (.cells #[.slice A n c, .slice R m d] 26)) 36 #[.int .i64 op, .int .i64 oa, .int .i64 ob, .int .i64 oc]).alloc (.cells #[.slice none 0 0, .slice none 0 0] 26)
  have q3 := Rw.new ((w.alloc (.cells #[.slice A n c, .slice R m d] 26)).alloc (.cells #[.int .i64 op, .int .i64 oa, .int .i64 ob, .int .i64 oc] 36)) 26 #[.slice none 0 0, .slice none 0 0]
  simp only [World.size_alloc] at q2 q3
  have hT2 := hT.below b2
  have s2 := hs.up b2
  go_enter Tryd.func59, Tryd.ntmps59
  go_upto_region 1 with fail
  generalize (((w.alloc (.cells #[.slice A n c, .slice R m d] 26)).alloc (.cells #[.int .i64 op, .int .i64 oa, .int .i64 ob, .int .i64 oc] 36)).alloc (.cells #[.slice none 0 0, .slice none 0 0] 26)) = w2 at b2 q1 q2 q3 hT2 s2 ⊢
  have x0 : w2.cell? ⟨w.heap.size, 0, none⟩ = some (.slice A n c) := q1.cell 0
  obtain ⟨gp, hgp⟩ : ∃ gp, Hps.gapH h = gp := ⟨_, rfl⟩
  have HV := Lib.hid hv
  have HO := Lib.hid ho
  have HGP := Lib.hid hgp
  have HLC := Lib.hid hlc
  have HR4 := Lib.hid hr4
  rw [hgp] at hgl HCZ
  clear hv ho hgp hr4
  go_wp2_with fail
  refine (usedSet_any _ _ _ _ _ s2.cells (by omega)).mono ?_
  rintro e w3 ⟨rfl, b3⟩
  replace q1 := q1.keep b3 q1.lt
  replace q2 := q2.keep b3 q2.lt
  replace q3 := q3.keep b3 q3.lt
  have hT3 := hT2.below b3
  replace s2 := s2.up b3
  replace b2 := b2.trans (b3.mono b2.size)
  clear x0 b3 hT2
  go_wp2_with fail
  refine (firstOutside_any _ _ hT3 HUL).mono ?_
  rw [HCZ]
  rintro e w4 ⟨rfl, rfl⟩
  clear HCZ HUL
  have x0 : w3.cell? ⟨w.heap.size, 0, none⟩ = some (.slice A n c) := q1.cell 0
  have x1 : w3.cell? ⟨w.heap.size, 1, none⟩ = some (.slice R m d) := q1.cell 1
  have y0 : w3.cell? ⟨w.heap.size + 1, 0, none⟩ = some (.int .i64 op) := q2.cell 0
  have y1 : w3.cell? ⟨w.heap.size + 1, 1, none⟩ = some (.int .i64 oa) := q2.cell 1
  have y2 : w3.cell? ⟨w.heap.size + 1, 2, none⟩ = some (.int .i64 ob) := q2.cell 2
  have y3 : w3.cell? ⟨w.heap.size + 1, 3, none⟩ = some (.int .i64 oc) := q2.cell 3
  have hsz3 := q3.lt
  by_cases h1 : op = 1
  · have hne : (op != 1) = false := by simp [h1]
    by_cases hgn : gp = n
    · have HF := Lib.hid (Hps.reuH_step HV.out HO.out (.inr (by rw [HGP.out, HLC.out]; exact hgn)))
      have hcond : ((gp : Int) == (n : Int)) = true := by simp [hgn]
      clear h1 hgn
      go_wp2_with fail
      refine (stepHeap_any _ _ _ _ _ _ h ⟨op, oa, ob, oc⟩ _ s2 (by omega) (by have := HR4.out; omega) hc hd).mono ?_
      rw [HF.out]
      rintro e w5 ⟨vc, vr, rfl, ow, b5⟩
      obtain ⟨A5, n5, c5, R5, m5, d5, rfl, rfl⟩ := ow.slices
      have b9 := b2.trans (b5.mono b2.size)
      replace q3 := q3.keep b5 q3.lt
      clear q1 q2 b2 b5 x0 x1 y0 y1 y2 y3 s2
      have r2 : (w5).frozen? ⟨w.heap.size + 1 + 1, 0, none⟩ = false := q3.frozen 0
      have r3 : (w5).frozen? ⟨w.heap.size + 1 + 1, 1, none⟩ = false := q3.frozen 1
      have r4 : (w5).cell? ⟨w.heap.size + 1 + 1, 0, none⟩ = some (.slice none 0 0) := q3.cell 0
      have r5 : (w5).cell? ⟨w.heap.size + 1 + 1, 1, none⟩ = some (.slice none 0 0) := q3.cell 1
      have r6 : (((w5).setCell ⟨w.heap.size + 1 + 1, 0, none⟩ (.slice A5 n5 c5)).setCell ⟨w.heap.size + 1 + 1, 1, none⟩ (.slice R5 m5 d5)).cell? ⟨w.heap.size + 1 + 1, 0, none⟩ = some (.slice A5 n5 c5) := ((q3.put 0 (.slice A5 n5 c5)).put 1 (.slice R5 m5 d5)).cell 0
      have r7 : (((w5).setCell ⟨w.heap.size + 1 + 1, 0, none⟩ (.slice A5 n5 c5)).setCell ⟨w.heap.size + 1 + 1, 1, none⟩ (.slice R5 m5 d5)).cell? ⟨w.heap.size + 1 + 1, 1, none⟩ = some (.slice R5 m5 d5) := ((q3.put 0 (.slice A5 n5 c5)).put 1 (.slice R5 m5 d5)).cell 1
      have D := Lib.hid (OwnH.out (w := w) (g := w.heap.size + 1 + 1) (ow) (by omega) (b9) (by omega))
      clear q3 b9 ow
      generalize (Hps.reuH h ⟨op, oa, ob, oc⟩).2 = ok at *
      go_wp2_with fail
      exact bodyPost_ret (v := .tuple #[.agg #[.slice A5 n5 c5, .slice R5 m5 d5], .bool ok]) (by simp [results, Tryd.results59, go_sem, *]) rfl ⟨_, _, rfl, D.out.1, D.out.2⟩
    · have hcond : ((gp : Int) == (n : Int)) = false := by rw [beq_eq_false_iff_ne]; omega
      obtain ⟨⟨a1, a2⟩, ⟨b1, b2'⟩, -⟩ := (Hps.okCm_new (o := ⟨op, oa, ob, oc⟩) h1).1 HO.out
      simp only at a1 a2 b1 b2'
      have HF := Lib.hid (Hps.reuH_new HV.out HO.out h1 (by rw [HGP.out, HLC.out]; omega))
      obtain ⟨ob, rfl⟩ := Int.eq_ofNat_of_zero_le b1
      obtain ⟨oa, rfl⟩ := Int.eq_ofNat_of_zero_le a1
      have h3 : ∀ cl ∈ h.cs, cl.r.length ≤ 1000000 := fun cl hcl => by have := (Hps.okCell_iff.1 ((Hps.valid_iff.1 HV.out).1 cl hcl)).2.2.1; omega
      have H3 := Lib.hid h3
      have hgn9 : gp < n := by omega
      clear h1 hgn h3 a1 b1
      go_wp2_with fail
      refine (cloneHeap_any _ _ _ _ _ _ h _ s2 (by omega) (by have := HR4.out; omega) H3.out).mono ?_
      rintro e w5 ⟨vc, vr, rfl, ow, b5⟩
      obtain ⟨rvs, S0⟩ := BoxSt.of ow b5
      obtain ⟨A5, c5, gr, d5, rfl, rfl, fA⟩ := S0.form (by have := HR4.out; omega)
      obtain ⟨gc, rfl⟩ := fA (by omega)
      rw [HLC.out, HR4.out] at S0 ⊢
      have q2' := (q2.keep b5 q2.lt).alloc (.cells #[.slice (some ⟨gc, 0, none⟩) n c5, .slice (some ⟨gr, 0, none⟩) 4 d5] 26)
      have Q3K := Lib.hid q3
      have B2K := Lib.hid b2
      clear q1 q2 q3 b2 b5 ow fA x0 x1 y0 y1 y2 y3 s2
      go_upto_region 5 with fail
      generalize w5.alloc (.cells #[.slice (some ⟨gc, 0, none⟩) n c5, .slice (some ⟨gr, 0, none⟩) 4 d5] 26) = w6 at S0 q2' ⊢
      generalize w5.heap.size = b at S0 ⊢
      obtain ⟨qc, hqc⟩ : ∃ qc, w.heap.size + 1 = qc := ⟨_, rfl⟩
      have HQC := Lib.hid hqc
      rw [hqc] at q2' ⊢
      clear hqc
      have hbl := S0.box.lt
      have hql := q2'.lt
      have x0 : w6.cell? ⟨b, 0, none⟩ = some (.slice (some ⟨gc, 0, none⟩) n c5) := S0.box.cell 0
      have y0 : w6.cell? ⟨qc, 0, none⟩ = some (.int .i64 op) := q2'.cell 0
      have y1 : w6.cell? ⟨qc, 1, none⟩ = some (.int .i64 oa) := q2'.cell 1
      have y2 : w6.cell? ⟨qc, 2, none⟩ = some (.int .i64 ob) := q2'.cell 2
      have y3 : w6.cell? ⟨qc, 3, none⟩ = some (.int .i64 oc) := q2'.cell 3
      have hgn' : (gp : Int) < n := by omega
      have SS := Lib.hid S0
      have QQ := Lib.hid q2'
      clear S0 q2'
      refine wp_region_inv (by kernel_rfl) (by kernel_rfl) (fun L ac ww => ∃ t29 t30 t31 t32 t33 t34 : Value, ac = { tmps := #[heapV A n c R m d, cmV { op := op, a := ↑oa, b := ↑ob, c := oc }, Value.pointer (some { block := w.heap.size, off := 0 }), Value.pointer (some { block := qc, off := 0 }), Value.pointer (some { block := qc + 1, off := 0 }), Value.bool false, Value.int IntKind.i64 ↑gp, Value.pointer (some { block := b, off := 0 }), Value.pointer (some { block := w.heap.size, off := 0 }), Value.slice A n c, Value.int IntKind.u64 ↑(Hps.usedW h.cs), Value.int IntKind.i64 ↑gp, Value.pointer (some { block := qc, off := 0 }), Value.int IntKind.i64 op, Value.bool false, Value.bool false, Value.int IntKind.i64 ↑gp, Value.pointer (some { block := w.heap.size, off := 0 }), Value.slice A n c, Value.int IntKind.i64 ↑n, Value.bool false, Value.bool false, undef, undef, undef, undef, undef, Value.agg #[Value.slice A n c, Value.slice R m d], Value.agg #[Value.slice (some { block := gc, off := 0 }) n c5, Value.slice (some { block := gr, off := 0 }) 4 d5], t29, t30, t31, t32, t33, t34, undef, undef, undef, undef, undef, undef, undef], defers := [] } ∧ (L 6 = false → Below w6.heap.size w6 ww) ∧ (L 0 = true → t29 = .pointer (some ⟨b, 0, none⟩)) ∧ (L 1 = true → t30 = .slice (some ⟨gc, 0, none⟩) n c5) ∧ (L 2 = true → t31 = .int .i64 gp) ∧ (L 3 = true → t32 = cmV ⟨op, oa, ob, oc⟩) ∧ (L 4 = true → ∃ v8, t33 = .agg #[.bool true, .int .i64 oc, v8] ∧ (∃ A8 c8, v8 = .slice A8 ob c8) ∧ (L 6 = false → OwnI ww w6.heap.size v8 (List.replicate ob (-1)))) ∧ (L 5 = true → (∀ q, q < 5 → L q = true) ∧ t34 = .pointer (some ⟨gc, gp * 3, none⟩)) ∧ (L 6 = true → (∀ q, q < 6 → L q = true) ∧ ∃ v8 wp, (∃ A8 c8, v8 = .slice A8 ob c8) ∧ ww = ((wp.setCell ⟨gc, gp * 3, none⟩ (.bool true)).setCell ⟨gc, gp * 3 + 1, none⟩ (.int .i64 oc)).setCell ⟨gc, gp * 3 + 2, none⟩ v8 ∧ Below w6.heap.size w6 wp ∧ OwnI wp w6.heap.size v8 (List.replicate ob (-1)))) ?h0 ?hstep ?hdone
      case h0 => exact ⟨_, _, _, _, _, _, rfl, fun _ => (Below.refl _ _).drew, (fun h => absurd h Bool.false_ne_true), (fun h => absurd h Bool.false_ne_true), (fun h => absurd h Bool.false_ne_true), (fun h => absurd h Bool.false_ne_true), (fun h => absurd h Bool.false_ne_true), (fun h => absurd h Bool.false_ne_true), (fun h => absurd h Bool.false_ne_true)⟩
      case hstep =>
        rintro L ac ww i o ho hL hd ⟨t29, t30, t31, t32, t33, t34, rfl, I0, f0, f1, f2, f3, f4, f5, f6⟩
        have hi : i < 7 := (Array.getElem?_eq_some_iff.1 ho).1
        obtain rfl | rfl | rfl | rfl | rfl | rfl | rfl : i = 0 ∨ i = 1 ∨ i = 2 ∨ i = 3 ∨ i = 4 ∨ i = 5 ∨ i = 6 := by omega
        · obtain rfl := Option.some.inj ho
          have hL6 : L 6 = false := by
            cases e : L 6
            · rfl
            · exact absurd ((f6 e).1 0 (by decide)) (by rw [hL]; decide)
          have J := I0 hL6
          refine wpOp_step rfl (fun K' hK => ?_)
          go_simp
          refine hK _ _ ?_
          exact ⟨_, _, _, _, _, _, rfl, (fun _ => J), (fun _ => rfl), (kp f1), (kp f2), (kp f3), (fun h => by
            obtain ⟨v8, e22, x8, r8⟩ := f4 (upd_ne h (by decide))
            exact ⟨v8, e22, x8, fun h8 => r8 (by rw [upd_other (by decide)] at h8; exact h8)⟩), (fun h => absurd ((f5 (upd_ne h (by decide))).1 0 (by decide)) (by rw [hL]; decide)), (fun h => absurd hL6 (by rw [upd_ne h (by decide)]; decide))⟩
        · obtain rfl := Option.some.inj ho
          have g0 := f0 (hd ⟨0, .data⟩ (by simp) rfl)
          subst g0
          have hL6 : L 6 = false := by
            cases e : L 6
            · rfl
            · exact absurd ((f6 e).1 1 (by decide)) (by rw [hL]; decide)
          have J := I0 hL6
          have z0 : ww.cell? ⟨b, 0, none⟩ = some (.slice (some ⟨gc, 0, none⟩) n c5) := (J.cell (p := ⟨b, 0, none⟩) hbl).trans x0
          refine wpOp_step rfl (fun K' hK => ?_)
          go_simp
          refine hK _ _ ?_
          exact ⟨_, _, _, _, _, _, rfl, (fun _ => J), (kp f0), (fun _ => rfl), (kp f2), (kp f3), (fun h => by
            obtain ⟨v8, e22, x8, r8⟩ := f4 (upd_ne h (by decide))
            exact ⟨v8, e22, x8, fun h8 => r8 (by rw [upd_other (by decide)] at h8; exact h8)⟩), (fun h => absurd ((f5 (upd_ne h (by decide))).1 1 (by decide)) (by rw [hL]; decide)), (fun h => absurd hL6 (by rw [upd_ne h (by decide)]; decide))⟩
        · obtain rfl := Option.some.inj ho
          have hL6 : L 6 = false := by
            cases e : L 6
            · rfl
            · exact absurd ((f6 e).1 2 (by decide)) (by rw [hL]; decide)
          have J := I0 hL6
          refine wpOp_step rfl (fun K' hK => ?_)
          go_simp
          refine hK _ _ ?_
          exact ⟨_, _, _, _, _, _, rfl, (fun _ => J), (kp f0), (kp f1), (fun _ => rfl), (kp f3), (fun h => by
            obtain ⟨v8, e22, x8, r8⟩ := f4 (upd_ne h (by decide))
            exact ⟨v8, e22, x8, fun h8 => r8 (by rw [upd_other (by decide)] at h8; exact h8)⟩), (fun h => absurd ((f5 (upd_ne h (by decide))).1 2 (by decide)) (by rw [hL]; decide)), (fun h => absurd hL6 (by rw [upd_ne h (by decide)]; decide))⟩
        · obtain rfl := Option.some.inj ho
          have hL6 : L 6 = false := by
            cases e : L 6
            · rfl
            · exact absurd ((f6 e).1 3 (by decide)) (by rw [hL]; decide)
          have J := I0 hL6
          have z1 : ww.cell? ⟨qc, 0, none⟩ = some (.int .i64 op) := (J.cell (p := ⟨qc, 0, none⟩) hql).trans y0
          have z2 : ww.cell? ⟨qc, 1, none⟩ = some (.int .i64 oa) := (J.cell (p := ⟨qc, 1, none⟩) hql).trans y1
          have z3 : ww.cell? ⟨qc, 2, none⟩ = some (.int .i64 ob) := (J.cell (p := ⟨qc, 2, none⟩) hql).trans y2
          have z4 : ww.cell? ⟨qc, 3, none⟩ = some (.int .i64 oc) := (J.cell (p := ⟨qc, 3, none⟩) hql).trans y3
          refine wpOp_step rfl (fun K' hK => ?_)
          go_simp
          refine hK _ _ ?_
          exact ⟨_, _, _, _, _, _, rfl, (fun _ => J), (kp f0), (kp f1), (kp f2), (fun _ => rfl), (fun h => by
            obtain ⟨v8, e22, x8, r8⟩ := f4 (upd_ne h (by decide))
            exact ⟨v8, e22, x8, fun h8 => r8 (by rw [upd_other (by decide)] at h8; exact h8)⟩), (fun h => absurd ((f5 (upd_ne h (by decide))).1 3 (by decide)) (by rw [hL]; decide)), (fun h => absurd hL6 (by rw [upd_ne h (by decide)]; decide))⟩
        · obtain rfl := Option.some.inj ho
          have g3 := f3 (hd ⟨3, .data⟩ (by simp) rfl)
          subst g3
          have hL6 : L 6 = false := by
            cases e : L 6
            · rfl
            · exact absurd ((f6 e).1 4 (by decide)) (by rw [hL]; decide)
          have J := I0 hL6
          refine wpOp_step rfl (fun K' hK => ?_)
          go_simp
          refine (madeCell_any (by omega) ww).mono ?_
          rintro e w' ⟨v8, rfl, o1, b5⟩
          obtain ⟨A8, c8, e8, -⟩ := o1.form
          rw [List.length_replicate] at e8
          refine hK _ _ ?_
          exact ⟨_, _, _, _, _, _, rfl, (fun _ => J.trans (b5.mono J.size)), (kp f0), (kp f1), (kp f2), (kp f3), (fun _ => ⟨v8, rfl, ⟨A8, c8, e8⟩, fun _ => o1.base J.size⟩), (fun h => absurd ((f5 (upd_ne h (by decide))).1 4 (by decide)) (by rw [hL]; decide)), (fun h => absurd hL6 (by rw [upd_ne h (by decide)]; decide))⟩
        · obtain rfl := Option.some.inj ho
          have g1 := f1 (hd ⟨1, .data⟩ (by simp) rfl)
          have g2 := f2 (hd ⟨2, .data⟩ (by simp) rfl)
          subst g1
          subst g2
          have hL6 : L 6 = false := by
            cases e : L 6
            · rfl
            · exact absurd ((f6 e).1 5 (by decide)) (by rw [hL]; decide)
          have J := I0 hL6
          have lq : Hid (∀ q, q < 5 → L q = true) := Lib.hid (by
            intro q hq
            obtain rfl | rfl | rfl | rfl | rfl : q = 0 ∨ q = 1 ∨ q = 2 ∨ q = 3 ∨ q = 4 := by omega
            · exact hd ⟨0, .phase⟩ (by simp) rfl
            · exact hd ⟨1, .phase⟩ (by simp) rfl
            · exact hd ⟨2, .phase⟩ (by simp) rfl
            · exact hd ⟨3, .phase⟩ (by simp) rfl
            · exact hd ⟨4, .phase⟩ (by simp) rfl)
          refine wpOp_step rfl (fun K' hK => ?_)
          go_simp
          refine hK _ _ ?_
          exact ⟨_, _, _, _, _, _, rfl, (fun _ => J), (kp f0), (kp f1), (kp f2), (kp f3), (fun h => by
            obtain ⟨v8, e22, x8, r8⟩ := f4 (upd_ne h (by decide))
            exact ⟨v8, e22, x8, fun h8 => r8 (by rw [upd_other (by decide)] at h8; exact h8)⟩), (fun _ => ⟨fun q hq => upd_mono (lq.out q hq), rfl⟩), (fun h => absurd hL6 (by rw [upd_ne h (by decide)]; decide))⟩
        · obtain rfl := Option.some.inj ho
          have g4 := f4 (hd ⟨4, .data⟩ (by simp) rfl)
          have g5 := f5 (hd ⟨5, .data⟩ (by simp) rfl)
          have lq : Hid (∀ q, q < 6 → L q = true) := Lib.hid (by
            intro q hq
            obtain rfl | rfl | rfl | rfl | rfl | rfl : q = 0 ∨ q = 1 ∨ q = 2 ∨ q = 3 ∨ q = 4 ∨ q = 5 := by omega
            · exact hd ⟨0, .phase⟩ (by simp) rfl
            · exact hd ⟨1, .phase⟩ (by simp) rfl
            · exact hd ⟨2, .phase⟩ (by simp) rfl
            · exact hd ⟨3, .phase⟩ (by simp) rfl
            · exact hd ⟨4, .phase⟩ (by simp) rfl
            · exact hd ⟨5, .data⟩ (by simp) rfl)
          have J := I0 hL
          obtain ⟨-, e34⟩ := g5
          subst e34
          obtain ⟨v8, e33, ⟨A8, c8, e8⟩, r8⟩ := g4
          subst e33
          subst e8
          have o8 := r8 hL
          have S6 := SS.out.up J
          obtain ⟨old, hold⟩ : ∃ old, h.cs[gp]? = some old := ⟨_, List.getElem?_eq_getElem (by have := HLC.out; omega)⟩
          obtain ⟨gc9, v9, e9, -, -, -, -, zc0, zc1, zc2, fz⟩ := S6.own.cell_at hold
          have eg : gc = gc9 := by
            injection e9 with e9
            injection e9
          subst eg
          have zf0 := fz (gp * 3)
          have zf1 := fz (gp * 3 + 1)
          have zf2 := fz (gp * 3 + 2)
          clear fz hold
          refine wpOp_step rfl (fun K' hK => ?_)
          go_simp
          refine hK _ _ ?_
          exact ⟨_, _, _, _, _, _, rfl, (fun h => absurd h (by rw [upd_self]; decide)), (kp f0), (kp f1), (kp f2), (kp f3), (fun _ => ⟨_, rfl, ⟨A8, c8, rfl⟩, fun h => absurd h (by rw [upd_self]; decide)⟩), (fun _ => ⟨fun q hq => upd_mono (lq.out q (by omega)), rfl⟩), (fun _ => ⟨fun q hq => upd_mono (lq.out q hq), _, ww, ⟨A8, c8, rfl⟩, rfl, J, o8⟩)⟩
      case hdone =>
        rintro L ac ww hall ⟨t29, t30, t31, t32, t33, t34, rfl, I0, f0, f1, f2, f3, f4, f5, f6⟩
        have e0 := f0 (hall 0 (by decide))
        have e1 := f1 (hall 1 (by decide))
        have e2 := f2 (hall 2 (by decide))
        have e3 := f3 (hall 3 (by decide))
        have e4 := f4 (hall 4 (by decide))
        have e5 := f5 (hall 5 (by decide))
        have e6 := f6 (hall 6 (by decide))
        clear f0 f1 f2 f3 f4 f5 f6
        obtain ⟨-, v8, wp, ⟨A8, c8, rfl⟩, rfl, r1, r2⟩ := e6
        have SP := SS.out.up r1
        have QP := QQ.out.keep r1 hql
        obtain ⟨old, hold⟩ : ∃ old, h.cs[gp]? = some old := ⟨_, List.getElem?_eq_getElem (by have := HLC.out; omega)⟩
        have hap : ∀ v ∈ (Value.slice (some ⟨gc, 0, none⟩) n c5) :: (.slice (some ⟨gr, 0, none⟩) 4 d5) :: rvs, (Value.slice A8 ob c8).ownBlock = none ∨ (Value.slice A8 ob c8).ownBlock ≠ v.ownBlock := fun v hv => by
          cases e : (Value.slice A8 ob c8).ownBlock with
          | none => exact .inl rfl
          | some k =>
            right
            intro e'
            have a1 := (World.ownsRow.lt r2 k e).1
            have a2 := (SS.out.own.blocks hv e'.symm).2
            omega
        have h8b : (Value.slice A8 ob c8).ownBlock = none ∨ (Value.slice A8 ob c8).ownBlock ≠ some b := by
          cases e : (Value.slice A8 ob c8).ownBlock with
          | none => exact .inl rfl
          | some k =>
            right
            intro e'
            have a1 := (World.ownsRow.lt r2 k e).1
            have := Option.some.inj e'
            omega
        have SN := SP.cell (cl := ⟨true, oc, List.replicate ob (-1)⟩) HLC.out hold (r2.base (by have := SS.out.low.size; omega)) hap h8b
        have hqg : qc ≠ gc := fun e => by
          have a1 : w3.heap.size ≤ gc := (SS.out.own.blocks (v := .slice (some ⟨gc, 0, none⟩) n c5) (by simp) rfl).1
          have a2 := HQC.out
          omega
        have QN := ((QP.other hqg (i := gp * 3) (.bool true)).other hqg (i := gp * 3 + 1) (.int .i64 oc)).other hqg (i := gp * 3 + 2) (.slice A8 ob c8)
        clear I0 e0 e1 e2 e3 e4 e5 hall r1 r2 SP QP hap h8b hold x0 y0 y1 y2 y3
        generalize ((wp.setCell ⟨gc, gp * 3, none⟩ (.bool true)).setCell ⟨gc, gp * 3 + 1, none⟩ (.int .i64 oc)).setCell ⟨gc, gp * 3 + 2, none⟩ (.slice A8 ob c8) = w7 at SN QN ⊢
        have x1 : w7.cell? ⟨b, 1, none⟩ = some (.slice (some ⟨gr, 0, none⟩) 4 d5) := SN.box.cell 1
        have y1 : w7.cell? ⟨qc, 1, none⟩ = some (.int .i64 oa) := QN.cell 1
        have haM : (oa : Int) < 4 := by omega
        obtain ⟨xo, hxo, cr⟩ := SN.own.roots.cell_at (j := oa) (by omega)
        have fz : w7.frozen? ⟨gr, oa, none⟩ = false := SN.own.roots.frozen HR4.out oa
        have SR := SN.root (i := oa) HR4.out (gp : Int)
        have SRH := Lib.hid SR
        clear SN QN QQ SS
        go_upto_region 7 with fail
        have hq := HQC.out
        subst hq
        generalize w7.setCell ⟨gr, oa, none⟩ (.int .i64 (gp : Int)) = w8 at SR SRH ⊢
        have b9 : Below w.heap.size w w8 := B2K.out.trans (SR.low.mono B2K.out.size)
        have q3 := Q3K.out.keep SR.low hsz3
        have v0 : w8.cell? ⟨b, 0, none⟩ = some (.slice (some ⟨gc, 0, none⟩) n c5) := SR.box.cell 0
        have v1 : w8.cell? ⟨b, 1, none⟩ = some (.slice (some ⟨gr, 0, none⟩) 4 d5) := SR.box.cell 1
        have r2 : (w8).frozen? ⟨w.heap.size + 1 + 1, 0, none⟩ = false := q3.frozen 0
        have r3 : (w8).frozen? ⟨w.heap.size + 1 + 1, 1, none⟩ = false := q3.frozen 1
        have r4 : (w8).cell? ⟨w.heap.size + 1 + 1, 0, none⟩ = some (.slice none 0 0) := q3.cell 0
        have r5 : (w8).cell? ⟨w.heap.size + 1 + 1, 1, none⟩ = some (.slice none 0 0) := q3.cell 1
        have r6 : (((w8).setCell ⟨w.heap.size + 1 + 1, 0, none⟩ (.slice (some ⟨gc, 0, none⟩) n c5)).setCell ⟨w.heap.size + 1 + 1, 1, none⟩ (.slice (some ⟨gr, 0, none⟩) 4 d5)).cell? ⟨w.heap.size + 1 + 1, 0, none⟩ = some (.slice (some ⟨gc, 0, none⟩) n c5) := ((q3.put 0 (.slice (some ⟨gc, 0, none⟩) n c5)).put 1 (.slice (some ⟨gr, 0, none⟩) 4 d5)).cell 0
        have r7 : (((w8).setCell ⟨w.heap.size + 1 + 1, 0, none⟩ (.slice (some ⟨gc, 0, none⟩) n c5)).setCell ⟨w.heap.size + 1 + 1, 1, none⟩ (.slice (some ⟨gr, 0, none⟩) 4 d5)).cell? ⟨w.heap.size + 1 + 1, 1, none⟩ = some (.slice (some ⟨gr, 0, none⟩) 4 d5) := ((q3.put 0 (.slice (some ⟨gc, 0, none⟩) n c5)).put 1 (.slice (some ⟨gr, 0, none⟩) 4 d5)).cell 1
        have D := Lib.hid (OwnH.out (w := w) (g := w.heap.size + 1 + 1) (SR.ownH) (by omega) (b9) (by omega))
        have E1 := Lib.hid (show (Hps.reuH h ⟨op, oa, ob, oc⟩).1 = ⟨h.cs.set gp ⟨true, oc, List.replicate ob (-1)⟩, h.rt.set oa (gp : Int)⟩ by rw [HF.out, HGP.out]; rfl)
        have E2 := Lib.hid (show (Hps.reuH h ⟨op, oa, ob, oc⟩).2 = true by rw [HF.out])
        clear q3 b9 SR SRH
        go_wp2_with fail
        exact bodyPost_ret (v := .tuple #[.agg #[.slice (some ⟨gc, 0, none⟩) n c5, .slice (some ⟨gr, 0, none⟩) 4 d5], .bool true]) (by simp [results, Tryd.results59, go_sem, *]) rfl ⟨_, _, by rw [E2.out], by rw [E1.out]; exact D.out.1, D.out.2⟩
  · have hne : (op != 1) = true := by simp [h1]
    have HF := Lib.hid (Hps.reuH_step HV.out HO.out (.inl h1))
    clear h1
    go_wp2_with fail
    refine (stepHeap_any _ _ _ _ _ _ h ⟨op, oa, ob, oc⟩ _ s2 (by omega) (by have := HR4.out; omega) hc hd).mono ?_
    rw [HF.out]
    rintro e w5 ⟨vc, vr, rfl, ow, b5⟩
    obtain ⟨A5, n5, c5, R5, m5, d5, rfl, rfl⟩ := ow.slices
    have b9 := b2.trans (b5.mono b2.size)
    replace q3 := q3.keep b5 q3.lt
    clear q1 q2 b2 b5 x0 x1 y0 y1 y2 y3 s2
    have r2 : (w5).frozen? ⟨w.heap.size + 1 + 1, 0, none⟩ = false := q3.frozen 0
    have r3 : (w5).frozen? ⟨w.heap.size + 1 + 1, 1, none⟩ = false := q3.frozen 1
    have r4 : (w5).cell? ⟨w.heap.size + 1 + 1, 0, none⟩ = some (.slice none 0 0) := q3.cell 0
    have r5 : (w5).cell? ⟨w.heap.size + 1 + 1, 1, none⟩ = some (.slice none 0 0) := q3.cell 1
    have r6 : (((w5).setCell ⟨w.heap.size + 1 + 1, 0, none⟩ (.slice A5 n5 c5)).setCell ⟨w.heap.size + 1 + 1, 1, none⟩ (.slice R5 m5 d5)).cell? ⟨w.heap.size + 1 + 1, 0, none⟩ = some (.slice A5 n5 c5) := ((q3.put 0 (.slice A5 n5 c5)).put 1 (.slice R5 m5 d5)).cell 0
    have r7 : (((w5).setCell ⟨w.heap.size + 1 + 1, 0, none⟩ (.slice A5 n5 c5)).setCell ⟨w.heap.size + 1 + 1, 1, none⟩ (.slice R5 m5 d5)).cell? ⟨w.heap.size + 1 + 1, 1, none⟩ = some (.slice R5 m5 d5) := ((q3.put 0 (.slice A5 n5 c5)).put 1 (.slice R5 m5 d5)).cell 1
    have D := Lib.hid (OwnH.out (w := w) (g := w.heap.size + 1 + 1) (ow) (by omega) (b9) (by omega))
    clear q3 b9 ow
    generalize (Hps.reuH h ⟨op, oa, ob, oc⟩).2 = ok at *
    go_wp2_with fail
    exact bodyPost_ret (v := .tuple #[.agg #[.slice A5 n5 c5, .slice R5 m5 d5], .bool ok]) (by simp [results, Tryd.results59, go_sem, *]) rfl ⟨_, _, rfl, D.out.1, D.out.2⟩
end Go.Proofs.YtfgdenmlfloloaaDoor

namespace Go.Proofs.YtfgdenmlfloloaaDoor
namespace Hps
/-- the heap of the cells on a list, in this order -/
def moveH (h : Hp) (o : List Int) : Hp := ⟨o.map fun n => ⟨true, (cellAt h.cs n).d, (cellAt h.cs n).r.map (nameL o)⟩, h.rt.map (nameL o)⟩
/-- a list of just the cells that can be reached, each once -/
structure Lives (h : Hp) (o : List Int) : Prop where
  nodup : o.Nodup
  mem : ∀ n : Int, n ∈ o ↔ ∃ k : Nat, n = k ∧ Rch h.cs h.rt k
section
variable {h : Hp} {o : List Int}
theorem Lives.cell (L : Lives h o) (hv : validH h = true) {x : Nat} {n : Int} (hx : o[x]? = some n) : ∃ (k : Nat) (c : Cl), n = k ∧ Rch h.cs h.rt k ∧ h.cs[k]? = some c ∧ (moveH h o).cs[x]? = some ⟨true, c.d, c.r.map (nameL o)⟩ := by
  obtain ⟨k, rfl, hk⟩ := (L.mem n).1 (List.mem_of_getElem? hx)
  obtain ⟨c, hc, _⟩ := usedAt_iff.1 (hk.live hv)
  refine ⟨k, c, rfl, hk, hc, ?_⟩
  simp [moveH, hx, cellAt, hc]
theorem Lives.neg (L : Lives h o) : (-1 : Int) ∉ o := fun hm => by
  obtain ⟨k, e, _⟩ := (L.mem _).1 hm
  omega
/-- a reference that is none or leads to a reachable cell -/
theorem Lives.name (L : Lives h o) {n : Int} (hn : n = -1 ∨ ∃ k : Nat, n = k ∧ Rch h.cs h.rt k) : RR (fun k x => o[x]? = some (k : Int)) n (nameL o n) := by
  rcases hn with rfl | ⟨k, rfl, hk⟩
  · exact .inl ⟨rfl, nameL_none L.neg⟩
  · obtain ⟨x, hx⟩ := List.mem_iff_getElem?.1 ((L.mem _).2 ⟨k, rfl, hk⟩)
    exact .inr ⟨k, x, rfl, nameL_at L.nodup hx, hx⟩
theorem ref_live (hv : validH h = true) {k : Nat} {c : Cl} (hk : Rch h.cs h.rt k) (hc : h.cs[k]? = some c) {n : Int} (hn : n ∈ c.r) : n = -1 ∨ ∃ m : Nat, n = m ∧ Rch h.cs h.rt m := by
  have ok := okRefs_iff.1 (valid_refs hv c (List.mem_of_getElem? hc)) n hn
  by_cases h0 : 0 ≤ n
  · obtain ⟨m, rfl, _⟩ := okRef_nat ok h0
    exact .inr ⟨m, rfl, .step hk hc hn⟩
  · rcases okRef_iff.1 ok with e | ⟨e, _⟩
    · exact .inl e
    · omega
theorem root_live (hv : validH h = true) {n : Int} (hn : n ∈ h.rt) : n = -1 ∨ ∃ m : Nat, n = m ∧ Rch h.cs h.rt m := by
  have ok := okRefs_iff.1 (valid_iff.1 hv).2.2.2 n hn
  by_cases h0 : 0 ≤ n
  · obtain ⟨m, rfl, _⟩ := okRef_nat ok h0
    exact .inr ⟨m, rfl, .root hn⟩
  · rcases okRef_iff.1 ok with e | ⟨e, _⟩
    · exact .inl e
    · omega
theorem Lives.names (L : Lives h o) {ns : List Int} (hn : ∀ n ∈ ns, n = -1 ∨ ∃ k : Nat, n = k ∧ Rch h.cs h.rt k) : LR (fun k x => o[x]? = some (k : Int)) ns (ns.map (nameL o)) := by
  refine ⟨by simp, fun i n m h1 h2 => ?_⟩
  rw [List.getElem?_map, h1, Option.map_some, Option.some.injEq] at h2
  rw [← h2]
  exact L.name (hn n (List.mem_of_getElem? h1))
/-- a heap and the heap of its moved cells are related -/
theorem Lives.sim (L : Lives h o) (hv : validH h = true) : Sim h (moveH h o) (fun k x => o[x]? = some (k : Int)) := by
  refine ⟨fun k x y h1 h2 => ?_, fun k m x h1 h2 => ?_, L.names (fun n hn => root_live hv hn), fun {k x} hx => ?_⟩
  · have e1 := nameL_at L.nodup h1
    have e2 := nameL_at L.nodup h2
    omega
  · rw [h1] at h2
    have := Option.some.inj h2
    omega
  · obtain ⟨k', c, e, hk, hc, hm⟩ := L.cell hv hx
    have e : k = k' := by omega
    subst e
    exact ⟨c, _, hc, hm, rfl, L.names (fun n hn => ref_live hv hk hc hn)⟩
theorem Lives.len (L : Lives h o) (hv : validH h = true) : o.length ≤ h.cs.length := by
  refine few_numbers _ o L.nodup fun x hx => ?_
  obtain ⟨k, rfl, hk⟩ := (L.mem x).1 hx
  exact ⟨k, rfl, usedAt_lt (hk.live hv)⟩
theorem Lives.okRef (L : Lives h o) (hv : validH h = true) {n : Int} (hn : n = -1 ∨ ∃ k : Nat, n = k ∧ Rch h.cs h.rt k) : okRef (moveH h o).cs (nameL o n) = true := by
  rcases L.name hn with ⟨_, e⟩ | ⟨k, x, _, e, hx⟩
  · rw [e]
    exact okRef_none _
  · obtain ⟨_, c, _, _, _, hm⟩ := L.cell hv hx
    rw [e, okRef_iff]
    exact .inr ⟨by omega, usedAt_iff.2 ⟨_, by rw [Int.toNat_natCast]; exact hm, rfl⟩⟩
theorem Lives.valid (L : Lives h o) (hv : validH h = true) : validH (moveH h o) = true := by
  obtain ⟨h1, h2, h3, h4⟩ := valid_iff.1 hv
  refine valid_iff.2 ⟨fun c hc => ?_, ?_, ?_, ?_⟩
  · obtain ⟨x, hx⟩ := List.mem_iff_getElem?.1 hc
    have hxl := (List.getElem?_eq_some_iff.1 hx).1
    simp only [moveH, List.length_map] at hxl
    obtain ⟨k, d, e, hk, hd, hm⟩ := L.cell hv (List.getElem?_eq_getElem hxl)
    rw [hm] at hx
    have hx := Option.some.inj hx
    subst hx
    have ok := okCell_iff.1 (valid_cell hv hd)
    refine okCell_iff.2 ⟨.inl rfl, ok.2.1, by simpa using ok.2.2.1, okRefs_iff.2 fun n hn => ?_⟩
    obtain ⟨m, hm1, rfl⟩ := List.mem_map.1 hn
    exact L.okRef hv (ref_live hv hk hd hm1)
  · have := L.len hv
    simp only [moveH, List.length_map]
    omega
  · simpa [moveH] using h3
  · refine okRefs_iff.2 fun n hn => ?_
    obtain ⟨m, hm1, rfl⟩ := List.mem_map.1 hn
    exact L.okRef hv (root_live hv hm1)
/-- moved cells: a program sees the same -/
theorem Lives.view (L : Lives h o) (hv : validH h = true) : viewH (moveH h o) = viewH h := ((L.sim hv).view hv (L.valid hv)).symm
end
end Hps
end Go.Proofs.YtfgdenmlfloloaaDoor
namespace Go.Proofs.YtfgdenmlfloloaaDoor
open Go.RowKit
set_option maxRecDepth 100000
namespace Hps
end Hps
/-- the list so far, and marks that lie apart from it -/
structure SO (w wr : World) (ov lv : Value) (bs : List Bool) (l : List Int) : Prop where
  lst : OwnI wr (w.heap.size + 1) lv l
  mks : OwnO wr (w.heap.size + 1) ov bs
  sep : lv.ownBlock = none ∨ lv.ownBlock ≠ ov.ownBlock
  bel : Below w.heap.size w wr
  big : w.heap.size + 1 ≤ wr.heap.size
theorem SO.app {w wr w1 : World} {ov lv v5 : Value} {bs : List Bool} {l xs : List Int} {ob : Obj} (S : SO w wr ov lv bs l) (h : OwnI w1 (w.heap.size + 1) v5 (l ++ xs)) (hg : (wr.alloc ob).grownBy w1 lv.ownBlock) (hs : v5.ownBlock = lv.ownBlock ∨ v5.ownBlock = some (wr.alloc ob).heap.size) : SO w w1 ov v5 bs (l ++ xs) := by
  have hlo : ∀ k, lv.ownBlock = some k → w.heap.size + 1 ≤ k := fun k hk => (World.ownsRow.lt S.lst k hk).1
  have mk2 : OwnO (wr.alloc ob) (w.heap.size + 1) ov bs := World.ownsRow.alloc S.mks ob
  refine ⟨h, World.ownsRow.kept mk2 hg (sep_back S.sep), ?_, (S.bel.alloc S.bel.size ob).grown hg (by simp; have := S.bel.size; omega) (fun k hk => by have := hlo k hk; omega), by have := hg.size; have := S.big; simp at *; omega⟩
  rcases hs with e | e
  · rw [e]; exact S.sep
  · right
    rw [e]
    intro e'
    have := (World.ownsRow.lt S.mks _ e'.symm).2
    simp at this
    omega
end Go.Proofs.YtfgdenmlfloloaaDoor
namespace Go.Proofs.YtfgdenmlfloloaaDoor
open Go.RowKit
/-- a part of a slice of numbers -/
theorem IS.part {w : World} {B n i r : Nat} {g o : Nat} {xs : List Int} (h : IS w B (some ⟨g, o, none⟩) n xs) (hi : i + r ≤ n) : IS w B (some ⟨g, o + i, none⟩) r ((xs.drop i).take r) := by
  have hl := h.1
  refine ⟨by rw [List.length_take, List.length_drop]; omega, fun hr => ?_⟩
  obtain ⟨g', o', e, hb, hc⟩ := h.2 (by omega)
  have e := Option.some.inj e
  injection e with e1 e2
  subst e1 e2
  refine ⟨g, o + i, rfl, hb, fun k b hk => ?_⟩
  rw [List.getElem?_take] at hk
  split at hk
  · rw [List.getElem?_drop] at hk
    rw [Nat.add_assoc]
    exact hc _ _ hk
  · cases hk
section
variable {w0 wr w1 : World} {b : Nat} {vc vr v9 : Value} {rvs : List Value} {h : Hp} {x : Int}
end
end Go.Proofs.YtfgdenmlfloloaaDoor

