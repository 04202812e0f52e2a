/- What the program's StepHeap returns: for every heap and instruction. No conditions. -/
import Derived.Test.YtmjejcfifkbkoaaMf
import Derived.Test.YtmjejcfifkbkoaaMg
import Derived.Test.YtmjejcfifkbkoaaMj
import Derived.Deep.Cut
namespace Go.Proofs.Ytmjejcfifkbkoaa
open Go.RowKit
set_option maxRecDepth 100000

theorem hasRoom_any (A R : Option Addr) (n c m d : Nat) (o : Cm) (w : World) : Calls Try.prog 68 #[heapV A n c R m d, cmV o] w fun e w' => e = .returned (.bool (decide (¬ (o.op = 1 ∧ 40 ≤ n)))) ∧ Below w.heap.size w w' := by
  have b2 : Below w.heap.size w ((w.alloc (.cells #[.slice A n c, .slice R m d] 28)).alloc (.cells #[.int .i64 o.op, .int .i64 o.a, .int .i64 o.b, .int .i64 o.c] 36)) := ((Below.refl w.heap.size w).alloc (Nat.le_refl _) _).alloc (by simp) _
  by_cases h1 : o.op = 1
  · have hne : (o.op != 1) = false := by simp [h1]
    have R0 := Lib.hid (show decide (¬ (o.op = 1 ∧ 40 ≤ n)) = decide ((n : Int) < 40) by rw [decide_eq_decide]; omega)
    clear h1
    go_enter Try.func68, Try.ntmps68
    go_wp2_with fail
    go_ret
    exact ⟨by rw [R0.out]; rfl, b2⟩
  · have hne : (o.op != 1) = true := by simp [h1]
    have R0 := Lib.hid (show decide (¬ (o.op = 1 ∧ 40 ≤ n)) = true by rw [decide_eq_true_iff]; omega)
    clear h1
    go_enter Try.func68, Try.ntmps68
    go_wp2_with fail
    go_ret
    exact ⟨by rw [R0.out]; rfl, b2⟩

set_option maxHeartbeats 2000000 in
theorem stepHeap_bad (A R : Option Addr) (n c m d : Nat) (h : Hp) (o : Cm) (w : World) (hb : o.op < 1 ∨ 6 < o.op) :
    Calls Try.prog 20 #[heapV A n c R m d, cmV o] w (GaveH2 w (Hps.stepH h o).1 (Hps.stepH h o).2) := by
  have HF := Lib.hid (Hps.stepH_no (h := h) (.inr (Hps.okCm_none hb)))
  have b2 : Below w.heap.size w (((w.alloc (.cells #[.slice A n c, .slice R m d] 28)).alloc (.cells #[.int .i64 o.op, .int .i64 o.a, .int .i64 o.b, .int .i64 o.c] 36)).alloc (.cells #[.slice none 0 0, .slice none 0 0] 28)) := (((Below.refl w.heap.size w).alloc (Nat.le_refl _) _).alloc (by simp) _).alloc (by simp; omega) _
  have q1 := ((Rw.new w 28 #[.slice A n c, .slice R m d]).alloc (.cells #[.int .i64 o.op, .int .i64 o.a, .int .i64 o.b, .int .i64 o.c] 36)).alloc (.cells #[.slice none 0 0, .slice none 0 0] 28)
  have q2 := (Rw.new (w.alloc (.cells #[.slice A n c, .slice R m d] 28)) 36 #[.int .i64 o.op, .int .i64 o.a, .int .i64 o.b, .int .i64 o.c]).alloc (.cells #[.slice none 0 0, .slice none 0 0] 28)
  have q3 := Rw.new ((w.alloc (.cells #[.slice A n c, .slice R m d] 28)).alloc (.cells #[.int .i64 o.op, .int .i64 o.a, .int .i64 o.b, .int .i64 o.c] 36)) 28 #[.slice none 0 0, .slice none 0 0]
  simp only [World.size_alloc] at q2 q3
  go_enter Try.func20, Try.ntmps20
  go_wp2_with fail
  refine (operationOf_bad o _ hb).mono ?_
  rintro e w1 ⟨rfl, b1⟩
  replace q1 := (q1.keep b1 q1.lt).alloc (.cells #[.int .i64 0, .int .i64 0, .int .i64 0, .nilFunc, .nilFunc] 89)
  replace q2 := (q2.keep b1 q2.lt).alloc (.cells #[.int .i64 0, .int .i64 0, .int .i64 0, .nilFunc, .nilFunc] 89)
  replace q3 := (q3.keep b1 q3.lt).alloc (.cells #[.int .i64 0, .int .i64 0, .int .i64 0, .nilFunc, .nilFunc] 89)
  have qp := Rw.new w1 89 #[.int .i64 0, .int .i64 0, .int .i64 0, .nilFunc, .nilFunc]
  have b4 := b2.trans (b1.mono b2.size)
  have b3 := b4.alloc b4.size (.cells #[.int .i64 0, .int .i64 0, .int .i64 0, .nilFunc, .nilFunc] 89)
  clear b1 b2 b4
  go_upto_region 2 with fail
  generalize w1.alloc (.cells #[.int .i64 0, .int .i64 0, .int .i64 0, .nilFunc, .nilFunc] 89) = w2 at q1 q2 q3 qp b3 ⊢
  generalize w1.heap.size = b5 at qp ⊢
  have r2 : (w2).frozen? ⟨w.heap.size + 1 + 1, 0, none⟩ = false := q3.frozen 0
  have r3 : (w2).frozen? ⟨w.heap.size + 1 + 1, 1, none⟩ = false := q3.frozen 1
  have r4 : (w2).cell? ⟨w.heap.size + 1 + 1, 0, none⟩ = some (.slice none 0 0) := q3.cell 0
  have r5 : (w2).cell? ⟨w.heap.size + 1 + 1, 1, none⟩ = some (.slice none 0 0) := q3.cell 1
  have r6 : (((w2).setCell ⟨w.heap.size + 1 + 1, 0, none⟩ (.slice none 0 0)).setCell ⟨w.heap.size + 1 + 1, 1, none⟩ (.slice none 0 0)).cell? ⟨w.heap.size + 1 + 1, 0, none⟩ = some (.slice none 0 0) := ((q3.put 0 (.slice none 0 0)).put 1 (.slice none 0 0)).cell 0
  have r7 : (((w2).setCell ⟨w.heap.size + 1 + 1, 0, none⟩ (.slice none 0 0)).setCell ⟨w.heap.size + 1 + 1, 1, none⟩ (.slice none 0 0)).cell? ⟨w.heap.size + 1 + 1, 1, none⟩ = some (.slice none 0 0) := ((q3.put 0 (.slice none 0 0)).put 1 (.slice none 0 0)).cell 1
  have D := Lib.hid (OwnH.out (w := w) (g := w.heap.size + 1 + 1) (own_zeroH w2 w2.heap.size (Nat.le_refl _)) (by exact q3.lt) b3 (by omega))
  clear q1 q2 q3 qp b3 hb
  go_wp2_with fail
  exact bodyPost_ret (v := .tuple #[.agg #[.slice none 0 0, .slice none 0 0], .bool false]) (by simp [results, Try.results20, go_sem, *]) rfl ⟨_, _, by rw [HF.out], by rw [HF.out]; exact D.out.1, D.out.2⟩

set_option maxHeartbeats 4000000 in
theorem stepHeap_walk (f g : Nat) (x y z : Int) (A R : Option Addr) (n c m d : Nat) (h : Hp) (o : Cm) (w : World) (hs : HS w w.heap.size A n R m h) (hn : n ≤ 1099511627776) (hm : m ≤ 1099511627776) (hc : n ≤ c) (hd : m ≤ d)
    (hop : ∀ w, Calls Try.prog 66 #[cmV o] w fun e w' => e = .returned (.tuple #[opA x y z f g, .bool (Hps.okCm o)]) ∧ Below w.heap.size w w') (hf : Hps.validH h = true → Hps.okCm o = true → PossF f o h) (hg : Hps.canH h o = true → ExecF g o h)
    (hen : ∀ args w, (callFunc f args).run Try.prog w = .ok (.enter f args) w) (hen2 : ∀ args w, (callFunc g args).run Try.prog w = .ok (.enter g args) w) :
    Calls Try.prog 20 #[heapV A n c R m d, cmV o] w (GaveH2 w (Hps.stepH h o).1 (Hps.stepH h o).2) := by
  have HP0 := Lib.hid hf
  have HG := Lib.hid hg
  have HO := Lib.hid hop
  have HE := Lib.hid hen
  have HE2 := Lib.hid hen2
  clear hf hg hop hen hen2
  have b2 : Below w.heap.size w (((w.alloc (.cells #[.slice A n c, .slice R m d] 28)).alloc (.cells #[.int .i64 o.op, .int .i64 o.a, .int .i64 o.b, .int .i64 o.c] 36)).alloc (.cells #[.slice none 0 0, .slice none 0 0] 28)) := (((Below.refl w.heap.size w).alloc (Nat.le_refl _) _).alloc (by simp) _).alloc (by simp; omega) _
  have q1 := ((Rw.new w 28 #[.slice A n c, .slice R m d]).alloc (.cells #[.int .i64 o.op, .int .i64 o.a, .int .i64 o.b, .int .i64 o.c] 36)).alloc (.cells #[.slice none 0 0, .slice none 0 0] 28)
  have q2 := (Rw.new (w.alloc (.cells #[.slice A n c, .slice R m d] 28)) 36 #[.int .i64 o.op, .int .i64 o.a, .int .i64 o.b, .int .i64 o.c]).alloc (.cells #[.slice none 0 0, .slice none 0 0] 28)
  have q3 := Rw.new ((w.alloc (.cells #[.slice A n c, .slice R m d] 28)).alloc (.cells #[.int .i64 o.op, .int .i64 o.a, .int .i64 o.b, .int .i64 o.c] 36)) 28 #[.slice none 0 0, .slice none 0 0]
  simp only [World.size_alloc] at q2 q3
  go_enter Try.func20, Try.ntmps20
  go_wp2_with fail
  refine (HO.out _).mono ?_
  obtain ⟨r, ho⟩ : ∃ r, Hps.okCm o = r := ⟨_, rfl⟩
  rw [ho]
  rintro e w1 ⟨rfl, b1⟩
  replace q1 := (q1.keep b1 q1.lt).alloc (.cells #[.int .i64 x, .int .i64 y, .int .i64 z, .func (.func f) #[] #[], .func (.func g) #[] #[]] 89)
  replace q2 := (q2.keep b1 q2.lt).alloc (.cells #[.int .i64 x, .int .i64 y, .int .i64 z, .func (.func f) #[] #[], .func (.func g) #[] #[]] 89)
  replace q3 := (q3.keep b1 q3.lt).alloc (.cells #[.int .i64 x, .int .i64 y, .int .i64 z, .func (.func f) #[] #[], .func (.func g) #[] #[]] 89)
  have qp := Rw.new w1 89 #[.int .i64 x, .int .i64 y, .int .i64 z, .func (.func f) #[] #[], .func (.func g) #[] #[]]
  have b4 := b2.trans (b1.mono b2.size)
  have b3 := b4.alloc b4.size (.cells #[.int .i64 x, .int .i64 y, .int .i64 z, .func (.func f) #[] #[], .func (.func g) #[] #[]] 89)
  clear b1 b2 b4
  go_upto_region 2 with fail
  generalize w1.alloc (.cells #[.int .i64 x, .int .i64 y, .int .i64 z, .func (.func f) #[] #[], .func (.func g) #[] #[]] 89) = w2 at q1 q2 q3 qp b3 ⊢
  generalize w1.heap.size = b5 at qp ⊢
  cases r
  · have HF := Lib.hid (Hps.stepH_no (h := h) (.inr ho))
    have r2 : (w2).frozen? ⟨w.heap.size + 1 + 1, 0, none⟩ = false := q3.frozen 0
    have r3 : (w2).frozen? ⟨w.heap.size + 1 + 1, 1, none⟩ = false := q3.frozen 1
    have r4 : (w2).cell? ⟨w.heap.size + 1 + 1, 0, none⟩ = some (.slice none 0 0) := q3.cell 0
    have r5 : (w2).cell? ⟨w.heap.size + 1 + 1, 1, none⟩ = some (.slice none 0 0) := q3.cell 1
    have r6 : (((w2).setCell ⟨w.heap.size + 1 + 1, 0, none⟩ (.slice none 0 0)).setCell ⟨w.heap.size + 1 + 1, 1, none⟩ (.slice none 0 0)).cell? ⟨w.heap.size + 1 + 1, 0, none⟩ = some (.slice none 0 0) := ((q3.put 0 (.slice none 0 0)).put 1 (.slice none 0 0)).cell 0
    have r7 : (((w2).setCell ⟨w.heap.size + 1 + 1, 0, none⟩ (.slice none 0 0)).setCell ⟨w.heap.size + 1 + 1, 1, none⟩ (.slice none 0 0)).cell? ⟨w.heap.size + 1 + 1, 1, none⟩ = some (.slice none 0 0) := ((q3.put 0 (.slice none 0 0)).put 1 (.slice none 0 0)).cell 1
    have D := Lib.hid (OwnH.out (w := w) (g := w.heap.size + 1 + 1) (own_zeroH w2 w2.heap.size (Nat.le_refl _)) (by exact q3.lt) b3 (by omega))
    clear q1 q2 q3 qp b3 ho
    go_wp2_with fail
    exact bodyPost_ret (v := .tuple #[.agg #[.slice none 0 0, .slice none 0 0], .bool false]) (by simp [results, Try.results20, go_sem, *]) rfl ⟨_, _, by rw [HF.out], by rw [HF.out]; exact D.out.1, D.out.2⟩
  have HOK := Lib.hid ho
  clear ho
  have x0 : w2.cell? ⟨w.heap.size, 0, none⟩ = some (.slice A n c) := q1.cell 0
  have x1 : w2.cell? ⟨w.heap.size, 1, none⟩ = some (.slice R m d) := q1.cell 1
  have s2 := hs.up b3
  go_wp2_with fail
  refine (heapValid_any _ _ _ _ _ _ h _ s2 hn hm hc hd).mono ?_
  obtain ⟨r, hv⟩ : ∃ r, Hps.validH h = r := ⟨_, rfl⟩
  rw [hv]
  rintro e w3 ⟨rfl, b1⟩
  replace q1 := q1.keep b1 q1.lt
  replace q2 := q2.keep b1 q2.lt
  replace q3 := q3.keep b1 q3.lt
  replace qp := qp.keep b1 qp.lt
  replace b3 := b3.trans (b1.mono b3.size)
  clear b1 s2 x0 x1
  cases r
  · have HF := Lib.hid (Hps.stepH_no (o := o) (.inl hv))
    have r2 : (w3).frozen? ⟨w.heap.size + 1 + 1, 0, none⟩ = false := q3.frozen 0
    have r3 : (w3).frozen? ⟨w.heap.size + 1 + 1, 1, none⟩ = false := q3.frozen 1
    have r4 : (w3).cell? ⟨w.heap.size + 1 + 1, 0, none⟩ = some (.slice none 0 0) := q3.cell 0
    have r5 : (w3).cell? ⟨w.heap.size + 1 + 1, 1, none⟩ = some (.slice none 0 0) := q3.cell 1
    have r6 : (((w3).setCell ⟨w.heap.size + 1 + 1, 0, none⟩ (.slice none 0 0)).setCell ⟨w.heap.size + 1 + 1, 1, none⟩ (.slice none 0 0)).cell? ⟨w.heap.size + 1 + 1, 0, none⟩ = some (.slice none 0 0) := ((q3.put 0 (.slice none 0 0)).put 1 (.slice none 0 0)).cell 0
    have r7 : (((w3).setCell ⟨w.heap.size + 1 + 1, 0, none⟩ (.slice none 0 0)).setCell ⟨w.heap.size + 1 + 1, 1, none⟩ (.slice none 0 0)).cell? ⟨w.heap.size + 1 + 1, 1, none⟩ = some (.slice none 0 0) := ((q3.put 0 (.slice none 0 0)).put 1 (.slice none 0 0)).cell 1
    have D := Lib.hid (OwnH.out (w := w) (g := w.heap.size + 1 + 1) (own_zeroH w3 w3.heap.size (Nat.le_refl _)) (by exact q3.lt) b3 (by omega))
    clear q1 q2 q3 qp b3 hv
    go_wp2_with fail
    exact bodyPost_ret (v := .tuple #[.agg #[.slice none 0 0, .slice none 0 0], .bool false]) (by simp [results, Try.results20, go_sem, *]) rfl ⟨_, _, by rw [HF.out], by rw [HF.out]; exact D.out.1, D.out.2⟩
  have HV := Lib.hid hv
  have h40 := (Hps.valid_iff.1 hv).2.1
  have hlc := hs.cells.1
  have H3 := Lib.hid (fun cl (hcl : cl ∈ h.cs) => show cl.r.length ≤ 1000000 by have := (Hps.okCell_iff.1 ((Hps.valid_iff.1 hv).1 cl hcl)).2.2.1; omega)
  have HLC := Lib.hid hlc
  have hn40 : n ≤ 40 := by omega
  clear hv h40 hlc
  have x0 : w3.cell? ⟨w.heap.size, 0, none⟩ = some (.slice A n c) := q1.cell 0
  have x1 : w3.cell? ⟨w.heap.size, 1, none⟩ = some (.slice R m d) := q1.cell 1
  have s3 := hs.up b3
  have B3K := Lib.hid b3
  have Q3K := Lib.hid q3
  go_wp2_with fail
  refine (cloneHeap_any _ _ _ _ _ _ h _ s3 hn hm H3.out).mono ?_
  rintro e w4 ⟨vc, vr, rfl, ow, b1⟩
  have hsz3 := q3.lt
  obtain ⟨rvs, BS0⟩ := BoxSt.of ow b1
  obtain ⟨A5, n5, c5, R5, m5, d5, rfl, rfl⟩ := ow.slices
  replace q1 := (q1.keep b1 q1.lt).alloc (.cells #[.slice A5 n5 c5, .slice R5 m5 d5] 28)
  replace q2 := (q2.keep b1 q2.lt).alloc (.cells #[.slice A5 n5 c5, .slice R5 m5 d5] 28)
  replace q3 := (q3.keep b1 q3.lt).alloc (.cells #[.slice A5 n5 c5, .slice R5 m5 d5] 28)
  replace qp := (qp.keep b1 qp.lt).alloc (.cells #[.slice A5 n5 c5, .slice R5 m5 d5] 28)
  replace b3 := b3.trans (b1.mono b3.size)
  have b6 := b3.alloc b3.size (.cells #[.slice A5 n5 c5, .slice R5 m5 d5] 28)
  clear b1 b3 s3 x0 x1 ow
  go_upto_region 5 with fail
  generalize w4.alloc (.cells #[.slice A5 n5 c5, .slice R5 m5 d5] 28) = w5 at q1 q2 q3 qp b6 BS0 ⊢
  generalize w4.heap.size = b8 at BS0 ⊢
  have x0 : w5.cell? ⟨w.heap.size, 0, none⟩ = some (.slice A n c) := q1.cell 0
  have x1 : w5.cell? ⟨w.heap.size, 1, none⟩ = some (.slice R m d) := q1.cell 1
  have y0 : w5.cell? ⟨w.heap.size + 1, 0, none⟩ = some (.int .i64 o.op) := q2.cell 0
  have y1 : w5.cell? ⟨w.heap.size + 1, 1, none⟩ = some (.int .i64 o.a) := q2.cell 1
  have y2 : w5.cell? ⟨w.heap.size + 1, 2, none⟩ = some (.int .i64 o.b) := q2.cell 2
  have y3 : w5.cell? ⟨w.heap.size + 1, 3, none⟩ = some (.int .i64 o.c) := q2.cell 3
  have z3 : w5.cell? ⟨b5, 3, none⟩ = some (.func (.func f) #[] #[]) := qp.cell 3
  have s5 := hs.up b6
  have hen := HE.out
  go_wp2_with fail
  clear hen
  refine (HP0.out HV.out HOK.out A R n c m d w5 s5 hn hm hc hd).mono ?_
  obtain ⟨r, hr⟩ : ∃ r, Hps.canH h o = r := ⟨_, rfl⟩
  rw [hr]
  rintro e w6 ⟨rfl, b1⟩
  replace q1 := q1.keep b1 q1.lt
  replace q2 := q2.keep b1 q2.lt
  replace q3 := q3.keep b1 q3.lt
  replace qp := qp.keep b1 qp.lt
  replace b6 := b6.trans (b1.mono b6.size)
  replace BS0 := BS0.up b1
  clear b1 s5 x0 x1 y0 y1 y2 y3 z3
  have v0 : w6.cell? ⟨b8, 0, none⟩ = some (.slice A5 n5 c5) := BS0.box.cell 0
  have v1 : w6.cell? ⟨b8, 1, none⟩ = some (.slice R5 m5 d5) := BS0.box.cell 1
  cases r
  · have HF := Lib.hid (Hps.stepH_cannot HV.out HOK.out hr)
    have r2 : (w6).frozen? ⟨w.heap.size + 1 + 1, 0, none⟩ = false := q3.frozen 0
    have r3 : (w6).frozen? ⟨w.heap.size + 1 + 1, 1, none⟩ = false := q3.frozen 1
    have r4 : (w6).cell? ⟨w.heap.size + 1 + 1, 0, none⟩ = some (.slice none 0 0) := q3.cell 0
    have r5 : (w6).cell? ⟨w.heap.size + 1 + 1, 1, none⟩ = some (.slice none 0 0) := q3.cell 1
    have r6 : (((w6).setCell ⟨w.heap.size + 1 + 1, 0, none⟩ (.slice A5 n5 c5)).setCell ⟨w.heap.size + 1 + 1, 1, none⟩ (.slice R5 m5 d5)).cell? ⟨w.heap.size + 1 + 1, 0, none⟩ = some (.slice A5 n5 c5) := ((q3.put 0 (.slice A5 n5 c5)).put 1 (.slice R5 m5 d5)).cell 0
    have r7 : (((w6).setCell ⟨w.heap.size + 1 + 1, 0, none⟩ (.slice A5 n5 c5)).setCell ⟨w.heap.size + 1 + 1, 1, none⟩ (.slice R5 m5 d5)).cell? ⟨w.heap.size + 1 + 1, 1, none⟩ = some (.slice R5 m5 d5) := ((q3.put 0 (.slice A5 n5 c5)).put 1 (.slice R5 m5 d5)).cell 1
    have D := Lib.hid (OwnH.out (w := w) (g := w.heap.size + 1 + 1) BS0.ownH (by omega) b6 (by omega))
    clear q1 q2 q3 qp b6 BS0 hr
    go_wp2_with fail
    exact bodyPost_ret (v := .tuple #[.agg #[.slice A5 n5 c5, .slice R5 m5 d5], .bool false]) (by simp [results, Try.results20, go_sem, *]) rfl ⟨_, _, by rw [HF.out], by rw [HF.out]; exact D.out.1, D.out.2⟩
  have HC := Lib.hid hr
  clear hr
  have x0 : w6.cell? ⟨w.heap.size, 0, none⟩ = some (.slice A n c) := q1.cell 0
  have x1 : w6.cell? ⟨w.heap.size, 1, none⟩ = some (.slice R m d) := q1.cell 1
  have y0 : w6.cell? ⟨w.heap.size + 1, 0, none⟩ = some (.int .i64 o.op) := q2.cell 0
  have y1 : w6.cell? ⟨w.heap.size + 1, 1, none⟩ = some (.int .i64 o.a) := q2.cell 1
  have y2 : w6.cell? ⟨w.heap.size + 1, 2, none⟩ = some (.int .i64 o.b) := q2.cell 2
  have y3 : w6.cell? ⟨w.heap.size + 1, 3, none⟩ = some (.int .i64 o.c) := q2.cell 3
  go_wp2_with fail
  refine (hasRoom_any A R n c m d o w6).mono ?_
  obtain ⟨r, hr⟩ : ∃ r, decide (¬ (o.op = 1 ∧ 40 ≤ n)) = r := ⟨_, rfl⟩
  rw [hr]
  rintro e w7 ⟨rfl, b1⟩
  replace q1 := q1.keep b1 q1.lt
  replace q2 := q2.keep b1 q2.lt
  replace q3 := q3.keep b1 q3.lt
  replace qp := qp.keep b1 qp.lt
  replace b6 := b6.trans (b1.mono b6.size)
  replace BS0 := BS0.up b1
  clear b1 x0 x1 y0 y1 y2 y3 v0 v1
  cases r
  · have v0 : w7.cell? ⟨b8, 0, none⟩ = some (.slice A5 n5 c5) := BS0.box.cell 0
    have v1 : w7.cell? ⟨b8, 1, none⟩ = some (.slice R5 m5 d5) := BS0.box.cell 1
    have HF := Lib.hid (show Hps.stepH h o = (h, false) by
      have hr := of_decide_eq_false hr
      have h1 : o.op = 1 := by omega
      have h2 : 40 ≤ n := by omega
      exact Hps.stepH_full HV.out HOK.out h1 (by rw [HLC.out]; omega))
    have r2 : (w7).frozen? ⟨w.heap.size + 1 + 1, 0, none⟩ = false := q3.frozen 0
    have r3 : (w7).frozen? ⟨w.heap.size + 1 + 1, 1, none⟩ = false := q3.frozen 1
    have r4 : (w7).cell? ⟨w.heap.size + 1 + 1, 0, none⟩ = some (.slice none 0 0) := q3.cell 0
    have r5 : (w7).cell? ⟨w.heap.size + 1 + 1, 1, none⟩ = some (.slice none 0 0) := q3.cell 1
    have r6 : (((w7).setCell ⟨w.heap.size + 1 + 1, 0, none⟩ (.slice A5 n5 c5)).setCell ⟨w.heap.size + 1 + 1, 1, none⟩ (.slice R5 m5 d5)).cell? ⟨w.heap.size + 1 + 1, 0, none⟩ = some (.slice A5 n5 c5) := ((q3.put 0 (.slice A5 n5 c5)).put 1 (.slice R5 m5 d5)).cell 0
    have r7 : (((w7).setCell ⟨w.heap.size + 1 + 1, 0, none⟩ (.slice A5 n5 c5)).setCell ⟨w.heap.size + 1 + 1, 1, none⟩ (.slice R5 m5 d5)).cell? ⟨w.heap.size + 1 + 1, 1, none⟩ = some (.slice R5 m5 d5) := ((q3.put 0 (.slice A5 n5 c5)).put 1 (.slice R5 m5 d5)).cell 1
    have D := Lib.hid (OwnH.out (w := w) (g := w.heap.size + 1 + 1) BS0.ownH (by omega) b6 (by omega))
    clear q1 q2 q3 qp b6 BS0 hr
    go_wp2_with fail
    exact bodyPost_ret (v := .tuple #[.agg #[.slice A5 n5 c5, .slice R5 m5 d5], .bool false]) (by simp [results, Try.results20, go_sem, *]) rfl ⟨_, _, by rw [HF.out], by rw [HF.out]; exact D.out.1, D.out.2⟩
  have HF := Lib.hid (Hps.stepH_does HV.out HOK.out HC.out (by
    have hr := of_decide_eq_true hr
    rw [HLC.out]
    omega))
  clear hr
  have y0 : w7.cell? ⟨w.heap.size + 1, 0, none⟩ = some (.int .i64 o.op) := q2.cell 0
  have y1 : w7.cell? ⟨w.heap.size + 1, 1, none⟩ = some (.int .i64 o.a) := q2.cell 1
  have y2 : w7.cell? ⟨w.heap.size + 1, 2, none⟩ = some (.int .i64 o.b) := q2.cell 2
  have y3 : w7.cell? ⟨w.heap.size + 1, 3, none⟩ = some (.int .i64 o.c) := q2.cell 3
  have z4 : w7.cell? ⟨b5, 4, none⟩ = some (.func (.func g) #[] #[]) := qp.cell 4
  have hen2 := HE2.out
  go_wp2_with fail
  clear hen2
  refine (HG.out HC.out _ _ _ _ _ _ BS0).mono ?_
  rintro e w8 ⟨⟨ev, rfl⟩, vc', vr', rvs', BS1⟩
  replace q3 := Q3K.out.keep BS1.low hsz3
  have b9 : Below w.heap.size w w8 := B3K.out.trans (BS1.low.mono B3K.out.size)
  obtain ⟨A6, n6, c6, R6, m6, d6, rfl, rfl⟩ := BS1.ownH.slices
  clear y0 y1 y2 y3 z4 q1 q2 qp BS0
  have v0 : w8.cell? ⟨b8, 0, none⟩ = some (.slice A6 n6 c6) := BS1.box.cell 0
  have v1 : w8.cell? ⟨b8, 1, none⟩ = some (.slice R6 m6 d6) := BS1.box.cell 1
  have r2 : (w8).frozen? ⟨w.heap.size + 1 + 1, 0, none⟩ = false := q3.frozen 0
  have r3 : (w8).frozen? ⟨w.heap.size + 1 + 1, 1, none⟩ = false := q3.frozen 1
  have r4 : (w8).cell? ⟨w.heap.size + 1 + 1, 0, none⟩ = some (.slice none 0 0) := q3.cell 0
  have r5 : (w8).cell? ⟨w.heap.size + 1 + 1, 1, none⟩ = some (.slice none 0 0) := q3.cell 1
  have r6 : (((w8).setCell ⟨w.heap.size + 1 + 1, 0, none⟩ (.slice A6 n6 c6)).setCell ⟨w.heap.size + 1 + 1, 1, none⟩ (.slice R6 m6 d6)).cell? ⟨w.heap.size + 1 + 1, 0, none⟩ = some (.slice A6 n6 c6) := ((q3.put 0 (.slice A6 n6 c6)).put 1 (.slice R6 m6 d6)).cell 0
  have r7 : (((w8).setCell ⟨w.heap.size + 1 + 1, 0, none⟩ (.slice A6 n6 c6)).setCell ⟨w.heap.size + 1 + 1, 1, none⟩ (.slice R6 m6 d6)).cell? ⟨w.heap.size + 1 + 1, 1, none⟩ = some (.slice R6 m6 d6) := ((q3.put 0 (.slice A6 n6 c6)).put 1 (.slice R6 m6 d6)).cell 1
  have D := Lib.hid (OwnH.out (w := w) (g := w.heap.size + 1 + 1) BS1.ownH (by omega) b9 (by omega))
  clear q3 b9 BS1
  go_wp2_with fail
  exact bodyPost_ret (v := .tuple #[.agg #[.slice A6 n6 c6, .slice R6 m6 d6], .bool true]) (by simp [results, Try.results20, go_sem, *]) rfl ⟨_, _, by rw [HF.out], by rw [HF.out]; exact D.out.1, D.out.2⟩

theorem exec_1 {a b cc : Int} {h : Hp} (hc : Hps.canH h ⟨1, a, b, cc⟩ = true) : ExecF 142 ⟨1, a, b, cc⟩ h := by
  obtain ⟨hv, ho⟩ := Hps.canH_parts hc
  obtain ⟨⟨a1, a2⟩, ⟨b1, b2⟩, _⟩ := (Hps.okCm_new rfl).1 ho
  simp only at a1 a2 b1 b2
  obtain ⟨a, rfl⟩ := Int.eq_ofNat_of_zero_le a1
  obtain ⟨b, rfl⟩ := Int.eq_ofNat_of_zero_le b1
  exact exec_new hv (by omega) (by omega)
theorem exec_2 {a b cc : Int} {h : Hp} (hc : Hps.canH h ⟨2, a, b, cc⟩ = true) : ExecF 144 ⟨2, a, b, cc⟩ h := by
  obtain ⟨hv, ho⟩ := Hps.canH_parts hc
  rw [Hps.canH_get hv ho rfl] at hc
  obtain ⟨⟨a1, a2⟩, ⟨b1, b2⟩, ⟨c1, c2⟩⟩ := (Hps.okCm_get (.inl rfl)).1 ho
  simp only at a1 a2 b1 b2 c1 c2 hc
  obtain ⟨a, rfl⟩ := Int.eq_ofNat_of_zero_le a1
  obtain ⟨b, rfl⟩ := Int.eq_ofNat_of_zero_le b1
  obtain ⟨cc, rfl⟩ := Int.eq_ofNat_of_zero_le c1
  obtain ⟨k, cl, hk, hcl, hp⟩ := Hps.placeH_iff.1 hc
  exact exec_get hv (by omega) (by omega) hk hcl (by omega)
theorem exec_3 {a b cc : Int} {h : Hp} (hc : Hps.canH h ⟨3, a, b, cc⟩ = true) : ExecF 146 ⟨3, a, b, cc⟩ h := by
  obtain ⟨hv, ho⟩ := Hps.canH_parts hc
  rw [Hps.canH_set hv ho rfl] at hc
  obtain ⟨⟨a1, a2⟩, ⟨b1, b2⟩, ⟨c1, c2⟩⟩ := (Hps.okCm_get (.inr rfl)).1 ho
  simp only at a1 a2 b1 b2 c1 c2 hc
  obtain ⟨a, rfl⟩ := Int.eq_ofNat_of_zero_le a1
  obtain ⟨b, rfl⟩ := Int.eq_ofNat_of_zero_le b1
  obtain ⟨cc, rfl⟩ := Int.eq_ofNat_of_zero_le c1
  obtain ⟨k, cl, hk, hcl, hp⟩ := Hps.placeH_iff.1 hc
  exact exec_set hv (by omega) (by omega) hk hcl (by omega)
theorem exec_4 {a b cc : Int} {h : Hp} (hc : Hps.canH h ⟨4, a, b, cc⟩ = true) : ExecF 147 ⟨4, a, b, cc⟩ h := by
  obtain ⟨hv, ho⟩ := Hps.canH_parts hc
  obtain ⟨⟨a1, a2⟩, ⟨b1, b2⟩, _⟩ := (Hps.okCm_copy rfl).1 ho
  simp only at a1 a2 b1 b2
  obtain ⟨a, rfl⟩ := Int.eq_ofNat_of_zero_le a1
  obtain ⟨b, rfl⟩ := Int.eq_ofNat_of_zero_le b1
  exact exec_copy hv (by omega) (by omega)
theorem exec_5 {a b cc : Int} {h : Hp} (hc : Hps.canH h ⟨5, a, b, cc⟩ = true) : ExecF 148 ⟨5, a, b, cc⟩ h := by
  obtain ⟨hv, ho⟩ := Hps.canH_parts hc
  obtain ⟨a1, a2⟩ := Hps.okCm_a ho
  simp only at a1 a2
  obtain ⟨a, rfl⟩ := Int.eq_ofNat_of_zero_le a1
  exact exec_drop hv (by omega)
theorem exec_6 {a b cc : Int} {h : Hp} (hc : Hps.canH h ⟨6, a, b, cc⟩ = true) : ExecF 150 ⟨6, a, b, cc⟩ h := by
  obtain ⟨hv, ho⟩ := Hps.canH_parts hc
  obtain ⟨a1, a2⟩ := Hps.okCm_a ho
  rw [Hps.canH_data hv ho rfl, decide_eq_true_iff] at hc
  simp only at a1 a2 hc
  obtain ⟨a, rfl⟩ := Int.eq_ofNat_of_zero_le a1
  have hr4 := (Hps.valid_iff.1 hv).2.2.1
  have hx := List.getElem?_eq_getElem (show a < h.rt.length by omega)
  generalize h.rt[a]'(by omega) = x at hx
  have hk := Hps.rootAt_nat hx
  rw [hk] at hc
  obtain ⟨k, rfl⟩ := Int.eq_ofNat_of_zero_le hc
  obtain ⟨k', e, hl, _⟩ := Hps.okRef_nat (Hps.valid_root hv hx) hc
  have e : k = k' := by omega
  subst e
  exact exec_data hv (by omega) hk (List.getElem?_eq_getElem hl)
theorem stepHeap_any (A R : Option Addr) (n c m d : Nat) (h : Hp) (o : Cm) (w : World) (hs : HS w w.heap.size A n R m h) (hn : n ≤ 1099511627776) (hm : m ≤ 1099511627776) (hc : n ≤ c) (hd : m ≤ d) :
    Calls Try.prog 20 #[heapV A n c R m d, cmV o] w (GaveH2 w (Hps.stepH h o).1 (Hps.stepH h o).2) := by
  by_cases hb : o.op < 1 ∨ 6 < o.op
  · exact stepHeap_bad A R n c m d h o w hb
  · obtain ⟨op, a, b, cc⟩ := o
    simp only at hb
    obtain rfl | rfl | rfl | rfl | rfl | rfl : op = 1 ∨ op = 2 ∨ op = 3 ∨ op = 4 ∨ op = 5 ∨ op = 6 := by omega
    · exact stepHeap_walk _ _ _ _ _ A R n c m d h _ w hs hn hm hc hd (operationOf_1 a b cc) (fun hv ho => poss_always (Hps.canH_else hv ho (by simp) (by simp) (by simp))) exec_1 (run_entered Try.func141 (by decide) (by rfl)) (run_entered Try.func142 (by decide) (by rfl))
    · exact stepHeap_walk _ _ _ _ _ A R n c m d h _ w hs hn hm hc hd (operationOf_2 a b cc) (fun hv ho => poss_get hv ho rfl) exec_2 (run_entered Try.func143 (by decide) (by rfl)) (run_entered Try.func144 (by decide) (by rfl))
    · exact stepHeap_walk _ _ _ _ _ A R n c m d h _ w hs hn hm hc hd (operationOf_3 a b cc) (fun hv ho => poss_set hv ho rfl) exec_3 (run_entered Try.func145 (by decide) (by rfl)) (run_entered Try.func146 (by decide) (by rfl))
    · exact stepHeap_walk _ _ _ _ _ A R n c m d h _ w hs hn hm hc hd (operationOf_4 a b cc) (fun hv ho => poss_always (Hps.canH_else hv ho (by simp) (by simp) (by simp))) exec_4 (run_entered Try.func141 (by decide) (by rfl)) (run_entered Try.func147 (by decide) (by rfl))
    · exact stepHeap_walk _ _ _ _ _ A R n c m d h _ w hs hn hm hc hd (operationOf_5 a b cc) (fun hv ho => poss_always (Hps.canH_else hv ho (by simp) (by simp) (by simp))) exec_5 (run_entered Try.func141 (by decide) (by rfl)) (run_entered Try.func148 (by decide) (by rfl))
    · exact stepHeap_walk _ _ _ _ _ A R n c m d h _ w hs hn hm hc hd (operationOf_6 a b cc) (fun hv ho => poss_data hv ho rfl) exec_6 (run_entered Try.func149 (by decide) (by rfl)) (run_entered Try.func150 (by decide) (by rfl))
end Go.Proofs.Ytmjejcfifkbkoaa
