/- What the model's StepHeap and RunHeap return: for every heap and instruction, and for every program. No conditions. -/
import Derived.Test.YtakdjiojahlnmaaKe
import Derived.Test.YtakdjiojahlnmaaGc
namespace Go.Proofs.Ytakdjiojahlnmaa
open Go.RowKit
set_option maxRecDepth 100000

/-- a heap of the call's own, and a bool -/
def GaveH2 (w : World) (h : Hp) (ok : Bool) (e : Ending) (w' : World) : Prop := ∃ vc vr, e = .returned (.tuple #[.agg #[vc, vr], .bool ok]) ∧ OwnH w' w.heap.size vc vr h ∧ Below w.heap.size w w'
theorem own_zeroH (w : World) (base : Nat) (_hb : base ≤ w.heap.size) : OwnH w base (.slice none 0 0) (.slice none 0 0) Hps.zeroH := by
  refine ⟨[], rfl, World.ownsRow_nil _ _ _ _, fun k c v hc => by simp [Hps.zeroH] at hc, World.ownsRow_nil _ _ _ _, ?_⟩
  simp [Sep, Value.ownBlock]
/-- a heap of the call's own goes into the box of a result -/
theorem OwnH.out {w wr : World} {base g : Nat} {vc vr : Value} {h : Hp} (ho : OwnH wr base vc vr h) (hg : g < base) (hb : Below w.heap.size w wr) (hw : w.heap.size ≤ g) :
    OwnH ((wr.setCell ⟨g, 0, none⟩ vc).setCell ⟨g, 1, none⟩ vr) w.heap.size vc vr h ∧ Below w.heap.size w ((wr.setCell ⟨g, 0, none⟩ vc).setCell ⟨g, 1, none⟩ vr) := by
  obtain ⟨rvs, own⟩ := ho
  have ap : Apart (some g) (vc :: vr :: rvs) := own.apart_below hg
  exact ⟨⟨rvs, ((own.far (put_any wr g 0 vc) ap).far (put_any _ g 1 vr) ap).base (by omega)⟩, (hb.setCell (p := ⟨g, 0, none⟩) hw vc).setCell (p := ⟨g, 1, none⟩) hw vr⟩
theorem OwnH.base {w : World} {base base' : Nat} {vc vr : Value} {h : Hp} (ho : OwnH w base vc vr h) (hb : base' ≤ base) : OwnH w base' vc vr h := by
  obtain ⟨rvs, own⟩ := ho
  exact ⟨rvs, own.base hb⟩
theorem OwnH.below {w w' : World} {base B : Nat} {vc vr : Value} {h : Hp} (ho : OwnH w base vc vr h) (hb : Below B w w') (hB : w.heap.size ≤ B) : OwnH w' base vc vr h := by
  obtain ⟨rvs, own⟩ := ho
  exact ⟨rvs, own.below hb hB⟩
theorem OwnH.form {w : World} {base : Nat} {vc vr : Value} {h : Hp} (ho : OwnH w base vc vr h) : ∃ A c R d, vc = .slice A h.cs.length c ∧ vr = .slice R h.rt.length d ∧ HS w w.heap.size A h.cs.length R h.rt.length h := by
  obtain ⟨rvs, own⟩ := ho
  obtain ⟨A, c, R, d, rfl, rfl, _⟩ := own.form
  exact ⟨A, c, R, d, rfl, rfl, own.reads⟩
theorem OwnH.slices {w : World} {base : Nat} {vc vr : Value} {h : Hp} (ho : OwnH w base vc vr h) : ∃ A n c R m d, vc = .slice A n c ∧ vr = .slice R m d := by
  obtain ⟨A, c, R, d, e1, e2, _⟩ := ho.form
  exact ⟨A, _, c, R, _, d, e1, e2⟩

namespace Hps
theorem stepH_no {h : Hp} {o : Cm} (e : validH h = false ∨ okCm o = false) : stepH h o = (zeroH, false) := by
  unfold stepH
  rcases e with e | e <;> simp [e]
theorem stepH_cannot {h : Hp} {o : Cm} (h1 : validH h = true) (h2 : okCm o = true) (h3 : canH h o = false) : stepH h o = (h, false) := by simp [stepH, h1, h2, h3]
theorem stepH_full {h : Hp} {o : Cm} (h1 : validH h = true) (h2 : okCm o = true) (h3 : o.op = 1) (h4 : h.cs.length = 40) : stepH h o = (h, false) := by simp [stepH, h1, h2, h3, h4]
theorem stepH_does {h : Hp} {o : Cm} (h1 : validH h = true) (h2 : okCm o = true) (h3 : canH h o = true) (h4 : ¬ (o.op = 1 ∧ h.cs.length = 40)) : stepH h o = (doH h o h.cs.length, true) := by
  simp [stepH, h1, h2, h3]
  intro h5 h6
  exact h4 ⟨h5, h6⟩
end Hps

set_option maxHeartbeats 4000000 in
theorem mStepHeap_any (A R : Option Addr) (n c m d : Nat) (h : Hp) (o : Cm) (w : World) (hs : HS w w.heap.size A n R m h) (hn : n ≤ 1099511627776) (hm : m ≤ 1099511627776) :
    Calls Try.prog 100 #[heapV A n c R m d, cmV o] w (GaveH2 w (Hps.stepH h o).1 (Hps.stepH h o).2) := by
  have b2 : Below w.heap.size w (((w.alloc (.cells #[.slice A n c, .slice R m d] 26)).alloc (.cells #[.int .i64 o.op, .int .i64 o.a, .int .i64 o.b, .int .i64 o.c] 128)).alloc (.cells #[.slice none 0 0, .slice none 0 0] 26)) := (((Below.refl w.heap.size w).alloc (Nat.le_refl _) _).alloc (by simp) _).alloc (by simp; omega) _
  have s2 := hs.up b2
  have q1 := ((Rw.new w 26 #[.slice A n c, .slice R m d]).alloc (.cells #[.int .i64 o.op, .int .i64 o.a, .int .i64 o.b, .int .i64 o.c] 128)).alloc (.cells #[.slice none 0 0, .slice none 0 0] 26)
  have q2 := (Rw.new (w.alloc (.cells #[.slice A n c, .slice R m d] 26)) 128 #[.int .i64 o.op, .int .i64 o.a, .int .i64 o.b, .int .i64 o.c]).alloc (.cells #[.slice none 0 0, .slice none 0 0] 26)
  have q3 := Rw.new ((w.alloc (.cells #[.slice A n c, .slice R m d] 26)).alloc (.cells #[.int .i64 o.op, .int .i64 o.a, .int .i64 o.b, .int .i64 o.c] 128)) 26 #[.slice none 0 0, .slice none 0 0]
  simp only [World.size_alloc] at q2 q3
  go_enter Try.func100, Try.ntmps100
  go_wp2_with fail
  refine (mHeapValid_any _ _ _ _ _ _ h _ s2 hn hm).mono ?_
  rintro e w1 ⟨rfl, b1⟩
  replace q1 := q1.keep b1 q1.lt
  replace q2 := q2.keep b1 q2.lt
  replace q3 := q3.keep b1 q3.lt
  replace b2 := b2.trans (b1.mono b2.size)
  clear b1 s2
  cases hv : Hps.validH h
  · have HF := Lib.hid (Hps.stepH_no (o := o) (.inl hv))
    have r2 : (w1).frozen? ⟨w.heap.size + 1 + 1, 0, none⟩ = false := q3.frozen 0
    have r3 : (w1).frozen? ⟨w.heap.size + 1 + 1, 1, none⟩ = false := q3.frozen 1
    have r4 : (w1).cell? ⟨w.heap.size + 1 + 1, 0, none⟩ = some (.slice none 0 0) := q3.cell 0
    have r5 : (w1).cell? ⟨w.heap.size + 1 + 1, 1, none⟩ = some (.slice none 0 0) := q3.cell 1
    have r6 : (((w1).setCell ⟨w.heap.size + 1 + 1, 0, none⟩ (.slice none 0 0)).setCell ⟨w.heap.size + 1 + 1, 1, none⟩ (.slice none 0 0)).cell? ⟨w.heap.size + 1 + 1, 0, none⟩ = some (.slice none 0 0) := ((q3.put 0 (.slice none 0 0)).put 1 (.slice none 0 0)).cell 0
    have r7 : (((w1).setCell ⟨w.heap.size + 1 + 1, 0, none⟩ (.slice none 0 0)).setCell ⟨w.heap.size + 1 + 1, 1, none⟩ (.slice none 0 0)).cell? ⟨w.heap.size + 1 + 1, 1, none⟩ = some (.slice none 0 0) := ((q3.put 0 (.slice none 0 0)).put 1 (.slice none 0 0)).cell 1
    have D : Hid (OwnH (((w1).setCell ⟨w.heap.size + 1 + 1, 0, none⟩ (.slice none 0 0)).setCell ⟨w.heap.size + 1 + 1, 1, none⟩ (.slice none 0 0)) w.heap.size (.slice none 0 0) (.slice none 0 0) Hps.zeroH ∧ Below w.heap.size w (((w1).setCell ⟨w.heap.size + 1 + 1, 0, none⟩ (.slice none 0 0)).setCell ⟨w.heap.size + 1 + 1, 1, none⟩ (.slice none 0 0))) := Lib.hid ((own_zeroH w1 w1.heap.size (Nat.le_refl _)).out q3.lt b2 (by omega))
    clear q1 q2 q3 b2
    go_wp2_with fail
    exact bodyPost_ret (v := .tuple #[.agg #[.slice none 0 0, .slice none 0 0], .bool false]) (by simp [results, Try.results100, go_sem, *]) rfl ⟨_, _, by rw [HF.out], by rw [HF.out]; exact D.out.1, D.out.2⟩
  have s2 := hs.up b2
  have z0 : w1.cell? ⟨w.heap.size + 1, 0, none⟩ = some (.int .i64 o.op) := q2.cell 0
  have z1 : w1.cell? ⟨w.heap.size + 1, 1, none⟩ = some (.int .i64 o.a) := q2.cell 1
  have z2 : w1.cell? ⟨w.heap.size + 1, 2, none⟩ = some (.int .i64 o.b) := q2.cell 2
  have z3 : w1.cell? ⟨w.heap.size + 1, 3, none⟩ = some (.int .i64 o.c) := q2.cell 3
  go_wp2_with fail
  refine (mCommandValid_any o _).mono ?_
  rintro e w3 ⟨rfl, b1⟩
  replace q1 := q1.keep b1 q1.lt
  replace q2 := q2.keep b1 q2.lt
  replace q3 := q3.keep b1 q3.lt
  replace b2 := b2.trans (b1.mono b2.size)
  clear b1 s2 z0 z1 z2 z3
  cases ho : Hps.okCm o
  · have HF := Lib.hid (Hps.stepH_no (h := h) (.inr ho))
    have r2 : (w3).frozen? ⟨w.heap.size + 1 + 1, 0, none⟩ = false := q3.frozen 0
    have r3 : (w3).frozen? ⟨w.heap.size + 1 + 1, 1, none⟩ = false := q3.frozen 1
    have r4 : (w3).cell? ⟨w.heap.size + 1 + 1, 0, none⟩ = some (.slice none 0 0) := q3.cell 0
    have r5 : (w3).cell? ⟨w.heap.size + 1 + 1, 1, none⟩ = some (.slice none 0 0) := q3.cell 1
    have r6 : (((w3).setCell ⟨w.heap.size + 1 + 1, 0, none⟩ (.slice none 0 0)).setCell ⟨w.heap.size + 1 + 1, 1, none⟩ (.slice none 0 0)).cell? ⟨w.heap.size + 1 + 1, 0, none⟩ = some (.slice none 0 0) := ((q3.put 0 (.slice none 0 0)).put 1 (.slice none 0 0)).cell 0
    have r7 : (((w3).setCell ⟨w.heap.size + 1 + 1, 0, none⟩ (.slice none 0 0)).setCell ⟨w.heap.size + 1 + 1, 1, none⟩ (.slice none 0 0)).cell? ⟨w.heap.size + 1 + 1, 1, none⟩ = some (.slice none 0 0) := ((q3.put 0 (.slice none 0 0)).put 1 (.slice none 0 0)).cell 1
    have D : Hid (OwnH (((w3).setCell ⟨w.heap.size + 1 + 1, 0, none⟩ (.slice none 0 0)).setCell ⟨w.heap.size + 1 + 1, 1, none⟩ (.slice none 0 0)) w.heap.size (.slice none 0 0) (.slice none 0 0) Hps.zeroH ∧ Below w.heap.size w (((w3).setCell ⟨w.heap.size + 1 + 1, 0, none⟩ (.slice none 0 0)).setCell ⟨w.heap.size + 1 + 1, 1, none⟩ (.slice none 0 0))) := Lib.hid ((own_zeroH w3 w3.heap.size (Nat.le_refl _)).out q3.lt b2 (by omega))
    clear q1 q2 q3 b2
    go_wp2_with fail
    exact bodyPost_ret (v := .tuple #[.agg #[.slice none 0 0, .slice none 0 0], .bool false]) (by simp [results, Try.results100, go_sem, *]) rfl ⟨_, _, by rw [HF.out], by rw [HF.out]; exact D.out.1, D.out.2⟩
  have s2 := hs.up b2
  have x0 : w3.cell? ⟨w.heap.size, 0, none⟩ = some (.slice A n c) := q1.cell 0
  have x1 : w3.cell? ⟨w.heap.size, 1, none⟩ = some (.slice R m d) := q1.cell 1
  have z0 : w3.cell? ⟨w.heap.size + 1, 0, none⟩ = some (.int .i64 o.op) := q2.cell 0
  have z1 : w3.cell? ⟨w.heap.size + 1, 1, none⟩ = some (.int .i64 o.a) := q2.cell 1
  have z2 : w3.cell? ⟨w.heap.size + 1, 2, none⟩ = some (.int .i64 o.b) := q2.cell 2
  have z3 : w3.cell? ⟨w.heap.size + 1, 3, none⟩ = some (.int .i64 o.c) := q2.cell 3
  go_wp2_with fail
  refine (mCommandPossible_any _ _ _ _ _ _ h o _ s2 hn hm).mono ?_
  rintro e w4 ⟨rfl, b1⟩
  replace q1 := q1.keep b1 q1.lt
  replace q2 := q2.keep b1 q2.lt
  replace q3 := q3.keep b1 q3.lt
  replace b2 := b2.trans (b1.mono b2.size)
  clear b1 s2 z0 z1 z2 z3 x0 x1
  have s2 := hs.up b2
  have x0 : w4.cell? ⟨w.heap.size, 0, none⟩ = some (.slice A n c) := q1.cell 0
  have x1 : w4.cell? ⟨w.heap.size, 1, none⟩ = some (.slice R m d) := q1.cell 1
  have z0 : w4.cell? ⟨w.heap.size + 1, 0, none⟩ = some (.int .i64 o.op) := q2.cell 0
  have z1 : w4.cell? ⟨w.heap.size + 1, 1, none⟩ = some (.int .i64 o.a) := q2.cell 1
  have z2 : w4.cell? ⟨w.heap.size + 1, 2, none⟩ = some (.int .i64 o.b) := q2.cell 2
  have z3 : w4.cell? ⟨w.heap.size + 1, 3, none⟩ = some (.int .i64 o.c) := q2.cell 3
  have h40 := (Hps.valid_iff.1 hv).2.1
  have hr4 := (Hps.valid_iff.1 hv).2.2.1
  have hlc := hs.cells.1
  have hlr := hs.roots.1
  have hn4 : n ≤ 40 := by omega
  have hm4 : m ≤ 4 := by omega
  have HL := Lib.hid hlc
  have H3 := Lib.hid (fun cl (hcl : cl ∈ h.cs) => show cl.r.length ≤ 1000000 by have := (Hps.okCell_iff.1 ((Hps.valid_iff.1 hv).1 cl hcl)).2.2.1; omega)
  clear h40 hr4 hlr hlc
  have hsz : w.heap.size + 3 ≤ w4.heap.size := by have := q3.lt; omega
  cases hc : Hps.canH h o
  · have HF := Lib.hid (Hps.stepH_cannot hv ho hc)
    clear hv ho hc
    go_wp2_with fail
    refine (l7Copy_any _ _ _ _ _ _ h _ s2 (by omega) (by omega) H3.out).mono ?_
    rintro e w5 ⟨vc, vr, rfl, oh, b1⟩
    obtain ⟨A5, n5, c5, R5, m5, d5, rfl, rfl⟩ := oh.slices
    replace q3 := q3.keep b1 q3.lt
    have b3 := b2.trans (b1.mono b2.size)
    replace oh := oh.base (base' := w.heap.size + 3) hsz
    have r2 : (w5).frozen? ⟨w.heap.size + 1 + 1, 0, none⟩ = false := q3.frozen 0
    have r3 : (w5).frozen? ⟨w.heap.size + 1 + 1, 1, none⟩ = false := q3.frozen 1
    have r4 : (w5).cell? ⟨w.heap.size + 1 + 1, 0, none⟩ = some (.slice none 0 0) := q3.cell 0
    have r5 : (w5).cell? ⟨w.heap.size + 1 + 1, 1, none⟩ = some (.slice none 0 0) := q3.cell 1
    have r6 : (((w5).setCell ⟨w.heap.size + 1 + 1, 0, none⟩ (.slice A5 n5 c5)).setCell ⟨w.heap.size + 1 + 1, 1, none⟩ (.slice R5 m5 d5)).cell? ⟨w.heap.size + 1 + 1, 0, none⟩ = some (.slice A5 n5 c5) := ((q3.put 0 (.slice A5 n5 c5)).put 1 (.slice R5 m5 d5)).cell 0
    have r7 : (((w5).setCell ⟨w.heap.size + 1 + 1, 0, none⟩ (.slice A5 n5 c5)).setCell ⟨w.heap.size + 1 + 1, 1, none⟩ (.slice R5 m5 d5)).cell? ⟨w.heap.size + 1 + 1, 1, none⟩ = some (.slice R5 m5 d5) := ((q3.put 0 (.slice A5 n5 c5)).put 1 (.slice R5 m5 d5)).cell 1
    have D : Hid (OwnH (((w5).setCell ⟨w.heap.size + 1 + 1, 0, none⟩ (.slice A5 n5 c5)).setCell ⟨w.heap.size + 1 + 1, 1, none⟩ (.slice R5 m5 d5)) w.heap.size (.slice A5 n5 c5) (.slice R5 m5 d5) _ ∧ Below w.heap.size w (((w5).setCell ⟨w.heap.size + 1 + 1, 0, none⟩ (.slice A5 n5 c5)).setCell ⟨w.heap.size + 1 + 1, 1, none⟩ (.slice R5 m5 d5))) := Lib.hid (oh.out (by omega) b3 (by omega))
    clear q1 q2 q3 oh b2 b3 z0 z1 z2 z3 x0 x1 s2
    go_wp2_with fail
    exact bodyPost_ret (v := .tuple #[.agg #[.slice A5 n5 c5, .slice R5 m5 d5], .bool false]) (by simp [results, Try.results100, go_sem, *]) rfl ⟨_, _, by rw [HF.out], by rw [HF.out]; exact D.out.1, D.out.2⟩
  by_cases h1 : o.op = 1
  · by_cases hf : n = 40
    · have HF := Lib.hid (Hps.stepH_full hv ho h1 (by rw [HL.out]; exact hf))
      clear hv ho hc
      have ht : (o.op == (1 : Int)) = true := by rw [h1]; rfl
      clear h1
      subst hf
      go_wp2_with fail
      refine (l7Copy_any _ _ _ _ _ _ h _ s2 (by omega) (by omega) H3.out).mono ?_
      rintro e w5 ⟨vc, vr, rfl, oh, b1⟩
      obtain ⟨A5, n5, c5, R5, m5, d5, rfl, rfl⟩ := oh.slices
      replace q3 := q3.keep b1 q3.lt
      have b3 := b2.trans (b1.mono b2.size)
      replace oh := oh.base (base' := w.heap.size + 3) hsz
      have r2 : (w5).frozen? ⟨w.heap.size + 1 + 1, 0, none⟩ = false := q3.frozen 0
      have r3 : (w5).frozen? ⟨w.heap.size + 1 + 1, 1, none⟩ = false := q3.frozen 1
      have r4 : (w5).cell? ⟨w.heap.size + 1 + 1, 0, none⟩ = some (.slice none 0 0) := q3.cell 0
      have r5 : (w5).cell? ⟨w.heap.size + 1 + 1, 1, none⟩ = some (.slice none 0 0) := q3.cell 1
      have r6 : (((w5).setCell ⟨w.heap.size + 1 + 1, 0, none⟩ (.slice A5 n5 c5)).setCell ⟨w.heap.size + 1 + 1, 1, none⟩ (.slice R5 m5 d5)).cell? ⟨w.heap.size + 1 + 1, 0, none⟩ = some (.slice A5 n5 c5) := ((q3.put 0 (.slice A5 n5 c5)).put 1 (.slice R5 m5 d5)).cell 0
      have r7 : (((w5).setCell ⟨w.heap.size + 1 + 1, 0, none⟩ (.slice A5 n5 c5)).setCell ⟨w.heap.size + 1 + 1, 1, none⟩ (.slice R5 m5 d5)).cell? ⟨w.heap.size + 1 + 1, 1, none⟩ = some (.slice R5 m5 d5) := ((q3.put 0 (.slice A5 n5 c5)).put 1 (.slice R5 m5 d5)).cell 1
      have D : Hid (OwnH (((w5).setCell ⟨w.heap.size + 1 + 1, 0, none⟩ (.slice A5 n5 c5)).setCell ⟨w.heap.size + 1 + 1, 1, none⟩ (.slice R5 m5 d5)) w.heap.size (.slice A5 n5 c5) (.slice R5 m5 d5) _ ∧ Below w.heap.size w (((w5).setCell ⟨w.heap.size + 1 + 1, 0, none⟩ (.slice A5 n5 c5)).setCell ⟨w.heap.size + 1 + 1, 1, none⟩ (.slice R5 m5 d5))) := Lib.hid (oh.out (by omega) b3 (by omega))
      clear q1 q2 q3 oh b2 b3 z0 z1 z2 z3 x0 x1 s2
      go_wp2_with fail
      exact bodyPost_ret (v := .tuple #[.agg #[.slice A5 n5 c5, .slice R5 m5 d5], .bool false]) (by simp [results, Try.results100, go_sem, *]) rfl ⟨_, _, by rw [HF.out], by rw [HF.out]; exact D.out.1, D.out.2⟩
    have HF := Lib.hid (Hps.stepH_does hv ho hc (fun hh => hf (by rw [← HL.out]; exact hh.2)))
    have hc2 := Lib.hid (l8Do_any A R n c m d h o n w4 s2 hc (fun _ => Nat.le_refl _))
    have ht : (o.op == (1 : Int)) = true := by rw [h1]; rfl
    have hf' : ¬ (n : Int) = 40 := by omega
    rw [HL.out] at HF
    clear hv ho hc h1 hf
    go_wp2_with fail
    refine hc2.out.mono ?_
    rintro e w5 ⟨vc, vr, rfl, oh, b1⟩
    obtain ⟨A5, n5, c5, R5, m5, d5, rfl, rfl⟩ := oh.slices
    replace q3 := q3.keep b1 q3.lt
    have b3 := b2.trans (b1.mono b2.size)
    replace oh := oh.base (base' := w.heap.size + 3) hsz
    clear hc2
    have r2 : (w5).frozen? ⟨w.heap.size + 1 + 1, 0, none⟩ = false := q3.frozen 0
    have r3 : (w5).frozen? ⟨w.heap.size + 1 + 1, 1, none⟩ = false := q3.frozen 1
    have r4 : (w5).cell? ⟨w.heap.size + 1 + 1, 0, none⟩ = some (.slice none 0 0) := q3.cell 0
    have r5 : (w5).cell? ⟨w.heap.size + 1 + 1, 1, none⟩ = some (.slice none 0 0) := q3.cell 1
    have r6 : (((w5).setCell ⟨w.heap.size + 1 + 1, 0, none⟩ (.slice A5 n5 c5)).setCell ⟨w.heap.size + 1 + 1, 1, none⟩ (.slice R5 m5 d5)).cell? ⟨w.heap.size + 1 + 1, 0, none⟩ = some (.slice A5 n5 c5) := ((q3.put 0 (.slice A5 n5 c5)).put 1 (.slice R5 m5 d5)).cell 0
    have r7 : (((w5).setCell ⟨w.heap.size + 1 + 1, 0, none⟩ (.slice A5 n5 c5)).setCell ⟨w.heap.size + 1 + 1, 1, none⟩ (.slice R5 m5 d5)).cell? ⟨w.heap.size + 1 + 1, 1, none⟩ = some (.slice R5 m5 d5) := ((q3.put 0 (.slice A5 n5 c5)).put 1 (.slice R5 m5 d5)).cell 1
    have D : Hid (OwnH (((w5).setCell ⟨w.heap.size + 1 + 1, 0, none⟩ (.slice A5 n5 c5)).setCell ⟨w.heap.size + 1 + 1, 1, none⟩ (.slice R5 m5 d5)) w.heap.size (.slice A5 n5 c5) (.slice R5 m5 d5) _ ∧ Below w.heap.size w (((w5).setCell ⟨w.heap.size + 1 + 1, 0, none⟩ (.slice A5 n5 c5)).setCell ⟨w.heap.size + 1 + 1, 1, none⟩ (.slice R5 m5 d5))) := Lib.hid (oh.out (by omega) b3 (by omega))
    clear q1 q2 q3 oh b2 b3 z0 z1 z2 z3 x0 x1 s2
    go_wp2_with fail
    exact bodyPost_ret (v := .tuple #[.agg #[.slice A5 n5 c5, .slice R5 m5 d5], .bool true]) (by simp [results, Try.results100, go_sem, *]) rfl ⟨_, _, by rw [HF.out], by rw [HF.out]; exact D.out.1, D.out.2⟩
  have HF := Lib.hid (Hps.stepH_does hv ho hc (fun hh => h1 hh.1))
  have hc2 := Lib.hid (l8Do_any A R n c m d h o n w4 s2 hc (fun _ => Nat.le_refl _))
  rw [HL.out] at HF
  clear hv ho hc
  go_wp2_with fail
  refine hc2.out.mono ?_
  rintro e w5 ⟨vc, vr, rfl, oh, b1⟩
  obtain ⟨A5, n5, c5, R5, m5, d5, rfl, rfl⟩ := oh.slices
  replace q3 := q3.keep b1 q3.lt
  have b3 := b2.trans (b1.mono b2.size)
  replace oh := oh.base (base' := w.heap.size + 3) hsz
  clear hc2
  have r2 : (w5).frozen? ⟨w.heap.size + 1 + 1, 0, none⟩ = false := q3.frozen 0
  have r3 : (w5).frozen? ⟨w.heap.size + 1 + 1, 1, none⟩ = false := q3.frozen 1
  have r4 : (w5).cell? ⟨w.heap.size + 1 + 1, 0, none⟩ = some (.slice none 0 0) := q3.cell 0
  have r5 : (w5).cell? ⟨w.heap.size + 1 + 1, 1, none⟩ = some (.slice none 0 0) := q3.cell 1
  have r6 : (((w5).setCell ⟨w.heap.size + 1 + 1, 0, none⟩ (.slice A5 n5 c5)).setCell ⟨w.heap.size + 1 + 1, 1, none⟩ (.slice R5 m5 d5)).cell? ⟨w.heap.size + 1 + 1, 0, none⟩ = some (.slice A5 n5 c5) := ((q3.put 0 (.slice A5 n5 c5)).put 1 (.slice R5 m5 d5)).cell 0
  have r7 : (((w5).setCell ⟨w.heap.size + 1 + 1, 0, none⟩ (.slice A5 n5 c5)).setCell ⟨w.heap.size + 1 + 1, 1, none⟩ (.slice R5 m5 d5)).cell? ⟨w.heap.size + 1 + 1, 1, none⟩ = some (.slice R5 m5 d5) := ((q3.put 0 (.slice A5 n5 c5)).put 1 (.slice R5 m5 d5)).cell 1
  have D : Hid (OwnH (((w5).setCell ⟨w.heap.size + 1 + 1, 0, none⟩ (.slice A5 n5 c5)).setCell ⟨w.heap.size + 1 + 1, 1, none⟩ (.slice R5 m5 d5)) w.heap.size (.slice A5 n5 c5) (.slice R5 m5 d5) _ ∧ Below w.heap.size w (((w5).setCell ⟨w.heap.size + 1 + 1, 0, none⟩ (.slice A5 n5 c5)).setCell ⟨w.heap.size + 1 + 1, 1, none⟩ (.slice R5 m5 d5))) := Lib.hid (oh.out (by omega) b3 (by omega))
  clear q1 q2 q3 oh b2 b3 z0 z1 z2 z3 x0 x1 s2
  go_wp2_with fail
  exact bodyPost_ret (v := .tuple #[.agg #[.slice A5 n5 c5, .slice R5 m5 d5], .bool true]) (by simp [results, Try.results100, go_sem, *]) rfl ⟨_, _, by rw [HF.out], by rw [HF.out]; exact D.out.1, D.out.2⟩
end Go.Proofs.Ytakdjiojahlnmaa
