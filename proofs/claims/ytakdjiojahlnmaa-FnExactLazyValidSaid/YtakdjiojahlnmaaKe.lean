/- What the model's l8Do returns: for every possible instruction in every valid heap. No conditions. -/
import Derived.Test.YtakdjiojahlnmaaKd
import Derived.Test.YtakdjiojahlnmaaKc
import Derived.StillTailTactics
import Derived.Deep.Cut
namespace Go.Proofs.Ytakdjiojahlnmaa
open Go.RowKit
set_option maxRecDepth 100000

namespace Hps
theorem canH_parts {h : Hp} {o : Cm} (hc : canH h o = true) : validH h = true ∧ okCm o = true := by
  unfold canH at hc
  rw [Bool.and_eq_true, Bool.and_eq_true] at hc
  exact hc.1
end Hps

set_option maxHeartbeats 4000000 in
theorem l8Do_drop (A R : Option Addr) (n c m d : Nat) (h : Hp) (a : Nat) (ob : Int) (oc : Int) (p : Nat) (w : World) (hs : HS w w.heap.size A n R m h) (hv : Hps.validH h = true) (ha : a < 4) :
    Calls Try.prog 108 #[heapV A n c R m d, cmV ⟨5, a, ob, oc⟩, .int .i64 p] w (GaveH w (Hps.doH h ⟨5, a, ob, oc⟩ p)) := by
  have hlc := hs.cells.1
  have hlr := hs.roots.1
  have h40 := (Hps.valid_iff.1 hv).2.1
  obtain rfl : m = 4 := by rw [← hlr]; exact (Hps.valid_iff.1 hv).2.2.1
  have HL := Lib.hid hlr
  have h3 : ∀ cl ∈ h.cs, cl.r.length ≤ 1000000 := fun cl hcl => by have := (Hps.okCell_iff.1 ((Hps.valid_iff.1 hv).1 cl hcl)).2.2.1; omega
  have b3 : Below w.heap.size w (((w.alloc (.cells #[.slice A n c, .slice R 4 d] 26)).alloc (.cells #[.int .i64 5, .int .i64 a, .int .i64 ob, .int .i64 oc] 128)).alloc (.cells #[.slice none 0 0, .slice none 0 0] 26)) := (((Below.refl w.heap.size w).alloc (Nat.le_refl _) _).alloc (by simp) _).alloc (by simp; omega) _
  have s3 := hs.up b3
  have q0 := ((Rw.new w 26 #[.slice A n c, .slice R 4 d]).alloc (.cells #[.int .i64 5, .int .i64 a, .int .i64 ob, .int .i64 oc] 128)).alloc (.cells #[.slice none 0 0, .slice none 0 0] 26)
  have q1 := (Rw.new (w.alloc (.cells #[.slice A n c, .slice R 4 d] 26)) 128 #[.int .i64 5, .int .i64 a, .int .i64 ob, .int .i64 oc]).alloc (.cells #[.slice none 0 0, .slice none 0 0] 26)
  have q2 := Rw.new ((w.alloc (.cells #[.slice A n c, .slice R 4 d] 26)).alloc (.cells #[.int .i64 5, .int .i64 a, .int .i64 ob, .int .i64 oc] 128)) 26 #[.slice none 0 0, .slice none 0 0]
  simp only [World.size_alloc, Nat.add_assoc, Nat.reduceAdd] at q1 q2
  clear hlr
  go_enter Try.func108, Try.ntmps108
  go_wp2_with fail
  refine (l7Copy_any _ _ _ _ _ _ h _ s3 (by omega) (by omega) h3).mono ?_
  rintro e w1 ⟨vc, vr, rfl, ⟨rvs, own⟩, b1⟩
  replace q0 := q0.keep b1 q0.lt
  replace q1 := q1.keep b1 q1.lt
  replace q2 := q2.keep b1 q2.lt
  replace b3 := b3.trans (b1.mono b3.size)
  simp only [World.size_alloc, Nat.add_assoc, Nat.reduceAdd] at own b1
  have hsz : w.heap.size + 3 ≤ w1.heap.size := by have := b1.size; simp at this; omega
  obtain ⟨Ac, cc, Rc, dc, rfl, rfl, hcc, hdc, fA, fR⟩ := own.form
  rw [hlc] at own fA hcc ⊢
  rw [HL.out] at own fR hdc ⊢
  obtain ⟨gr, rfl, hgr1, hgr2⟩ := fR (by omega)
  have S : DoSt w (w1.alloc (.cells #[.slice Ac n cc, .slice (some ⟨gr, 0, none⟩) 4 dc] 26)) w1.heap.size #[.slice A n c, .slice R 4 d] #[.int .i64 5, .int .i64 a, .int .i64 ob, .int .i64 oc] #[.slice none 0 0, .slice none 0 0] (.slice Ac n cc) (.slice (some ⟨gr, 0, none⟩) 4 dc) rvs h :=
    ⟨own.below ((Below.refl w1.heap.size w1).alloc (Nat.le_refl _) _) (Nat.le_refl _), own.apart_new (Nat.le_refl _), Rw.new w1 _ _, q0.alloc _, q1.alloc _, q2.alloc _, b3.alloc b3.size _, hsz⟩
  clear b1 s3 h3 fR own q0 q1 q2 b3
  go_upto_region 2 with fail
  generalize w1.alloc (.cells #[.slice Ac n cc, .slice (some ⟨gr, 0, none⟩) 4 dc] 26) = w2 at S ⊢
  have hb := S.lo
  generalize w1.heap.size = b at S hb hgr2 fA ⊢
  clear hsz w1
  have y0 : w2.cell? ⟨w.heap.size + 1, 0, none⟩ = some (.int .i64 5) := S.cmd.cell 0
  have y1 : w2.cell? ⟨w.heap.size + 1, 1, none⟩ = some (.int .i64 a) := S.cmd.cell 1
  have y2 : w2.cell? ⟨w.heap.size + 1, 2, none⟩ = some (.int .i64 ob) := S.cmd.cell 2
  have y3 : w2.cell? ⟨w.heap.size + 1, 3, none⟩ = some (.int .i64 oc) := S.cmd.cell 3
  have x0 : w2.cell? ⟨b, 0, none⟩ = some (.slice Ac n cc) := S.box.cell 0
  have x1 : w2.cell? ⟨b, 1, none⟩ = some (.slice (some ⟨gr, 0, none⟩) 4 dc) := S.box.cell 1
  have hva := Hps.valid_iff.1 hv
  obtain ⟨xo, hxo, cr⟩ := S.own.roots.cell_at (j := a) (by omega)
  have fz : w2.frozen? ⟨gr, a, none⟩ = false := S.own.roots.frozen HL.out a
  have ham : (a : Int) < 4 := by omega
  have S1 := S.root (i := a) HL.out (-1)
  have r0 : (w2.setCell ⟨gr, a, none⟩ (.int .i64 (-1))).cell? ⟨b, 0, none⟩ = some (.slice Ac n cc) := S1.box.cell 0
  have r1 : (w2.setCell ⟨gr, a, none⟩ (.int .i64 (-1))).cell? ⟨b, 1, none⟩ = some (.slice (some ⟨gr, 0, none⟩) 4 dc) := S1.box.cell 1
  have r2 : (w2.setCell ⟨gr, a, none⟩ (.int .i64 (-1))).frozen? ⟨w.heap.size + 1 + 1, 0, none⟩ = false := S1.res.frozen 0
  have r3 : (w2.setCell ⟨gr, a, none⟩ (.int .i64 (-1))).frozen? ⟨w.heap.size + 1 + 1, 1, none⟩ = false := S1.res.frozen 1
  have r4 : (w2.setCell ⟨gr, a, none⟩ (.int .i64 (-1))).cell? ⟨w.heap.size + 1 + 1, 0, none⟩ = some (.slice none 0 0) := S1.res.cell 0
  have r5 : (w2.setCell ⟨gr, a, none⟩ (.int .i64 (-1))).cell? ⟨w.heap.size + 1 + 1, 1, none⟩ = some (.slice none 0 0) := S1.res.cell 1
  have r6 : (((w2.setCell ⟨gr, a, none⟩ (.int .i64 (-1))).setCell ⟨w.heap.size + 1 + 1, 0, none⟩ (.slice Ac n cc)).setCell ⟨w.heap.size + 1 + 1, 1, none⟩ (.slice (some ⟨gr, 0, none⟩) 4 dc)).cell? ⟨w.heap.size + 1 + 1, 0, none⟩ = some (.slice Ac n cc) := ((S1.res.put 0 (.slice Ac n cc)).put 1 (.slice (some ⟨gr, 0, none⟩) 4 dc)).cell 0
  have r7 : (((w2.setCell ⟨gr, a, none⟩ (.int .i64 (-1))).setCell ⟨w.heap.size + 1 + 1, 0, none⟩ (.slice Ac n cc)).setCell ⟨w.heap.size + 1 + 1, 1, none⟩ (.slice (some ⟨gr, 0, none⟩) 4 dc)).cell? ⟨w.heap.size + 1 + 1, 1, none⟩ = some (.slice (some ⟨gr, 0, none⟩) 4 dc) := ((S1.res.put 0 (.slice Ac n cc)).put 1 (.slice (some ⟨gr, 0, none⟩) 4 dc)).cell 1
  have D : Hid (OwnH (((w2.setCell ⟨gr, a, none⟩ (.int .i64 (-1))).setCell ⟨w.heap.size + 1 + 1, 0, none⟩ (.slice Ac n cc)).setCell ⟨w.heap.size + 1 + 1, 1, none⟩ (.slice (some ⟨gr, 0, none⟩) 4 dc)) w.heap.size (.slice Ac n cc) (.slice (some ⟨gr, 0, none⟩) 4 dc) _ ∧ Below w.heap.size w (((w2.setCell ⟨gr, a, none⟩ (.int .i64 (-1))).setCell ⟨w.heap.size + 1 + 1, 0, none⟩ (.slice Ac n cc)).setCell ⟨w.heap.size + 1 + 1, 1, none⟩ (.slice (some ⟨gr, 0, none⟩) 4 dc))) := Lib.hid S1.done
  have HF := Lib.hid (show Hps.doH h ⟨5, a, ob, oc⟩ p = ⟨h.cs, h.rt.set a (-1)⟩ by simp [Hps.doH])
  clear S1
  clear S hva hxo
  go_wp2_with fail
  exact bodyPost_ret (v := .agg #[.slice Ac n cc, .slice (some ⟨gr, 0, none⟩) 4 dc]) (by simp [results, Try.results108, go_sem, *]) rfl ⟨_, _, rfl, by rw [HF.out]; exact D.out.1, D.out.2⟩

set_option maxHeartbeats 4000000 in
theorem l8Do_copy (A R : Option Addr) (n c m d : Nat) (h : Hp) (a : Nat) (ob : Nat) (oc : Int) (p : Nat) (w : World) (hs : HS w w.heap.size A n R m h) (hv : Hps.validH h = true) (ha : a < 4) (hb4 : ob < 4) :
    Calls Try.prog 108 #[heapV A n c R m d, cmV ⟨4, a, ob, oc⟩, .int .i64 p] w (GaveH w (Hps.doH h ⟨4, a, ob, oc⟩ p)) := by
  have hlc := hs.cells.1
  have hlr := hs.roots.1
  have h40 := (Hps.valid_iff.1 hv).2.1
  obtain rfl : m = 4 := by rw [← hlr]; exact (Hps.valid_iff.1 hv).2.2.1
  have HL := Lib.hid hlr
  have h3 : ∀ cl ∈ h.cs, cl.r.length ≤ 1000000 := fun cl hcl => by have := (Hps.okCell_iff.1 ((Hps.valid_iff.1 hv).1 cl hcl)).2.2.1; omega
  have b3 : Below w.heap.size w (((w.alloc (.cells #[.slice A n c, .slice R 4 d] 26)).alloc (.cells #[.int .i64 4, .int .i64 a, .int .i64 ob, .int .i64 oc] 128)).alloc (.cells #[.slice none 0 0, .slice none 0 0] 26)) := (((Below.refl w.heap.size w).alloc (Nat.le_refl _) _).alloc (by simp) _).alloc (by simp; omega) _
  have s3 := hs.up b3
  have q0 := ((Rw.new w 26 #[.slice A n c, .slice R 4 d]).alloc (.cells #[.int .i64 4, .int .i64 a, .int .i64 ob, .int .i64 oc] 128)).alloc (.cells #[.slice none 0 0, .slice none 0 0] 26)
  have q1 := (Rw.new (w.alloc (.cells #[.slice A n c, .slice R 4 d] 26)) 128 #[.int .i64 4, .int .i64 a, .int .i64 ob, .int .i64 oc]).alloc (.cells #[.slice none 0 0, .slice none 0 0] 26)
  have q2 := Rw.new ((w.alloc (.cells #[.slice A n c, .slice R 4 d] 26)).alloc (.cells #[.int .i64 4, .int .i64 a, .int .i64 ob, .int .i64 oc] 128)) 26 #[.slice none 0 0, .slice none 0 0]
  simp only [World.size_alloc, Nat.add_assoc, Nat.reduceAdd] at q1 q2
  clear hlr
  go_enter Try.func108, Try.ntmps108
  go_wp2_with fail
  refine (l7Copy_any _ _ _ _ _ _ h _ s3 (by omega) (by omega) h3).mono ?_
  rintro e w1 ⟨vc, vr, rfl, ⟨rvs, own⟩, b1⟩
  replace q0 := q0.keep b1 q0.lt
  replace q1 := q1.keep b1 q1.lt
  replace q2 := q2.keep b1 q2.lt
  replace b3 := b3.trans (b1.mono b3.size)
  simp only [World.size_alloc, Nat.add_assoc, Nat.reduceAdd] at own b1
  have hsz : w.heap.size + 3 ≤ w1.heap.size := by have := b1.size; simp at this; omega
  obtain ⟨Ac, cc, Rc, dc, rfl, rfl, hcc, hdc, fA, fR⟩ := own.form
  rw [hlc] at own fA hcc ⊢
  rw [HL.out] at own fR hdc ⊢
  obtain ⟨gr, rfl, hgr1, hgr2⟩ := fR (by omega)
  have S : DoSt w (w1.alloc (.cells #[.slice Ac n cc, .slice (some ⟨gr, 0, none⟩) 4 dc] 26)) w1.heap.size #[.slice A n c, .slice R 4 d] #[.int .i64 4, .int .i64 a, .int .i64 ob, .int .i64 oc] #[.slice none 0 0, .slice none 0 0] (.slice Ac n cc) (.slice (some ⟨gr, 0, none⟩) 4 dc) rvs h :=
    ⟨own.below ((Below.refl w1.heap.size w1).alloc (Nat.le_refl _) _) (Nat.le_refl _), own.apart_new (Nat.le_refl _), Rw.new w1 _ _, q0.alloc _, q1.alloc _, q2.alloc _, b3.alloc b3.size _, hsz⟩
  clear b1 s3 h3 fR own q0 q1 q2 b3
  go_upto_region 2 with fail
  generalize w1.alloc (.cells #[.slice Ac n cc, .slice (some ⟨gr, 0, none⟩) 4 dc] 26) = w2 at S ⊢
  have hb := S.lo
  generalize w1.heap.size = b at S hb hgr2 fA ⊢
  clear hsz w1
  have y0 : w2.cell? ⟨w.heap.size + 1, 0, none⟩ = some (.int .i64 4) := S.cmd.cell 0
  have y1 : w2.cell? ⟨w.heap.size + 1, 1, none⟩ = some (.int .i64 a) := S.cmd.cell 1
  have y2 : w2.cell? ⟨w.heap.size + 1, 2, none⟩ = some (.int .i64 ob) := S.cmd.cell 2
  have y3 : w2.cell? ⟨w.heap.size + 1, 3, none⟩ = some (.int .i64 oc) := S.cmd.cell 3
  have x0 : w2.cell? ⟨b, 0, none⟩ = some (.slice Ac n cc) := S.box.cell 0
  have x1 : w2.cell? ⟨b, 1, none⟩ = some (.slice (some ⟨gr, 0, none⟩) 4 dc) := S.box.cell 1
  have hva := Hps.valid_iff.1 hv
  have ham : (a : Int) < 4 := by omega
  have AR := hs.up S.bel
  have u0 : w2.cell? ⟨w.heap.size, 0, none⟩ = some (.slice A n c) := S.arg.cell 0
  have u1 : w2.cell? ⟨w.heap.size, 1, none⟩ = some (.slice R 4 d) := S.arg.cell 1
  obtain ⟨g2, o2, x, e1, hg2, hx, d1⟩ := AR.roots.at_ (k := ob) (by omega)
  subst e1
  have hbm : (ob : Int) < 4 := by omega
  have HX := Lib.hid hx
  have SS := Lib.hid S
  clear hx S AR hva y3
  go_wp2_with fail
  go_still_tail 10, (by kernel_rfl)
  change wpList _ _ _ _ _ w2.drew
  have S4 := SS.out.drew
  generalize w2.drew = w4 at S4 ⊢
  obtain ⟨xo, hxo, cr⟩ := S4.own.roots.cell_at (j := a) (by omega)
  have fz : w4.frozen? ⟨gr, a, none⟩ = false := S4.own.roots.frozen HL.out a
  have S1 := S4.root (i := a) HL.out x
  have hx := HX.out
  have r0 : (w4.setCell ⟨gr, a, none⟩ (.int .i64 x)).cell? ⟨b, 0, none⟩ = some (.slice Ac n cc) := S1.box.cell 0
  have r1 : (w4.setCell ⟨gr, a, none⟩ (.int .i64 x)).cell? ⟨b, 1, none⟩ = some (.slice (some ⟨gr, 0, none⟩) 4 dc) := S1.box.cell 1
  have r2 : (w4.setCell ⟨gr, a, none⟩ (.int .i64 x)).frozen? ⟨w.heap.size + 1 + 1, 0, none⟩ = false := S1.res.frozen 0
  have r3 : (w4.setCell ⟨gr, a, none⟩ (.int .i64 x)).frozen? ⟨w.heap.size + 1 + 1, 1, none⟩ = false := S1.res.frozen 1
  have r4 : (w4.setCell ⟨gr, a, none⟩ (.int .i64 x)).cell? ⟨w.heap.size + 1 + 1, 0, none⟩ = some (.slice none 0 0) := S1.res.cell 0
  have r5 : (w4.setCell ⟨gr, a, none⟩ (.int .i64 x)).cell? ⟨w.heap.size + 1 + 1, 1, none⟩ = some (.slice none 0 0) := S1.res.cell 1
  have r6 : (((w4.setCell ⟨gr, a, none⟩ (.int .i64 x)).setCell ⟨w.heap.size + 1 + 1, 0, none⟩ (.slice Ac n cc)).setCell ⟨w.heap.size + 1 + 1, 1, none⟩ (.slice (some ⟨gr, 0, none⟩) 4 dc)).cell? ⟨w.heap.size + 1 + 1, 0, none⟩ = some (.slice Ac n cc) := ((S1.res.put 0 (.slice Ac n cc)).put 1 (.slice (some ⟨gr, 0, none⟩) 4 dc)).cell 0
  have r7 : (((w4.setCell ⟨gr, a, none⟩ (.int .i64 x)).setCell ⟨w.heap.size + 1 + 1, 0, none⟩ (.slice Ac n cc)).setCell ⟨w.heap.size + 1 + 1, 1, none⟩ (.slice (some ⟨gr, 0, none⟩) 4 dc)).cell? ⟨w.heap.size + 1 + 1, 1, none⟩ = some (.slice (some ⟨gr, 0, none⟩) 4 dc) := ((S1.res.put 0 (.slice Ac n cc)).put 1 (.slice (some ⟨gr, 0, none⟩) 4 dc)).cell 1
  have D : Hid (OwnH (((w4.setCell ⟨gr, a, none⟩ (.int .i64 x)).setCell ⟨w.heap.size + 1 + 1, 0, none⟩ (.slice Ac n cc)).setCell ⟨w.heap.size + 1 + 1, 1, none⟩ (.slice (some ⟨gr, 0, none⟩) 4 dc)) w.heap.size (.slice Ac n cc) (.slice (some ⟨gr, 0, none⟩) 4 dc) _ ∧ Below w.heap.size w (((w4.setCell ⟨gr, a, none⟩ (.int .i64 x)).setCell ⟨w.heap.size + 1 + 1, 0, none⟩ (.slice Ac n cc)).setCell ⟨w.heap.size + 1 + 1, 1, none⟩ (.slice (some ⟨gr, 0, none⟩) 4 dc))) := Lib.hid S1.done
  have HF := Lib.hid (show Hps.doH h ⟨4, a, ob, oc⟩ p = ⟨h.cs, h.rt.set a x⟩ by simp [Hps.doH, Hps.rootAt, hx])
  clear S1
  clear S4 hxo hx
  go_wp2_with fail
  exact bodyPost_ret (v := .agg #[.slice Ac n cc, .slice (some ⟨gr, 0, none⟩) 4 dc]) (by simp [results, Try.results108, go_sem, *]) rfl ⟨_, _, rfl, by rw [HF.out]; exact D.out.1, D.out.2⟩

set_option maxHeartbeats 4000000 in
theorem l8Do_get (A R : Option Addr) (n c m d : Nat) (h : Hp) (a : Nat) (ob : Nat) (oc : Nat) (p : Nat) (w : World) (hs : HS w w.heap.size A n R m h) (hv : Hps.validH h = true) (ha : a < 4) (hb4 : ob < 4) (k : Nat) (cl : Cl) (hk : Hps.rootAt h ob = k) (hcl : h.cs[k]? = some cl) (hoc : oc < cl.r.length) :
    Calls Try.prog 108 #[heapV A n c R m d, cmV ⟨2, a, ob, oc⟩, .int .i64 p] w (GaveH w (Hps.doH h ⟨2, a, ob, oc⟩ p)) := by
  have hlc := hs.cells.1
  have hlr := hs.roots.1
  have h40 := (Hps.valid_iff.1 hv).2.1
  obtain rfl : m = 4 := by rw [← hlr]; exact (Hps.valid_iff.1 hv).2.2.1
  have HL := Lib.hid hlr
  have h3 : ∀ cl ∈ h.cs, cl.r.length ≤ 1000000 := fun cl hcl => by have := (Hps.okCell_iff.1 ((Hps.valid_iff.1 hv).1 cl hcl)).2.2.1; omega
  have b3 : Below w.heap.size w (((w.alloc (.cells #[.slice A n c, .slice R 4 d] 26)).alloc (.cells #[.int .i64 2, .int .i64 a, .int .i64 ob, .int .i64 oc] 128)).alloc (.cells #[.slice none 0 0, .slice none 0 0] 26)) := (((Below.refl w.heap.size w).alloc (Nat.le_refl _) _).alloc (by simp) _).alloc (by simp; omega) _
  have s3 := hs.up b3
  have q0 := ((Rw.new w 26 #[.slice A n c, .slice R 4 d]).alloc (.cells #[.int .i64 2, .int .i64 a, .int .i64 ob, .int .i64 oc] 128)).alloc (.cells #[.slice none 0 0, .slice none 0 0] 26)
  have q1 := (Rw.new (w.alloc (.cells #[.slice A n c, .slice R 4 d] 26)) 128 #[.int .i64 2, .int .i64 a, .int .i64 ob, .int .i64 oc]).alloc (.cells #[.slice none 0 0, .slice none 0 0] 26)
  have q2 := Rw.new ((w.alloc (.cells #[.slice A n c, .slice R 4 d] 26)).alloc (.cells #[.int .i64 2, .int .i64 a, .int .i64 ob, .int .i64 oc] 128)) 26 #[.slice none 0 0, .slice none 0 0]
  simp only [World.size_alloc, Nat.add_assoc, Nat.reduceAdd] at q1 q2
  clear hlr
  go_enter Try.func108, Try.ntmps108
  go_wp2_with fail
  refine (l7Copy_any _ _ _ _ _ _ h _ s3 (by omega) (by omega) h3).mono ?_
  rintro e w1 ⟨vc, vr, rfl, ⟨rvs, own⟩, b1⟩
  replace q0 := q0.keep b1 q0.lt
  replace q1 := q1.keep b1 q1.lt
  replace q2 := q2.keep b1 q2.lt
  replace b3 := b3.trans (b1.mono b3.size)
  simp only [World.size_alloc, Nat.add_assoc, Nat.reduceAdd] at own b1
  have hsz : w.heap.size + 3 ≤ w1.heap.size := by have := b1.size; simp at this; omega
  obtain ⟨Ac, cc, Rc, dc, rfl, rfl, hcc, hdc, fA, fR⟩ := own.form
  rw [hlc] at own fA hcc ⊢
  rw [HL.out] at own fR hdc ⊢
  obtain ⟨gr, rfl, hgr1, hgr2⟩ := fR (by omega)
  have S : DoSt w (w1.alloc (.cells #[.slice Ac n cc, .slice (some ⟨gr, 0, none⟩) 4 dc] 26)) w1.heap.size #[.slice A n c, .slice R 4 d] #[.int .i64 2, .int .i64 a, .int .i64 ob, .int .i64 oc] #[.slice none 0 0, .slice none 0 0] (.slice Ac n cc) (.slice (some ⟨gr, 0, none⟩) 4 dc) rvs h :=
    ⟨own.below ((Below.refl w1.heap.size w1).alloc (Nat.le_refl _) _) (Nat.le_refl _), own.apart_new (Nat.le_refl _), Rw.new w1 _ _, q0.alloc _, q1.alloc _, q2.alloc _, b3.alloc b3.size _, hsz⟩
  clear b1 s3 h3 fR own q0 q1 q2 b3
  go_upto_region 2 with fail
  generalize w1.alloc (.cells #[.slice Ac n cc, .slice (some ⟨gr, 0, none⟩) 4 dc] 26) = w2 at S ⊢
  have hb := S.lo
  generalize w1.heap.size = b at S hb hgr2 fA ⊢
  clear hsz w1
  have y0 : w2.cell? ⟨w.heap.size + 1, 0, none⟩ = some (.int .i64 2) := S.cmd.cell 0
  have y1 : w2.cell? ⟨w.heap.size + 1, 1, none⟩ = some (.int .i64 a) := S.cmd.cell 1
  have y2 : w2.cell? ⟨w.heap.size + 1, 2, none⟩ = some (.int .i64 ob) := S.cmd.cell 2
  have y3 : w2.cell? ⟨w.heap.size + 1, 3, none⟩ = some (.int .i64 oc) := S.cmd.cell 3
  have x0 : w2.cell? ⟨b, 0, none⟩ = some (.slice Ac n cc) := S.box.cell 0
  have x1 : w2.cell? ⟨b, 1, none⟩ = some (.slice (some ⟨gr, 0, none⟩) 4 dc) := S.box.cell 1
  have hva := Hps.valid_iff.1 hv
  have ham : (a : Int) < 4 := by omega
  have AR := hs.up S.bel
  have u0 : w2.cell? ⟨w.heap.size, 0, none⟩ = some (.slice A n c) := S.arg.cell 0
  have u1 : w2.cell? ⟨w.heap.size, 1, none⟩ = some (.slice R 4 d) := S.arg.cell 1
  obtain ⟨g2, o2, x, e1, hg2, hx, d1⟩ := AR.roots.at_ (k := ob) (by omega)
  subst e1
  have hbm : (ob : Int) < 4 := by omega
  have ex : x = (k : Int) := by rw [← hk]; simp [Hps.rootAt, hx]
  subst ex
  have hkl := (List.getElem?_eq_some_iff.1 hcl).1
  obtain ⟨g3, o3, cl', A', m', cc', e3, hg3, hcl', _, _, d2, hmc, hi⟩ := AR.cells.at_ (k := k) (by omega)
  rw [hcl] at hcl'
  injection hcl' with hcl'
  subst hcl' e3
  have hil := hi.1
  obtain ⟨g4, o4, y, e4, hg4, hy, d3⟩ := hi.at_ (k := oc) (by omega)
  subst e4
  have hkn : (k : Int) < n := by omega
  have hom : (oc : Int) < m' := by omega
  have HY := Lib.hid hy
  have HC := Lib.hid hcl
  have HK := Lib.hid hk
  have SS := Lib.hid S
  clear hx S AR hva hy hcl hk hil hi hoc hkl
  go_wp2_with fail
  go_still_tail 19, (by kernel_rfl)
  change wpList _ _ _ _ _ w2.drew
  have S4 := SS.out.drew
  generalize w2.drew = w4 at S4 ⊢
  obtain ⟨xo, hxo, cr⟩ := S4.own.roots.cell_at (j := a) (by omega)
  have fz : w4.frozen? ⟨gr, a, none⟩ = false := S4.own.roots.frozen HL.out a
  have S1 := S4.root (i := a) HL.out y
  have hcl := HC.out
  have hy := HY.out
  have hk := HK.out
  have r0 : (w4.setCell ⟨gr, a, none⟩ (.int .i64 y)).cell? ⟨b, 0, none⟩ = some (.slice Ac n cc) := S1.box.cell 0
  have r1 : (w4.setCell ⟨gr, a, none⟩ (.int .i64 y)).cell? ⟨b, 1, none⟩ = some (.slice (some ⟨gr, 0, none⟩) 4 dc) := S1.box.cell 1
  have r2 : (w4.setCell ⟨gr, a, none⟩ (.int .i64 y)).frozen? ⟨w.heap.size + 1 + 1, 0, none⟩ = false := S1.res.frozen 0
  have r3 : (w4.setCell ⟨gr, a, none⟩ (.int .i64 y)).frozen? ⟨w.heap.size + 1 + 1, 1, none⟩ = false := S1.res.frozen 1
  have r4 : (w4.setCell ⟨gr, a, none⟩ (.int .i64 y)).cell? ⟨w.heap.size + 1 + 1, 0, none⟩ = some (.slice none 0 0) := S1.res.cell 0
  have r5 : (w4.setCell ⟨gr, a, none⟩ (.int .i64 y)).cell? ⟨w.heap.size + 1 + 1, 1, none⟩ = some (.slice none 0 0) := S1.res.cell 1
  have r6 : (((w4.setCell ⟨gr, a, none⟩ (.int .i64 y)).setCell ⟨w.heap.size + 1 + 1, 0, none⟩ (.slice Ac n cc)).setCell ⟨w.heap.size + 1 + 1, 1, none⟩ (.slice (some ⟨gr, 0, none⟩) 4 dc)).cell? ⟨w.heap.size + 1 + 1, 0, none⟩ = some (.slice Ac n cc) := ((S1.res.put 0 (.slice Ac n cc)).put 1 (.slice (some ⟨gr, 0, none⟩) 4 dc)).cell 0
  have r7 : (((w4.setCell ⟨gr, a, none⟩ (.int .i64 y)).setCell ⟨w.heap.size + 1 + 1, 0, none⟩ (.slice Ac n cc)).setCell ⟨w.heap.size + 1 + 1, 1, none⟩ (.slice (some ⟨gr, 0, none⟩) 4 dc)).cell? ⟨w.heap.size + 1 + 1, 1, none⟩ = some (.slice (some ⟨gr, 0, none⟩) 4 dc) := ((S1.res.put 0 (.slice Ac n cc)).put 1 (.slice (some ⟨gr, 0, none⟩) 4 dc)).cell 1
  have D : Hid (OwnH (((w4.setCell ⟨gr, a, none⟩ (.int .i64 y)).setCell ⟨w.heap.size + 1 + 1, 0, none⟩ (.slice Ac n cc)).setCell ⟨w.heap.size + 1 + 1, 1, none⟩ (.slice (some ⟨gr, 0, none⟩) 4 dc)) w.heap.size (.slice Ac n cc) (.slice (some ⟨gr, 0, none⟩) 4 dc) _ ∧ Below w.heap.size w (((w4.setCell ⟨gr, a, none⟩ (.int .i64 y)).setCell ⟨w.heap.size + 1 + 1, 0, none⟩ (.slice Ac n cc)).setCell ⟨w.heap.size + 1 + 1, 1, none⟩ (.slice (some ⟨gr, 0, none⟩) 4 dc))) := Lib.hid S1.done
  have HF := Lib.hid (show Hps.doH h ⟨2, a, ob, oc⟩ p = ⟨h.cs, h.rt.set a y⟩ by simp [Hps.doH, Hps.refAt, hk, hcl, hy])
  clear S1
  clear S4 hxo hy hcl hk
  go_wp2_with fail
  exact bodyPost_ret (v := .agg #[.slice Ac n cc, .slice (some ⟨gr, 0, none⟩) 4 dc]) (by simp [results, Try.results108, go_sem, *]) rfl ⟨_, _, rfl, by rw [HF.out]; exact D.out.1, D.out.2⟩

set_option maxHeartbeats 4000000 in
theorem l8Do_set (A R : Option Addr) (n c m d : Nat) (h : Hp) (a : Nat) (ob : Nat) (oc : Nat) (p : Nat) (w : World) (hs : HS w w.heap.size A n R m h) (hv : Hps.validH h = true) (ha : a < 4) (hb4 : ob < 4) (k : Nat) (cl : Cl) (hk : Hps.rootAt h a = k) (hcl : h.cs[k]? = some cl) (hoc : oc < cl.r.length) :
    Calls Try.prog 108 #[heapV A n c R m d, cmV ⟨3, a, ob, oc⟩, .int .i64 p] w (GaveH w (Hps.doH h ⟨3, a, ob, oc⟩ p)) := by
  have hlc := hs.cells.1
  have hlr := hs.roots.1
  have h40 := (Hps.valid_iff.1 hv).2.1
  obtain rfl : m = 4 := by rw [← hlr]; exact (Hps.valid_iff.1 hv).2.2.1
  have HL := Lib.hid hlr
  have h3 : ∀ cl ∈ h.cs, cl.r.length ≤ 1000000 := fun cl hcl => by have := (Hps.okCell_iff.1 ((Hps.valid_iff.1 hv).1 cl hcl)).2.2.1; omega
  have b3 : Below w.heap.size w (((w.alloc (.cells #[.slice A n c, .slice R 4 d] 26)).alloc (.cells #[.int .i64 3, .int .i64 a, .int .i64 ob, .int .i64 oc] 128)).alloc (.cells #[.slice none 0 0, .slice none 0 0] 26)) := (((Below.refl w.heap.size w).alloc (Nat.le_refl _) _).alloc (by simp) _).alloc (by simp; omega) _
  have s3 := hs.up b3
  have q0 := ((Rw.new w 26 #[.slice A n c, .slice R 4 d]).alloc (.cells #[.int .i64 3, .int .i64 a, .int .i64 ob, .int .i64 oc] 128)).alloc (.cells #[.slice none 0 0, .slice none 0 0] 26)
  have q1 := (Rw.new (w.alloc (.cells #[.slice A n c, .slice R 4 d] 26)) 128 #[.int .i64 3, .int .i64 a, .int .i64 ob, .int .i64 oc]).alloc (.cells #[.slice none 0 0, .slice none 0 0] 26)
  have q2 := Rw.new ((w.alloc (.cells #[.slice A n c, .slice R 4 d] 26)).alloc (.cells #[.int .i64 3, .int .i64 a, .int .i64 ob, .int .i64 oc] 128)) 26 #[.slice none 0 0, .slice none 0 0]
  simp only [World.size_alloc, Nat.add_assoc, Nat.reduceAdd] at q1 q2
  clear hlr
  go_enter Try.func108, Try.ntmps108
  go_wp2_with fail
  refine (l7Copy_any _ _ _ _ _ _ h _ s3 (by omega) (by omega) h3).mono ?_
  rintro e w1 ⟨vc, vr, rfl, ⟨rvs, own⟩, b1⟩
  replace q0 := q0.keep b1 q0.lt
  replace q1 := q1.keep b1 q1.lt
  replace q2 := q2.keep b1 q2.lt
  replace b3 := b3.trans (b1.mono b3.size)
  simp only [World.size_alloc, Nat.add_assoc, Nat.reduceAdd] at own b1
  have hsz : w.heap.size + 3 ≤ w1.heap.size := by have := b1.size; simp at this; omega
  obtain ⟨Ac, cc, Rc, dc, rfl, rfl, hcc, hdc, fA, fR⟩ := own.form
  rw [hlc] at own fA hcc ⊢
  rw [HL.out] at own fR hdc ⊢
  obtain ⟨gr, rfl, hgr1, hgr2⟩ := fR (by omega)
  have S : DoSt w (w1.alloc (.cells #[.slice Ac n cc, .slice (some ⟨gr, 0, none⟩) 4 dc] 26)) w1.heap.size #[.slice A n c, .slice R 4 d] #[.int .i64 3, .int .i64 a, .int .i64 ob, .int .i64 oc] #[.slice none 0 0, .slice none 0 0] (.slice Ac n cc) (.slice (some ⟨gr, 0, none⟩) 4 dc) rvs h :=
    ⟨own.below ((Below.refl w1.heap.size w1).alloc (Nat.le_refl _) _) (Nat.le_refl _), own.apart_new (Nat.le_refl _), Rw.new w1 _ _, q0.alloc _, q1.alloc _, q2.alloc _, b3.alloc b3.size _, hsz⟩
  clear b1 s3 h3 fR own q0 q1 q2 b3
  go_upto_region 2 with fail
  generalize w1.alloc (.cells #[.slice Ac n cc, .slice (some ⟨gr, 0, none⟩) 4 dc] 26) = w2 at S ⊢
  have hb := S.lo
  generalize w1.heap.size = b at S hb hgr2 fA ⊢
  clear hsz w1
  have y0 : w2.cell? ⟨w.heap.size + 1, 0, none⟩ = some (.int .i64 3) := S.cmd.cell 0
  have y1 : w2.cell? ⟨w.heap.size + 1, 1, none⟩ = some (.int .i64 a) := S.cmd.cell 1
  have y2 : w2.cell? ⟨w.heap.size + 1, 2, none⟩ = some (.int .i64 ob) := S.cmd.cell 2
  have y3 : w2.cell? ⟨w.heap.size + 1, 3, none⟩ = some (.int .i64 oc) := S.cmd.cell 3
  have x0 : w2.cell? ⟨b, 0, none⟩ = some (.slice Ac n cc) := S.box.cell 0
  have x1 : w2.cell? ⟨b, 1, none⟩ = some (.slice (some ⟨gr, 0, none⟩) 4 dc) := S.box.cell 1
  have hva := Hps.valid_iff.1 hv
  have ham : (a : Int) < 4 := by omega
  have AR := hs.up S.bel
  have u0 : w2.cell? ⟨w.heap.size, 0, none⟩ = some (.slice A n c) := S.arg.cell 0
  have u1 : w2.cell? ⟨w.heap.size, 1, none⟩ = some (.slice R 4 d) := S.arg.cell 1
  obtain ⟨ga, oa, xa, e1, hga, hxa, da⟩ := AR.roots.at_ (k := a) (by omega)
  obtain ⟨g2, o2, x, e2, hg2, hx, d1⟩ := AR.roots.at_ (k := ob) (by omega)
  subst e1
  injection e2 with e2
  injection e2 with e2 e3
  subst e2 e3
  have hbm : (ob : Int) < 4 := by omega
  have ex : xa = (k : Int) := by rw [← hk]; simp [Hps.rootAt, hxa]
  subst ex
  have hkl := (List.getElem?_eq_some_iff.1 hcl).1
  obtain ⟨gc, v, e4, hgc1, hgc2, hrv, hov, _, _, d2, _⟩ := S.own.cell_at hcl
  subst e4
  obtain ⟨Av, cv, rfl, fv⟩ := hov.form
  obtain ⟨gv, rfl, hgv1, hgv2⟩ := fv (by omega)
  obtain ⟨m', hm'⟩ : ∃ m', cl.r.length = m' := ⟨_, rfl⟩
  rw [hm'] at d2 hrv hov
  have hkn : (k : Int) < n := by omega
  have hom : (oc : Int) < m' := by omega
  have HX := Lib.hid hx
  have HC := Lib.hid hcl
  have HK := Lib.hid hk
  have HV := Lib.hid hrv
  have HM := Lib.hid hm'
  have SS := Lib.hid S
  clear hx hxa S AR hva hcl hk hoc hkl hrv hov hm' fv
  go_wp2_with fail
  go_still_tail 19, (by kernel_rfl)
  change wpList _ _ _ _ _ w2.drew
  have S4 := SS.out.drew
  generalize w2.drew = w4 at S4 ⊢
  obtain ⟨_, _, e5, _, _, hv5, hov5, _⟩ := S4.own.cell_at HC.out
  rw [HV.out] at hv5
  injection hv5 with hv5
  subst hv5
  obtain ⟨xo, hxo, cr⟩ := hov5.cell_at (j := oc) (by omega)
  have fz : w4.frozen? ⟨gv, oc, none⟩ = false := hov5.frozen HM.out oc
  have S1 := S4.ref1 (i := oc) HC.out HV.out HM.out x
  have hx := HX.out
  have hcl := HC.out
  have hk := HK.out
  have r0 : (w4.setCell ⟨gv, oc, none⟩ (.int .i64 x)).cell? ⟨b, 0, none⟩ = some (.slice (some ⟨gc, 0, none⟩) n cc) := S1.box.cell 0
  have r1 : (w4.setCell ⟨gv, oc, none⟩ (.int .i64 x)).cell? ⟨b, 1, none⟩ = some (.slice (some ⟨gr, 0, none⟩) 4 dc) := S1.box.cell 1
  have r2 : (w4.setCell ⟨gv, oc, none⟩ (.int .i64 x)).frozen? ⟨w.heap.size + 1 + 1, 0, none⟩ = false := S1.res.frozen 0
  have r3 : (w4.setCell ⟨gv, oc, none⟩ (.int .i64 x)).frozen? ⟨w.heap.size + 1 + 1, 1, none⟩ = false := S1.res.frozen 1
  have r4 : (w4.setCell ⟨gv, oc, none⟩ (.int .i64 x)).cell? ⟨w.heap.size + 1 + 1, 0, none⟩ = some (.slice none 0 0) := S1.res.cell 0
  have r5 : (w4.setCell ⟨gv, oc, none⟩ (.int .i64 x)).cell? ⟨w.heap.size + 1 + 1, 1, none⟩ = some (.slice none 0 0) := S1.res.cell 1
  have r6 : (((w4.setCell ⟨gv, oc, none⟩ (.int .i64 x)).setCell ⟨w.heap.size + 1 + 1, 0, none⟩ (.slice (some ⟨gc, 0, none⟩) n cc)).setCell ⟨w.heap.size + 1 + 1, 1, none⟩ (.slice (some ⟨gr, 0, none⟩) 4 dc)).cell? ⟨w.heap.size + 1 + 1, 0, none⟩ = some (.slice (some ⟨gc, 0, none⟩) n cc) := ((S1.res.put 0 (.slice (some ⟨gc, 0, none⟩) n cc)).put 1 (.slice (some ⟨gr, 0, none⟩) 4 dc)).cell 0
  have r7 : (((w4.setCell ⟨gv, oc, none⟩ (.int .i64 x)).setCell ⟨w.heap.size + 1 + 1, 0, none⟩ (.slice (some ⟨gc, 0, none⟩) n cc)).setCell ⟨w.heap.size + 1 + 1, 1, none⟩ (.slice (some ⟨gr, 0, none⟩) 4 dc)).cell? ⟨w.heap.size + 1 + 1, 1, none⟩ = some (.slice (some ⟨gr, 0, none⟩) 4 dc) := ((S1.res.put 0 (.slice (some ⟨gc, 0, none⟩) n cc)).put 1 (.slice (some ⟨gr, 0, none⟩) 4 dc)).cell 1
  have D : Hid (OwnH (((w4.setCell ⟨gv, oc, none⟩ (.int .i64 x)).setCell ⟨w.heap.size + 1 + 1, 0, none⟩ (.slice (some ⟨gc, 0, none⟩) n cc)).setCell ⟨w.heap.size + 1 + 1, 1, none⟩ (.slice (some ⟨gr, 0, none⟩) 4 dc)) w.heap.size (.slice (some ⟨gc, 0, none⟩) n cc) (.slice (some ⟨gr, 0, none⟩) 4 dc) _ ∧ Below w.heap.size w (((w4.setCell ⟨gv, oc, none⟩ (.int .i64 x)).setCell ⟨w.heap.size + 1 + 1, 0, none⟩ (.slice (some ⟨gc, 0, none⟩) n cc)).setCell ⟨w.heap.size + 1 + 1, 1, none⟩ (.slice (some ⟨gr, 0, none⟩) 4 dc))) := Lib.hid S1.done
  have HF := Lib.hid (show Hps.doH h ⟨3, a, ob, oc⟩ p = ⟨h.cs.set k ⟨cl.u, cl.d, cl.r.set oc x⟩, h.rt⟩ by simp [Hps.doH, Hps.setRef, hk, hcl]; simp [Hps.rootAt, hx])
  clear S1
  clear S4 hxo hx hcl hk e5 hov5
  go_wp2_with fail
  exact bodyPost_ret (v := .agg #[.slice (some ⟨gc, 0, none⟩) n cc, .slice (some ⟨gr, 0, none⟩) 4 dc]) (by simp [results, Try.results108, go_sem, *]) rfl ⟨_, _, rfl, by rw [HF.out]; exact D.out.1, D.out.2⟩

set_option maxHeartbeats 4000000 in
theorem l8Do_data (A R : Option Addr) (n c m d : Nat) (h : Hp) (a : Nat) (ob : Int) (oc : Int) (p : Nat) (w : World) (hs : HS w w.heap.size A n R m h) (hv : Hps.validH h = true) (ha : a < 4) (k : Nat) (cl : Cl) (hk : Hps.rootAt h a = k) (hcl : h.cs[k]? = some cl) :
    Calls Try.prog 108 #[heapV A n c R m d, cmV ⟨6, a, ob, oc⟩, .int .i64 p] w (GaveH w (Hps.doH h ⟨6, a, ob, oc⟩ p)) := by
  have hlc := hs.cells.1
  have hlr := hs.roots.1
  have h40 := (Hps.valid_iff.1 hv).2.1
  obtain rfl : m = 4 := by rw [← hlr]; exact (Hps.valid_iff.1 hv).2.2.1
  have HL := Lib.hid hlr
  have h3 : ∀ cl ∈ h.cs, cl.r.length ≤ 1000000 := fun cl hcl => by have := (Hps.okCell_iff.1 ((Hps.valid_iff.1 hv).1 cl hcl)).2.2.1; omega
  have b3 : Below w.heap.size w (((w.alloc (.cells #[.slice A n c, .slice R 4 d] 26)).alloc (.cells #[.int .i64 6, .int .i64 a, .int .i64 ob, .int .i64 oc] 128)).alloc (.cells #[.slice none 0 0, .slice none 0 0] 26)) := (((Below.refl w.heap.size w).alloc (Nat.le_refl _) _).alloc (by simp) _).alloc (by simp; omega) _
  have s3 := hs.up b3
  have q0 := ((Rw.new w 26 #[.slice A n c, .slice R 4 d]).alloc (.cells #[.int .i64 6, .int .i64 a, .int .i64 ob, .int .i64 oc] 128)).alloc (.cells #[.slice none 0 0, .slice none 0 0] 26)
  have q1 := (Rw.new (w.alloc (.cells #[.slice A n c, .slice R 4 d] 26)) 128 #[.int .i64 6, .int .i64 a, .int .i64 ob, .int .i64 oc]).alloc (.cells #[.slice none 0 0, .slice none 0 0] 26)
  have q2 := Rw.new ((w.alloc (.cells #[.slice A n c, .slice R 4 d] 26)).alloc (.cells #[.int .i64 6, .int .i64 a, .int .i64 ob, .int .i64 oc] 128)) 26 #[.slice none 0 0, .slice none 0 0]
  simp only [World.size_alloc, Nat.add_assoc, Nat.reduceAdd] at q1 q2
  clear hlr
  go_enter Try.func108, Try.ntmps108
  go_wp2_with fail
  refine (l7Copy_any _ _ _ _ _ _ h _ s3 (by omega) (by omega) h3).mono ?_
  rintro e w1 ⟨vc, vr, rfl, ⟨rvs, own⟩, b1⟩
  replace q0 := q0.keep b1 q0.lt
  replace q1 := q1.keep b1 q1.lt
  replace q2 := q2.keep b1 q2.lt
  replace b3 := b3.trans (b1.mono b3.size)
  simp only [World.size_alloc, Nat.add_assoc, Nat.reduceAdd] at own b1
  have hsz : w.heap.size + 3 ≤ w1.heap.size := by have := b1.size; simp at this; omega
  obtain ⟨Ac, cc, Rc, dc, rfl, rfl, hcc, hdc, fA, fR⟩ := own.form
  rw [hlc] at own fA hcc ⊢
  rw [HL.out] at own fR hdc ⊢
  obtain ⟨gr, rfl, hgr1, hgr2⟩ := fR (by omega)
  have S : DoSt w (w1.alloc (.cells #[.slice Ac n cc, .slice (some ⟨gr, 0, none⟩) 4 dc] 26)) w1.heap.size #[.slice A n c, .slice R 4 d] #[.int .i64 6, .int .i64 a, .int .i64 ob, .int .i64 oc] #[.slice none 0 0, .slice none 0 0] (.slice Ac n cc) (.slice (some ⟨gr, 0, none⟩) 4 dc) rvs h :=
    ⟨own.below ((Below.refl w1.heap.size w1).alloc (Nat.le_refl _) _) (Nat.le_refl _), own.apart_new (Nat.le_refl _), Rw.new w1 _ _, q0.alloc _, q1.alloc _, q2.alloc _, b3.alloc b3.size _, hsz⟩
  clear b1 s3 h3 fR own q0 q1 q2 b3
  go_upto_region 2 with fail
  generalize w1.alloc (.cells #[.slice Ac n cc, .slice (some ⟨gr, 0, none⟩) 4 dc] 26) = w2 at S ⊢
  have hb := S.lo
  generalize w1.heap.size = b at S hb hgr2 fA ⊢
  clear hsz w1
  have y0 : w2.cell? ⟨w.heap.size + 1, 0, none⟩ = some (.int .i64 6) := S.cmd.cell 0
  have y1 : w2.cell? ⟨w.heap.size + 1, 1, none⟩ = some (.int .i64 a) := S.cmd.cell 1
  have y2 : w2.cell? ⟨w.heap.size + 1, 2, none⟩ = some (.int .i64 ob) := S.cmd.cell 2
  have y3 : w2.cell? ⟨w.heap.size + 1, 3, none⟩ = some (.int .i64 oc) := S.cmd.cell 3
  have x0 : w2.cell? ⟨b, 0, none⟩ = some (.slice Ac n cc) := S.box.cell 0
  have x1 : w2.cell? ⟨b, 1, none⟩ = some (.slice (some ⟨gr, 0, none⟩) 4 dc) := S.box.cell 1
  have hva := Hps.valid_iff.1 hv
  have ham : (a : Int) < 4 := by omega
  have AR := hs.up S.bel
  have u0 : w2.cell? ⟨w.heap.size, 0, none⟩ = some (.slice A n c) := S.arg.cell 0
  have u1 : w2.cell? ⟨w.heap.size, 1, none⟩ = some (.slice R 4 d) := S.arg.cell 1
  obtain ⟨ga, oa, xa, e1, hga, hxa, da⟩ := AR.roots.at_ (k := a) (by omega)
  subst e1
  have ex : xa = (k : Int) := by rw [← hk]; simp [Hps.rootAt, hxa]
  subst ex
  have hkl := (List.getElem?_eq_some_iff.1 hcl).1
  obtain ⟨gc, v, e4, hgc1, hgc2, _⟩ := S.own.cell_at hcl
  subst e4
  have hkn : (k : Int) < n := by omega
  have HC := Lib.hid hcl
  have HK := Lib.hid hk
  have SS := Lib.hid S
  clear hxa S AR hva hcl hk hkl
  go_wp2_with fail
  go_still_tail 10, (by kernel_rfl)
  change wpList _ _ _ _ _ w2.drew
  have S4 := SS.out.drew
  generalize w2.drew = w4 at S4 ⊢
  obtain ⟨_, _, e5, _, _, _, _, _, cr, _, fz⟩ := S4.own.cell_at HC.out
  injection e5 with e5
  injection e5 with e5
  subst e5
  have fz := fz (k * 3 + 1)
  have S1 := S4.data hlc HC.out ob
  have hcl := HC.out
  have hk := HK.out
  have r0 : (w4.setCell ⟨gc, k * 3 + 1, none⟩ (.int .i64 ob)).cell? ⟨b, 0, none⟩ = some (.slice (some ⟨gc, 0, none⟩) n cc) := S1.box.cell 0
  have r1 : (w4.setCell ⟨gc, k * 3 + 1, none⟩ (.int .i64 ob)).cell? ⟨b, 1, none⟩ = some (.slice (some ⟨gr, 0, none⟩) 4 dc) := S1.box.cell 1
  have r2 : (w4.setCell ⟨gc, k * 3 + 1, none⟩ (.int .i64 ob)).frozen? ⟨w.heap.size + 1 + 1, 0, none⟩ = false := S1.res.frozen 0
  have r3 : (w4.setCell ⟨gc, k * 3 + 1, none⟩ (.int .i64 ob)).frozen? ⟨w.heap.size + 1 + 1, 1, none⟩ = false := S1.res.frozen 1
  have r4 : (w4.setCell ⟨gc, k * 3 + 1, none⟩ (.int .i64 ob)).cell? ⟨w.heap.size + 1 + 1, 0, none⟩ = some (.slice none 0 0) := S1.res.cell 0
  have r5 : (w4.setCell ⟨gc, k * 3 + 1, none⟩ (.int .i64 ob)).cell? ⟨w.heap.size + 1 + 1, 1, none⟩ = some (.slice none 0 0) := S1.res.cell 1
  have r6 : (((w4.setCell ⟨gc, k * 3 + 1, none⟩ (.int .i64 ob)).setCell ⟨w.heap.size + 1 + 1, 0, none⟩ (.slice (some ⟨gc, 0, none⟩) n cc)).setCell ⟨w.heap.size + 1 + 1, 1, none⟩ (.slice (some ⟨gr, 0, none⟩) 4 dc)).cell? ⟨w.heap.size + 1 + 1, 0, none⟩ = some (.slice (some ⟨gc, 0, none⟩) n cc) := ((S1.res.put 0 (.slice (some ⟨gc, 0, none⟩) n cc)).put 1 (.slice (some ⟨gr, 0, none⟩) 4 dc)).cell 0
  have r7 : (((w4.setCell ⟨gc, k * 3 + 1, none⟩ (.int .i64 ob)).setCell ⟨w.heap.size + 1 + 1, 0, none⟩ (.slice (some ⟨gc, 0, none⟩) n cc)).setCell ⟨w.heap.size + 1 + 1, 1, none⟩ (.slice (some ⟨gr, 0, none⟩) 4 dc)).cell? ⟨w.heap.size + 1 + 1, 1, none⟩ = some (.slice (some ⟨gr, 0, none⟩) 4 dc) := ((S1.res.put 0 (.slice (some ⟨gc, 0, none⟩) n cc)).put 1 (.slice (some ⟨gr, 0, none⟩) 4 dc)).cell 1
  have D : Hid (OwnH (((w4.setCell ⟨gc, k * 3 + 1, none⟩ (.int .i64 ob)).setCell ⟨w.heap.size + 1 + 1, 0, none⟩ (.slice (some ⟨gc, 0, none⟩) n cc)).setCell ⟨w.heap.size + 1 + 1, 1, none⟩ (.slice (some ⟨gr, 0, none⟩) 4 dc)) w.heap.size (.slice (some ⟨gc, 0, none⟩) n cc) (.slice (some ⟨gr, 0, none⟩) 4 dc) _ ∧ Below w.heap.size w (((w4.setCell ⟨gc, k * 3 + 1, none⟩ (.int .i64 ob)).setCell ⟨w.heap.size + 1 + 1, 0, none⟩ (.slice (some ⟨gc, 0, none⟩) n cc)).setCell ⟨w.heap.size + 1 + 1, 1, none⟩ (.slice (some ⟨gr, 0, none⟩) 4 dc))) := Lib.hid S1.done
  have HF := Lib.hid (show Hps.doH h ⟨6, a, ob, oc⟩ p = ⟨h.cs.set k ⟨cl.u, ob, cl.r⟩, h.rt⟩ by simp [Hps.doH, Hps.setDat, hk, hcl])
  clear S1
  clear S4 hcl hk
  go_wp2_with fail
  exact bodyPost_ret (v := .agg #[.slice (some ⟨gc, 0, none⟩) n cc, .slice (some ⟨gr, 0, none⟩) 4 dc]) (by simp [results, Try.results108, go_sem, *]) rfl ⟨_, _, rfl, by rw [HF.out]; exact D.out.1, D.out.2⟩

theorem Sep8 {w1 w2 : World} {b1 : Nat} {vc vr v8 : Value} {rvs : List Value} {h : Hp} {xs : List Int} (S : OwnHx w1 b1 vc vr rvs h) (o : OwnI w2 w1.heap.size v8 xs) : ∀ v ∈ vc :: vr :: rvs, v8.ownBlock = none ∨ v8.ownBlock ≠ v.ownBlock := fun v hv => by
  cases e : v8.ownBlock with
  | none => exact .inl rfl
  | some k =>
    right
    intro e'
    have h1 := (World.ownsRow.lt o k e).1
    have h2 := (S.blocks hv e'.symm).2
    omega

set_option maxHeartbeats 8000000 in
theorem l8Do_new (A R : Option Addr) (n c m d : Nat) (h : Hp) (a : Nat) (ob : Nat) (oc : Int) (p : Nat) (w : World) (hs : HS w w.heap.size A n R m h) (hv : Hps.validH h = true) (ha : a < 4) (hb3 : ob ≤ 3) (hp : p ≤ n) :
    Calls Try.prog 108 #[heapV A n c R m d, cmV ⟨1, a, ob, oc⟩, .int .i64 p] w (GaveH w (Hps.doH h ⟨1, a, ob, oc⟩ p)) := by
  have hlc := hs.cells.1
  have hlr := hs.roots.1
  have h40 := (Hps.valid_iff.1 hv).2.1
  obtain rfl : m = 4 := by rw [← hlr]; exact (Hps.valid_iff.1 hv).2.2.1
  have HL := Lib.hid hlr
  have h3 : ∀ cl ∈ h.cs, cl.r.length ≤ 1000000 := fun cl hcl => by have := (Hps.okCell_iff.1 ((Hps.valid_iff.1 hv).1 cl hcl)).2.2.1; omega
  have b3 : Below w.heap.size w (((w.alloc (.cells #[.slice A n c, .slice R 4 d] 26)).alloc (.cells #[.int .i64 1, .int .i64 a, .int .i64 ob, .int .i64 oc] 128)).alloc (.cells #[.slice none 0 0, .slice none 0 0] 26)) := (((Below.refl w.heap.size w).alloc (Nat.le_refl _) _).alloc (by simp) _).alloc (by simp; omega) _
  have s3 := hs.up b3
  have q0 := ((Rw.new w 26 #[.slice A n c, .slice R 4 d]).alloc (.cells #[.int .i64 1, .int .i64 a, .int .i64 ob, .int .i64 oc] 128)).alloc (.cells #[.slice none 0 0, .slice none 0 0] 26)
  have q1 := (Rw.new (w.alloc (.cells #[.slice A n c, .slice R 4 d] 26)) 128 #[.int .i64 1, .int .i64 a, .int .i64 ob, .int .i64 oc]).alloc (.cells #[.slice none 0 0, .slice none 0 0] 26)
  have q2 := Rw.new ((w.alloc (.cells #[.slice A n c, .slice R 4 d] 26)).alloc (.cells #[.int .i64 1, .int .i64 a, .int .i64 ob, .int .i64 oc] 128)) 26 #[.slice none 0 0, .slice none 0 0]
  simp only [World.size_alloc, Nat.add_assoc, Nat.reduceAdd] at q1 q2
  clear hlr
  go_enter Try.func108, Try.ntmps108
  go_wp2_with fail
  refine (l7Copy_any _ _ _ _ _ _ h _ s3 (by omega) (by omega) h3).mono ?_
  rintro e w1 ⟨vc, vr, rfl, ⟨rvs, own⟩, b1⟩
  replace q0 := q0.keep b1 q0.lt
  replace q1 := q1.keep b1 q1.lt
  replace q2 := q2.keep b1 q2.lt
  replace b3 := b3.trans (b1.mono b3.size)
  simp only [World.size_alloc, Nat.add_assoc, Nat.reduceAdd] at own b1
  have hsz : w.heap.size + 3 ≤ w1.heap.size := by have := b1.size; simp at this; omega
  obtain ⟨Ac, cc, Rc, dc, rfl, rfl, hcc, hdc, fA, fR⟩ := own.form
  rw [hlc] at own fA hcc ⊢
  rw [HL.out] at own fR hdc ⊢
  obtain ⟨gr, rfl, hgr1, hgr2⟩ := fR (by omega)
  have S : DoSt w (w1.alloc (.cells #[.slice Ac n cc, .slice (some ⟨gr, 0, none⟩) 4 dc] 26)) w1.heap.size #[.slice A n c, .slice R 4 d] #[.int .i64 1, .int .i64 a, .int .i64 ob, .int .i64 oc] #[.slice none 0 0, .slice none 0 0] (.slice Ac n cc) (.slice (some ⟨gr, 0, none⟩) 4 dc) rvs h :=
    ⟨own.below ((Below.refl w1.heap.size w1).alloc (Nat.le_refl _) _) (Nat.le_refl _), own.apart_new (Nat.le_refl _), Rw.new w1 _ _, q0.alloc _, q1.alloc _, q2.alloc _, b3.alloc b3.size _, hsz⟩
  clear b1 s3 h3 fR own q0 q1 q2 b3
  go_upto_region 2 with fail
  generalize w1.alloc (.cells #[.slice Ac n cc, .slice (some ⟨gr, 0, none⟩) 4 dc] 26) = w2 at S ⊢
  have hb := S.lo
  generalize w1.heap.size = b at S hb hgr2 fA ⊢
  clear hsz w1
  have y0 : w2.cell? ⟨w.heap.size + 1, 0, none⟩ = some (.int .i64 1) := S.cmd.cell 0
  have y1 : w2.cell? ⟨w.heap.size + 1, 1, none⟩ = some (.int .i64 a) := S.cmd.cell 1
  have y2 : w2.cell? ⟨w.heap.size + 1, 2, none⟩ = some (.int .i64 ob) := S.cmd.cell 2
  have y3 : w2.cell? ⟨w.heap.size + 1, 3, none⟩ = some (.int .i64 oc) := S.cmd.cell 3
  have x0 : w2.cell? ⟨b, 0, none⟩ = some (.slice Ac n cc) := S.box.cell 0
  have x1 : w2.cell? ⟨b, 1, none⟩ = some (.slice (some ⟨gr, 0, none⟩) 4 dc) := S.box.cell 1
  have hva := Hps.valid_iff.1 hv
  have hbl := S.box.lt
  have T0 : Rw (w2.alloc (.cells #[.bool true, .int .i64 oc, .slice none 0 0] 45)) w2.heap.size 45 #[.bool true, .int .i64 oc, .slice none 0 0] := Rw.new _ _ _
  have SS := Lib.hid S
  have B0 : Below w2.heap.size w2 (w2.alloc (.cells #[.bool true, .int .i64 oc, .slice none 0 0] 45)) := (Below.refl _ _).alloc (Nat.le_refl _) _
  clear S hva
  go_wp2_with fail
  go_loopw [9] (fun i wr => ∃ (k : Nat) (v8 : Value), k ≤ ob ∧ i = .int .i64 k ∧ OwnI wr (w2.heap.size + 1) v8 (List.replicate k (-1)) ∧ Rw wr w2.heap.size 45 #[.bool true, .int .i64 oc, v8] ∧ Below w2.heap.size w2 wr ∧ w2.heap.size + 1 ≤ wr.heap.size) (fun i _ => ob - (intOf i).toNat)
  case atStart => exact ⟨0, .slice none 0 0, by omega, rfl, World.ownsRow_nil _ _ _ _, T0, B0, by simp⟩
  case round =>
    clear T0 B0
    obtain ⟨k, v8, hk, rfl, ho, hx, bb, hsz⟩ := hrel
    have z2 : wr.cell? ⟨w.heap.size + 1, 2, none⟩ = some (.int .i64 ob) := (SS.out.up bb).cmd.cell 2
    have x2 : wr.cell? ⟨w2.heap.size, 2, none⟩ = some v8 := hx.cell 2
    obtain ⟨A8, c8, e, hA⟩ := ho.form
    have hlen : (List.replicate k (-1 : Int)).length = k := by simp
    rw [hlen] at e hA
    subst e
    by_cases hlt : k < ob
    · have hlt' : (k : Int) < ob := by omega
      have ow := World.ownsRow.alloc ho (.cells #[.int .i64 (-1)] 3)
      have rr : IS (wr.alloc (.cells #[.int .i64 (-1)] 3)) (wr.alloc (.cells #[.int .i64 (-1)] 3)).heap.size (some ⟨wr.heap.size, 0, none⟩) 1 [-1] := (own_oneI wr (-1) 0 (Nat.zero_le _)).reads
      have HSx := Lib.hid (show List.replicate k (-1 : Int) ++ [-1] = List.replicate (k + 1) (-1) by rw [List.replicate_succ'])
      clear hlen hp y0 y1 y2 y3 x0 x1
      go_wp2_with (at_builtin; refine wpList_appendI rfl (.tmp 26) (.tmp 27) rfl (w2.heap.size + 1) _ (List.replicate k (-1)) rfl ow (some ⟨wr.heap.size, 0, none⟩) 1 1 _ [-1] rfl rr (by simp; omega) (by simp; omega) ?_; intro v5 w5 o5 g5 s5; have hx5 := Rw.far (hx.alloc (.cells #[.int .i64 (-1)] 3)) g5 (row_ne ho (by omega)); have x0 := hx5.cell 2; have x3 := hx5.frozen 2; obtain ⟨A5, c5, e5, f5⟩ := o5.form; subst e5; clear f5)
      have o6 : OwnI w5 (w2.heap.size + 1) (.slice A5 (k + 1) c5) (List.replicate (k + 1) (-1)) := by
        have := OwnI.cast HSx.out o5
        simpa using this
      have b5 : Below w2.heap.size w2 w5 := (bb.alloc bb.size _).grown g5 (by simp; omega) (fun kk hk => by have := (World.ownsRow.lt ho kk hk).1; omega)
      have s5' : w2.heap.size + 1 ≤ w5.heap.size := by have := g5.size; simp at this; omega
      go_roundw
      case rel =>
        refine ⟨k + 1, .slice A5 (k + 1) c5, by omega, by go_num, ?_, hx5.put 2 _, b5.setCell (p := ⟨w2.heap.size, 2, none⟩) (by simp) _, by simpa using s5'⟩
        exact o6.far (only_put (World.grownBy.refl _ _) 2 _) (.inr fun e => row_ne o6 (by omega) e.symm)
      case measure => simp [intOf]; omega
    · obtain rfl : k = ob := by omega
      have S := SS.out.up bb
      have z0 : wr.cell? ⟨b, 0, none⟩ = some (.slice Ac n cc) := S.box.cell 0
      have t0 : wr.cell? ⟨w2.heap.size, 0, none⟩ = some (.bool true) := hx.cell 0
      have t1 : wr.cell? ⟨w2.heap.size, 1, none⟩ = some (.int .i64 oc) := hx.cell 1
      have ap8 := Sep8 SS.out.own (ho.base (base' := w2.heap.size) (by omega))
      have h8b : (Value.slice A8 k c8).ownBlock ≠ some b := fun e => by
        have := (World.ownsRow.lt ho b e).1
        omega
      have o8 : OwnI wr (w.heap.size + 3) (.slice A8 k c8) (List.replicate k (-1)) := ho.base (by omega)
      clear hlen hA y0 y1 y2 y3 x0 x1
      by_cases hpn : p = n
      · subst hpn
        have own' := World.ownsRow.alloc S.own.row (.cells #[.bool true, .int .i64 oc, .slice A8 k c8] 45)
        rw [hlc] at own'
        have rr := Rw.new wr 45 #[.bool true, .int .i64 oc, .slice A8 k c8]
        have B1 : Below wr.heap.size wr (wr.alloc (.cells #[.bool true, .int .i64 oc, .slice A8 k c8] 45)) := (Below.refl _ _).alloc (Nat.le_refl _) _
        have SB := S.up B1
        have o8' := o8.below B1 (Nat.le_refl _)
        have hlo := S.lo
        have hbsz := S.bel.size
        have hsz3 : w.heap.size + 3 ≤ wr.heap.size := by have := S.box.lt; omega
        have GO := Lib.hid (fun v9 w9 (g9 : (wr.alloc (.cells #[.bool true, .int .i64 oc, .slice A8 k c8] 45)).grownBy w9 (Value.slice Ac p cc).ownBlock) o9 s9 => SB.snoc (cl := ⟨true, oc, List.replicate k (-1)⟩) (v9 := v9) (w1 := w9) g9 (by rw [hlc]; exact o9) s9 o8' ap8 h8b)
        have FB := Lib.hid (fun w9 (g9 : (wr.alloc (.cells #[.bool true, .int .i64 oc, .slice A8 k c8] 45)).grownBy w9 (Value.slice Ac p cc).ownBlock) => Rw.far SB.box g9 (fun e => by
          rcases SB.apart _ (List.mem_cons_self) with e' | e'
          · rw [e'] at e; cases e
          · exact e' e.symm))
        clear S SB o8 o8' ho ap8 B1 hx bb
        go_upto_region 12 with (at_builtin; refine wpList_appendC rfl (.tmp 36) (.tmp 38) rfl (w.heap.size + 3) _ p (flatC h.cs rvs) rfl own' wr.heap.size true oc A8 k c8 rfl rr (by omega) (by simp; omega) ?_; intro v9 w9 A9 c9 e9 o9 g9 s9; subst e9; have SN := GO.out _ w9 g9 o9 s9; have z9 := (FB.out w9 g9).cell 0; have f9 := (FB.out w9 g9).frozen 0; clear o9 g9 s9)
        generalize w9.setCell ⟨b, 0, none⟩ (.slice A9 (p + 1) c9) = w5 at SN ⊢
        clear z9 f9 GO FB own' rr z0 t0 t1
        have v1 : w5.cell? ⟨b, 1, none⟩ = some (.slice (some ⟨gr, 0, none⟩) 4 dc) := SN.box.cell 1
        have v2 : w5.cell? ⟨w.heap.size + 1, 1, none⟩ = some (.int .i64 a) := SN.cmd.cell 1
        obtain ⟨xo, hxo, cr⟩ := SN.own.roots.cell_at (j := a) (by omega)
        have fz : w5.frozen? ⟨gr, a, none⟩ = false := SN.own.roots.frozen HL.out a
        have ham : (a : Int) < 4 := by omega
        have S1 := SN.root (i := a) HL.out p
        have r0 : (w5.setCell ⟨gr, a, none⟩ (.int .i64 p)).cell? ⟨b, 0, none⟩ = some (.slice A9 (p + 1) c9) := S1.box.cell 0
        have r1 : (w5.setCell ⟨gr, a, none⟩ (.int .i64 p)).cell? ⟨b, 1, none⟩ = some (.slice (some ⟨gr, 0, none⟩) 4 dc) := S1.box.cell 1
        have r2 : (w5.setCell ⟨gr, a, none⟩ (.int .i64 p)).frozen? ⟨w.heap.size + 1 + 1, 0, none⟩ = false := S1.res.frozen 0
        have r3 : (w5.setCell ⟨gr, a, none⟩ (.int .i64 p)).frozen? ⟨w.heap.size + 1 + 1, 1, none⟩ = false := S1.res.frozen 1
        have r4 : (w5.setCell ⟨gr, a, none⟩ (.int .i64 p)).cell? ⟨w.heap.size + 1 + 1, 0, none⟩ = some (.slice none 0 0) := S1.res.cell 0
        have r5 : (w5.setCell ⟨gr, a, none⟩ (.int .i64 p)).cell? ⟨w.heap.size + 1 + 1, 1, none⟩ = some (.slice none 0 0) := S1.res.cell 1
        have r6 : (((w5.setCell ⟨gr, a, none⟩ (.int .i64 p)).setCell ⟨w.heap.size + 1 + 1, 0, none⟩ (.slice A9 (p + 1) c9)).setCell ⟨w.heap.size + 1 + 1, 1, none⟩ (.slice (some ⟨gr, 0, none⟩) 4 dc)).cell? ⟨w.heap.size + 1 + 1, 0, none⟩ = some (.slice A9 (p + 1) c9) := ((S1.res.put 0 (.slice A9 (p + 1) c9)).put 1 (.slice (some ⟨gr, 0, none⟩) 4 dc)).cell 0
        have r7 : (((w5.setCell ⟨gr, a, none⟩ (.int .i64 p)).setCell ⟨w.heap.size + 1 + 1, 0, none⟩ (.slice A9 (p + 1) c9)).setCell ⟨w.heap.size + 1 + 1, 1, none⟩ (.slice (some ⟨gr, 0, none⟩) 4 dc)).cell? ⟨w.heap.size + 1 + 1, 1, none⟩ = some (.slice (some ⟨gr, 0, none⟩) 4 dc) := ((S1.res.put 0 (.slice A9 (p + 1) c9)).put 1 (.slice (some ⟨gr, 0, none⟩) 4 dc)).cell 1
        have D : Hid (OwnH (((w5.setCell ⟨gr, a, none⟩ (.int .i64 p)).setCell ⟨w.heap.size + 1 + 1, 0, none⟩ (.slice A9 (p + 1) c9)).setCell ⟨w.heap.size + 1 + 1, 1, none⟩ (.slice (some ⟨gr, 0, none⟩) 4 dc)) w.heap.size (.slice A9 (p + 1) c9) (.slice (some ⟨gr, 0, none⟩) 4 dc) _ ∧ Below w.heap.size w (((w5.setCell ⟨gr, a, none⟩ (.int .i64 p)).setCell ⟨w.heap.size + 1 + 1, 0, none⟩ (.slice A9 (p + 1) c9)).setCell ⟨w.heap.size + 1 + 1, 1, none⟩ (.slice (some ⟨gr, 0, none⟩) 4 dc))) := Lib.hid S1.done
        have HF := Lib.hid (show Hps.doH h ⟨1, a, k, oc⟩ p = ⟨h.cs ++ [⟨true, oc, List.replicate k (-1)⟩], h.rt.set a p⟩ by simp [Hps.doH, Hps.putCl, Hps.newCl, hlc]; try omega)
        clear S1
        clear SN hxo
        go_wp2_with fail
        exact bodyPost_ret (v := .agg #[.slice A9 (p + 1) c9, .slice (some ⟨gr, 0, none⟩) 4 dc]) (by simp [results, Try.results108, go_sem, *]) rfl ⟨_, _, rfl, by rw [HF.out]; exact D.out.1, D.out.2⟩
      · obtain ⟨old, hold⟩ : ∃ old, h.cs[p]? = some old := ⟨_, List.getElem?_eq_getElem (show p < h.cs.length by omega)⟩
        obtain ⟨gc, v, e4, hgc1, hgc2, _, _, c0, c1, c2, fzc⟩ := S.own.cell_at hold
        subst e4
        have f0 := fzc (p * 3)
        have f1 := fzc (p * 3 + 1)
        have f2 := fzc (p * 3 + 2)
        have SN := S.cellN hlc (cl := ⟨true, oc, List.replicate k (-1)⟩) hold o8 ap8 (.inr h8b)
        have hpn' : (p : Int) < n := by omega
        have hpne : ¬ (p : Int) = n := by omega
        have hpb : ((p : Int) == n) = false := by rw [beq_eq_false_iff_ne]; exact hpne
        have hplt := (List.getElem?_eq_some_iff.1 hold).1
        clear S o8 ho ap8 hold fzc hx bb
        go_upto_region 12 with fail
        generalize ((wr.setCell ⟨gc, p * 3, none⟩ (.bool true)).setCell ⟨gc, p * 3 + 1, none⟩ (.int .i64 oc)).setCell ⟨gc, p * 3 + 2, none⟩ (.slice A8 k c8) = w5 at SN ⊢
        clear c0 c1 c2 f0 f1 f2 z0 t0 t1
        have v1 : w5.cell? ⟨b, 1, none⟩ = some (.slice (some ⟨gr, 0, none⟩) 4 dc) := SN.box.cell 1
        have v2 : w5.cell? ⟨w.heap.size + 1, 1, none⟩ = some (.int .i64 a) := SN.cmd.cell 1
        obtain ⟨xo, hxo, cr⟩ := SN.own.roots.cell_at (j := a) (by omega)
        have fz : w5.frozen? ⟨gr, a, none⟩ = false := SN.own.roots.frozen HL.out a
        have ham : (a : Int) < 4 := by omega
        have S1 := SN.root (i := a) HL.out p
        have r0 : (w5.setCell ⟨gr, a, none⟩ (.int .i64 p)).cell? ⟨b, 0, none⟩ = some (.slice (some ⟨gc, 0, none⟩) n cc) := S1.box.cell 0
        have r1 : (w5.setCell ⟨gr, a, none⟩ (.int .i64 p)).cell? ⟨b, 1, none⟩ = some (.slice (some ⟨gr, 0, none⟩) 4 dc) := S1.box.cell 1
        have r2 : (w5.setCell ⟨gr, a, none⟩ (.int .i64 p)).frozen? ⟨w.heap.size + 1 + 1, 0, none⟩ = false := S1.res.frozen 0
        have r3 : (w5.setCell ⟨gr, a, none⟩ (.int .i64 p)).frozen? ⟨w.heap.size + 1 + 1, 1, none⟩ = false := S1.res.frozen 1
        have r4 : (w5.setCell ⟨gr, a, none⟩ (.int .i64 p)).cell? ⟨w.heap.size + 1 + 1, 0, none⟩ = some (.slice none 0 0) := S1.res.cell 0
        have r5 : (w5.setCell ⟨gr, a, none⟩ (.int .i64 p)).cell? ⟨w.heap.size + 1 + 1, 1, none⟩ = some (.slice none 0 0) := S1.res.cell 1
        have r6 : (((w5.setCell ⟨gr, a, none⟩ (.int .i64 p)).setCell ⟨w.heap.size + 1 + 1, 0, none⟩ (.slice (some ⟨gc, 0, none⟩) n cc)).setCell ⟨w.heap.size + 1 + 1, 1, none⟩ (.slice (some ⟨gr, 0, none⟩) 4 dc)).cell? ⟨w.heap.size + 1 + 1, 0, none⟩ = some (.slice (some ⟨gc, 0, none⟩) n cc) := ((S1.res.put 0 (.slice (some ⟨gc, 0, none⟩) n cc)).put 1 (.slice (some ⟨gr, 0, none⟩) 4 dc)).cell 0
        have r7 : (((w5.setCell ⟨gr, a, none⟩ (.int .i64 p)).setCell ⟨w.heap.size + 1 + 1, 0, none⟩ (.slice (some ⟨gc, 0, none⟩) n cc)).setCell ⟨w.heap.size + 1 + 1, 1, none⟩ (.slice (some ⟨gr, 0, none⟩) 4 dc)).cell? ⟨w.heap.size + 1 + 1, 1, none⟩ = some (.slice (some ⟨gr, 0, none⟩) 4 dc) := ((S1.res.put 0 (.slice (some ⟨gc, 0, none⟩) n cc)).put 1 (.slice (some ⟨gr, 0, none⟩) 4 dc)).cell 1
        have D : Hid (OwnH (((w5.setCell ⟨gr, a, none⟩ (.int .i64 p)).setCell ⟨w.heap.size + 1 + 1, 0, none⟩ (.slice (some ⟨gc, 0, none⟩) n cc)).setCell ⟨w.heap.size + 1 + 1, 1, none⟩ (.slice (some ⟨gr, 0, none⟩) 4 dc)) w.heap.size (.slice (some ⟨gc, 0, none⟩) n cc) (.slice (some ⟨gr, 0, none⟩) 4 dc) _ ∧ Below w.heap.size w (((w5.setCell ⟨gr, a, none⟩ (.int .i64 p)).setCell ⟨w.heap.size + 1 + 1, 0, none⟩ (.slice (some ⟨gc, 0, none⟩) n cc)).setCell ⟨w.heap.size + 1 + 1, 1, none⟩ (.slice (some ⟨gr, 0, none⟩) 4 dc))) := Lib.hid S1.done
        have HF := Lib.hid (show Hps.doH h ⟨1, a, k, oc⟩ p = ⟨h.cs.set p ⟨true, oc, List.replicate k (-1)⟩, h.rt.set a p⟩ by simp [Hps.doH, Hps.putCl, Hps.newCl, hlc]; try omega)
        clear S1
        clear SN hxo
        go_wp2_with fail
        exact bodyPost_ret (v := .agg #[.slice (some ⟨gc, 0, none⟩) n cc, .slice (some ⟨gr, 0, none⟩) 4 dc]) (by simp [results, Try.results108, go_sem, *]) rfl ⟨_, _, rfl, by rw [HF.out]; exact D.out.1, D.out.2⟩

theorem l8Do_any (A R : Option Addr) (n c m d : Nat) (h : Hp) (o : Cm) (p : Nat) (w : World) (hs : HS w w.heap.size A n R m h) (hc : Hps.canH h o = true) (hp : o.op = 1 → p ≤ n) :
    Calls Try.prog 108 #[heapV A n c R m d, cmV o, .int .i64 p] w (GaveH w (Hps.doH h o p)) := by
  obtain ⟨hv, ho⟩ := Hps.canH_parts hc
  obtain ⟨op, a, b, cc⟩ := o
  obtain ⟨ha1, ha2⟩ := Hps.okCm_a ho
  obtain ⟨a, rfl⟩ := Int.eq_ofNat_of_zero_le ha1
  have ha : a < 4 := by simp only at ha2; omega
  rcases Hps.okCm_op ho with e | e | e | e | e | e <;> simp only at e <;> subst e
  · obtain ⟨_, hb, _⟩ := (Hps.okCm_new rfl).1 ho
    simp only at hb
    obtain ⟨b, rfl⟩ := Int.eq_ofNat_of_zero_le hb.1
    exact l8Do_new A R n c m d h a b cc p w hs hv ha (by omega) (hp rfl)
  · obtain ⟨_, hb, hcc⟩ := (Hps.okCm_get (.inl rfl)).1 ho
    rw [Hps.canH_get hv ho rfl] at hc
    simp only at hb hcc hc
    obtain ⟨b, rfl⟩ := Int.eq_ofNat_of_zero_le hb.1
    obtain ⟨cc, rfl⟩ := Int.eq_ofNat_of_zero_le hcc.1
    obtain ⟨k, cl, hk, hcl, hl⟩ := Hps.placeH_iff.1 hc
    exact l8Do_get A R n c m d h a b cc p w hs hv ha (by omega) k cl hk hcl (by omega)
  · obtain ⟨_, hb, hcc⟩ := (Hps.okCm_get (.inr rfl)).1 ho
    rw [Hps.canH_set hv ho rfl] at hc
    simp only at hb hcc hc
    obtain ⟨b, rfl⟩ := Int.eq_ofNat_of_zero_le hb.1
    obtain ⟨cc, rfl⟩ := Int.eq_ofNat_of_zero_le hcc.1
    obtain ⟨k, cl, hk, hcl, hl⟩ := Hps.placeH_iff.1 hc
    exact l8Do_set A R n c m d h a b cc p w hs hv ha (by omega) k cl hk hcl (by omega)
  · obtain ⟨_, hb, _⟩ := (Hps.okCm_copy rfl).1 ho
    simp only at hb
    obtain ⟨b, rfl⟩ := Int.eq_ofNat_of_zero_le hb.1
    exact l8Do_copy A R n c m d h a b cc p w hs hv ha (by omega)
  · exact l8Do_drop A R n c m d h a b cc p w hs hv ha
  · rw [Hps.canH_data hv ho rfl] at hc
    obtain ⟨k, hk, hk2, _⟩ := Hps.okRef_nat (Hps.root_ok hv _) (of_decide_eq_true hc)
    exact l8Do_data A R n c m d h a b cc p w hs hv ha k _ hk (List.getElem?_eq_getElem hk2)
end Go.Proofs.Ytakdjiojahlnmaa
