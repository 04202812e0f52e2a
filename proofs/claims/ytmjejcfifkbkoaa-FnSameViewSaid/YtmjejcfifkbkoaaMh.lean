/- What the program's dropRoot, copyRoot, getRef, setRef and setData do to a heap of the call's own. No conditions. -/
import Derived.Test.YtmjejcfifkbkoaaMc
import Derived.Test.YtmjejcfifkbkoaaGf
import Derived.StillTailTactics
namespace Go.Proofs.Ytmjejcfifkbkoaa
open Go.RowKit
set_option maxRecDepth 100000

/-- what StepHeap asks of the function in the table -/
def ExecF (g : Nat) (o : Cm) (h : Hp) : Prop := ∀ (w0 w1 : World) (b : Nat) (vc vr : Value) (rvs : List Value), BoxSt w0 w1 b vc vr rvs h →
  Calls Try.prog g #[cmV o, .pointer (some ⟨b, 0, none⟩)] w1 fun e w' => (∃ v, e = .returned v) ∧ ∃ vc' vr' rvs', BoxSt w0 w' b vc' vr' rvs' (Hps.doH h o h.cs.length)

theorem BoxSt.form {w0 wr : World} {b : Nat} {vc vr : Value} {rvs : List Value} {h : Hp} (S : BoxSt w0 wr b vc vr rvs h) (hl : 0 < h.rt.length) : ∃ A c gr d, vc = .slice A h.cs.length c ∧ vr = .slice (some ⟨gr, 0, none⟩) h.rt.length d ∧ (0 < h.cs.length → ∃ g, A = some ⟨g, 0, none⟩) := by
  obtain ⟨A, c, R, d, e1, e2, _, _, fA, fR⟩ := S.own.form
  obtain ⟨gr, rfl, _, _⟩ := fR hl
  exact ⟨A, c, gr, d, e1, e2, fun h => by obtain ⟨g, e, _⟩ := fA h; exact ⟨g, e⟩⟩

set_option maxHeartbeats 4000000 in
theorem exec_drop {a : Nat} {ob : Int} {oc : Int} {h : Hp} (hv : Hps.validH h = true) (ha : a < 4) : ExecF 148 ⟨5, a, ob, oc⟩ h := by
  intro w0 w1 b vc vr rvs S0
  have hr4 := (Hps.valid_iff.1 hv).2.2.1
  have HF := Lib.hid (show Hps.doH h ⟨5, a, ob, oc⟩ h.cs.length = ⟨h.cs, h.rt.set a (-1)⟩ by simp [Hps.doH])
  have ham : (a : Int) < 4 := by omega
  have HL := Lib.hid hr4
  obtain ⟨A, c, gr, d, rfl, rfl, -⟩ := S0.form (by omega)
  rw [hr4] at S0
  have S := S0.up ((Below.refl w1.heap.size w1).alloc (Nat.le_refl _) (.cells #[.int .i64 5, .int .i64 a, .int .i64 ob, .int .i64 oc] 36))
  have Q := Rw.new w1 36 #[.int .i64 5, .int .i64 a, .int .i64 ob, .int .i64 oc]
  clear S0 hr4 hv
  go_enter Try.func148, Try.ntmps148
  go_upto_region 1 with fail
  generalize w1.alloc (.cells #[.int .i64 5, .int .i64 a, .int .i64 ob, .int .i64 oc] 36) = w2 at S Q ⊢
  generalize w1.heap.size = q at Q ⊢
  have y1 : w2.cell? ⟨q, 1, none⟩ = some (.int .i64 a) := Q.cell 1
  have y2 : w2.cell? ⟨q, 2, none⟩ = some (.int .i64 ob) := Q.cell 2
  have y3 : w2.cell? ⟨q, 3, none⟩ = some (.int .i64 oc) := Q.cell 3
  have x1 : w2.cell? ⟨b, 1, none⟩ = some (.slice (some ⟨gr, 0, none⟩) 4 d) := S.box.cell 1
  have SS := Lib.hid S
  clear S Q y2 y3
  go_still_tail 7, (by kernel_rfl)
  change wpList _ _ _ _ _ w2.drew
  have S4 := SS.out.drew
  generalize w2.drew = w4 at S4 ⊢
  obtain ⟨xo, hxo, cr⟩ := S4.own.roots.cell_at (j := a) (by omega)
  have fz : w4.frozen? ⟨gr, a, none⟩ = false := S4.own.roots.frozen HL.out a
  have S5 := S4.root (i := a) HL.out (-1)
  clear S4 SS
  go_wp2_with fail
  go_end0
  exact ⟨⟨_, rfl⟩, _, _, _, by rw [HF.out]; exact S5⟩

set_option maxHeartbeats 4000000 in
theorem exec_copy {a : Nat} {ob : Nat} {oc : Int} {h : Hp} (hv : Hps.validH h = true) (ha : a < 4) (hb : ob < 4) : ExecF 147 ⟨4, a, ob, oc⟩ h := by
  intro w0 w1 b vc vr rvs S0
  have hr4 := (Hps.valid_iff.1 hv).2.2.1
  have ham : (a : Int) < 4 := by omega
  have hbm : (ob : Int) < 4 := by omega
  have hx := List.getElem?_eq_getElem (show ob < h.rt.length by omega)
  generalize h.rt[ob]'(by omega) = x at hx
  have HF := Lib.hid (show Hps.doH h ⟨4, a, ob, oc⟩ h.cs.length = ⟨h.cs, h.rt.set a x⟩ by simp [Hps.doH, Hps.rootAt, hx])
  have HL := Lib.hid hr4
  obtain ⟨A, c, gr, d, rfl, rfl, -⟩ := S0.form (by omega)
  rw [hr4] at S0
  have S := S0.up ((Below.refl w1.heap.size w1).alloc (Nat.le_refl _) (.cells #[.int .i64 4, .int .i64 a, .int .i64 ob, .int .i64 oc] 36))
  have Q := Rw.new w1 36 #[.int .i64 4, .int .i64 a, .int .i64 ob, .int .i64 oc]
  clear S0 hr4 hv
  go_enter Try.func147, Try.ntmps147
  go_upto_region 1 with fail
  generalize w1.alloc (.cells #[.int .i64 4, .int .i64 a, .int .i64 ob, .int .i64 oc] 36) = w2 at S Q ⊢
  generalize w1.heap.size = q at Q ⊢
  have y1 : w2.cell? ⟨q, 1, none⟩ = some (.int .i64 a) := Q.cell 1
  have y2 : w2.cell? ⟨q, 2, none⟩ = some (.int .i64 ob) := Q.cell 2
  have y3 : w2.cell? ⟨q, 3, none⟩ = some (.int .i64 oc) := Q.cell 3
  have x1 : w2.cell? ⟨b, 1, none⟩ = some (.slice (some ⟨gr, 0, none⟩) 4 d) := S.box.cell 1
  obtain ⟨x2, hx2, cx2⟩ := S.own.roots.cell_at (j := ob) (by omega)
  rw [hx] at hx2
  obtain rfl := Option.some.inj hx2
  have SS := Lib.hid S
  clear S Q y3 hx hx2
  go_still_tail 15, (by kernel_rfl)
  change wpList _ _ _ _ _ w2.drew
  have S4 := SS.out.drew
  generalize w2.drew = w4 at S4 ⊢
  obtain ⟨xo, hxo, cr⟩ := S4.own.roots.cell_at (j := a) (by omega)
  have fz : w4.frozen? ⟨gr, a, none⟩ = false := S4.own.roots.frozen HL.out a
  have S5 := S4.root (i := a) HL.out x
  clear S4 SS
  go_wp2_with fail
  go_end0
  exact ⟨⟨_, rfl⟩, _, _, _, by rw [HF.out]; exact S5⟩

set_option maxHeartbeats 4000000 in
theorem exec_get {a : Nat} {ob : Nat} {oc : Nat} {h : Hp} (hv : Hps.validH h = true) (ha : a < 4) (hb : ob < 4) {k : Nat} {cl : Cl} (hk : Hps.rootAt h ob = k) (hcl : h.cs[k]? = some cl) (hoc : oc < cl.r.length) : ExecF 144 ⟨2, a, ob, oc⟩ h := by
  intro w0 w1 b vc vr rvs S0
  have hr4 := (Hps.valid_iff.1 hv).2.2.1
  have ham : (a : Int) < 4 := by omega
  have hbm : (ob : Int) < 4 := by omega
  have hx := List.getElem?_eq_getElem (show ob < h.rt.length by omega)
  generalize h.rt[ob]'(by omega) = x at hx
  rw [Hps.rootAt_nat hx] at hk
  subst hk
  have hy := List.getElem?_eq_getElem hoc
  generalize cl.r[oc] = y at hy
  have hlk := (List.getElem?_eq_some_iff.1 hcl).1
  obtain ⟨n, hn⟩ : ∃ n, h.cs.length = n := ⟨_, rfl⟩
  have hkn : (k : Int) < n := by omega
  have hck : h.cs[(k : Int).toNat]? = some cl := hcl
  have HF := Lib.hid (show Hps.doH h ⟨2, a, ob, oc⟩ h.cs.length = ⟨h.cs, h.rt.set a y⟩ by simp [Hps.doH, Hps.rootAt, hx, Hps.refAt, hcl, hy])
  have HL := Lib.hid hr4
  obtain ⟨A, c, gr, d, rfl, rfl, -⟩ := S0.form (by omega)
  rw [hr4] at S0
  have S := S0.up ((Below.refl w1.heap.size w1).alloc (Nat.le_refl _) (.cells #[.int .i64 2, .int .i64 a, .int .i64 ob, .int .i64 oc] 36))
  have Q := Rw.new w1 36 #[.int .i64 2, .int .i64 a, .int .i64 ob, .int .i64 oc]
  clear S0 hr4 hv
  go_enter Try.func144, Try.ntmps144
  go_upto_region 1 with fail
  generalize w1.alloc (.cells #[.int .i64 2, .int .i64 a, .int .i64 ob, .int .i64 oc] 36) = w2 at S Q ⊢
  generalize w1.heap.size = q at Q ⊢
  have y1 : w2.cell? ⟨q, 1, none⟩ = some (.int .i64 a) := Q.cell 1
  have y2 : w2.cell? ⟨q, 2, none⟩ = some (.int .i64 ob) := Q.cell 2
  have y3 : w2.cell? ⟨q, 3, none⟩ = some (.int .i64 oc) := Q.cell 3
  rw [hn] at S
  have x1 : w2.cell? ⟨b, 1, none⟩ = some (.slice (some ⟨gr, 0, none⟩) 4 d) := S.box.cell 1
  obtain ⟨x2, hx2, cx2⟩ := S.own.roots.cell_at (j := ob) (by omega)
  rw [hx] at hx2
  obtain rfl := Option.some.inj hx2
  obtain ⟨gc, v, hA, hg1, hg2, hrv, hov, d0, d1, d2, fzc⟩ := S.own.cell_at (A := A) (n := n) (c := c) (by exact hcl)
  subst hA
  have x0 : w2.cell? ⟨b, 0, none⟩ = some (.slice (some ⟨gc, 0, none⟩) n c) := S.box.cell 0
  obtain ⟨A8, c8, rfl, fA8⟩ := hov.form
  obtain ⟨g8, rfl, _, _⟩ := fA8 (by omega)
  obtain ⟨m8, hm8⟩ : ∃ m8, cl.r.length = m8 := ⟨_, rfl⟩
  rw [hm8] at hov d2 hrv hoc
  obtain ⟨y', hy', cy⟩ := hov.cell_at (j := oc) hoc
  rw [hy] at hy'
  obtain rfl := Option.some.inj hy'
  have hom : (oc : Int) < m8 := by omega
  have SS := Lib.hid S
  clear S Q hx hx2 hck hcl hy hy' hov hrv hm8 hg1 hg2 d0 d1 fzc fA8 hoc
  go_still_tail 26, (by kernel_rfl)
  change wpList _ _ _ _ _ w2.drew
  have S4 := SS.out.drew
  generalize w2.drew = w4 at S4 ⊢
  obtain ⟨xo, hxo, cr⟩ := S4.own.roots.cell_at (j := a) (by omega)
  have fz : w4.frozen? ⟨gr, a, none⟩ = false := S4.own.roots.frozen HL.out a
  have S5 := S4.root (i := a) HL.out y
  clear S4 SS
  go_wp2_with fail
  go_end0
  exact ⟨⟨_, rfl⟩, _, _, _, by rw [HF.out]; exact S5⟩

set_option maxHeartbeats 4000000 in
theorem exec_set {a : Nat} {ob : Nat} {oc : Nat} {h : Hp} (hv : Hps.validH h = true) (ha : a < 4) (hb : ob < 4) {k : Nat} {cl : Cl} (hk : Hps.rootAt h a = k) (hcl : h.cs[k]? = some cl) (hoc : oc < cl.r.length) : ExecF 146 ⟨3, a, ob, oc⟩ h := by
  intro w0 w1 b vc vr rvs S0
  have hr4 := (Hps.valid_iff.1 hv).2.2.1
  have ham : (a : Int) < 4 := by omega
  have hbm : (ob : Int) < 4 := by omega
  have hx := List.getElem?_eq_getElem (show a < h.rt.length by omega)
  generalize h.rt[a]'(by omega) = x at hx
  rw [Hps.rootAt_nat hx] at hk
  subst hk
  have hz := List.getElem?_eq_getElem (show ob < h.rt.length by omega)
  generalize h.rt[ob]'(by omega) = z at hz
  have hlk := (List.getElem?_eq_some_iff.1 hcl).1
  obtain ⟨n, hn⟩ : ∃ n, h.cs.length = n := ⟨_, rfl⟩
  have hkn : (k : Int) < n := by omega
  have HF := Lib.hid (show Hps.doH h ⟨3, a, ob, oc⟩ h.cs.length = ⟨h.cs.set k ⟨cl.u, cl.d, cl.r.set oc z⟩, h.rt⟩ by simp [Hps.doH, Hps.rootAt, hx, hz, Hps.setRef, hcl])
  have HL := Lib.hid hr4
  obtain ⟨A, c, gr, d, rfl, rfl, -⟩ := S0.form (by omega)
  rw [hr4] at S0
  have S := S0.up ((Below.refl w1.heap.size w1).alloc (Nat.le_refl _) (.cells #[.int .i64 3, .int .i64 a, .int .i64 ob, .int .i64 oc] 36))
  have Q := Rw.new w1 36 #[.int .i64 3, .int .i64 a, .int .i64 ob, .int .i64 oc]
  clear S0 hr4 hv
  go_enter Try.func146, Try.ntmps146
  go_upto_region 1 with fail
  generalize w1.alloc (.cells #[.int .i64 3, .int .i64 a, .int .i64 ob, .int .i64 oc] 36) = w2 at S Q ⊢
  generalize w1.heap.size = q at Q ⊢
  have y1 : w2.cell? ⟨q, 1, none⟩ = some (.int .i64 a) := Q.cell 1
  have y2 : w2.cell? ⟨q, 2, none⟩ = some (.int .i64 ob) := Q.cell 2
  have y3 : w2.cell? ⟨q, 3, none⟩ = some (.int .i64 oc) := Q.cell 3
  rw [hn] at S
  have x1 : w2.cell? ⟨b, 1, none⟩ = some (.slice (some ⟨gr, 0, none⟩) 4 d) := S.box.cell 1
  obtain ⟨x2, hx2, cx2⟩ := S.own.roots.cell_at (j := a) (by omega)
  rw [hx] at hx2
  obtain rfl := Option.some.inj hx2
  obtain ⟨x3, hx3, cx3⟩ := S.own.roots.cell_at (j := ob) (by omega)
  rw [hz] at hx3
  obtain rfl := Option.some.inj hx3
  obtain ⟨gc, v, hA, hg1, hg2, hrv, hov, d0, d1, d2, fzc⟩ := S.own.cell_at (A := A) (n := n) (c := c) (by exact hcl)
  subst hA
  have x0 : w2.cell? ⟨b, 0, none⟩ = some (.slice (some ⟨gc, 0, none⟩) n c) := S.box.cell 0
  obtain ⟨A8, c8, rfl, fA8⟩ := hov.form
  obtain ⟨g8, rfl, _, _⟩ := fA8 (by omega)
  obtain ⟨m8, hm8⟩ : ∃ m8, cl.r.length = m8 := ⟨_, rfl⟩
  rw [hm8] at hov d2 hrv hoc
  have hom : (oc : Int) < m8 := by omega
  obtain ⟨yo, hyo, cyo⟩ := hov.cell_at (j := oc) hoc
  have fzo : w2.frozen? ⟨g8, oc, none⟩ = false := hov.frozen hm8 oc
  have SS := Lib.hid S
  have HCL := Lib.hid hcl
  have HRV := Lib.hid hrv
  have HM8 := Lib.hid hm8
  clear S Q hx hx2 hx3 hz hcl hyo hov hrv hm8 hg1 hg2 d0 d1 fzc fA8 hoc
  go_still_tail 26, (by kernel_rfl)
  change wpList _ _ _ _ _ w2.drew
  have S4 := SS.out.drew
  have FZ := Lib.hid (show w2.drew.frozen? ⟨g8, oc, none⟩ = false from fzo)
  have CR := Lib.hid (show w2.drew.cell? ⟨g8, oc, none⟩ = some (.int .i64 yo) from cyo)
  generalize w2.drew = w4 at S4 FZ CR ⊢
  have fz : w4.frozen? ⟨g8, oc, none⟩ = false := FZ.out
  have cr : w4.cell? ⟨g8, oc, none⟩ = some (.int .i64 yo) := CR.out
  have S5 := S4.ref1 (i := oc) HCL.out HRV.out HM8.out z
  clear S4 SS
  go_wp2_with fail
  go_end0
  exact ⟨⟨_, rfl⟩, _, _, _, by rw [HF.out]; exact S5⟩

set_option maxHeartbeats 4000000 in
theorem exec_data {a : Nat} {ob : Int} {oc : Int} {h : Hp} (hv : Hps.validH h = true) (ha : a < 4) {k : Nat} {cl : Cl} (hk : Hps.rootAt h a = k) (hcl : h.cs[k]? = some cl) : ExecF 150 ⟨6, a, ob, oc⟩ h := by
  intro w0 w1 b vc vr rvs S0
  have hr4 := (Hps.valid_iff.1 hv).2.2.1
  have ham : (a : Int) < 4 := by omega
  have hx := List.getElem?_eq_getElem (show a < h.rt.length by omega)
  generalize h.rt[a]'(by omega) = x at hx
  rw [Hps.rootAt_nat hx] at hk
  subst hk
  have hlk := (List.getElem?_eq_some_iff.1 hcl).1
  obtain ⟨n, hn⟩ : ∃ n, h.cs.length = n := ⟨_, rfl⟩
  have hkn : (k : Int) < n := by omega
  have HF := Lib.hid (show Hps.doH h ⟨6, a, ob, oc⟩ h.cs.length = ⟨h.cs.set k ⟨cl.u, ob, cl.r⟩, h.rt⟩ by simp [Hps.doH, Hps.rootAt, hx, Hps.setDat, hcl])
  have HL := Lib.hid hr4
  obtain ⟨A, c, gr, d, rfl, rfl, -⟩ := S0.form (by omega)
  rw [hr4] at S0
  have S := S0.up ((Below.refl w1.heap.size w1).alloc (Nat.le_refl _) (.cells #[.int .i64 6, .int .i64 a, .int .i64 ob, .int .i64 oc] 36))
  have Q := Rw.new w1 36 #[.int .i64 6, .int .i64 a, .int .i64 ob, .int .i64 oc]
  clear S0 hr4 hv
  go_enter Try.func150, Try.ntmps150
  go_upto_region 1 with fail
  generalize w1.alloc (.cells #[.int .i64 6, .int .i64 a, .int .i64 ob, .int .i64 oc] 36) = w2 at S Q ⊢
  generalize w1.heap.size = q at Q ⊢
  have y1 : w2.cell? ⟨q, 1, none⟩ = some (.int .i64 a) := Q.cell 1
  have y2 : w2.cell? ⟨q, 2, none⟩ = some (.int .i64 ob) := Q.cell 2
  have y3 : w2.cell? ⟨q, 3, none⟩ = some (.int .i64 oc) := Q.cell 3
  rw [hn] at S
  have x1 : w2.cell? ⟨b, 1, none⟩ = some (.slice (some ⟨gr, 0, none⟩) 4 d) := S.box.cell 1
  obtain ⟨x2, hx2, cx2⟩ := S.own.roots.cell_at (j := a) (by omega)
  rw [hx] at hx2
  obtain rfl := Option.some.inj hx2
  obtain ⟨gc, v, hA, hg1, hg2, hrv, hov, d0, d1, d2, fzc⟩ := S.own.cell_at (A := A) (n := n) (c := c) (by exact hcl)
  subst hA
  have x0 : w2.cell? ⟨b, 0, none⟩ = some (.slice (some ⟨gc, 0, none⟩) n c) := S.box.cell 0
  have fzo := fzc (k * 3 + 1)
  have SS := Lib.hid S
  have HCL := Lib.hid hcl
  have HN := Lib.hid hn
  clear S Q hx hx2 hcl hov hrv hg1 hg2 d0 d2 fzc hn
  go_still_tail 16, (by kernel_rfl)
  change wpList _ _ _ _ _ w2.drew
  have S4 := SS.out.drew
  have FZ := Lib.hid (show w2.drew.frozen? ⟨gc, k * 3 + 1, none⟩ = false from fzo)
  have CR := Lib.hid (show w2.drew.cell? ⟨gc, k * 3 + 1, none⟩ = some (.int .i64 cl.d) from d1)
  generalize w2.drew = w4 at S4 FZ CR ⊢
  have fz : w4.frozen? ⟨gc, k * 3 + 1, none⟩ = false := FZ.out
  have cr : w4.cell? ⟨gc, k * 3 + 1, none⟩ = some (.int .i64 cl.d) := CR.out
  have S5 := S4.data HN.out HCL.out ob
  clear S4 SS
  go_wp2_with fail
  go_end0
  exact ⟨⟨_, rfl⟩, _, _, _, by rw [HF.out]; exact S5⟩
end Go.Proofs.Ytmjejcfifkbkoaa
