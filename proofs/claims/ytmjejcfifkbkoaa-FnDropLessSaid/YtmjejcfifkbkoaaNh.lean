/- For every list of bytes the laws FnNewLives (P118) and FnDropLess (P119) return true, over the program's contracts. No conditions. -/
import Derived.Test.YtmjejcfifkbkoaaNb
import Derived.Test.YtmjejcfifkbkoaaNd
import Derived.Test.YtmjejcfifkbkoaaKw
import Derived.Test.YtmjejcfifkbkoaaKp
import Derived.Test.YtmjejcfifkbkoaaGa
import Derived.Deep.Cut
import Derived.BigQuiet
namespace Go.Proofs.Ytmjejcfifkbkoaa
open Go.RowKit
set_option maxRecDepth 100000

theorem tiny_stepH (h : Hp) (o : Cm) : Tiny (Hps.stepH h o).1 := by
  cases hv : (Hps.validH h && Hps.okCm o)
  · rw [Hps.stepH, if_neg (by rw [hv]; decide)]
    exact tiny_zero
  · rw [Bool.and_eq_true] at hv
    exact tiny_valid (Hps.stepH_valid hv.1 hv.2)
namespace Hps
/-- a step that is taken -/
theorem step_taken {h : Hp} {o : Cm} (hd : (stepH h o).2 = true) : validH h = true ∧ okCm o = true ∧ canH h o = true ∧ (stepH h o).1 = doH h o h.cs.length ∧ validH (stepH h o).1 = true := by
  have hv : (validH h && okCm o) = true := by
    cases hv : (validH h && okCm o)
    · rw [stepH, if_neg (by rw [hv]; decide)] at hd
      cases hd
    · rfl
  have hn : (!canH h o || (decide (o.op = 1) && decide (h.cs.length = 40))) = false := by
    cases hn : (!canH h o || (decide (o.op = 1) && decide (h.cs.length = 40)))
    · rfl
    · rw [stepH, if_pos hv, if_pos hn] at hd
      cases hd
  have he : (stepH h o).1 = doH h o h.cs.length := by rw [stepH, if_pos hv, if_neg (by rw [hn]; decide)]
  have hc : canH h o = true := by
    rw [Bool.or_eq_false_iff] at hn
    simpa using hn.1
  rw [Bool.and_eq_true] at hv
  exact ⟨hv.1, hv.2, hc, he, stepH_valid hv.1 hv.2⟩
/-- what OpNew leaves -/
theorem new_taken {h : Hp} {o : Cm} (hd : (stepH h o).2 = true) (h1 : o.op = 1) : ∃ a : Nat, o.a = a ∧ a < 4 ∧ (stepH h o).1.rt[a]? = some (h.cs.length : Int) ∧ (stepH h o).1.cs[h.cs.length]? = some (newCl o) ∧ (reachH (stepH h o).1)[h.cs.length]? = some true ∧ (stepH h o).1.cs.length = h.cs.length + 1 ∧ (stepH h o).1.rt.length = 4 ∧ ((newCl o).r.length : Int) = o.b := by
  obtain ⟨hv, ho, hc, he, hw⟩ := step_taken hd
  have hq := (okCm_new h1).1 ho
  have e : (stepH h o).1 = ⟨h.cs ++ [newCl o], h.rt.set o.a.toNat h.cs.length⟩ := by rw [he, doH, if_pos h1, putCl, if_pos rfl]
  have h4 := (valid_iff.1 hv).2.2.1
  refine ⟨o.a.toNat, by omega, by omega, ?_, ?_, ?_, ?_, ?_, ?_⟩
  · rw [e]
    exact List.getElem?_set_self (by rw [h4]; omega)
  · rw [e]
    simp
  · refine reach_root hw (k := o.a.toNat) ?_
    rw [e]
    exact List.getElem?_set_self (by rw [h4]; omega)
  · rw [e]
    simp
  · rw [e]
    simp [h4]
  · simp [newCl]
    omega
end Hps

set_option maxHeartbeats 8000000 in
theorem newLivesLaw_walk (A : Option Addr) (n c : Nat) (w : World) (h : Bytes w w.heap.size A n) (hc : n ≤ c) (hn : n ≤ 9223372036854775807) :
    Calls Try.prog 8 #[.slice A n c] w fun e w' => e = .returned (.bool true) ∧ Below w.heap.size w w' := by
  by_cases hs : n ≤ 1048576
  case neg =>
    have hs' : (1048576 : Int) < (n : Int) := by omega
    go_enter Try.func8, Try.ntmps8
    go_wp2
    go_ret
    exact ⟨rfl, Below.refl _ _⟩
  have hs' : decide ((1048576 : Int) < (n : Int)) = false := by simp; omega
  go_enter Try.func8, Try.ntmps8
  go_wp2_with fail
  refine (drawStepHeap_any _ _ _ _ h hc hn).mono ?_
  rintro e w1 ⟨A1, nn, c1, R1, m, d1, hh, o, rfl, hc1, hd1, hsH, hsm, -, b1⟩
  have hn41 : nn ≤ 41 := by rw [← hsH.cells.1]; exact hsm.1
  have hm4 : m ≤ 4 := by rw [← hsH.roots.1]; exact hsm.2.1
  have bA : Below w1.heap.size w1 ((w1.alloc (.cells #[.slice A1 nn c1, .slice R1 m d1] 28)).alloc (.cells #[.int .i64 o.op, .int .i64 o.a, .int .i64 o.b, .int .i64 o.c] 36)) := ((Below.refl _ _).alloc (Nat.le_refl _) _).alloc (by simp) _
  have bx := (Rw.new w1 28 #[.slice A1 nn c1, .slice R1 m d1]).alloc (.cells #[.int .i64 o.op, .int .i64 o.a, .int .i64 o.b, .int .i64 o.c] 36)
  have cx := Rw.new (w1.alloc (.cells #[.slice A1 nn c1, .slice R1 m d1] 28)) 36 #[.int .i64 o.op, .int .i64 o.a, .int .i64 o.b, .int .i64 o.c]
  rw [World.size_alloc] at cx
  have hs2 := hsH.up bA
  have bb := b1.trans (bA.mono b1.size)
  have T := tiny_stepH hh o
  obtain ⟨h2, hh2⟩ : ∃ h2, (Hps.stepH hh o).1 = h2 := ⟨_, rfl⟩
  obtain ⟨vd, hvd⟩ : ∃ vd, (Hps.stepH hh o).2 = vd := ⟨_, rfl⟩
  have hvv : (vd != vd) = false := by cases vd <;> rfl
  rw [hh2] at T
  have H2 := Lib.hid hh2
  have HD := Lib.hid hvd
  obtain ⟨n5, hn5⟩ : ∃ n5, h2.cs.length = n5 := ⟨_, rfl⟩
  obtain ⟨m5, hm5⟩ : ∃ m5, h2.rt.length = m5 := ⟨_, rfl⟩
  have hn40 : n5 ≤ 40 := by have := T.1; omega
  have hm5' : m5 ≤ 4 := by have := T.2.1; omega
  have H3 := Lib.hid (fun cl (hcl : cl ∈ h2.cs) => show cl.r.length ≤ 1000000 by have := T.2.2 cl hcl; omega)
  have E0 := Lib.hid hn5
  have E4 := Lib.hid hm5
  clear hh2 hvd hsH bA b1 hn5 hm5 T
  have HSM := Lib.hid hsm
  clear hsm
  go_upto_region 4 with fail
  generalize (w1.alloc (.cells #[.slice A1 nn c1, .slice R1 m d1] 28)).alloc (.cells #[.int .i64 o.op, .int .i64 o.a, .int .i64 o.b, .int .i64 o.c] 36) = w2 at bx cx hs2 bb ⊢
  generalize w1.heap.size = b at bx cx ⊢
  have x0 : w2.cell? ⟨b, 0, none⟩ = some (.slice A1 nn c1) := bx.cell 0
  have x1 : w2.cell? ⟨b, 1, none⟩ = some (.slice R1 m d1) := bx.cell 1
  have y0 : w2.cell? ⟨b + 1, 0, none⟩ = some (.int .i64 o.op) := cx.cell 0
  have y1 : w2.cell? ⟨b + 1, 1, none⟩ = some (.int .i64 o.a) := cx.cell 1
  have y2 : w2.cell? ⟨b + 1, 2, none⟩ = some (.int .i64 o.b) := cx.cell 2
  have y3 : w2.cell? ⟨b + 1, 3, none⟩ = some (.int .i64 o.c) := cx.cell 3
  go_wp2_with fail
  refine (stepHeap_any _ _ _ _ _ _ hh o _ hs2 (by omega) (by omega) hc1 hd1).mono ?_
  rw [H2.out, HD.out]
  rintro e w3 ⟨vc, vr, rfl, ⟨rvs, own⟩, b3⟩
  obtain ⟨A5, c5, R5, d5, rfl, rfl, hc5, hd5, -⟩ := own.form
  rw [E0.out] at own hc5 ⊢
  rw [E4.out] at own hd5 ⊢
  have bA : Below w3.heap.size w3 (w3.alloc (.cells #[.slice A5 n5 c5, .slice R5 m5 d5] 28)) := (Below.refl _ _).alloc (Nat.le_refl _) _
  have r5 := own.reads.up bA
  have q5 := Rw.new w3 28 #[.slice A5 n5 c5, .slice R5 m5 d5]
  replace bx := (bx.keep b3 bx.lt).alloc (.cells #[.slice A5 n5 c5, .slice R5 m5 d5] 28)
  replace cx := (cx.keep b3 cx.lt).alloc (.cells #[.slice A5 n5 c5, .slice R5 m5 d5] 28)
  replace hs2 := (hs2.up b3).up bA
  replace bb := (bb.trans (b3.mono bb.size)).trans (bA.mono (bb.trans (b3.mono bb.size)).size)
  clear x0 x1 y0 y1 y2 y3 b3 own bA
  go_upto_region 5 with fail
  generalize w3.alloc (.cells #[.slice A5 n5 c5, .slice R5 m5 d5] 28) = w4 at bx cx hs2 bb r5 q5 ⊢
  generalize w3.heap.size = g5 at q5 ⊢
  have x0 : w4.cell? ⟨b, 0, none⟩ = some (.slice A1 nn c1) := bx.cell 0
  have x1 : w4.cell? ⟨b, 1, none⟩ = some (.slice R1 m d1) := bx.cell 1
  have y0 : w4.cell? ⟨b + 1, 0, none⟩ = some (.int .i64 o.op) := cx.cell 0
  have y1 : w4.cell? ⟨b + 1, 1, none⟩ = some (.int .i64 o.a) := cx.cell 1
  have y2 : w4.cell? ⟨b + 1, 2, none⟩ = some (.int .i64 o.b) := cx.cell 2
  have y3 : w4.cell? ⟨b + 1, 3, none⟩ = some (.int .i64 o.c) := cx.cell 3
  go_wp2_with fail
  refine (mStepHeap_any _ _ _ _ _ _ hh o _ hs2 (by omega) (by omega)).mono ?_
  rw [H2.out, HD.out]
  rintro e w5 ⟨vc, vr, rfl, ⟨rvs7, own⟩, b5⟩
  obtain ⟨A7, c7, R7, d7, rfl, rfl, -⟩ := own.form
  rw [E0.out, E4.out] at own ⊢
  have bA : Below w5.heap.size w5 (w5.alloc (.cells #[.slice A7 n5 c7, .slice R7 m5 d7] 28)) := (Below.refl _ _).alloc (Nat.le_refl _) _
  have r7 := own.reads.up bA
  have q7 := Rw.new w5 28 #[.slice A7 n5 c7, .slice R7 m5 d7]
  replace bx := (bx.keep b5 bx.lt).alloc (.cells #[.slice A7 n5 c7, .slice R7 m5 d7] 28)
  replace cx := (cx.keep b5 cx.lt).alloc (.cells #[.slice A7 n5 c7, .slice R7 m5 d7] 28)
  replace q5 := (q5.keep b5 q5.lt).alloc (.cells #[.slice A7 n5 c7, .slice R7 m5 d7] 28)
  replace hs2 := (hs2.up b5).up bA
  replace r5 := (r5.up b5).up bA
  replace bb := (bb.trans (b5.mono bb.size)).trans (bA.mono (bb.trans (b5.mono bb.size)).size)
  clear x0 x1 y0 y1 y2 y3 b5 own bA
  go_upto_region 6 with fail
  generalize w5.alloc (.cells #[.slice A7 n5 c7, .slice R7 m5 d7] 28) = w6 at bx cx hs2 bb r5 q5 r7 q7 ⊢
  generalize w5.heap.size = g7 at q7 ⊢
  have z0 : w6.cell? ⟨g5, 0, none⟩ = some (.slice A5 n5 c5) := q5.cell 0
  have z1 : w6.cell? ⟨g5, 1, none⟩ = some (.slice R5 m5 d5) := q5.cell 1
  have z2 : w6.cell? ⟨g7, 0, none⟩ = some (.slice A7 n5 c7) := q7.cell 0
  have z3 : w6.cell? ⟨g7, 1, none⟩ = some (.slice R7 m5 d7) := q7.cell 1
  go_wp2_with fail
  refine (sameHeap_same _ _ _ _ _ _ _ _ _ _ h2 _ r5 r7 (by omega) (by omega) H3.out).mono ?_
  rintro e w7 ⟨rfl, b7⟩
  replace bx := bx.keep b7 bx.lt
  replace cx := cx.keep b7 cx.lt
  replace q5 := q5.keep b7 q5.lt
  replace hs2 := hs2.up b7
  replace r5 := r5.up b7
  replace bb := bb.trans (b7.mono bb.size)
  clear z0 z1 z2 z3 b7 r7 q7
  have y0 : w7.cell? ⟨b + 1, 0, none⟩ = some (.int .i64 o.op) := cx.cell 0
  cases vd
  · go_wp2_with fail
    refine (alive_any _).mono ?_
    rintro e w8 ⟨rfl, b8⟩
    replace bb := bb.trans (b8.mono bb.size)
    go_wp2_with fail
    go_ret
    exact ⟨rfl, bb⟩
  by_cases h1 : o.op = 1
  case neg =>
    have h1' : (o.op != 1) = true := by rw [bne_iff_ne]; exact h1
    go_wp2_with fail
    refine (alive_any _).mono ?_
    rintro e w8 ⟨rfl, b8⟩
    replace bb := bb.trans (b8.mono bb.size)
    go_wp2_with fail
    go_ret
    exact ⟨rfl, bb⟩
  obtain ⟨a, ha, ha4, p1, p2, p3, p4, p5, p6⟩ := Hps.new_taken HD.out h1
  rw [H2.out] at p1 p2 p3 p4 p5
  rw [hs2.cells.1] at p1 p2 p3 p4
  rw [E0.out] at p4
  rw [E4.out] at p5
  subst p5
  have HC := Lib.hid (show (Hps.newCl o).d = o.c from rfl)
  obtain ⟨cl, hcl⟩ : ∃ cl, Hps.newCl o = cl := ⟨_, rfl⟩
  rw [hcl] at p2 p6 HC
  have hn5 : nn < n5 := by omega
  have ha5 : (a : Int) < 4 := by omega
  have hnn5 : (nn : Int) < n5 := by omega
  have h1' : (o.op != 1) = false := by rw [bne_eq_false_iff_eq]; exact h1
  have hrl : (Hps.reachH h2).length = n5 := by
    have := (Hps.step_taken HD.out).2.2.2.2
    rw [H2.out] at this
    rw [Hps.reachH_len this, E0.out]
  obtain ⟨xs, hxs⟩ : ∃ xs, Hps.reachH h2 = xs := ⟨_, rfl⟩
  rw [hxs] at p3 hrl
  have HX := Lib.hid hxs
  have P3 := Lib.hid p3
  have P2 := Lib.hid p2
  have P1 := Lib.hid p1
  have RL := Lib.hid hrl
  have hop := h1
  have P6 := Lib.hid p6
  have HA := Lib.hid ha
  clear h1 p1 p2 p3 hcl hxs hrl hop ha4 p4 p6 ha
  obtain ⟨gr, og, x, rfl, hgr, hx, e1⟩ := r5.roots.at_ (k := a) (by omega)
  rw [P1.out] at hx
  have hx := Option.some.inj hx
  subst hx
  have y1 : w7.cell? ⟨b + 1, 1, none⟩ = some (.int .i64 o.a) := cx.cell 1
  rw [HA.out] at y1
  have z1 : w7.cell? ⟨g5, 1, none⟩ = some (.slice (some ⟨gr, og, none⟩) 4 d5) := q5.cell 1
  have z0 : w7.cell? ⟨g5, 0, none⟩ = some (.slice A5 n5 c5) := q5.cell 0
  go_wp2_with fail
  refine (reachable_any _ _ _ _ _ _ h2 _ r5 (by omega) (by omega) hc5 hd5).mono ?_
  rw [HX.out]
  rintro e w8 ⟨v, rfl, ov, b8⟩
  obtain ⟨Av, cv, rfl, -⟩ := ov.form
  have hrv := ov.reads
  rw [RL.out] at hrv ⊢
  obtain ⟨gv, ov', bv, rfl, hgv, hbv, e2⟩ := hrv.at_ (k := nn) hn5
  rw [P3.out] at hbv
  have hbv := Option.some.inj hbv
  subst hbv
  replace bx := bx.keep b8 bx.lt
  replace cx := cx.keep b8 cx.lt
  replace q5 := q5.keep b8 q5.lt
  replace r5 := r5.up b8
  replace bb := bb.trans (b8.mono bb.size)
  obtain ⟨gc, oc, cl', A', m', cc, rfl, hgc, hcl', f1, f2, f3, hmc, hi⟩ := r5.cells.at_ (k := nn) hn5
  rw [P2.out] at hcl'
  have hcl' := Option.some.inj hcl'
  subst hcl'
  rw [HC.out] at f2
  have hml := hi.1
  have hmb : (m' : Int) = o.b := by have := P6.out; omega
  have HMB := Lib.hid hmb
  clear b8 y0 y1 z0 z1 e1 ov hrv hi hmb
  have x0 : w8.cell? ⟨b, 0, none⟩ = some (.slice A1 nn c1) := bx.cell 0
  have y2 : w8.cell? ⟨b + 1, 2, none⟩ = some (.int .i64 o.b) := cx.cell 2
  have y3 : w8.cell? ⟨b + 1, 3, none⟩ = some (.int .i64 o.c) := cx.cell 3
  rw [← HMB.out] at y2
  have z0 : w8.cell? ⟨g5, 0, none⟩ = some (.slice (some ⟨gc, oc, none⟩) n5 c5) := q5.cell 0
  go_wp2_with fail
  go_big_quiet (fail)
  go_wp2
  go_ret
  exact ⟨by simp, below_drewN bb _⟩

namespace Hps
theorem rootAt_mem {h : Hp} {i : Int} {k : Nat} (e : rootAt h i = (k : Int)) : (k : Int) ∈ h.rt := by
  unfold rootAt at e
  cases hx : h.rt[i.toNat]? with
  | none =>
    rw [hx] at e
    simp at e
  | some x =>
    rw [hx] at e
    have e : x = (k : Int) := by simpa using e
    rw [← e]
    exact List.mem_of_getElem? hx
theorem refAt_mem {cs : List Cl} {n p : Int} {k : Nat} (e : refAt cs n p = (k : Int)) : ∃ c, cs[n.toNat]? = some c ∧ (k : Int) ∈ c.r := by
  unfold refAt at e
  cases hx : cs[n.toNat]? with
  | none =>
    rw [hx] at e
    simp at e
  | some c =>
    rw [hx] at e
    refine ⟨c, rfl, ?_⟩
    cases hy : c.r[p.toNat]? with
    | none =>
      simp only [hy] at e
      simp at e
    | some y =>
      simp only [hy] at e
      have e : y = (k : Int) := by simpa using e
      rw [← e]
      exact List.mem_of_getElem? hy
/-- a step that makes no cell reaches nothing new -/
theorem step_less {h : Hp} {o : Cm} (hd : (stepH h o).2 = true) (h1 : o.op ≠ 1) : (stepH h o).1.cs.length = h.cs.length ∧ ∀ k : Nat, (reachH (stepH h o).1)[k]? = some true → (reachH h)[k]? = some true := by
  obtain ⟨hv, ho, hc, he, hw⟩ := step_taken hd
  have key : (doH h o h.cs.length).cs.length = h.cs.length ∧ (∀ k : Nat, (k : Int) ∈ (doH h o h.cs.length).rt → Rch h.cs h.rt k) ∧ ∀ (k m : Nat) (c : Cl), Rch h.cs h.rt k → (doH h o h.cs.length).cs[k]? = some c → (m : Int) ∈ c.r → Rch h.cs h.rt m := by
    have same : ∀ (k m : Nat) (c : Cl), Rch h.cs h.rt k → h.cs[k]? = some c → (m : Int) ∈ c.r → Rch h.cs h.rt m := fun k m c a b d => .step a b d
    have hroot : ∀ k : Nat, (k : Int) ∈ h.rt → Rch h.cs h.rt k := fun k hk => .root hk
    unfold doH
    rw [if_neg h1]
    by_cases h2 : o.op = 2
    · rw [if_pos h2]
      refine ⟨rfl, fun k hk => ?_, same⟩
      rcases List.mem_or_eq_of_mem_set hk with hk | hk
      · exact hroot k hk
      · have hp : placeH h.cs (rootAt h o.b) o.c = true := by
          unfold canH at hc
          rw [if_pos h2, Bool.and_eq_true] at hc
          exact hc.2
        have h0 : 0 ≤ rootAt h o.b := by
          unfold placeH at hp
          rw [Bool.and_eq_true, decide_eq_true_eq] at hp
          exact hp.1
        obtain ⟨c, hcc, hm⟩ := refAt_mem hk.symm
        exact .step (.root (rootAt_mem (i := o.b) (k := (rootAt h o.b).toNat) (by omega))) hcc hm
    · rw [if_neg h2]
      by_cases h3 : o.op = 3
      · rw [if_pos h3]
        unfold setRef
        cases hcc : h.cs[(rootAt h o.a).toNat]? with
        | none => exact ⟨rfl, hroot, same⟩
        | some c =>
          refine ⟨by simp, hroot, fun k m c' hk hc' hm => ?_⟩
          simp only at hc'
          rw [List.getElem?_set] at hc'
          split at hc'
          · rename_i ek
            split at hc'
            · have e := Option.some.inj hc'
              rw [← e] at hm
              rcases List.mem_or_eq_of_mem_set hm with hm | hm
              · exact same k m c hk (by rw [← ek]; exact hcc) hm
              · exact hroot m (rootAt_mem hm.symm)
            · cases hc'
          · exact same k m c' hk hc' hm
      · rw [if_neg h3]
        by_cases h4 : o.op = 4
        · rw [if_pos h4]
          refine ⟨rfl, fun k hk => ?_, same⟩
          rcases List.mem_or_eq_of_mem_set hk with hk | hk
          · exact hroot k hk
          · exact hroot k (rootAt_mem hk.symm)
        · rw [if_neg h4]
          by_cases h5 : o.op = 5
          · rw [if_pos h5]
            refine ⟨rfl, fun k hk => ?_, same⟩
            rcases List.mem_or_eq_of_mem_set hk with hk | hk
            · exact hroot k hk
            · omega
          · rw [if_neg h5]
            split
            · unfold setDat
              cases hcc : h.cs[(rootAt h o.a).toNat]? with
              | none => exact ⟨rfl, hroot, same⟩
              | some c =>
                refine ⟨by simp, hroot, fun k m c' hk hc' hm => ?_⟩
                simp only at hc'
                rw [List.getElem?_set] at hc'
                split at hc'
                · rename_i ek
                  split at hc'
                  · have e := Option.some.inj hc'
                    rw [← e] at hm
                    exact same k m c hk (by rw [← ek]; exact hcc) hm
                  · cases hc'
                · exact same k m c' hk hc' hm
            · exact ⟨rfl, hroot, same⟩
  rw [← he] at key
  obtain ⟨k1, k2, k3⟩ := key
  refine ⟨k1, fun k hk => ?_⟩
  have hlt : k < h.cs.length := by
    have := (List.getElem?_eq_some_iff.1 hk).1
    rw [reachH_len hw, k1] at this
    exact this
  rw [reachH, if_pos hw, reachL_true (by rw [k1]; exact hlt)] at hk
  rw [reachH, if_pos hv, reachL_true hlt]
  exact Rch.inside (S := fun k => Rch h.cs h.rt k) k2 k3 hk
end Hps

set_option maxHeartbeats 8000000 in
theorem dropLessLaw_walk (A : Option Addr) (n c : Nat) (w : World) (h : Bytes w w.heap.size A n) (hc : n ≤ c) (hn : n ≤ 9223372036854775807) :
    Calls Try.prog 9 #[.slice A n c] w fun e w' => e = .returned (.bool true) ∧ Below w.heap.size w w' := by
  by_cases hs : n ≤ 1048576
  case neg =>
    have hs' : (1048576 : Int) < (n : Int) := by omega
    go_enter Try.func9, Try.ntmps9
    go_wp2
    go_ret
    exact ⟨rfl, Below.refl _ _⟩
  have hs' : decide ((1048576 : Int) < (n : Int)) = false := by simp; omega
  go_enter Try.func9, Try.ntmps9
  go_wp2_with fail
  refine (drawStepHeap_any _ _ _ _ h hc hn).mono ?_
  rintro e w1 ⟨A1, nn, c1, R1, m, d1, hh, o, rfl, hc1, hd1, hsH, hsm, -, b1⟩
  have hn41 : nn ≤ 41 := by rw [← hsH.cells.1]; exact hsm.1
  have hm4 : m ≤ 4 := by rw [← hsH.roots.1]; exact hsm.2.1
  have bA : Below w1.heap.size w1 ((w1.alloc (.cells #[.slice A1 nn c1, .slice R1 m d1] 28)).alloc (.cells #[.int .i64 o.op, .int .i64 o.a, .int .i64 o.b, .int .i64 o.c] 36)) := ((Below.refl _ _).alloc (Nat.le_refl _) _).alloc (by simp) _
  have bx := (Rw.new w1 28 #[.slice A1 nn c1, .slice R1 m d1]).alloc (.cells #[.int .i64 o.op, .int .i64 o.a, .int .i64 o.b, .int .i64 o.c] 36)
  have cx := Rw.new (w1.alloc (.cells #[.slice A1 nn c1, .slice R1 m d1] 28)) 36 #[.int .i64 o.op, .int .i64 o.a, .int .i64 o.b, .int .i64 o.c]
  rw [World.size_alloc] at cx
  have hs2 := hsH.up bA
  have bb := b1.trans (bA.mono b1.size)
  have T := tiny_stepH hh o
  obtain ⟨h2, hh2⟩ : ∃ h2, (Hps.stepH hh o).1 = h2 := ⟨_, rfl⟩
  obtain ⟨vd, hvd⟩ : ∃ vd, (Hps.stepH hh o).2 = vd := ⟨_, rfl⟩
  have hvv : (vd != vd) = false := by cases vd <;> rfl
  rw [hh2] at T
  have H2 := Lib.hid hh2
  have HD := Lib.hid hvd
  obtain ⟨n5, hn5⟩ : ∃ n5, h2.cs.length = n5 := ⟨_, rfl⟩
  obtain ⟨m5, hm5⟩ : ∃ m5, h2.rt.length = m5 := ⟨_, rfl⟩
  have hn40 : n5 ≤ 40 := by have := T.1; omega
  have hm5' : m5 ≤ 4 := by have := T.2.1; omega
  have H3 := Lib.hid (fun cl (hcl : cl ∈ h2.cs) => show cl.r.length ≤ 1000000 by have := T.2.2 cl hcl; omega)
  have E0 := Lib.hid hn5
  have E4 := Lib.hid hm5
  clear hh2 hvd hsH bA b1 hn5 hm5 T
  have HSM := Lib.hid hsm
  clear hsm
  go_upto_region 4 with fail
  generalize (w1.alloc (.cells #[.slice A1 nn c1, .slice R1 m d1] 28)).alloc (.cells #[.int .i64 o.op, .int .i64 o.a, .int .i64 o.b, .int .i64 o.c] 36) = w2 at bx cx hs2 bb ⊢
  generalize w1.heap.size = b at bx cx ⊢
  have x0 : w2.cell? ⟨b, 0, none⟩ = some (.slice A1 nn c1) := bx.cell 0
  have x1 : w2.cell? ⟨b, 1, none⟩ = some (.slice R1 m d1) := bx.cell 1
  have y0 : w2.cell? ⟨b + 1, 0, none⟩ = some (.int .i64 o.op) := cx.cell 0
  have y1 : w2.cell? ⟨b + 1, 1, none⟩ = some (.int .i64 o.a) := cx.cell 1
  have y2 : w2.cell? ⟨b + 1, 2, none⟩ = some (.int .i64 o.b) := cx.cell 2
  have y3 : w2.cell? ⟨b + 1, 3, none⟩ = some (.int .i64 o.c) := cx.cell 3
  go_wp2_with fail
  refine (stepHeap_any _ _ _ _ _ _ hh o _ hs2 (by omega) (by omega) hc1 hd1).mono ?_
  rw [H2.out, HD.out]
  rintro e w3 ⟨vc, vr, rfl, ⟨rvs, own⟩, b3⟩
  obtain ⟨A5, c5, R5, d5, rfl, rfl, hc5, hd5, -⟩ := own.form
  rw [E0.out] at own hc5 ⊢
  rw [E4.out] at own hd5 ⊢
  have bA : Below w3.heap.size w3 (w3.alloc (.cells #[.slice A5 n5 c5, .slice R5 m5 d5] 28)) := (Below.refl _ _).alloc (Nat.le_refl _) _
  have r5 := own.reads.up bA
  have q5 := Rw.new w3 28 #[.slice A5 n5 c5, .slice R5 m5 d5]
  replace bx := (bx.keep b3 bx.lt).alloc (.cells #[.slice A5 n5 c5, .slice R5 m5 d5] 28)
  replace cx := (cx.keep b3 cx.lt).alloc (.cells #[.slice A5 n5 c5, .slice R5 m5 d5] 28)
  replace hs2 := (hs2.up b3).up bA
  replace bb := (bb.trans (b3.mono bb.size)).trans (bA.mono (bb.trans (b3.mono bb.size)).size)
  clear x0 x1 y0 y1 y2 y3 b3 own bA
  go_upto_region 5 with fail
  generalize w3.alloc (.cells #[.slice A5 n5 c5, .slice R5 m5 d5] 28) = w4 at bx cx hs2 bb r5 q5 ⊢
  generalize w3.heap.size = g5 at q5 ⊢
  have x0 : w4.cell? ⟨b, 0, none⟩ = some (.slice A1 nn c1) := bx.cell 0
  have x1 : w4.cell? ⟨b, 1, none⟩ = some (.slice R1 m d1) := bx.cell 1
  have y0 : w4.cell? ⟨b + 1, 0, none⟩ = some (.int .i64 o.op) := cx.cell 0
  have y1 : w4.cell? ⟨b + 1, 1, none⟩ = some (.int .i64 o.a) := cx.cell 1
  have y2 : w4.cell? ⟨b + 1, 2, none⟩ = some (.int .i64 o.b) := cx.cell 2
  have y3 : w4.cell? ⟨b + 1, 3, none⟩ = some (.int .i64 o.c) := cx.cell 3
  go_wp2_with fail
  refine (mStepHeap_any _ _ _ _ _ _ hh o _ hs2 (by omega) (by omega)).mono ?_
  rw [H2.out, HD.out]
  rintro e w5 ⟨vc, vr, rfl, ⟨rvs7, own⟩, b5⟩
  obtain ⟨A7, c7, R7, d7, rfl, rfl, -⟩ := own.form
  rw [E0.out, E4.out] at own ⊢
  have bA : Below w5.heap.size w5 (w5.alloc (.cells #[.slice A7 n5 c7, .slice R7 m5 d7] 28)) := (Below.refl _ _).alloc (Nat.le_refl _) _
  have r7 := own.reads.up bA
  have q7 := Rw.new w5 28 #[.slice A7 n5 c7, .slice R7 m5 d7]
  replace bx := (bx.keep b5 bx.lt).alloc (.cells #[.slice A7 n5 c7, .slice R7 m5 d7] 28)
  replace cx := (cx.keep b5 cx.lt).alloc (.cells #[.slice A7 n5 c7, .slice R7 m5 d7] 28)
  replace q5 := (q5.keep b5 q5.lt).alloc (.cells #[.slice A7 n5 c7, .slice R7 m5 d7] 28)
  replace hs2 := (hs2.up b5).up bA
  replace r5 := (r5.up b5).up bA
  replace bb := (bb.trans (b5.mono bb.size)).trans (bA.mono (bb.trans (b5.mono bb.size)).size)
  clear x0 x1 y0 y1 y2 y3 b5 own bA
  go_upto_region 6 with fail
  generalize w5.alloc (.cells #[.slice A7 n5 c7, .slice R7 m5 d7] 28) = w6 at bx cx hs2 bb r5 q5 r7 q7 ⊢
  generalize w5.heap.size = g7 at q7 ⊢
  have z0 : w6.cell? ⟨g5, 0, none⟩ = some (.slice A5 n5 c5) := q5.cell 0
  have z1 : w6.cell? ⟨g5, 1, none⟩ = some (.slice R5 m5 d5) := q5.cell 1
  have z2 : w6.cell? ⟨g7, 0, none⟩ = some (.slice A7 n5 c7) := q7.cell 0
  have z3 : w6.cell? ⟨g7, 1, none⟩ = some (.slice R7 m5 d7) := q7.cell 1
  go_wp2_with fail
  refine (sameHeap_same _ _ _ _ _ _ _ _ _ _ h2 _ r5 r7 (by omega) (by omega) H3.out).mono ?_
  rintro e w7 ⟨rfl, b7⟩
  replace bx := bx.keep b7 bx.lt
  replace cx := cx.keep b7 cx.lt
  replace q5 := q5.keep b7 q5.lt
  replace hs2 := hs2.up b7
  replace r5 := r5.up b7
  replace bb := bb.trans (b7.mono bb.size)
  clear z0 z1 z2 z3 b7 r7 q7
  have y0 : w7.cell? ⟨b + 1, 0, none⟩ = some (.int .i64 o.op) := cx.cell 0
  cases vd
  · go_wp2_with fail
    refine (alive_any _).mono ?_
    rintro e w8 ⟨rfl, b8⟩
    replace bb := bb.trans (b8.mono bb.size)
    go_wp2_with fail
    go_ret
    exact ⟨rfl, bb⟩
  by_cases h1 : o.op = 1
  · have h1' : (o.op == 1) = true := by rw [beq_iff_eq]; exact h1
    clear h1
    go_wp2_with fail
    refine (alive_any _).mono ?_
    rintro e w8 ⟨rfl, b8⟩
    replace bb := bb.trans (b8.mono bb.size)
    go_wp2_with fail
    go_ret
    exact ⟨rfl, bb⟩
  have h1' : (o.op == 1) = false := by rw [beq_eq_false_iff_ne]; exact h1
  obtain ⟨p1, p2⟩ := Hps.step_less HD.out h1
  obtain ⟨t1, -, -, -, t5⟩ := Hps.step_taken HD.out
  have hy := Hps.reachH_len t1
  have hx := Hps.reachH_len t5
  rw [H2.out] at p1 p2 hx t5
  rw [hs2.cells.1] at hy p1
  rw [p1] at hx
  rw [E0.out] at p1
  subst p1
  obtain ⟨xs, hxs⟩ : ∃ xs, Hps.reachH h2 = xs := ⟨_, rfl⟩
  obtain ⟨ys, hys⟩ : ∃ ys, Hps.reachH hh = ys := ⟨_, rfl⟩
  rw [hxs] at p2 hx
  rw [hys] at p2 hy
  have HX := Lib.hid hxs
  have HY := Lib.hid hys
  have LX := Lib.hid hx
  have LY := Lib.hid hy
  have PL := Lib.hid p2
  clear hxs hys hx hy p2 t1 t5 h1
  have x0 : w7.cell? ⟨b, 0, none⟩ = some (.slice A1 n5 c1) := bx.cell 0
  have x1 : w7.cell? ⟨b, 1, none⟩ = some (.slice R1 m d1) := bx.cell 1
  go_wp2_with fail
  refine (reachable_any _ _ _ _ _ _ hh _ hs2 (by omega) (by omega) hc1 hd1).mono ?_
  rw [HY.out]
  rintro e w8 ⟨v, rfl, ov, b8⟩
  obtain ⟨Ay, cy, rfl, -⟩ := ov.form
  have ry := ov.reads
  rw [LY.out] at ry ⊢
  replace q5 := q5.keep b8 q5.lt
  replace r5 := r5.up b8
  replace bb := bb.trans (b8.mono bb.size)
  clear b8 ov x0 x1 y0
  have z0 : w8.cell? ⟨g5, 0, none⟩ = some (.slice A5 n5 c5) := q5.cell 0
  have z1 : w8.cell? ⟨g5, 1, none⟩ = some (.slice R5 m5 d5) := q5.cell 1
  go_wp2_with fail
  refine (reachable_any _ _ _ _ _ _ h2 _ r5 (by omega) (by omega) hc5 hd5).mono ?_
  rw [HX.out]
  rintro e w9 ⟨v, rfl, ov, b9⟩
  obtain ⟨Ax, cx', rfl, -⟩ := ov.form
  have rx := ov.reads
  rw [LX.out] at rx ⊢
  replace ry := ry.up b9
  replace bb := bb.trans (b9.mono bb.size)
  clear b9 ov z0 z1
  go_wp2_with fail
  go_loopw [11] (fun i wr => ∃ k : Nat, k ≤ n5 ∧ i = .int .i64 k ∧ wr = w9) (fun i _ => n5 - (intOf i).toNat)
  case atStart => exact ⟨0, Nat.zero_le _, rfl, rfl⟩
  case round =>
    obtain ⟨k, hk, rfl, rfl⟩ := hrel
    by_cases hlt : k < n5
    · obtain ⟨ga, oa, ba, rfl, hga, hba, e1⟩ := rx.at_ hlt
      obtain ⟨gb, ob, bb', rfl, hgb, hbb, e2⟩ := ry.at_ hlt
      have hlt' : (k : Int) < n5 := by omega
      have hge : ¬ ((k : Int) ≥ n5) := by omega
      have hge' : ¬ ((n5 : Int) ≤ k) := by omega
      cases ba
      · clear hba hbb
        go_wp2_with fail
        go_roundw
        case rel => exact ⟨k + 1, by omega, by go_num, trivial⟩
        case measure => simp [intOf]; omega
      · have := PL.out k hba
        rw [hbb] at this
        have := Option.some.inj this
        subst this
        clear hba hbb
        go_wp2_with fail
        go_roundw
        case rel => exact ⟨k + 1, by omega, by go_num, trivial⟩
        case measure => simp [intOf]; omega
    · obtain rfl : k = n5 := by omega
      go_wp2_with fail
      go_ret
      exact ⟨by simp, bb⟩
end Go.Proofs.Ytmjejcfifkbkoaa
