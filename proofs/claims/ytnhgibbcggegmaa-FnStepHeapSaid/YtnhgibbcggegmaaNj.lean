/- For every list of bytes the law FnStepHeap returns true (P50), over the program's contracts. No conditions. -/
import Derived.Test.YtnhgibbcggegmaaNh
import Derived.Test.YtnhgibbcggegmaaGg
import Derived.Deep.Cut
import Derived.BigQuiet
import Derived.Deep.QuietTactic
namespace Go.Proofs.Ytnhgibbcggegmaa
open Go.RowKit
set_option maxRecDepth 100000

namespace Hps
theorem rootAt_some {h : Hp} {i : Int} (h0 : 0 ≤ rootAt h i) : h.rt[i.toNat]? = some (rootAt h i) := by
  unfold rootAt at h0 ⊢
  cases hx : h.rt[i.toNat]? with
  | none =>
    rw [hx] at h0
    simp at h0
  | some x => rfl
/-- a step that is not taken -/
theorem step_refused {h : Hp} {o : Cm} (hd : (stepH h o).2 = false) : (stepH h o).1 = zeroH ∨ (stepH h o).1 = h := by
  unfold stepH at hd ⊢
  split
  · rename_i h1
    rw [if_pos h1] at hd
    split
    · exact .inr rfl
    · rename_i h2
      rw [if_neg h2] at hd
      cases hd
  · exact .inl rfl
theorem set_frame {rt : List Int} {a k : Nat} (x : Int) : (rt.set a x)[k]? = rt[k]? ∨ k = a := by
  by_cases e : k = a
  · exact .inr e
  · left
    rw [List.getElem?_set_ne (fun h => e h.symm)]
/-- what a step leaves as it was -/
theorem step_frame {h : Hp} {o : Cm} (hd : (stepH h o).2 = true) : ∃ a : Nat, o.a = a ∧ a < 4 ∧ (stepH h o).1.rt.length = 4 ∧ h.rt.length = 4 ∧ (∀ k : Nat, (stepH h o).1.rt[k]? = h.rt[k]? ∨ (k = a ∧ o.op ≠ 3 ∧ o.op ≠ 6)) ∧
    (∀ (k : Nat) (c : Cl), h.cs[k]? = some c → ∃ c', (stepH h o).1.cs[k]? = some c' ∧ c'.u = c.u ∧ ((c'.d = c.d ∧ c'.r = c.r) ∨ h.rt[a]? = some (k : Int))) ∧ (o.op = 1 → (stepH h o).1.cs.length = h.cs.length + 1) ∧ (o.op ≠ 1 → (stepH h o).1.cs.length = h.cs.length) := by
  obtain ⟨hv, ho, hc, he, hw⟩ := step_taken hd
  have ha := okCm_a ho
  refine ⟨o.a.toNat, by omega, by omega, (valid_iff.1 hw).2.2.1, (valid_iff.1 hv).2.2.1, ?_, ?_, ?_, ?_⟩
  · intro k
    rw [he]
    unfold doH
    by_cases h1 : o.op = 1
    · rw [if_pos h1]
      rcases set_frame (rt := h.rt) (a := o.a.toNat) (k := k) (h.cs.length : Int) with e | e
      · exact .inl e
      · exact .inr ⟨e, by omega, by omega⟩
    rw [if_neg h1]
    by_cases h2 : o.op = 2
    · rw [if_pos h2]
      rcases set_frame (rt := h.rt) (a := o.a.toNat) (k := k) (refAt h.cs (rootAt h o.b) o.c) with e | e
      · exact .inl e
      · exact .inr ⟨e, by omega, by omega⟩
    rw [if_neg h2]
    by_cases h3 : o.op = 3
    · rw [if_pos h3]
      exact .inl rfl
    rw [if_neg h3]
    by_cases h4 : o.op = 4
    · rw [if_pos h4]
      rcases set_frame (rt := h.rt) (a := o.a.toNat) (k := k) (rootAt h o.b) with e | e
      · exact .inl e
      · exact .inr ⟨e, by omega, by omega⟩
    rw [if_neg h4]
    by_cases h5 : o.op = 5
    · rw [if_pos h5]
      rcases set_frame (rt := h.rt) (a := o.a.toNat) (k := k) (-1) with e | e
      · exact .inl e
      · exact .inr ⟨e, by omega, by omega⟩
    rw [if_neg h5]
    split <;> exact .inl rfl
  · intro k c hk
    rw [he]
    unfold doH
    have same : ∀ cs', cs' = h.cs → ∃ c', cs'[k]? = some c' ∧ c'.u = c.u ∧ ((c'.d = c.d ∧ c'.r = c.r) ∨ h.rt[o.a.toNat]? = some (k : Int)) := fun cs' e => ⟨c, by rw [e]; exact hk, rfl, .inl ⟨rfl, rfl⟩⟩
    by_cases h1 : o.op = 1
    · rw [if_pos h1]
      refine ⟨c, ?_, rfl, .inl ⟨rfl, rfl⟩⟩
      simp only
      rw [putCl, if_pos rfl, List.getElem?_append_left (List.getElem?_eq_some_iff.1 hk).1]
      exact hk
    rw [if_neg h1]
    by_cases h2 : o.op = 2
    · rw [if_pos h2]
      exact same _ rfl
    rw [if_neg h2]
    by_cases h3 : o.op = 3
    · rw [if_pos h3]
      have h0 : 0 ≤ rootAt h o.a := by
        unfold canH at hc
        rw [if_neg h2, if_pos h3, Bool.and_eq_true] at hc
        have hp := hc.2
        unfold placeH at hp
        rw [Bool.and_eq_true, decide_eq_true_eq] at hp
        exact hp.1
      have hr := rootAt_some h0
      unfold setRef
      simp only
      cases hcc : h.cs[(rootAt h o.a).toNat]? with
      | none => exact same _ rfl
      | some c0 =>
        simp only
        by_cases ek : (rootAt h o.a).toNat = k
        · rw [ek] at hcc ⊢
          have e0 : c0 = c := Option.some.inj (hcc.symm.trans hk)
          refine ⟨_, List.getElem?_set_self (List.getElem?_eq_some_iff.1 hk).1, by rw [e0], .inr ?_⟩
          rw [hr]
          congr 1
          omega
        · exact ⟨c, by rw [List.getElem?_set_ne ek]; exact hk, rfl, .inl ⟨rfl, rfl⟩⟩
    rw [if_neg h3]
    by_cases h4 : o.op = 4
    · rw [if_pos h4]
      exact same _ rfl
    rw [if_neg h4]
    by_cases h5 : o.op = 5
    · rw [if_pos h5]
      exact same _ rfl
    rw [if_neg h5]
    by_cases h6 : o.op = 6
    · rw [if_pos h6]
      have h0 : 0 ≤ rootAt h o.a := by
        unfold canH at hc
        rw [if_neg h2, if_neg h3, if_pos h6, Bool.and_eq_true, decide_eq_true_eq] at hc
        exact hc.2
      have hr := rootAt_some h0
      unfold setDat
      simp only
      cases hcc : h.cs[(rootAt h o.a).toNat]? with
      | none => exact same _ rfl
      | some c0 =>
        simp only
        by_cases ek : (rootAt h o.a).toNat = k
        · rw [ek] at hcc ⊢
          have e0 : c0 = c := Option.some.inj (hcc.symm.trans hk)
          refine ⟨_, List.getElem?_set_self (List.getElem?_eq_some_iff.1 hk).1, by rw [e0], .inr ?_⟩
          rw [hr]
          congr 1
          omega
        · exact ⟨c, by rw [List.getElem?_set_ne ek]; exact hk, rfl, .inl ⟨rfl, rfl⟩⟩
    · rw [if_neg h6]
      exact same _ rfl
  · intro h1
    rw [he, doH, if_pos h1, putCl, if_pos rfl]
    simp
  · intro h1
    exact (step_less hd h1).1
end Hps

set_option maxHeartbeats 8000000 in
theorem stepHeapLaw_walk (A : Option Addr) (n c : Nat) (w : World) (h : Bytes w w.heap.size A n) (hc : n ≤ c) (hn : n ≤ 9223372036854775807) :
    Calls Try.prog 4 #[.slice A n c] w fun e w' => e = .returned (.bool true) ∧ Below w.heap.size w w' := by
  by_cases hs : n ≤ 1048576
  case neg =>
    have hs' : (1048576 : Int) < (n : Int) := by omega
    go_enter Try.func4, Try.ntmps4
    go_wp2
    go_ret
    exact ⟨rfl, Below.refl _ _⟩
  have hs' : decide ((1048576 : Int) < (n : Int)) = false := by simp; omega
  go_enter Try.func4, Try.ntmps4
  go_wp2_with fail
  refine (drawStepHeap_any _ _ _ _ h hc hn).mono ?_
  rintro e w1 ⟨A1, nn, c1, R1, m, d1, hh, o, rfl, hc1, hd1, hsH, hsm, -, b1⟩
  have hn41 : nn ≤ 41 := by rw [← hsH.cells.1]; exact hsm.1
  have hm4 : m ≤ 4 := by rw [← hsH.roots.1]; exact hsm.2.1
  have bA : Below w1.heap.size w1 ((w1.alloc (.cells #[.slice A1 nn c1, .slice R1 m d1] 26)).alloc (.cells #[.int .i64 o.op, .int .i64 o.a, .int .i64 o.b, .int .i64 o.c] 28)) := ((Below.refl _ _).alloc (Nat.le_refl _) _).alloc (by simp) _
  have bx := (Rw.new w1 26 #[.slice A1 nn c1, .slice R1 m d1]).alloc (.cells #[.int .i64 o.op, .int .i64 o.a, .int .i64 o.b, .int .i64 o.c] 28)
  have cx := Rw.new (w1.alloc (.cells #[.slice A1 nn c1, .slice R1 m d1] 26)) 28 #[.int .i64 o.op, .int .i64 o.a, .int .i64 o.b, .int .i64 o.c]
  rw [World.size_alloc] at cx
  have hs2 := hsH.up bA
  have bb := b1.trans (bA.mono b1.size)
  have T := tiny_stepH hh o
  obtain ⟨h2, hh2⟩ : ∃ h2, (Hps.stepH hh o).1 = h2 := ⟨_, rfl⟩
  obtain ⟨vd, hvd⟩ : ∃ vd, (Hps.stepH hh o).2 = vd := ⟨_, rfl⟩
  have hvv : (vd != vd) = false := by cases vd <;> rfl
  rw [hh2] at T
  have H2 := Lib.hid hh2
  have HD := Lib.hid hvd
  obtain ⟨n5, hn5⟩ : ∃ n5, h2.cs.length = n5 := ⟨_, rfl⟩
  obtain ⟨m5, hm5⟩ : ∃ m5, h2.rt.length = m5 := ⟨_, rfl⟩
  have hn40 : n5 ≤ 40 := by have := T.1; omega
  have hm5' : m5 ≤ 4 := by have := T.2.1; omega
  have H3 := Lib.hid (fun cl (hcl : cl ∈ h2.cs) => show cl.r.length ≤ 1000000 by have := T.2.2 cl hcl; omega)
  have E0 := Lib.hid hn5
  have E4 := Lib.hid hm5
  clear hh2 hvd hsH bA b1 hn5 hm5 T
  have HSM := Lib.hid hsm
  clear hsm
  go_upto_region 4 with fail
  generalize (w1.alloc (.cells #[.slice A1 nn c1, .slice R1 m d1] 26)).alloc (.cells #[.int .i64 o.op, .int .i64 o.a, .int .i64 o.b, .int .i64 o.c] 28) = w2 at bx cx hs2 bb ⊢
  generalize w1.heap.size = b at bx cx ⊢
  have x0 : w2.cell? ⟨b, 0, none⟩ = some (.slice A1 nn c1) := bx.cell 0
  have x1 : w2.cell? ⟨b, 1, none⟩ = some (.slice R1 m d1) := bx.cell 1
  have y0 : w2.cell? ⟨b + 1, 0, none⟩ = some (.int .i64 o.op) := cx.cell 0
  have y1 : w2.cell? ⟨b + 1, 1, none⟩ = some (.int .i64 o.a) := cx.cell 1
  have y2 : w2.cell? ⟨b + 1, 2, none⟩ = some (.int .i64 o.b) := cx.cell 2
  have y3 : w2.cell? ⟨b + 1, 3, none⟩ = some (.int .i64 o.c) := cx.cell 3
  go_wp2_with fail
  refine (stepHeap_any _ _ _ _ _ _ hh o _ hs2 (by omega) (by omega) hc1 hd1).mono ?_
  rw [H2.out, HD.out]
  rintro e w3 ⟨vc, vr, rfl, ⟨rvs, own⟩, b3⟩
  obtain ⟨A5, c5, R5, d5, rfl, rfl, hc5, hd5, -⟩ := own.form
  rw [E0.out] at own hc5 ⊢
  rw [E4.out] at own hd5 ⊢
  have bA : Below w3.heap.size w3 (w3.alloc (.cells #[.slice A5 n5 c5, .slice R5 m5 d5] 26)) := (Below.refl _ _).alloc (Nat.le_refl _) _
  have r5 := own.reads.up bA
  have q5 := Rw.new w3 26 #[.slice A5 n5 c5, .slice R5 m5 d5]
  replace bx := (bx.keep b3 bx.lt).alloc (.cells #[.slice A5 n5 c5, .slice R5 m5 d5] 26)
  replace cx := (cx.keep b3 cx.lt).alloc (.cells #[.slice A5 n5 c5, .slice R5 m5 d5] 26)
  replace hs2 := (hs2.up b3).up bA
  replace bb := (bb.trans (b3.mono bb.size)).trans (bA.mono (bb.trans (b3.mono bb.size)).size)
  clear x0 x1 y0 y1 y2 y3 b3 own bA
  go_upto_region 5 with fail
  generalize w3.alloc (.cells #[.slice A5 n5 c5, .slice R5 m5 d5] 26) = w4 at bx cx hs2 bb r5 q5 ⊢
  generalize w3.heap.size = g5 at q5 ⊢
  have x0 : w4.cell? ⟨b, 0, none⟩ = some (.slice A1 nn c1) := bx.cell 0
  have x1 : w4.cell? ⟨b, 1, none⟩ = some (.slice R1 m d1) := bx.cell 1
  have y0 : w4.cell? ⟨b + 1, 0, none⟩ = some (.int .i64 o.op) := cx.cell 0
  have y1 : w4.cell? ⟨b + 1, 1, none⟩ = some (.int .i64 o.a) := cx.cell 1
  have y2 : w4.cell? ⟨b + 1, 2, none⟩ = some (.int .i64 o.b) := cx.cell 2
  have y3 : w4.cell? ⟨b + 1, 3, none⟩ = some (.int .i64 o.c) := cx.cell 3
  go_wp2_with fail
  refine (mStepHeap_any _ _ _ _ _ _ hh o _ hs2 (by omega) (by omega)).mono ?_
  rw [H2.out, HD.out]
  rintro e w5 ⟨vc, vr, rfl, ⟨rvs7, own⟩, b5⟩
  obtain ⟨A7, c7, R7, d7, rfl, rfl, -⟩ := own.form
  rw [E0.out, E4.out] at own ⊢
  have bA : Below w5.heap.size w5 (w5.alloc (.cells #[.slice A7 n5 c7, .slice R7 m5 d7] 26)) := (Below.refl _ _).alloc (Nat.le_refl _) _
  have r7 := own.reads.up bA
  have q7 := Rw.new w5 26 #[.slice A7 n5 c7, .slice R7 m5 d7]
  replace bx := (bx.keep b5 bx.lt).alloc (.cells #[.slice A7 n5 c7, .slice R7 m5 d7] 26)
  replace cx := (cx.keep b5 cx.lt).alloc (.cells #[.slice A7 n5 c7, .slice R7 m5 d7] 26)
  replace q5 := (q5.keep b5 q5.lt).alloc (.cells #[.slice A7 n5 c7, .slice R7 m5 d7] 26)
  replace hs2 := (hs2.up b5).up bA
  replace r5 := (r5.up b5).up bA
  replace bb := (bb.trans (b5.mono bb.size)).trans (bA.mono (bb.trans (b5.mono bb.size)).size)
  clear x0 x1 y0 y1 y2 y3 b5 own bA
  go_upto_region 6 with fail
  generalize w5.alloc (.cells #[.slice A7 n5 c7, .slice R7 m5 d7] 26) = w6 at bx cx hs2 bb r5 q5 r7 q7 ⊢
  generalize w5.heap.size = g7 at q7 ⊢
  have z0 : w6.cell? ⟨g5, 0, none⟩ = some (.slice A5 n5 c5) := q5.cell 0
  have z1 : w6.cell? ⟨g5, 1, none⟩ = some (.slice R5 m5 d5) := q5.cell 1
  have z2 : w6.cell? ⟨g7, 0, none⟩ = some (.slice A7 n5 c7) := q7.cell 0
  have z3 : w6.cell? ⟨g7, 1, none⟩ = some (.slice R7 m5 d7) := q7.cell 1
  go_wp2_with fail
  refine (sameHeap_same _ _ _ _ _ _ _ _ _ _ h2 _ r5 r7 (by omega) (by omega) H3.out).mono ?_
  rintro e w7 ⟨rfl, b7⟩
  replace bx := bx.keep b7 bx.lt
  replace cx := cx.keep b7 cx.lt
  replace q5 := q5.keep b7 q5.lt
  replace hs2 := hs2.up b7
  replace r5 := r5.up b7
  replace bb := bb.trans (b7.mono bb.size)
  clear z0 z1 z2 z3 b7 r7 q7
  have y0 : w7.cell? ⟨b + 1, 0, none⟩ = some (.int .i64 o.op) := cx.cell 0
  have z0 : w7.cell? ⟨g5, 0, none⟩ = some (.slice A5 n5 c5) := q5.cell 0
  have z1 : w7.cell? ⟨g5, 1, none⟩ = some (.slice R5 m5 d5) := q5.cell 1
  cases vd
  · by_cases hz : m5 = 0
    · subst hz
      go_wp2_with fail
      refine (alive_any _).mono ?_
      rintro e w8 ⟨rfl, b8⟩
      replace bb := bb.trans (b8.mono bb.size)
      go_wp2_with fail
      go_ret
      exact ⟨rfl, bb⟩
    have hz' : ((m5 : Int) == 0) = false := by rw [beq_eq_false_iff_ne]; omega
    have hre := Hps.step_refused HD.out
    rw [H2.out] at hre
    rcases hre with hre | hre
    · exfalso
      have := E4.out
      rw [hre] at this
      simp [Hps.zeroH] at this
      omega
    subst hre
    have en := hs2.cells.1.symm.trans E0.out
    have em := hs2.roots.1.symm.trans E4.out
    subst en em
    have x0 : w7.cell? ⟨b, 0, none⟩ = some (.slice A1 nn c1) := bx.cell 0
    have x1 : w7.cell? ⟨b, 1, none⟩ = some (.slice R1 m d1) := bx.cell 1
    clear y0 hz
    go_wp2_with fail
    refine (sameHeap_same _ _ _ _ _ _ _ _ _ _ _ _ r5 hs2 (by omega) (by omega) H3.out).mono ?_
    rintro e w9 ⟨rfl, b9⟩
    replace bb := bb.trans (b9.mono bb.size)
    go_wp2_with fail
    refine (alive_any _).mono ?_
    rintro e w10 ⟨rfl, b10⟩
    replace bb := bb.trans (b10.mono bb.size)
    go_wp2_with fail
    go_ret
    exact ⟨rfl, bb⟩
  obtain ⟨a, ha, ha4, p1, p1', p2, p3, p4, p4'⟩ := Hps.step_frame HD.out
  obtain ⟨-, -, -, -, hvx⟩ := Hps.step_taken HD.out
  rw [H2.out] at p1 p2 p3 p4 p4' hvx
  rw [E4.out] at p1
  rw [hs2.roots.1] at p1'
  rw [E0.out, hs2.cells.1] at p4 p4'
  subst p1 p1'
  have HVX := Lib.hid hvx
  have P2 := Lib.hid p2
  have P3 := Lib.hid p3
  have P4 := Lib.hid p4
  have P5 := Lib.hid p4'
  have HA := Lib.hid ha
  have HH2 := Lib.hid hs2
  have RX5 := Lib.hid r5
  have hn45 : nn ≤ n5 := by
    by_cases h1 : o.op = 1
    · have := p4 h1
      omega
    · have := p4' h1
      omega
  clear p2 p3 p4 p4' ha hvx hs2 r5 y0 z0 z1
  go_wp2_with fail
  go_loopw [9] (fun i wr => ∃ k : Nat, k ≤ 4 ∧ i = .int .i64 k ∧ Below w7.heap.size w7 wr) (fun i _ => 4 - (intOf i).toNat)
  case atStart => exact ⟨0, Nat.zero_le _, rfl, Below.refl _ _⟩
  case round =>
    obtain ⟨k, hk, rfl, bw⟩ := hrel
    have bx' := bx.keep bw bx.lt
    have cx' := cx.keep bw cx.lt
    have q5' := q5.keep bw q5.lt
    have y0 : wr.cell? ⟨b + 1, 0, none⟩ = some (.int .i64 o.op) := cx'.cell 0
    have y1 : wr.cell? ⟨b + 1, 1, none⟩ = some (.int .i64 o.a) := cx'.cell 1
    rw [HA.out] at y1
    by_cases hlt : k < 4
    · have hlt' : (k : Int) < 4 := by omega
      obtain ⟨g1, o1, x, rfl, hg1, hx, e1⟩ := (RX5.out.up bw).roots.at_ (k := k) hlt
      obtain ⟨g2, o2, y, rfl, hg2, hy, e2⟩ := (HH2.out.up bw).roots.at_ (k := k) hlt
      have z1 : wr.cell? ⟨g5, 1, none⟩ = some (.slice (some ⟨g1, o1, none⟩) 4 d5) := q5'.cell 1
      have x1 : wr.cell? ⟨b, 1, none⟩ = some (.slice (some ⟨g2, o2, none⟩) 4 d1) := bx'.cell 1
      by_cases hxy : x = y
      · subst hxy
        clear hx hy
        go_wp2_with fail
        go_big_quiet (fail)
        go_wp2
        go_roundw
        case rel => exact ⟨k + 1, by omega, by go_num, below_drewN bw _⟩
        case measure => simp [intOf]; omega
      · have hne : (x != y) = true := by rw [bne_iff_ne]; exact hxy
        obtain ⟨hka, h3, h6⟩ : k = a ∧ o.op ≠ 3 ∧ o.op ≠ 6 := by
          rcases P2.out k with e | e
          · rw [hx, hy] at e
            exact absurd (Option.some.inj e) hxy
          · exact e
        have h3' : (o.op == 3) = false := by rw [beq_eq_false_iff_ne]; exact h3
        have h6' : (o.op == 6) = false := by rw [beq_eq_false_iff_ne]; exact h6
        subst hka
        clear hx hy hxy h3 h6
        go_wp2_with fail
        go_big_quiet (fail)
        go_wp2
        go_roundw
        case rel => exact ⟨k + 1, by omega, by go_num, below_drewN bw _⟩
        case measure => simp [intOf]; omega
    · obtain rfl : k = 4 := by omega
      rw [show ((4 : Nat) : Int) = 4 from rfl]
      clear y0 y1 cx' q5' bx'
      have bbw := bb.trans (bw.mono bb.size)
      go_wp2_with fail
      go_loopw [10, 11] (fun i _ wx => ∃ q : Nat, q ≤ nn ∧ i = .int .i64 q ∧ Below w7.heap.size w7 wx) (fun i _ _ => nn - (intOf i).toNat)
      case atStart => exact ⟨0, Nat.zero_le _, rfl, bw⟩
      case round =>
        clear bw bbw
        obtain ⟨q, hq, rfl, bw⟩ := hrel
        have bx' := bx.keep bw bx.lt
        have cx' := cx.keep bw cx.lt
        have q5' := q5.keep bw q5.lt
        by_cases hlt : q < nn
        · obtain ⟨gx, ox, cl, Ax, mx, cx0, rfl, hgx, hcl, u1, u2, u3, hmx, hix⟩ := (RX5.out.up bw).cells.at_ (k := q) (by omega)
          obtain ⟨gh, oh, ch, Ah, mh, ch0, rfl, hgh, hch, v1, v2, v3, hmh, hih⟩ := (HH2.out.up bw).cells.at_ (k := q) hlt
          obtain ⟨g2, o2, y, rfl, hg2, hy, e2⟩ := (HH2.out.up bw).roots.at_ (k := a) ha4
          obtain ⟨cl', hcl', hu, hdr⟩ := P3.out q ch hch
          obtain rfl : cl' = cl := Option.some.inj (hcl'.symm.trans hcl)
          have hmx3 : mx ≤ 1000000 := by rw [← hix.1]; exact H3.out cl' (List.mem_of_getElem? hcl)
          have hmh3 : mh ≤ 1000000 := by rw [← hih.1]; have := (HSM.out.2.2.1 ch (List.mem_of_getElem? hch)).1; omega
          have hqn : (q : Int) < nn := by omega
          have hqn5 : (q : Int) < n5 := by omega
          have ha4' : (a : Int) < 4 := by omega
          rw [hu] at u1
          have huu : (ch.u != ch.u) = false := by cases ch.u <;> rfl
          have z0 : wr.cell? ⟨g5, 0, none⟩ = some (.slice (some ⟨gx, ox, none⟩) n5 c5) := q5'.cell 0
          have x0 : wr.cell? ⟨b, 0, none⟩ = some (.slice (some ⟨gh, oh, none⟩) nn c1) := bx'.cell 0
          have x1 : wr.cell? ⟨b, 1, none⟩ = some (.slice (some ⟨g2, o2, none⟩) 4 d1) := bx'.cell 1
          have y1 : wr.cell? ⟨b + 1, 1, none⟩ = some (.int .i64 o.a) := cx'.cell 1
          rw [HA.out] at y1
          by_cases hd : cl'.d = ch.d
          · have hdd : (cl'.d == ch.d) = true := by rw [beq_iff_eq]; exact hd
            have hbx := bx'.lt
            have hcx := cx'.lt
            have hq5 := q5'.lt
            obtain ⟨vs, hvs⟩ : ∃ vs, decide (cl'.r = ch.r) = vs := ⟨_, rfl⟩
            have HVS := Lib.hid hvs
            have HDR := Lib.hid hdr
            have HD1 := Lib.hid hd
            have HY := Lib.hid hy
            have Ca := Lib.hid (fun (ww : World) (hw : InW wr ww) => show ww.cell? ⟨g5, 0, none⟩ = some (.slice (some ⟨gx, ox, none⟩) n5 c5) from hw.cell hq5 z0)
            have Cb := Lib.hid (fun (ww : World) (hw : InW wr ww) => show ww.cell? ⟨b, 0, none⟩ = some (.slice (some ⟨gh, oh, none⟩) nn c1) from hw.cell hbx x0)
            have Cc := Lib.hid (fun (ww : World) (hw : InW wr ww) => show ww.cell? ⟨gx, ox + q * 3 + 1, none⟩ = some (.int .i64 cl'.d) from hw.cell hgx u2)
            have Cd := Lib.hid (fun (ww : World) (hw : InW wr ww) => show ww.cell? ⟨gh, oh + q * 3 + 1, none⟩ = some (.int .i64 ch.d) from hw.cell hgh v2)
            have Ce := Lib.hid (fun (ww : World) (hw : InW wr ww) => show ww.cell? ⟨gx, ox + q * 3 + 2, none⟩ = some (.slice Ax mx cx0) from hw.cell hgx u3)
            have Cf := Lib.hid (fun (ww : World) (hw : InW wr ww) => show ww.cell? ⟨gh, oh + q * 3 + 2, none⟩ = some (.slice Ah mh ch0) from hw.cell hgh v3)
            have CI := Lib.hid (fun w' (hw' : InW wr w') => (sameInts_any Ax Ah mx mh cx0 ch0 cl'.r ch.r w' ((hix.below hw').more (Below.size hw')) ((hih.below hw').more (Below.size hw')) (by omega) (by omega)).mono (R' := fun e w'' => e = .returned (.bool vs) ∧ InW wr w'') fun e w'' hh => ⟨by rw [HVS.out] at hh; exact hh.1, hw'.call hh.2⟩)
            have D1 := Lib.hid u1
            have F1 := Lib.hid v1
            have X1 := Lib.hid x1
            have Y1 := Lib.hid y1
            have E2 := Lib.hid e2
            clear u1 u2 u3 v1 v2 v3 hcl hch hcl' hix hih hy z0 x1 y1 e2 hd hdr hvs hu
            go_wp2_with fail
            clear x0
            refine wp_region_quiet (C := InW wr) (by kernel_rfl) (by kernel_rfl) (show InW wr _ from (Below.refl _ _).drew) ?_
            repeat (
              refine wpQuiet_step (fun K hK => ?_)
              go_simp
              first
              | (refine hK _ ?_
                 clear hK K)
              | ((with_reducible refine ⟨_, fun _ _ => rfl, hK _ ?_⟩)
                 clear hK K)
              | ((with_reducible refine ⟨_, CI.out, hK _ ?_⟩)
                 clear hK K)
              | (refine ⟨.slice (some ⟨gx, ox, none⟩) n5 c5, fun w' hw' => ?_, hK _ ?_⟩
                 · have hcw := Ca.out w' hw'
                   go_simp
                   done
                 clear hK K)
              | (refine ⟨.slice (some ⟨gh, oh, none⟩) nn c1, fun w' hw' => ?_, hK _ ?_⟩
                 · have hcw := Cb.out w' hw'
                   go_simp
                   done
                 clear hK K)
              | (refine ⟨.int .i64 cl'.d, fun w' hw' => ?_, hK _ ?_⟩
                 · have hcw := Cc.out w' hw'
                   go_simp
                   done
                 clear hK K)
              | (refine ⟨.int .i64 ch.d, fun w' hw' => ?_, hK _ ?_⟩
                 · have hcw := Cd.out w' hw'
                   go_simp
                   done
                 clear hK K)
              | (refine ⟨.slice Ax mx cx0, fun w' hw' => ?_, hK _ ?_⟩
                 · have hcw := Ce.out w' hw'
                   go_simp
                   done
                 clear hK K)
              | (refine ⟨.slice Ah mh ch0, fun w' hw' => ?_, hK _ ?_⟩
                 · have hcw := Cf.out w' hw'
                   go_simp
                   done
                 clear hK K))
            refine wpQuiet_nil ?_
            intro w5 hw5
            have b5 : Below w7.heap.size w7 w5 := bw.trans ((show Below wr.heap.size wr w5 from hw5).mono bw.size)
            have z0 := Ca.out w5 hw5
            have x0 := Cb.out w5 hw5
            have u1 := hw5.cell hgx D1.out
            have v1 := hw5.cell hgh F1.out
            have x1 := hw5.cell hbx X1.out
            have y1 := hw5.cell hcx Y1.out
            have e2 := hw5.cell hg2 E2.out
            clear Ca Cb Cc Cd Ce Cf CI D1 F1 X1 Y1 E2 hw5
            cases vs
            · obtain rfl : y = (q : Int) := by
                rcases HDR.out with e | e
                · have := HVS.out
                  rw [e.2] at this
                  simp at this
                · exact Option.some.inj (HY.out.symm.trans e)
              go_wp2_with fail
              go_big_quiet (fail)
              go_wp2
              go_roundw
              case rel => exact ⟨q + 1, by omega, by go_num, below_drewN b5 _⟩
              case measure => simp [intOf]; omega
            · go_wp2_with fail
              go_big_quiet (fail)
              go_wp2
              go_roundw
              case rel => exact ⟨q + 1, by omega, by go_num, below_drewN b5 _⟩
              case measure => simp [intOf]; omega
          · have hdd : (cl'.d == ch.d) = false := by rw [beq_eq_false_iff_ne]; exact hd
            obtain rfl : y = (q : Int) := by
              rcases hdr with e | e
              · exact absurd e.1 hd
              · exact Option.some.inj (hy.symm.trans e)
            clear hcl hch hcl' hix hih hy hd hdr hu
            go_wp2_with fail
            go_big_quiet (fail)
            go_wp2
            go_big_quiet (fail)
            go_wp2
            go_roundw
            case rel => exact ⟨q + 1, by omega, by go_num, below_drewN bw _⟩
            case measure => simp [intOf]; omega
        · obtain rfl : q = nn := by omega
          have z0 : wr.cell? ⟨g5, 0, none⟩ = some (.slice A5 n5 c5) := q5'.cell 0
          have z1 : wr.cell? ⟨g5, 1, none⟩ = some (.slice R5 4 d5) := q5'.cell 1
          have x0 : wr.cell? ⟨b, 0, none⟩ = some (.slice A1 q c1) := bx'.cell 0
          have r5 := RX5.out.up bw
          have bbw := bb.trans (bw.mono bb.size)
          go_wp2_with fail
          refine (heapValid_any _ _ _ _ _ _ h2 _ r5 (by omega) (by omega) hc5 hd5).mono ?_
          rw [HVX.out]
          rintro e w9 ⟨rfl, b9⟩
          replace bx' := bx'.keep b9 bx'.lt
          replace cx' := cx'.keep b9 cx'.lt
          replace q5' := q5'.keep b9 q5'.lt
          replace bbw := bbw.trans (b9.mono bbw.size)
          have y0 : w9.cell? ⟨b + 1, 0, none⟩ = some (.int .i64 o.op) := cx'.cell 0
          have z0 : w9.cell? ⟨g5, 0, none⟩ = some (.slice A5 n5 c5) := q5'.cell 0
          have x0 : w9.cell? ⟨b, 0, none⟩ = some (.slice A1 q c1) := bx'.cell 0
          by_cases h1 : o.op = 1
          · have e5 := P4.out h1
            have h1' : (o.op == 1) = true := by rw [beq_iff_eq]; exact h1
            have hw : IntKind.i64.wrap ((q : Int) + 1) = (q : Int) + 1 := IntWalk.i64_in _ (by omega)
            have hee : ((n5 : Int) == (q : Int) + 1) = true := by rw [beq_iff_eq]; omega
            clear h1 e5
            go_wp2_with fail
            go_ret
            exact ⟨by simp, bbw⟩
          · have e5 := P5.out h1
            have h1' : (o.op == 1) = false := by rw [beq_eq_false_iff_ne]; exact h1
            have h1'' : (o.op != 1) = true := by rw [bne_iff_ne]; exact h1
            have hee : ((n5 : Int) == (q : Int)) = true := by rw [beq_iff_eq]; omega
            clear h1 e5
            go_wp2_with fail
            go_ret
            exact ⟨by simp, bbw⟩
end Go.Proofs.Ytnhgibbcggegmaa
