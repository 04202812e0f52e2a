/- What the model's StepCounted returns: for every heap with counts and every instruction. No conditions. -/
import Derived.Test.YtijgfpcpkmpdpaaCc
import Derived.Test.YtijgfpcpkmpdpaaCd
import Derived.Test.YtijgfpcpkmpdpaaGa
import Derived.Deep.Cut
namespace Go.Proofs.Ytijgfpcpkmpdpaa
open Go.RowKit
set_option maxRecDepth 100000

section
variable {w w' : World} {bs : Nat} {vc vr vk : Value} {h : Hp} {l : List Int}
theorem OwnC.new (ho : OwnH w bs vc vr h) (hb : bs ≤ w.heap.size) : OwnC (w.alloc (.cells #[] 3)) bs vc vr (.slice (some ⟨w.heap.size, 0, none⟩) 0 0) h [] :=
  OwnC.of ho ((Below.refl _ _).alloc (Nat.le_refl _) _) (own_noneI w w.heap.size (Nat.le_refl _)) hb
/-- a heap that is made behind the counts -/
theorem OwnC.of2 (k : OwnI w bs vk l) (hb : bs ≤ w.heap.size) (hB : Below w.heap.size w w') (ho : OwnH w' w.heap.size vc vr h) : OwnC w' bs vc vr vk h l := by
  obtain ⟨rvs, o⟩ := ho
  refine ⟨rvs, o.base hb, k.below hB (Nat.le_refl _), fun u hu => ?_⟩
  cases e : u.ownBlock with
  | none => exact .inl rfl
  | some j =>
    right
    intro e'
    have h1 := (o.blocks hu e).1
    have h2 := (World.ownsRow.lt k j e'.symm).2
    omega
/-- the counts become longer -/
theorem OwnC.app {v' : Value} {l' : List Int} (ho : OwnC w bs vc vr vk h l) (o1 : OwnI w' bs v' l') (g1 : w.grownBy w' vk.ownBlock) (s1 : v'.ownBlock = vk.ownBlock ∨ v'.ownBlock = some w.heap.size) : OwnC w' bs vc vr v' h l' := by
  obtain ⟨rvs, o⟩ := ho
  refine ⟨rvs, o.heap.far g1 (fun u hu => o.sep u hu), o1, fun u hu => ?_⟩
  rcases s1 with e | e
  · rw [e]; exact o.sep u hu
  · cases e2 : u.ownBlock with
    | none => exact .inl rfl
    | some j =>
      right
      rw [e]
      intro e3
      have h1 := (o.heap.blocks hu e2).2
      have := Option.some.inj e3
      omega
end

set_option maxHeartbeats 8000000 in
theorem mStepCounted_any (A R K : Option Addr) (n c m d p q : Nat) (h : Hp) (l : List Int) (o : Cm) (w : World) (hs : HS w w.heap.size A n R m h) (hk : IS w w.heap.size K p l) (hn : n ≤ 1099511627776) (hm : m ≤ 1099511627776) (hp : p ≤ 1099511627776) :
    Calls Try.prog 117 #[ctV A n c R m d K p q, cmV o] w (GaveCt2 w (Hps.stepCt h l o).1.1 (Hps.stepCt h l o).1.2 (Hps.stepCt h l o).2) := by
  have b2 : Below w.heap.size w (((w.alloc (.cells #[.slice A n c, .slice R m d, .slice K p q] 50)).alloc (.cells #[.int .i64 o.op, .int .i64 o.a, .int .i64 o.b, .int .i64 o.c] 43)).alloc (.cells #[.slice none 0 0, .slice none 0 0, .slice none 0 0] 50)) := (((Below.refl w.heap.size w).alloc (Nat.le_refl _) _).alloc (by simp) _).alloc (by simp; omega) _
  have s2 := hs.up b2
  have k2 := hk.up b2
  have q1 := ((Rw.new w 50 #[.slice A n c, .slice R m d, .slice K p q]).alloc (.cells #[.int .i64 o.op, .int .i64 o.a, .int .i64 o.b, .int .i64 o.c] 43)).alloc (.cells #[.slice none 0 0, .slice none 0 0, .slice none 0 0] 50)
  have q2 := (Rw.new (w.alloc (.cells #[.slice A n c, .slice R m d, .slice K p q] 50)) 43 #[.int .i64 o.op, .int .i64 o.a, .int .i64 o.b, .int .i64 o.c]).alloc (.cells #[.slice none 0 0, .slice none 0 0, .slice none 0 0] 50)
  have q3 := Rw.new ((w.alloc (.cells #[.slice A n c, .slice R m d, .slice K p q] 50)).alloc (.cells #[.int .i64 o.op, .int .i64 o.a, .int .i64 o.b, .int .i64 o.c] 43)) 50 #[.slice none 0 0, .slice none 0 0, .slice none 0 0]
  simp only [World.size_alloc] at q2 q3
  go_enter Try.func117, Try.ntmps117
  go_upto_region 1 with fail
  generalize ((w.alloc (.cells #[.slice A n c, .slice R m d, .slice K p q] 50)).alloc (.cells #[.int .i64 o.op, .int .i64 o.a, .int .i64 o.b, .int .i64 o.c] 43)).alloc (.cells #[.slice none 0 0, .slice none 0 0, .slice none 0 0] 50) = w0 at b2 s2 k2 q1 q2 q3 ⊢
  have x0 : w0.cell? ⟨w.heap.size, 0, none⟩ = some (.slice A n c) := q1.cell 0
  have x1 : w0.cell? ⟨w.heap.size, 1, none⟩ = some (.slice R m d) := q1.cell 1
  have x2 : w0.cell? ⟨w.heap.size, 2, none⟩ = some (.slice K p q) := q1.cell 2
  go_wp2_with fail
  refine (mCountedValid_any _ _ _ _ _ _ _ _ _ h l _ s2 k2 hn hm hp).mono ?_
  rintro e w1 ⟨rfl, b1⟩
  replace q1 := q1.keep b1 q1.lt
  replace q2 := q2.keep b1 q2.lt
  replace q3 := q3.keep b1 q3.lt
  replace b2 := b2.trans (b1.mono b2.size)
  clear b1
  clear s2 k2 x0 x1 x2
  cases hv : Hps.okCt h l
  · have HF := Lib.hid (Hps.stepCt_no (o := o) (.inl hv))
    have r2 : (w1).frozen? ⟨w.heap.size + 1 + 1, 0, none⟩ = false := q3.frozen 0
    have r3 : (w1).frozen? ⟨w.heap.size + 1 + 1, 1, none⟩ = false := q3.frozen 1
    have r4 : (w1).frozen? ⟨w.heap.size + 1 + 1, 2, none⟩ = false := q3.frozen 2
    have r5 : (w1).cell? ⟨w.heap.size + 1 + 1, 0, none⟩ = some (.slice none 0 0) := q3.cell 0
    have r6 : (w1).cell? ⟨w.heap.size + 1 + 1, 1, none⟩ = some (.slice none 0 0) := q3.cell 1
    have r7 : (w1).cell? ⟨w.heap.size + 1 + 1, 2, none⟩ = some (.slice none 0 0) := q3.cell 2
    have q4 := ((q3.put 0 (.slice none 0 0)).put 1 (.slice none 0 0)).put 2 (.slice none 0 0)
    have r8 : (((w1.setCell ⟨w.heap.size + 1 + 1, 0, none⟩ (.slice none 0 0)).setCell ⟨w.heap.size + 1 + 1, 1, none⟩ (.slice none 0 0)).setCell ⟨w.heap.size + 1 + 1, 2, none⟩ (.slice none 0 0)).cell? ⟨w.heap.size + 1 + 1, 0, none⟩ = some (.slice none 0 0) := q4.cell 0
    have r9 : (((w1.setCell ⟨w.heap.size + 1 + 1, 0, none⟩ (.slice none 0 0)).setCell ⟨w.heap.size + 1 + 1, 1, none⟩ (.slice none 0 0)).setCell ⟨w.heap.size + 1 + 1, 2, none⟩ (.slice none 0 0)).cell? ⟨w.heap.size + 1 + 1, 1, none⟩ = some (.slice none 0 0) := q4.cell 1
    have r10 : (((w1.setCell ⟨w.heap.size + 1 + 1, 0, none⟩ (.slice none 0 0)).setCell ⟨w.heap.size + 1 + 1, 1, none⟩ (.slice none 0 0)).setCell ⟨w.heap.size + 1 + 1, 2, none⟩ (.slice none 0 0)).cell? ⟨w.heap.size + 1 + 1, 2, none⟩ = some (.slice none 0 0) := q4.cell 2
    have D := Lib.hid (OwnC.out (w := w) (own_zeroC w1 w1.heap.size (Nat.le_refl _)) q3.lt b2 (Nat.le_trans (Nat.le_succ _) (Nat.le_succ _)))
    clear q1 q2 q3 q4 b2
    go_wp2_with fail
    exact bodyPost_ret (v := .tuple #[.agg #[.slice none 0 0, .slice none 0 0, .slice none 0 0], .bool false]) (by simp [results, Try.results117, go_sem, *]) rfl ⟨_, _, _, by rw [HF.out], by rw [HF.out]; exact D.out.1, D.out.2⟩
  have z0 : w1.cell? ⟨w.heap.size + 1, 0, none⟩ = some (.int .i64 o.op) := q2.cell 0
  have z1 : w1.cell? ⟨w.heap.size + 1, 1, none⟩ = some (.int .i64 o.a) := q2.cell 1
  have z2 : w1.cell? ⟨w.heap.size + 1, 2, none⟩ = some (.int .i64 o.b) := q2.cell 2
  have z3 : w1.cell? ⟨w.heap.size + 1, 3, none⟩ = some (.int .i64 o.c) := q2.cell 3
  go_wp2_with fail
  refine (mCommandValid_any o _).mono ?_
  rintro e w3 ⟨rfl, b1⟩
  replace q1 := q1.keep b1 q1.lt
  replace q2 := q2.keep b1 q2.lt
  replace q3 := q3.keep b1 q3.lt
  replace b2 := b2.trans (b1.mono b2.size)
  clear b1
  clear z0 z1 z2 z3
  cases ho : Hps.okCm o
  · have HF := Lib.hid (Hps.stepCt_no (h := h) (l := l) (.inr ho))
    have r2 : (w3).frozen? ⟨w.heap.size + 1 + 1, 0, none⟩ = false := q3.frozen 0
    have r3 : (w3).frozen? ⟨w.heap.size + 1 + 1, 1, none⟩ = false := q3.frozen 1
    have r4 : (w3).frozen? ⟨w.heap.size + 1 + 1, 2, none⟩ = false := q3.frozen 2
    have r5 : (w3).cell? ⟨w.heap.size + 1 + 1, 0, none⟩ = some (.slice none 0 0) := q3.cell 0
    have r6 : (w3).cell? ⟨w.heap.size + 1 + 1, 1, none⟩ = some (.slice none 0 0) := q3.cell 1
    have r7 : (w3).cell? ⟨w.heap.size + 1 + 1, 2, none⟩ = some (.slice none 0 0) := q3.cell 2
    have q4 := ((q3.put 0 (.slice none 0 0)).put 1 (.slice none 0 0)).put 2 (.slice none 0 0)
    have r8 : (((w3.setCell ⟨w.heap.size + 1 + 1, 0, none⟩ (.slice none 0 0)).setCell ⟨w.heap.size + 1 + 1, 1, none⟩ (.slice none 0 0)).setCell ⟨w.heap.size + 1 + 1, 2, none⟩ (.slice none 0 0)).cell? ⟨w.heap.size + 1 + 1, 0, none⟩ = some (.slice none 0 0) := q4.cell 0
    have r9 : (((w3.setCell ⟨w.heap.size + 1 + 1, 0, none⟩ (.slice none 0 0)).setCell ⟨w.heap.size + 1 + 1, 1, none⟩ (.slice none 0 0)).setCell ⟨w.heap.size + 1 + 1, 2, none⟩ (.slice none 0 0)).cell? ⟨w.heap.size + 1 + 1, 1, none⟩ = some (.slice none 0 0) := q4.cell 1
    have r10 : (((w3.setCell ⟨w.heap.size + 1 + 1, 0, none⟩ (.slice none 0 0)).setCell ⟨w.heap.size + 1 + 1, 1, none⟩ (.slice none 0 0)).setCell ⟨w.heap.size + 1 + 1, 2, none⟩ (.slice none 0 0)).cell? ⟨w.heap.size + 1 + 1, 2, none⟩ = some (.slice none 0 0) := q4.cell 2
    have D := Lib.hid (OwnC.out (w := w) (own_zeroC w3 w3.heap.size (Nat.le_refl _)) q3.lt b2 (Nat.le_trans (Nat.le_succ _) (Nat.le_succ _)))
    clear q1 q2 q3 q4 b2
    go_wp2_with fail
    exact bodyPost_ret (v := .tuple #[.agg #[.slice none 0 0, .slice none 0 0, .slice none 0 0], .bool false]) (by simp [results, Try.results117, go_sem, *]) rfl ⟨_, _, _, by rw [HF.out], by rw [HF.out]; exact D.out.1, D.out.2⟩
  have s2 := hs.up b2
  have x0 : w3.cell? ⟨w.heap.size, 0, none⟩ = some (.slice A n c) := q1.cell 0
  have x1 : w3.cell? ⟨w.heap.size, 1, none⟩ = some (.slice R m d) := q1.cell 1
  have x2 : w3.cell? ⟨w.heap.size, 2, none⟩ = some (.slice K p q) := q1.cell 2
  go_wp2_with fail
  refine (mPlace_any _ _ _ _ _ _ h _ s2 hn).mono ?_
  rintro e w4 ⟨rfl, b1⟩
  replace q1 := q1.keep b1 q1.lt
  replace q2 := q2.keep b1 q2.lt
  replace q3 := q3.keep b1 q3.lt
  replace b2 := b2.trans (b1.mono b2.size)
  clear b1
  clear s2 x0 x1 x2
  obtain ⟨hvh, hll⟩ := Hps.okCt_iff.1 hv
  have HVC := Lib.hid hv
  have HOK := Lib.hid ho
  have HVH := Lib.hid hvh
  obtain ⟨nb, hnb⟩ : ∃ nb, (!Hps.canH h o || (decide (o.op = 1) && decide (Hps.gapH h = 40))) = nb := ⟨_, rfl⟩
  have HNB := Lib.hid hnb
  obtain ⟨gp, hgp⟩ : ∃ gp, Hps.gapH h = gp := ⟨_, rfl⟩
  have HGP := Lib.hid hgp
  rw [hgp]
  clear hv ho hvh hll hnb hgp
  have s2 := hs.up b2
  have x0 : w4.cell? ⟨w.heap.size, 0, none⟩ = some (.slice A n c) := q1.cell 0
  have x1 : w4.cell? ⟨w.heap.size, 1, none⟩ = some (.slice R m d) := q1.cell 1
  have x2 : w4.cell? ⟨w.heap.size, 2, none⟩ = some (.slice K p q) := q1.cell 2
  have z0 : w4.cell? ⟨w.heap.size + 1, 0, none⟩ = some (.int .i64 o.op) := q2.cell 0
  have z1 : w4.cell? ⟨w.heap.size + 1, 1, none⟩ = some (.int .i64 o.a) := q2.cell 1
  have z2 : w4.cell? ⟨w.heap.size + 1, 2, none⟩ = some (.int .i64 o.b) := q2.cell 2
  have z3 : w4.cell? ⟨w.heap.size + 1, 3, none⟩ = some (.int .i64 o.c) := q2.cell 3
  go_upto_region 4 with fail
  go_cut [32] from 7 (fun v wc => v = .bool nb ∧ Below w4.heap.size w4 wc)
  case first =>
    go_wp2_with fail
    refine (mCommandPossible_any _ _ _ _ _ _ h o _ s2 hn hm).mono ?_
    rintro e w5 ⟨rfl, b1⟩
    have z0 : w5.cell? ⟨w.heap.size + 1, 0, none⟩ = some (.int .i64 o.op) := (q2.keep b1 q2.lt).cell 0
    cases hc : Hps.canH h o
    · have HN := Lib.hid (show true = nb by rw [← HNB.out, hc]; rfl)
      clear hc
      go_wp2_with fail
      go_meet
      case rel => exact ⟨by rw [← HN.out], by first | exact b1 | exact below_drewN b1 _⟩
    · by_cases h1 : o.op = 1
      · have ht : (o.op == (1 : Int)) = true := by rw [h1]; rfl
        have HN := Lib.hid (show decide (gp = 40) = nb by rw [← HNB.out, hc, HGP.out, h1]; simp)
        clear hc h1
        by_cases hf : gp = 40
        · subst hf
          go_wp2_with fail
          go_meet
          case rel => exact ⟨by rw [← HN.out]; rfl, by first | exact b1 | exact below_drewN b1 _⟩
        · have hf' : ¬ (gp : Int) = 40 := by omega
          have hf2 : ((gp : Int) == 40) = false := by rw [beq_eq_false_iff_ne]; exact hf'
          have HF2 := Lib.hid (decide_eq_false hf)
          clear hf
          go_wp2_with fail
          go_meet
          case rel => exact ⟨by rw [← HN.out, HF2.out], by first | exact b1 | exact below_drewN b1 _⟩
      · have ht : (o.op == (1 : Int)) = false := by rw [beq_eq_false_iff_ne]; exact h1
        have HN := Lib.hid (show false = nb by rw [← HNB.out, hc, decide_eq_false h1]; simp)
        clear hc h1
        go_wp2_with fail
        go_meet
        case rel => exact ⟨by rw [← HN.out], by first | exact b1 | exact below_drewN b1 _⟩
  case rest =>
  obtain ⟨rfl, b1⟩ := hcut
  replace q1 := q1.keep b1 q1.lt
  replace q2 := q2.keep b1 q2.lt
  replace q3 := q3.keep b1 q3.lt
  replace b2 := b2.trans (b1.mono b2.size)
  clear b1
  clear s2 x0 x1 x2 z0 z1 z2 z3 w1 w3
  have s2 := hs.up b2
  have k2 := hk.up b2
  have x0 : wc.cell? ⟨w.heap.size, 0, none⟩ = some (.slice A n c) := q1.cell 0
  have x1 : wc.cell? ⟨w.heap.size, 1, none⟩ = some (.slice R m d) := q1.cell 1
  have x2 : wc.cell? ⟨w.heap.size, 2, none⟩ = some (.slice K p q) := q1.cell 2
  have z0 : wc.cell? ⟨w.heap.size + 1, 0, none⟩ = some (.int .i64 o.op) := q2.cell 0
  have z1 : wc.cell? ⟨w.heap.size + 1, 1, none⟩ = some (.int .i64 o.a) := q2.cell 1
  have z2 : wc.cell? ⟨w.heap.size + 1, 2, none⟩ = some (.int .i64 o.b) := q2.cell 2
  have z3 : wc.cell? ⟨w.heap.size + 1, 3, none⟩ = some (.int .i64 o.c) := q2.cell 3
  have hsz : w.heap.size + 1 + 1 < wc.heap.size := q3.lt
  cases nb
  · have hcan : Hps.canH h o = true := by
      have := HNB.out
      rw [Bool.or_eq_false_iff] at this
      simpa using this.1
    have hgo : ¬ (o.op = 1 ∧ Hps.gapH h = 40) := by
      have := HNB.out
      rw [Bool.or_eq_false_iff] at this
      have h2 := this.2
      rintro ⟨e1, e2⟩
      rw [decide_eq_true e1, decide_eq_true e2] at h2
      cases h2
    have HF := Lib.hid (Hps.stepCt_does HVC.out HOK.out hcan hgo)
    have hgl := Hps.gapH_le h
    have DO := Lib.hid (l8Do_any A R n c m d h o gp wc s2 hcan (fun _ => by have := hs.cells.1; have := HGP.out; omega))
    have HDV := Lib.hid (Hps.doH_valid hcan (Hps.gap_room HVH.out hgo))
    rw [HGP.out] at HF HDV
    clear hcan hgo hgl s2 k2
    go_wp2_with fail
    refine DO.out.mono ?_
    rintro e w5 ⟨vc, vr, rfl, oh, b1⟩
    obtain ⟨A5, c5, R5, d5, rfl, rfl, hs5⟩ := oh.form
    obtain ⟨h5, hh5⟩ : ∃ h5, Hps.doH h o gp = h5 := ⟨_, rfl⟩
    rw [hh5] at hs5 HF HDV ⊢
    obtain ⟨n5, hn5⟩ : ∃ n5, h5.cs.length = n5 := ⟨_, rfl⟩
    obtain ⟨m5, hm5⟩ : ∃ m5, h5.rt.length = m5 := ⟨_, rfl⟩
    rw [hn5, hm5] at hs5 ⊢
    clear oh hh5 hn5 hm5
    replace q3 := q3.keep b1 q3.lt
    have b3 := b2.trans (b1.mono b2.size)
    clear DO x0 x1 x2 z0 z1 z2 z3 q1 q2
    go_wp2_with fail
    refine (l10Free_any _ _ _ _ _ _ _ _ hs5 HDV.out).mono ?_
    rintro e w6 ⟨vc, vr, vk, rfl, oc, b4⟩
    obtain ⟨A6, n6, c6, R6, m6, d6, K6, p6, q6, rfl, rfl, rfl⟩ := oc.slices
    replace q3 := q3.keep b4 q3.lt
    have b5 := b3.trans (b4.mono b3.size)
    replace oc := oc.base (bs' := wc.heap.size) b1.size
    have r2 : (w6).frozen? ⟨w.heap.size + 1 + 1, 0, none⟩ = false := q3.frozen 0
    have r3 : (w6).frozen? ⟨w.heap.size + 1 + 1, 1, none⟩ = false := q3.frozen 1
    have r4 : (w6).frozen? ⟨w.heap.size + 1 + 1, 2, none⟩ = false := q3.frozen 2
    have r5 : (w6).cell? ⟨w.heap.size + 1 + 1, 0, none⟩ = some (.slice none 0 0) := q3.cell 0
    have r6 : (w6).cell? ⟨w.heap.size + 1 + 1, 1, none⟩ = some (.slice none 0 0) := q3.cell 1
    have r7 : (w6).cell? ⟨w.heap.size + 1 + 1, 2, none⟩ = some (.slice none 0 0) := q3.cell 2
    have q4 := ((q3.put 0 (.slice A6 n6 c6)).put 1 (.slice R6 m6 d6)).put 2 (.slice K6 p6 q6)
    have r8 : (((w6.setCell ⟨w.heap.size + 1 + 1, 0, none⟩ (.slice A6 n6 c6)).setCell ⟨w.heap.size + 1 + 1, 1, none⟩ (.slice R6 m6 d6)).setCell ⟨w.heap.size + 1 + 1, 2, none⟩ (.slice K6 p6 q6)).cell? ⟨w.heap.size + 1 + 1, 0, none⟩ = some (.slice A6 n6 c6) := q4.cell 0
    have r9 : (((w6.setCell ⟨w.heap.size + 1 + 1, 0, none⟩ (.slice A6 n6 c6)).setCell ⟨w.heap.size + 1 + 1, 1, none⟩ (.slice R6 m6 d6)).setCell ⟨w.heap.size + 1 + 1, 2, none⟩ (.slice K6 p6 q6)).cell? ⟨w.heap.size + 1 + 1, 1, none⟩ = some (.slice R6 m6 d6) := q4.cell 1
    have r10 : (((w6.setCell ⟨w.heap.size + 1 + 1, 0, none⟩ (.slice A6 n6 c6)).setCell ⟨w.heap.size + 1 + 1, 1, none⟩ (.slice R6 m6 d6)).setCell ⟨w.heap.size + 1 + 1, 2, none⟩ (.slice K6 p6 q6)).cell? ⟨w.heap.size + 1 + 1, 2, none⟩ = some (.slice K6 p6 q6) := q4.cell 2
    have D := Lib.hid (OwnC.out (w := w) oc hsz b5 (Nat.le_trans (Nat.le_succ _) (Nat.le_succ _)))
    clear oc hs5 b1 b2 b3 b4 b5 q3 q4
    go_wp2_with fail
    exact bodyPost_ret (v := .tuple #[.agg #[.slice A6 n6 c6, .slice R6 m6 d6, .slice K6 p6 q6], .bool true]) (by simp [results, Try.results117, go_sem, *]) rfl ⟨_, _, _, by rw [HF.out], by rw [HF.out]; exact D.out.1, D.out.2⟩
  · have hcan : Hps.canH h o = false ∨ (o.op = 1 ∧ Hps.gapH h = 40) := by
      have := HNB.out
      rw [Bool.or_eq_true, Bool.and_eq_true, decide_eq_true_iff, decide_eq_true_iff] at this
      rcases this with e | e
      · exact .inl (by simpa using e)
      · exact .inr e
    have HF := Lib.hid (Hps.stepCt_cannot HVC.out HOK.out hcan)
    have hlc := hs.cells.1
    have hlr := hs.roots.1
    obtain ⟨V1, V2, V3, V4⟩ := Hps.valid_iff.1 HVH.out
    have H3 := Lib.hid (fun cl (hcl : cl ∈ h.cs) => show cl.r.length ≤ 1000000 by have := (Hps.okCell_iff.1 (V1 cl hcl)).2.2.1; omega)
    have CALL := Lib.hid (fun (ww : World) (hB : Below wc.heap.size wc ww) => l7Copy_any A R n c m d h ww (s2.up hB) (by omega) (by omega) H3.out)
    have KS := Lib.hid (fun (ww : World) (hB : Below wc.heap.size wc ww) => k2.up hB)
    have hll := hk.1
    have HLL := Lib.hid hll
    have HQ := Lib.hid q3
    have HB2 := Lib.hid b2
    clear hcan hlc hlr V1 V2 V3 V4 s2 k2 hll z0 z1 z2 z3
    go_upto_region 5 with fail
    refine wp_region_inv (by kernel_rfl) (by kernel_rfl) (fun L ac ww => ∃ t5 t33 t34 t35 t36 t37 t38 t39 t40 : Value, ac = { tmps := #[ctV A n c R m d K p q, cmV o, Value.pointer (some { block := w.heap.size, off := 0 }), Value.pointer (some { block := w.heap.size + 1, off := 0 }), Value.pointer (some { block := w.heap.size + 1 + 1, off := 0 }), t5, Value.int IntKind.i64 ↑gp, u7, u8, u9, u10, u11, u12, u13, u14, u15, u16, u17, u18, u19, u20, u21, u22, u23, u24, u25, u26, u27, u28, u29, u30, u31, Value.bool true, t33, t34, t35, t36, t37, t38, t39, t40, u41, u42, u43, u44, u45, u46], defers := [] } ∧ (L 8 = false → Below wc.heap.size wc ww) ∧ (L 6 = true → L 2 = true) ∧ (L 6 = true → L 3 = true) ∧ (L 7 = true → L 6 = true) ∧ (L 8 = true → L 7 = true) ∧ (L 9 = true → L 8 = true) ∧ (L 2 = true → L 1 = true) ∧ (L 6 = true → L 5 = true) ∧ (L 5 = true → L 4 = true) ∧ (L 1 = true → L 0 = true) ∧ (L 0 = true → t33 = .pointer (some ⟨w.heap.size, 0, none⟩)) ∧ (L 1 = true → t34 = .agg #[.slice A n c, .slice R m d]) ∧ (L 2 = true → ∃ (A5 : Option Addr) (n5 c5 : Nat) (R5 : Option Addr) (m5 d5 : Nat), t35 = .agg #[.slice A5 n5 c5, .slice R5 m5 d5] ∧ (L 6 = false → (L 3 = false → OwnH ww wc.heap.size (.slice A5 n5 c5) (.slice R5 m5 d5) h) ∧ (L 3 = true → OwnC ww wc.heap.size (.slice A5 n5 c5) (.slice R5 m5 d5) t36 h []))) ∧ (L 3 = true → ∃ gs, t36 = .slice (some ⟨gs, 0, none⟩) 0 0 ∧ (L 6 = false → OwnI ww wc.heap.size t36 [])) ∧ (L 4 = true → t37 = .pointer (some ⟨w.heap.size, 2, none⟩)) ∧ (L 5 = true → t38 = .slice K p q) ∧ (L 6 = true → ∃ (A5 : Option Addr) (n5 c5 : Nat) (R5 : Option Addr) (m5 d5 : Nat) (A9 : Option Addr) (c9 : Nat), t35 = .agg #[.slice A5 n5 c5, .slice R5 m5 d5] ∧ t39 = .slice A9 p c9 ∧ (L 8 = false → OwnC ww wc.heap.size (.slice A5 n5 c5) (.slice R5 m5 d5) t39 h l)) ∧ (L 7 = true → ∃ (A5 : Option Addr) (n5 c5 : Nat) (R5 : Option Addr) (m5 d5 : Nat) (A9 : Option Addr) (c9 : Nat), t35 = .agg #[.slice A5 n5 c5, .slice R5 m5 d5] ∧ t39 = .slice A9 p c9 ∧ t40 = .agg #[.slice A5 n5 c5, .slice R5 m5 d5, .slice A9 p c9]) ∧ (L 8 = true → ∃ (A5 : Option Addr) (n5 c5 : Nat) (R5 : Option Addr) (m5 d5 : Nat) (A9 : Option Addr) (c9 : Nat) (w1 : World), ww = ((w1.setCell ⟨w.heap.size + 1 + 1, 0, none⟩ (.slice A5 n5 c5)).setCell ⟨w.heap.size + 1 + 1, 1, none⟩ (.slice R5 m5 d5)).setCell ⟨w.heap.size + 1 + 1, 2, none⟩ (.slice A9 p c9) ∧ OwnC w1 wc.heap.size (.slice A5 n5 c5) (.slice R5 m5 d5) (.slice A9 p c9) h l ∧ Below wc.heap.size wc w1) ∧ (L 9 = true → t5 = .bool false)) ?h0 ?hstep ?hdone
    case h0 => exact ⟨_, _, _, _, _, _, _, _, _, rfl, fun _ => (Below.refl _ _).drew, fun h => absurd h Bool.false_ne_true, fun h => absurd h Bool.false_ne_true, fun h => absurd h Bool.false_ne_true, fun h => absurd h Bool.false_ne_true, fun h => absurd h Bool.false_ne_true, fun h => absurd h Bool.false_ne_true, fun h => absurd h Bool.false_ne_true, fun h => absurd h Bool.false_ne_true, fun h => absurd h Bool.false_ne_true, (fun h => absurd h Bool.false_ne_true), (fun h => absurd h Bool.false_ne_true), (fun h => absurd h Bool.false_ne_true), (fun h => absurd h Bool.false_ne_true), (fun h => absurd h Bool.false_ne_true), (fun h => absurd h Bool.false_ne_true), (fun h => absurd h Bool.false_ne_true), (fun h => absurd h Bool.false_ne_true), (fun h => absurd h Bool.false_ne_true), (fun h => absurd h Bool.false_ne_true)⟩
    case hstep =>
      rintro L ac ww i o ho hL hd ⟨t5, t33, t34, t35, t36, t37, t38, t39, t40, rfl, I0, I1, I2, I3, I4, I5, I6, I7, I8, I9, f0, f1, f2, f3, f4, f5, f6, f7, f8, f9⟩
      have hi : i < 10 := (Array.getElem?_eq_some_iff.1 ho).1
      obtain rfl | rfl | rfl | rfl | rfl | rfl | rfl | rfl | rfl | rfl : i = 0 ∨ i = 1 ∨ i = 2 ∨ i = 3 ∨ i = 4 ∨ i = 5 ∨ i = 6 ∨ i = 7 ∨ i = 8 ∨ i = 9 := by omega
      · obtain rfl := Option.some.inj ho
        have h8 : L 8 = false := by
          cases hh : L 8
          · rfl
          · exact absurd (I9 (I6 (I1 (I3 (I4 hh))))) (by rw [hL]; decide)
        have hB := I0 h8
        refine wpOp_step rfl (fun K' hK => ?_)
        go_simp
        refine hK _ _ ?_
        exact ⟨_, _, _, _, _, _, _, _, _, rfl, (fun h => I0 (by rw [upd_other (by decide)] at h; exact h)), (fun h => upd_mono (I1 (upd_ne h (by decide)))), (fun h => upd_mono (I2 (upd_ne h (by decide)))), (fun h => upd_mono (I3 (upd_ne h (by decide)))), (fun h => upd_mono (I4 (upd_ne h (by decide)))), (fun h => upd_mono (I5 (upd_ne h (by decide)))), (fun h => upd_mono (I6 (upd_ne h (by decide)))), (fun h => upd_mono (I7 (upd_ne h (by decide)))), (fun h => upd_mono (I8 (upd_ne h (by decide)))), (fun h => upd_mono (I9 (upd_ne h (by decide)))), (fun _ => rfl), (kp f1), (fun h => by
          obtain ⟨A5, n5, c5, R5, m5, d5, e, oo⟩ := f2 (upd_ne h (by decide))
          exact ⟨A5, n5, c5, R5, m5, d5, e, fun h6 => by
            rw [upd_other (by decide)] at h6
            rw [upd_other (by decide)]
            exact oo h6⟩), (fun h => by
          obtain ⟨gs, e, oo⟩ := f3 (upd_ne h (by decide))
          exact ⟨gs, e, fun h6 => by
            rw [upd_other (by decide)] at h6
            exact oo h6⟩), (kp f4), (kp f5), (fun h => by
          obtain ⟨A5, n5, c5, R5, m5, d5, A9, c9, e, e2, oo⟩ := f6 (upd_ne h (by decide))
          exact ⟨A5, n5, c5, R5, m5, d5, A9, c9, e, e2, fun h8 => by
            rw [upd_other (by decide)] at h8
            exact oo h8⟩), (kp f7), (fun h => absurd ((upd_ne h (by decide)).symm.trans h8) (by decide)), (kp f9)⟩
      · obtain rfl := Option.some.inj ho
        have g0 := f0 (hd ⟨0, .data⟩ (by simp) rfl)
        subst g0
        have h8 : L 8 = false := by
          cases hh : L 8
          · rfl
          · exact absurd (I6 (I1 (I3 (I4 hh)))) (by rw [hL]; decide)
        have hB := I0 h8
        have y0 : ww.cell? ⟨w.heap.size, 0, none⟩ = some (.slice A n c) := (hB.cell (p := ⟨w.heap.size, 0, none⟩) (by show w.heap.size < wc.heap.size; omega)).trans x0
        have y1 : ww.cell? ⟨w.heap.size, 1, none⟩ = some (.slice R m d) := (hB.cell (p := ⟨w.heap.size, 1, none⟩) (by show w.heap.size < wc.heap.size; omega)).trans x1
        refine wpOp_step rfl (fun K' hK => ?_)
        go_simp
        refine hK _ _ ?_
        exact ⟨_, _, _, _, _, _, _, _, _, rfl, (fun h => I0 (by rw [upd_other (by decide)] at h; exact h)), (fun h => upd_mono (I1 (upd_ne h (by decide)))), (fun h => upd_mono (I2 (upd_ne h (by decide)))), (fun h => upd_mono (I3 (upd_ne h (by decide)))), (fun h => upd_mono (I4 (upd_ne h (by decide)))), (fun h => upd_mono (I5 (upd_ne h (by decide)))), (fun h => upd_mono (I6 (upd_ne h (by decide)))), (fun h => upd_mono (I7 (upd_ne h (by decide)))), (fun h => upd_mono (I8 (upd_ne h (by decide)))), (fun _ => upd_mono (hd ⟨0, .data⟩ (by simp) rfl)), (kp f0), (fun _ => rfl), (fun h => by
          obtain ⟨A5, n5, c5, R5, m5, d5, e, oo⟩ := f2 (upd_ne h (by decide))
          exact ⟨A5, n5, c5, R5, m5, d5, e, fun h6 => by
            rw [upd_other (by decide)] at h6
            rw [upd_other (by decide)]
            exact oo h6⟩), (fun h => by
          obtain ⟨gs, e, oo⟩ := f3 (upd_ne h (by decide))
          exact ⟨gs, e, fun h6 => by
            rw [upd_other (by decide)] at h6
            exact oo h6⟩), (kp f4), (kp f5), (fun h => by
          obtain ⟨A5, n5, c5, R5, m5, d5, A9, c9, e, e2, oo⟩ := f6 (upd_ne h (by decide))
          exact ⟨A5, n5, c5, R5, m5, d5, A9, c9, e, e2, fun h8 => by
            rw [upd_other (by decide)] at h8
            exact oo h8⟩), (kp f7), (fun h => absurd ((upd_ne h (by decide)).symm.trans h8) (by decide)), (kp f9)⟩
      · obtain rfl := Option.some.inj ho
        have g1 := f1 (hd ⟨1, .data⟩ (by simp) rfl)
        subst g1
        have h8 : L 8 = false := by
          cases hh : L 8
          · rfl
          · exact absurd (I1 (I3 (I4 hh))) (by rw [hL]; decide)
        have hB := I0 h8
        have h6 : L 6 = false := by
          cases hh : L 6
          · rfl
          · exact absurd (I1 hh) (by rw [hL]; decide)
        refine wpOp_step rfl (fun K' hK => ?_)
        go_simp
        refine (CALL.out ww hB).mono ?_
        rintro e w' ⟨v1, v2, rfl, oh, b5⟩
        obtain ⟨A5, n5, c5, R5, m5, d5, rfl, rfl⟩ := oh.slices
        refine hK _ _ ?_
        exact ⟨_, _, _, _, _, _, _, _, _, rfl, (fun _ => hB.trans (b5.mono hB.size)), (fun h => upd_mono (I1 (upd_ne h (by decide)))), (fun h => upd_mono (I2 (upd_ne h (by decide)))), (fun h => upd_mono (I3 (upd_ne h (by decide)))), (fun h => upd_mono (I4 (upd_ne h (by decide)))), (fun h => upd_mono (I5 (upd_ne h (by decide)))), (fun _ => upd_mono (hd ⟨1, .data⟩ (by simp) rfl)), (fun h => upd_mono (I7 (upd_ne h (by decide)))), (fun h => upd_mono (I8 (upd_ne h (by decide)))), (fun h => upd_mono (I9 (upd_ne h (by decide)))), (kp f0), (kp f1), (fun _ => ⟨A5, n5, c5, R5, m5, d5, rfl, fun _ => ⟨fun _ => oh.base hB.size, fun hl3 => by
          obtain ⟨gs, e, o3⟩ := f3 (by rw [upd_other (by decide)] at hl3; exact hl3)
          exact OwnC.of2 (o3 h6) hB.size b5 oh⟩⟩), (fun h => by
          obtain ⟨gs, e, oo⟩ := f3 (upd_ne h (by decide))
          exact ⟨gs, e, fun _ => (oo h6).below b5 (Nat.le_refl _)⟩), (kp f4), (kp f5), (fun h => absurd ((upd_ne h (by decide)).symm.trans h6) (by decide)), (fun h => absurd (I3 (upd_ne h (by decide))) (by rw [h6]; decide)), (fun h => absurd ((upd_ne h (by decide)).symm.trans h8) (by decide)), (kp f9)⟩
      · obtain rfl := Option.some.inj ho
        have h8 : L 8 = false := by
          cases hh : L 8
          · rfl
          · exact absurd (I2 (I3 (I4 hh))) (by rw [hL]; decide)
        have hB := I0 h8
        have h6 : L 6 = false := by
          cases hh : L 6
          · rfl
          · exact absurd (I2 hh) (by rw [hL]; decide)
        refine wpOp_step rfl (fun K' hK => ?_)
        go_simp
        refine hK _ _ ?_
        exact ⟨_, _, _, _, _, _, _, _, _, rfl, (fun _ => hB.alloc hB.size _), (fun h => upd_mono (I1 (upd_ne h (by decide)))), (fun h => upd_mono (I2 (upd_ne h (by decide)))), (fun h => upd_mono (I3 (upd_ne h (by decide)))), (fun h => upd_mono (I4 (upd_ne h (by decide)))), (fun h => upd_mono (I5 (upd_ne h (by decide)))), (fun h => upd_mono (I6 (upd_ne h (by decide)))), (fun h => upd_mono (I7 (upd_ne h (by decide)))), (fun h => upd_mono (I8 (upd_ne h (by decide)))), (fun h => upd_mono (I9 (upd_ne h (by decide)))), (kp f0), (kp f1), (fun h => by
          obtain ⟨A5, n5, c5, R5, m5, d5, e, oo⟩ := f2 (upd_ne h (by decide))
          exact ⟨A5, n5, c5, R5, m5, d5, e, fun _ => ⟨fun h3 => absurd (upd_self.symm.trans h3) (by decide), fun _ => OwnC.new ((oo h6).1 hL) hB.size⟩⟩), (fun _ => ⟨_, rfl, fun _ => own_noneI ww wc.heap.size hB.size⟩), (kp f4), (kp f5), (fun h => absurd ((upd_ne h (by decide)).symm.trans h6) (by decide)), (fun h => absurd (I3 (upd_ne h (by decide))) (by rw [h6]; decide)), (fun h => absurd ((upd_ne h (by decide)).symm.trans h8) (by decide)), (kp f9)⟩
      · obtain rfl := Option.some.inj ho
        have h8 : L 8 = false := by
          cases hh : L 8
          · rfl
          · exact absurd (I8 (I7 (I3 (I4 hh)))) (by rw [hL]; decide)
        have hB := I0 h8
        refine wpOp_step rfl (fun K' hK => ?_)
        go_simp
        refine hK _ _ ?_
        exact ⟨_, _, _, _, _, _, _, _, _, rfl, (fun h => I0 (by rw [upd_other (by decide)] at h; exact h)), (fun h => upd_mono (I1 (upd_ne h (by decide)))), (fun h => upd_mono (I2 (upd_ne h (by decide)))), (fun h => upd_mono (I3 (upd_ne h (by decide)))), (fun h => upd_mono (I4 (upd_ne h (by decide)))), (fun h => upd_mono (I5 (upd_ne h (by decide)))), (fun h => upd_mono (I6 (upd_ne h (by decide)))), (fun h => upd_mono (I7 (upd_ne h (by decide)))), (fun h => upd_mono (I8 (upd_ne h (by decide)))), (fun h => upd_mono (I9 (upd_ne h (by decide)))), (kp f0), (kp f1), (fun h => by
          obtain ⟨A5, n5, c5, R5, m5, d5, e, oo⟩ := f2 (upd_ne h (by decide))
          exact ⟨A5, n5, c5, R5, m5, d5, e, fun h6 => by
            rw [upd_other (by decide)] at h6
            rw [upd_other (by decide)]
            exact oo h6⟩), (fun h => by
          obtain ⟨gs, e, oo⟩ := f3 (upd_ne h (by decide))
          exact ⟨gs, e, fun h6 => by
            rw [upd_other (by decide)] at h6
            exact oo h6⟩), (fun _ => rfl), (kp f5), (fun h => by
          obtain ⟨A5, n5, c5, R5, m5, d5, A9, c9, e, e2, oo⟩ := f6 (upd_ne h (by decide))
          exact ⟨A5, n5, c5, R5, m5, d5, A9, c9, e, e2, fun h8 => by
            rw [upd_other (by decide)] at h8
            exact oo h8⟩), (kp f7), (fun h => absurd ((upd_ne h (by decide)).symm.trans h8) (by decide)), (kp f9)⟩
      · obtain rfl := Option.some.inj ho
        have g4 := f4 (hd ⟨4, .data⟩ (by simp) rfl)
        subst g4
        have h8 : L 8 = false := by
          cases hh : L 8
          · rfl
          · exact absurd (I7 (I3 (I4 hh))) (by rw [hL]; decide)
        have hB := I0 h8
        have y2 : ww.cell? ⟨w.heap.size, 2, none⟩ = some (.slice K p q) := (hB.cell (p := ⟨w.heap.size, 2, none⟩) (by show w.heap.size < wc.heap.size; omega)).trans x2
        refine wpOp_step rfl (fun K' hK => ?_)
        go_simp
        refine hK _ _ ?_
        exact ⟨_, _, _, _, _, _, _, _, _, rfl, (fun h => I0 (by rw [upd_other (by decide)] at h; exact h)), (fun h => upd_mono (I1 (upd_ne h (by decide)))), (fun h => upd_mono (I2 (upd_ne h (by decide)))), (fun h => upd_mono (I3 (upd_ne h (by decide)))), (fun h => upd_mono (I4 (upd_ne h (by decide)))), (fun h => upd_mono (I5 (upd_ne h (by decide)))), (fun h => upd_mono (I6 (upd_ne h (by decide)))), (fun h => upd_mono (I7 (upd_ne h (by decide)))), (fun _ => upd_mono (hd ⟨4, .data⟩ (by simp) rfl)), (fun h => upd_mono (I9 (upd_ne h (by decide)))), (kp f0), (kp f1), (fun h => by
          obtain ⟨A5, n5, c5, R5, m5, d5, e, oo⟩ := f2 (upd_ne h (by decide))
          exact ⟨A5, n5, c5, R5, m5, d5, e, fun h6 => by
            rw [upd_other (by decide)] at h6
            rw [upd_other (by decide)]
            exact oo h6⟩), (fun h => by
          obtain ⟨gs, e, oo⟩ := f3 (upd_ne h (by decide))
          exact ⟨gs, e, fun h6 => by
            rw [upd_other (by decide)] at h6
            exact oo h6⟩), (kp f4), (fun _ => rfl), (fun h => by
          obtain ⟨A5, n5, c5, R5, m5, d5, A9, c9, e, e2, oo⟩ := f6 (upd_ne h (by decide))
          exact ⟨A5, n5, c5, R5, m5, d5, A9, c9, e, e2, fun h8 => by
            rw [upd_other (by decide)] at h8
            exact oo h8⟩), (kp f7), (fun h => absurd ((upd_ne h (by decide)).symm.trans h8) (by decide)), (kp f9)⟩
      · obtain rfl := Option.some.inj ho
        have g3 := f3 (hd ⟨3, .data⟩ (by simp) rfl)
        have g5 := f5 (hd ⟨5, .data⟩ (by simp) rfl)
        subst g5
        have h8 : L 8 = false := by
          cases hh : L 8
          · rfl
          · exact absurd (I3 (I4 hh)) (by rw [hL]; decide)
        have hB := I0 h8
        have h3 := hd ⟨3, .data⟩ (by simp) rfl
        have h2 := hd ⟨2, .chain⟩ (by simp) rfl
        obtain ⟨gs, rfl, o3⟩ := g3
        obtain ⟨A5, n5, c5, R5, m5, d5, rfl, o2⟩ := f2 h2
        have oc := (o2 hL).2 h3
        have o3i := o3 hL
        refine wpOp_step rfl (fun K' hK => ?_)
        refine app_stepI rfl (.tmp 36) (.tmp 38) rfl wc.heap.size _ [] rfl o3i K p q ww.heap.size l rfl (KS.out ww hB) (by simp <;> omega) hB.size ?_
        intro v' w' o1 g1 s1
        rw [List.nil_append] at o1
        have hrow := fun kk hk => (World.ownsRow.lt o3i kk hk).1
        have hB2 := hB.grown g1 hB.size hrow
        have oc2 := oc.app o1 g1 s1
        obtain ⟨A9, c9, e9, x9⟩ := o1.form
        rw [HLL.out] at e9
        subst e9
        refine hK _ _ ?_
        exact ⟨_, _, _, _, _, _, _, _, _, rfl, (fun _ => hB2), (fun _ => upd_mono h2), (fun _ => upd_mono h3), (fun h => upd_mono (I3 (upd_ne h (by decide)))), (fun h => upd_mono (I4 (upd_ne h (by decide)))), (fun h => upd_mono (I5 (upd_ne h (by decide)))), (fun h => upd_mono (I6 (upd_ne h (by decide)))), (fun _ => upd_mono (hd ⟨5, .data⟩ (by simp) rfl)), (fun h => upd_mono (I8 (upd_ne h (by decide)))), (fun h => upd_mono (I9 (upd_ne h (by decide)))), (kp f0), (kp f1), (fun _ => ⟨_, _, _, _, _, _, rfl, fun h6 => absurd (upd_self.symm.trans h6) (by decide)⟩), (fun _ => ⟨gs, rfl, fun h6 => absurd (upd_self.symm.trans h6) (by decide)⟩), (kp f4), (kp f5), (fun _ => ⟨_, _, _, _, _, _, A9, c9, rfl, rfl, fun _ => oc2⟩), (fun h => absurd (I3 (upd_ne h (by decide))) (by rw [hL]; decide)), (fun h => absurd ((upd_ne h (by decide)).symm.trans h8) (by decide)), (kp f9)⟩
      · obtain rfl := Option.some.inj ho
        have g2 := f2 (hd ⟨2, .data⟩ (by simp) rfl)
        have g6 := f6 (hd ⟨6, .data⟩ (by simp) rfl)
        have h8 : L 8 = false := by
          cases hh : L 8
          · rfl
          · exact absurd (I4 hh) (by rw [hL]; decide)
        have hB := I0 h8
        obtain ⟨A5, n5, c5, R5, m5, d5, A9, c9, rfl, rfl, o6⟩ := g6
        refine wpOp_step rfl (fun K' hK => ?_)
        go_simp
        refine hK _ _ ?_
        exact ⟨_, _, _, _, _, _, _, _, _, rfl, (fun h => I0 (by rw [upd_other (by decide)] at h; exact h)), (fun h => upd_mono (I1 (upd_ne h (by decide)))), (fun h => upd_mono (I2 (upd_ne h (by decide)))), (fun _ => upd_mono (hd ⟨6, .data⟩ (by simp) rfl)), (fun h => upd_mono (I4 (upd_ne h (by decide)))), (fun h => upd_mono (I5 (upd_ne h (by decide)))), (fun h => upd_mono (I6 (upd_ne h (by decide)))), (fun h => upd_mono (I7 (upd_ne h (by decide)))), (fun h => upd_mono (I8 (upd_ne h (by decide)))), (fun h => upd_mono (I9 (upd_ne h (by decide)))), (kp f0), (kp f1), (fun h => by
          obtain ⟨A5, n5, c5, R5, m5, d5, e, oo⟩ := f2 (upd_ne h (by decide))
          exact ⟨A5, n5, c5, R5, m5, d5, e, fun h6 => by
            rw [upd_other (by decide)] at h6
            rw [upd_other (by decide)]
            exact oo h6⟩), (fun h => by
          obtain ⟨gs, e, oo⟩ := f3 (upd_ne h (by decide))
          exact ⟨gs, e, fun h6 => by
            rw [upd_other (by decide)] at h6
            exact oo h6⟩), (kp f4), (kp f5), (fun _ => ⟨_, _, _, _, _, _, A9, c9, rfl, rfl, fun h8 => by
            rw [upd_other (by decide)] at h8
            exact o6 h8⟩), (fun _ => ⟨_, _, _, _, _, _, _, _, rfl, rfl, rfl⟩), (fun h => absurd ((upd_ne h (by decide)).symm.trans h8) (by decide)), (kp f9)⟩
      · obtain rfl := Option.some.inj ho
        have g7 := f7 (hd ⟨7, .data⟩ (by simp) rfl)
        have H6 := Lib.hid (I3 (hd ⟨7, .data⟩ (by simp) rfl))
        have H7 := Lib.hid (hd ⟨7, .data⟩ (by simp) rfl)
        obtain ⟨A5, n5, c5, R5, m5, d5, A9, c9, rfl, rfl, rfl⟩ := g7
        obtain ⟨A6, n6, c6, R6, m6, d6, A8, c8, e6, e7, o6⟩ := f6 H6.out
        simp at e6 e7
        obtain ⟨⟨rfl, rfl, rfl⟩, rfl, rfl, rfl⟩ := e6
        obtain ⟨rfl, rfl⟩ := e7
        have oc := o6 hL
        have hB := I0 hL
        have q5 := HQ.out.keep hB HQ.out.lt
        have u0 := q5.cell 0
        have v0 := q5.frozen 0
        have u1 := q5.cell 1
        have v1 := q5.frozen 1
        have u2 := q5.cell 2
        have v2 := q5.frozen 2
        simp at u0 u1 u2
        refine wpOp_step rfl (fun K' hK => ?_)
        go_simp
        refine hK _ _ ?_
        exact ⟨_, _, _, _, _, _, _, _, _, rfl, (fun h => absurd (upd_self.symm.trans h) (by decide)), (fun h => upd_mono (I1 (upd_ne h (by decide)))), (fun h => upd_mono (I2 (upd_ne h (by decide)))), (fun h => upd_mono (I3 (upd_ne h (by decide)))), (fun _ => upd_mono H7.out), (fun h => upd_mono (I5 (upd_ne h (by decide)))), (fun h => upd_mono (I6 (upd_ne h (by decide)))), (fun h => upd_mono (I7 (upd_ne h (by decide)))), (fun h => upd_mono (I8 (upd_ne h (by decide)))), (fun h => upd_mono (I9 (upd_ne h (by decide)))), (kp f0), (kp f1), (fun h => ⟨_, _, _, _, _, _, rfl, fun hh => absurd (H6.out.symm.trans ((upd_other (by decide)).symm.trans hh)) (by decide)⟩), (fun h => by
          obtain ⟨gs, e, oo⟩ := f3 (upd_ne h (by decide))
          exact ⟨gs, e, fun hh => absurd (H6.out.symm.trans ((upd_other (by decide)).symm.trans hh)) (by decide)⟩), (kp f4), (kp f5), (fun _ => ⟨_, _, _, _, _, _, _, _, rfl, rfl, fun hh => absurd (upd_self.symm.trans hh) (by decide)⟩), (kp f7), (fun _ => ⟨_, _, _, _, _, _, _, _, ww, rfl, oc, hB⟩), (kp f9)⟩
      · obtain rfl := Option.some.inj ho
        have h8 := hd ⟨8, .chain⟩ (by simp) rfl
        refine wpOp_step rfl (fun K' hK => ?_)
        go_simp
        refine hK _ _ ?_
        exact ⟨_, _, _, _, _, _, _, _, _, rfl, (fun h => absurd (h8.symm.trans ((upd_other (by decide)).symm.trans h)) (by decide)), (fun h => upd_mono (I1 (upd_ne h (by decide)))), (fun h => upd_mono (I2 (upd_ne h (by decide)))), (fun h => upd_mono (I3 (upd_ne h (by decide)))), (fun h => upd_mono (I4 (upd_ne h (by decide)))), (fun _ => upd_mono h8), (fun h => upd_mono (I6 (upd_ne h (by decide)))), (fun h => upd_mono (I7 (upd_ne h (by decide)))), (fun h => upd_mono (I8 (upd_ne h (by decide)))), (fun h => upd_mono (I9 (upd_ne h (by decide)))), (kp f0), (kp f1), (fun h => by
          obtain ⟨A5, n5, c5, R5, m5, d5, e, oo⟩ := f2 (upd_ne h (by decide))
          exact ⟨A5, n5, c5, R5, m5, d5, e, fun h6 => by
            rw [upd_other (by decide)] at h6
            rw [upd_other (by decide)]
            exact oo h6⟩), (fun h => by
          obtain ⟨gs, e, oo⟩ := f3 (upd_ne h (by decide))
          exact ⟨gs, e, fun h6 => by
            rw [upd_other (by decide)] at h6
            exact oo h6⟩), (kp f4), (kp f5), (fun h => by
          obtain ⟨A5, n5, c5, R5, m5, d5, A9, c9, e, e2, oo⟩ := f6 (upd_ne h (by decide))
          exact ⟨A5, n5, c5, R5, m5, d5, A9, c9, e, e2, fun h8 => by
            rw [upd_other (by decide)] at h8
            exact oo h8⟩), (kp f7), (kp f8), (fun _ => rfl)⟩
    case hdone =>
      rintro L ac ww hall ⟨t5, t33, t34, t35, t36, t37, t38, t39, t40, rfl, I0, I1, I2, I3, I4, I5, I6, I7, I8, I9, f0, f1, f2, f3, f4, f5, f6, f7, f8, f9⟩
      have e0 := f0 (hall 0 (by decide))
      have e1 := f1 (hall 1 (by decide))
      have e2 := f2 (hall 2 (by decide))
      have e3 := f3 (hall 3 (by decide))
      have e4 := f4 (hall 4 (by decide))
      have e5 := f5 (hall 5 (by decide))
      have e6 := f6 (hall 6 (by decide))
      have e7 := f7 (hall 7 (by decide))
      have e8 := f8 (hall 8 (by decide))
      have e9 := f9 (hall 9 (by decide))
      clear f0 f1 f2 f3 f4 f5 f6 f7 f8 f9
      obtain ⟨A5, n5, c5, R5, m5, d5, A9, c9, w1, rfl, oc, hB⟩ := e8
      have q3 := HQ.out.keep hB HQ.out.lt
      have bw := HB2.out.trans (hB.mono HB2.out.size)
      have r2 : (w1).frozen? ⟨w.heap.size + 1 + 1, 0, none⟩ = false := q3.frozen 0
      have r3 : (w1).frozen? ⟨w.heap.size + 1 + 1, 1, none⟩ = false := q3.frozen 1
      have r4 : (w1).frozen? ⟨w.heap.size + 1 + 1, 2, none⟩ = false := q3.frozen 2
      have r5 : (w1).cell? ⟨w.heap.size + 1 + 1, 0, none⟩ = some (.slice none 0 0) := q3.cell 0
      have r6 : (w1).cell? ⟨w.heap.size + 1 + 1, 1, none⟩ = some (.slice none 0 0) := q3.cell 1
      have r7 : (w1).cell? ⟨w.heap.size + 1 + 1, 2, none⟩ = some (.slice none 0 0) := q3.cell 2
      have q4 := ((q3.put 0 (.slice A5 n5 c5)).put 1 (.slice R5 m5 d5)).put 2 (.slice A9 p c9)
      have r8 : (((w1.setCell ⟨w.heap.size + 1 + 1, 0, none⟩ (.slice A5 n5 c5)).setCell ⟨w.heap.size + 1 + 1, 1, none⟩ (.slice R5 m5 d5)).setCell ⟨w.heap.size + 1 + 1, 2, none⟩ (.slice A9 p c9)).cell? ⟨w.heap.size + 1 + 1, 0, none⟩ = some (.slice A5 n5 c5) := q4.cell 0
      have r9 : (((w1.setCell ⟨w.heap.size + 1 + 1, 0, none⟩ (.slice A5 n5 c5)).setCell ⟨w.heap.size + 1 + 1, 1, none⟩ (.slice R5 m5 d5)).setCell ⟨w.heap.size + 1 + 1, 2, none⟩ (.slice A9 p c9)).cell? ⟨w.heap.size + 1 + 1, 1, none⟩ = some (.slice R5 m5 d5) := q4.cell 1
      have r10 : (((w1.setCell ⟨w.heap.size + 1 + 1, 0, none⟩ (.slice A5 n5 c5)).setCell ⟨w.heap.size + 1 + 1, 1, none⟩ (.slice R5 m5 d5)).setCell ⟨w.heap.size + 1 + 1, 2, none⟩ (.slice A9 p c9)).cell? ⟨w.heap.size + 1 + 1, 2, none⟩ = some (.slice A9 p c9) := q4.cell 2
      have D := Lib.hid (OwnC.out (w := w) oc hsz bw (Nat.le_trans (Nat.le_succ _) (Nat.le_succ _)))
      clear e0 e1 e2 e3 e4 e5 e6 e7 I0 I1 I2 I3 I4 I5 I6 I7 I8 I9 oc hB q3 q4 bw q1 q2 b2 x0 x1 x2
      subst e9
      go_wp2_with fail
      exact bodyPost_ret (v := .tuple #[.agg #[.slice A5 n5 c5, .slice R5 m5 d5, .slice A9 p c9], .bool false]) (by simp [results, Try.results117, go_sem, *]) rfl ⟨_, _, _, by rw [HF.out], by rw [HF.out]; exact D.out.1, D.out.2⟩
end Go.Proofs.Ytijgfpcpkmpdpaa
