/- What the claim DEStepCounted stands on, part 4 of 4: texts of one seat put together, with what the claim needs of them. No conditions. -/
import Derived.Test.YtfgdenmlfloloaaDoorShFc
namespace Go.Proofs.YtfgdenmlfloloaaDoor
open Go.RowKit
set_option maxRecDepth 100000
namespace Hps
theorem okCt_eq (h : Hp) (l : List Int) : okCt h l = (validH h && decide (countsH h = l)) := by
  rw [Bool.eq_iff_iff, okCt_iff, Bool.and_eq_true, decide_eq_true_iff]
  constructor
  · rintro ⟨h1, rfl⟩
    exact ⟨h1, by rw [countsH, if_pos h1]⟩
  · rintro ⟨h1, h2⟩
    rw [countsH, if_pos h1] at h2
    exact ⟨h1, h2.symm⟩
theorem countsH_len (h : Hp) : (countsH h).length ≤ h.cs.length := by
  unfold countsH
  split
  · simp [countsL]
  · simp
theorem gap_at {h : Hp} {k : Nat} (hk : k < h.cs.length) (hu : usedAt h.cs k = false) (hb : ∀ j, j < k → usedAt h.cs j = true) : gapH h = k := by
  rcases gapH_cases h with ⟨e1, e2⟩ | ⟨e1, e2, e3⟩
  · have := e2 k hk
    rw [hu] at this
    cases this
  · rcases Nat.lt_trichotomy (gapH h) k with q | q | q
    · have := hb _ q
      rw [e2] at this
      cases this
    · exact q
    · have := e3 k q
      rw [hu] at this
      cases this
theorem gap_end {h : Hp} (hb : ∀ j, j < h.cs.length → usedAt h.cs j = true) : gapH h = h.cs.length := by
  rcases gapH_cases h with ⟨e1, _⟩ | ⟨e1, e2, _⟩
  · exact e1
  · have := hb _ e1
    rw [e2] at this
    cases this
theorem usedAt_of {cs : List Cl} {k : Nat} {c : Cl} (hc : cs[k]? = some c) : usedAt cs k = c.u := by rw [usedAt, hc]
end Hps
set_option maxHeartbeats 4000000 in
theorem mCountedValid_any (A R K : Option Addr) (n c m d p q : Nat) (h : Hp) (l : List Int) (w : World) (hs : HS w w.heap.size A n R m h) (hk : IS w w.heap.size K p l) (hn : n ≤ 1099511627776) (hm : m ≤ 1099511627776) (hp : p ≤ 1099511627776) :
    Calls Tryd.prog 62 #[ctV A n c R m d K p q] w fun e w' => e = .returned (.bool (Hps.okCt h l)) ∧ Below w.heap.size w w' := by
  have b0 : Below w.heap.size w (w.alloc (.cells #[.slice A n c, .slice R m d, .slice K p q] 34)) := (Below.refl _ _).alloc (Nat.le_refl _) _
  have r0 := hs.up b0
  have k0 := hk.up b0
  have q0 := Rw.new w 34 #[.slice A n c, .slice R m d, .slice K p q]
  have hlc := hs.cells.1
  go_enter Tryd.func62, Tryd.ntmps62
  go_wp2_with fail
  refine (mRefCounts_any _ _ _ _ _ _ h _ r0 hn hm).mono ?_
  rintro e w1 ⟨v1, rfl, o1, b1⟩
  have bb1 := b0.trans (b1.mono b0.size)
  have r1 := r0.up b1
  have k1 := k0.up b1
  have q1 := q0.keep b1 q0.lt
  have x0 : w1.cell? ⟨w.heap.size, 0, none⟩ = some (.slice A n c) := q1.cell 0
  have x1 : w1.cell? ⟨w.heap.size, 1, none⟩ = some (.slice R m d) := q1.cell 1
  have x2 : w1.cell? ⟨w.heap.size, 2, none⟩ = some (.slice K p q) := q1.cell 2
  obtain ⟨A1, c1, rfl, -⟩ := o1.form
  have hle := Hps.countsH_len h
  have R1 := o1.reads
  have HE := Lib.hid (Hps.okCt_eq h l)
  obtain ⟨xs, hxs⟩ : ∃ xs, Hps.countsH h = xs := ⟨_, rfl⟩
  rw [hxs] at R1 HE hle ⊢
  have HX := Lib.hid hxs
  obtain ⟨f, hf⟩ : ∃ f, xs.length = f := ⟨_, rfl⟩
  rw [hf] at R1 hle ⊢
  have HF := Lib.hid hf
  have HP := Lib.hid hk.1
  clear hxs hf o1 b1 r0 k0 q0 b0
  by_cases hfp : f = p
  · subst hfp
    have hne : ((f : Int) != f) = false := by simp
    go_wp2_with fail
    go_loopw [4] (fun i wr => ∃ k : Nat, k ≤ f ∧ i = .int .i64 k ∧ Hid (xs.take k = l.take k) ∧ Below w1.heap.size w1 wr) (fun i _ => f - (intOf i).toNat)
    case atStart => exact ⟨0, Nat.zero_le _, rfl, by simp [Hid], Below.refl _ _⟩
    case round =>
      obtain ⟨k, hkf, rfl, hpre, hb⟩ := hrel
      have bbk := bb1.trans (hb.mono bb1.size)
      have q2 := q1.keep hb q1.lt
      have x0 : wr.cell? ⟨w.heap.size, 0, none⟩ = some (.slice A n c) := q2.cell 0
      have x1 : wr.cell? ⟨w.heap.size, 1, none⟩ = some (.slice R m d) := q2.cell 1
      have x2 : wr.cell? ⟨w.heap.size, 2, none⟩ = some (.slice K f q) := q2.cell 2
      by_cases hlt : k < f
      · obtain ⟨g, o, x, rfl, hg, hx, c1'⟩ := (R1.below hb).at_ hlt
        obtain ⟨g', o', y, rfl, hg', hy, c2'⟩ := (k1.below hb).at_ hlt
        have HX2 := Lib.hid hx
        have HY := Lib.hid hy
        have hlt' : (k : Int) < f := by omega
        clear hx hy
        by_cases hxy : x = y
        · subst hxy
          clear bbk q2
          go_wp2_with fail
          go_big_quiet (fail)
          go_wp2
          go_roundw
          case rel => exact ⟨k + 1, by omega, by go_num, Lib.hid (take_eq_succI hpre.out HX2.out HY.out), below_drewN hb _⟩
          case measure => simp [intOf]; omega
        · have hne : (x == y) = false := by rw [beq_eq_false_iff_ne]; exact hxy
          have hne2 : (x != y) = true := by rw [bne_iff_ne]; exact hxy
          have HR := Lib.hid (show Hps.okCt h l = false by
            rw [HE.out, decide_eq_false (show ¬ xs = l from Hps.take_ne HX2.out HY.out hxy), Bool.and_false])
          clear hxy q2
          go_wp2_with fail
          go_big_quiet (fail)
          go_wp2
          go_ret
          exact ⟨by rw [HR.out]; rfl, below_drewN bbk _⟩
      · have hkn : k = f := by omega
        have HR := Lib.hid (show Hps.okCt h l = Hps.validH h by
          have : xs = l := by
            have := hpre.out
            rwa [List.take_of_length_le (by rw [HF.out]; omega), List.take_of_length_le (by rw [HP.out]; omega)] at this
          rw [HE.out, decide_eq_true this, Bool.and_true])
        subst hkn
        clear hpre
        have rr := r1.up hb
        clear q2
        go_wp2_with fail
        refine (mHeapValid_any _ _ _ _ _ _ h _ rr hn hm).mono ?_
        rw [← HR.out]
        rintro e w5 ⟨rfl, b5⟩
        have bb5 := bbk.trans (b5.mono bbk.size)
        go_wp2_with fail
        go_ret
        exact ⟨rfl, bb5⟩
  · have hne : ((f : Int) != p) = true := by rw [bne_iff_ne]; omega
    have HR := Lib.hid (show Hps.okCt h l = false by
      rw [HE.out, decide_eq_false (show ¬ xs = l from fun e => hfp (by rw [← HF.out, e]; exact HP.out)), Bool.and_false])
    go_wp2_with fail
    go_ret
    exact ⟨by rw [HR.out]; rfl, bb1⟩
set_option maxHeartbeats 4000000 in
theorem mPlace_any (A R : Option Addr) (n c m d : Nat) (h : Hp) (w : World) (hs : HS w w.heap.size A n R m h) (hn : n ≤ 1099511627776) :
    Calls Tryd.prog 64 #[heapV A n c R m d] w fun e w' => e = .returned (.int .i64 (Hps.gapH h)) ∧ Below w.heap.size w w' := by
  have b0 : Below w.heap.size w (w.alloc (.cells #[.slice A n c, .slice R m d] 26)) := (Below.refl _ _).alloc (Nat.le_refl _) _
  have r0 := hs.up b0
  have q0 := Rw.new w 26 #[.slice A n c, .slice R m d]
  have hlc := hs.cells.1
  have HLC := Lib.hid hlc
  clear hlc
  go_enter Tryd.func64, Tryd.ntmps64
  go_wp2_with fail
  generalize w.alloc (.cells #[.slice A n c, .slice R m d] 26) = w0 at b0 r0 q0 ⊢
  go_loopw [3] (fun i wr => ∃ k : Nat, k ≤ n ∧ i = .int .i64 k ∧ Hid (∀ j, j < k → Hps.usedAt h.cs j = true) ∧ wr = w0) (fun i _ => n - (intOf i).toNat)
  case atStart => exact ⟨0, Nat.zero_le _, rfl, Lib.hid (fun j hj => by omega), rfl⟩
  case round =>
    obtain ⟨k, hk, rfl, hpre, rfl⟩ := hrel
    have x0 : wr.cell? ⟨w.heap.size, 0, none⟩ = some (.slice A n c) := q0.cell 0
    by_cases hlt : k < n
    · obtain ⟨g, o, cl, A', m', cc, e1, hg, hcl, d1, _, _, _, _⟩ := (hs.cells.below b0).at_ hlt
      subst e1
      have hlt' : (k : Int) < n := by omega
      have HU := Lib.hid (Hps.usedAt_of hcl)
      have HC := Lib.hid hcl
      clear hcl
      cases hu : cl.u <;> rw [hu] at d1 HU
      · have HG := Lib.hid (Hps.gap_at (h := h) (k := k) (by rw [HLC.out]; exact hlt) HU.out hpre.out)
        clear hu
        go_wp2_with fail
        go_ret
        exact ⟨by rw [HG.out]; rfl, b0⟩
      · clear hu
        go_wp2_with fail
        go_roundw
        case rel => exact ⟨k + 1, by omega, by go_num, Lib.hid (fun j hj => by
          rcases Nat.lt_or_ge j k with h1 | h1
          · exact hpre.out j h1
          · obtain rfl : j = k := by omega
            exact HU.out), trivial⟩
        case measure => simp [intOf]; omega
    · obtain rfl : k = n := by omega
      have HG := Lib.hid (show Hps.gapH h = k by rw [← HLC.out]; exact Hps.gap_end (by rw [HLC.out]; exact hpre.out))
      go_wp2_with fail
      go_ret
      exact ⟨by rw [HG.out]; rfl, b0⟩
end Go.Proofs.YtfgdenmlfloloaaDoor

namespace Go.Proofs.YtfgdenmlfloloaaDoor
open Go.RowKit
set_option maxRecDepth 100000
theorem equalI_any (A B : Option Addr) (n m c d : Nat) (xs ys : List Int) (w : World) (h : IS w w.heap.size A n xs) (h' : IS w w.heap.size B m ys) (hn : n ≤ 1099511627776) (hm : m ≤ 1099511627776) :
    Calls Tryd.prog 74 #[.slice A n c, .slice B m d] w fun e w' => e = .returned (.bool (decide (xs = ys))) ∧ Below w.heap.size w w' := by
  have HL := Lib.hid h.1
  have HL' := Lib.hid h'.1
  by_cases hnm : n = m
  · subst hnm
    go_enter Tryd.func74, Tryd.ntmps74
    go_wp2
    go_loopw [13] (fun i wr => ∃ (k : Nat), k ≤ n ∧ i = .int .i64 k ∧ Hid (xs.take k = ys.take k) ∧ Below w.heap.size w wr) (fun i _ => n - (intOf i).toNat)
    case atStart => exact ⟨0, Nat.zero_le _, rfl, by simp [Hid], Below.refl _ _⟩
    case round =>
      obtain ⟨k, hk, rfl, hpre, hb⟩ := hrel
      by_cases hlt : k < n
      · obtain ⟨g, o, x, rfl, hg, hx, c1⟩ := (h.below hb).at_ hlt
        obtain ⟨g', o', y, rfl, hg', hx', c1'⟩ := (h'.below hb).at_ hlt
        have HX := Lib.hid hx
        have HX' := Lib.hid hx'
        have hlt' : (k : Int) < n := by omega
        clear hx hx'
        by_cases hxy : x = y
        · subst hxy
          go_wp2_with fail
          go_quiet (fail)
          go_wp2
          go_roundw
          case rel => exact ⟨k + 1, by omega, by go_num, Lib.hid (take_eq_succI hpre.out HX.out HX'.out), below_drewN hb _⟩
          case measure => simp [intOf]; omega
        · have hne : (x == y) = false := by rw [beq_eq_false_iff_ne]; exact hxy
          have hne2 : (x != y) = true := by rw [bne_iff_ne]; exact hxy
          have HNE := Lib.hid (show xs ≠ ys from fun e => hxy (by
            have a := HX.out
            have b := HX'.out
            rw [e, b] at a
            exact (Option.some.inj a).symm))
          clear hxy
          go_wp2_with fail
          go_quiet (fail)
          go_wp2
          go_ret
          exact ⟨ret_bool (decide_eq_false HNE.out).symm, below_drewN hb _⟩
      · have hkn : k = n := by omega
        have HK := Lib.hid hkn
        clear hkn
        go_wp2
        go_ret
        refine ⟨ret_bool ?_, hb⟩
        have hp := hpre.out
        rw [HK.out, List.take_of_length_le (by rw [HL.out]; omega), List.take_of_length_le (by rw [HL'.out]; omega)] at hp
        simp [hp]
  · have hne : ((n : Int) != m) = true := by rw [bne_iff_ne]; omega
    have HN := Lib.hid hnm
    clear hnm
    go_enter Tryd.func74, Tryd.ntmps74
    go_wp2
    go_ret
    refine ⟨ret_bool ?_, Below.refl _ _⟩
    simp
    rintro rfl
    exact HN.out (HL.out.symm.trans HL'.out)
end Go.Proofs.YtfgdenmlfloloaaDoor

namespace Go.Proofs.YtfgdenmlfloloaaDoor
open Go.RowKit
set_option maxRecDepth 100000
set_option maxHeartbeats 4000000 in
theorem countedValid_any (A R K : Option Addr) (n c m d p q : Nat) (h : Hp) (l : List Int) (w : World) (hs : HS w w.heap.size A n R m h) (hk : IS w w.heap.size K p l) (hn : n ≤ 1099511627776) (hm : m ≤ 1099511627776) (hp : p ≤ 1099511627776) (hnc : n ≤ c) (hmd : m ≤ d) :
    Calls Tryd.prog 20 #[ctV A n c R m d K p q] w fun e w' => e = .returned (.bool (Hps.okCt h l)) ∧ Below w.heap.size w w' := by
  have b0 : Below w.heap.size w (w.alloc (.cells #[.slice A n c, .slice R m d, .slice K p q] 34)) := (Below.refl _ _).alloc (Nat.le_refl _) _
  have r0 := hs.up b0
  have k0 := hk.up b0
  have Q0 := Rw.new w 34 #[.slice A n c, .slice R m d, .slice K p q]
  obtain ⟨v, hv⟩ : ∃ v, Hps.validH h = v := ⟨_, rfl⟩
  have HOK := Lib.hid (show Hps.okCt h l = (v && decide (l = Hps.countsH h)) by
    rw [Hps.okCt_eq, hv]
    congr 1
    exact decide_eq_decide.2 ⟨fun e => e.symm, fun e => e.symm⟩)
  have HV := Lib.hid hv
  have HL := Hps.countsH_len h
  rw [hs.cells.1] at HL
  clear hv
  go_enter Tryd.func20, Tryd.ntmps20
  go_upto_region 1 with fail
  generalize w.alloc (.cells #[.slice A n c, .slice R m d, .slice K p q] 34) = w2 at b0 r0 k0 Q0 ⊢
  generalize hbq : w.heap.size = b at Q0 ⊢
  have HB := Lib.hid hbq
  clear hbq
  have hbl := Q0.lt
  have x0 : w2.cell? ⟨b, 0, none⟩ = some (.slice A n c) := Q0.cell 0
  have x1 : w2.cell? ⟨b, 1, none⟩ = some (.slice R m d) := Q0.cell 1
  have x2 : w2.cell? ⟨b, 2, none⟩ = some (.slice K p q) := Q0.cell 2
  cases v
  · skip
    refine wp_region_inv (by kernel_rfl) (by kernel_rfl) (fun L ac ww => ∃ t2 t3 t4 t5 t6 t7 t8 t9 t10 t11 t12 t13 : Value, ac = { tmps := #[ctV A n c R m d K p q, Value.pointer (some { block := b, off := 0 }), t2, t3, t4, t5, t6, t7, t8, t9, t10, t11, t12, t13], defers := [] } ∧ (Below w2.heap.size w2 ww) ∧ (L 0 = true → t3 = .pointer (some ⟨b, 0, none⟩)) ∧ (L 1 = true → t4 = .agg #[.slice A n c, .slice R m d]) ∧ (L 2 = true → t5 = .bool false) ∧ (L 3 = true → t6 = .bool false) ∧ (L 4 = true → True) ∧ (L 5 = true → True) ∧ (L 6 = true → True) ∧ (L 7 = true → True) ∧ (L 8 = true → True) ∧ (L 9 = true → True) ∧ (L 10 = true → t13 = .bool false) ∧ (L 11 = true → t2 = .bool false)) ?h0 ?hstep ?hdone
    case h0 => exact ⟨_, _, _, _, _, _, _, _, _, _, _, _, rfl, (Below.refl _ _).drew, (fun h => absurd h Bool.false_ne_true), (fun h => absurd h Bool.false_ne_true), (fun h => absurd h Bool.false_ne_true), (fun h => absurd h Bool.false_ne_true), (fun h => absurd h Bool.false_ne_true), (fun h => absurd h Bool.false_ne_true), (fun h => absurd h Bool.false_ne_true), (fun h => absurd h Bool.false_ne_true), (fun h => absurd h Bool.false_ne_true), (fun h => absurd h Bool.false_ne_true), (fun h => absurd h Bool.false_ne_true), (fun h => absurd h Bool.false_ne_true)⟩
    case hstep =>
      rintro L ac ww i o ho hL hd ⟨t2, t3, t4, t5, t6, t7, t8, t9, t10, t11, t12, t13, rfl, I0, f0, f1, f2, f3, f4, f5, f6, f7, f8, f9, f10, f11⟩
      have hi : i < 12 := (Array.getElem?_eq_some_iff.1 ho).1
      obtain rfl | rfl | rfl | rfl | rfl | rfl | rfl | rfl | rfl | rfl | rfl | rfl : i = 0 ∨ i = 1 ∨ i = 2 ∨ i = 3 ∨ i = 4 ∨ i = 5 ∨ i = 6 ∨ i = 7 ∨ i = 8 ∨ i = 9 ∨ i = 10 ∨ i = 11 := by omega
      · obtain rfl := Option.some.inj ho
        refine wpOp_step rfl (fun K' hK => ?_)
        go_simp
        refine hK _ _ ?_
        exact ⟨_, _, _, _, _, _, _, _, _, _, _, _, rfl, (I0), (fun _ => rfl), (kp f1), (kp f2), (kp f3), (fun _ => trivial), (fun _ => trivial), (fun _ => trivial), (fun _ => trivial), (fun _ => trivial), (fun _ => trivial), (kp f10), (kp f11)⟩
      · obtain rfl := Option.some.inj ho
        have g0 := f0 (hd ⟨0, .data⟩ (by simp) rfl)
        subst g0
        have z0 : ww.cell? ⟨b, 0, none⟩ = some (.slice A n c) := (I0.cell (p := ⟨b, 0, none⟩) hbl).trans x0
        have z1 : ww.cell? ⟨b, 1, none⟩ = some (.slice R m d) := (I0.cell (p := ⟨b, 1, none⟩) hbl).trans x1
        have z2 : ww.cell? ⟨b, 2, none⟩ = some (.slice K p q) := (I0.cell (p := ⟨b, 2, none⟩) hbl).trans x2
        refine wpOp_step rfl (fun K' hK => ?_)
        go_simp
        refine hK _ _ ?_
        exact ⟨_, _, _, _, _, _, _, _, _, _, _, _, rfl, (I0), (kp f0), (fun _ => rfl), (kp f2), (kp f3), (fun _ => trivial), (fun _ => trivial), (fun _ => trivial), (fun _ => trivial), (fun _ => trivial), (fun _ => trivial), (kp f10), (kp f11)⟩
      · obtain rfl := Option.some.inj ho
        have g1 := f1 (hd ⟨1, .data⟩ (by simp) rfl)
        subst g1
        refine wpOp_step rfl (fun K' hK => ?_)
        go_simp
        refine (heapValid_any _ _ _ _ _ _ h ww (r0.up I0) hn hm hnc hmd).mono ?_
        rw [HV.out]
        rintro e w' ⟨rfl, b5⟩
        refine hK _ _ ?_
        exact ⟨_, _, _, _, _, _, _, _, _, _, _, _, rfl, (I0.trans (b5.mono I0.size)), (kp f0), (kp f1), (fun _ => rfl), (kp f3), (fun _ => trivial), (fun _ => trivial), (fun _ => trivial), (fun _ => trivial), (fun _ => trivial), (fun _ => trivial), (kp f10), (kp f11)⟩
      · obtain rfl := Option.some.inj ho
        have g2 := f2 (hd ⟨2, .data⟩ (by simp) rfl)
        subst g2
        refine wpOp_step rfl (fun K' hK => ?_)
        go_simp
        refine hK _ _ ?_
        exact ⟨_, _, _, _, _, _, _, _, _, _, _, _, rfl, (I0), (kp f0), (kp f1), (kp f2), (fun _ => rfl), (fun _ => trivial), (fun _ => trivial), (fun _ => trivial), (fun _ => trivial), (fun _ => trivial), (fun _ => trivial), (kp f10), (kp f11)⟩
      · obtain rfl := Option.some.inj ho
        have g3 := f3 (hd ⟨3, .guard⟩ (by simp) rfl)
        subst g3
        refine wpOp_step rfl (fun K' hK => ?_)
        go_simp
        refine hK _ _ ?_
        exact ⟨_, _, _, _, _, _, _, _, _, _, _, _, rfl, (I0), (kp f0), (kp f1), (kp f2), (kp f3), (fun _ => trivial), (fun _ => trivial), (fun _ => trivial), (fun _ => trivial), (fun _ => trivial), (fun _ => trivial), (kp f10), (kp f11)⟩
      · obtain rfl := Option.some.inj ho
        have g3 := f3 (hd ⟨3, .guard⟩ (by simp) rfl)
        subst g3
        refine wpOp_step rfl (fun K' hK => ?_)
        go_simp
        refine hK _ _ ?_
        exact ⟨_, _, _, _, _, _, _, _, _, _, _, _, rfl, (I0), (kp f0), (kp f1), (kp f2), (kp f3), (fun _ => trivial), (fun _ => trivial), (fun _ => trivial), (fun _ => trivial), (fun _ => trivial), (fun _ => trivial), (kp f10), (kp f11)⟩
      · obtain rfl := Option.some.inj ho
        have g3 := f3 (hd ⟨3, .guard⟩ (by simp) rfl)
        subst g3
        refine wpOp_step rfl (fun K' hK => ?_)
        go_simp
        refine hK _ _ ?_
        exact ⟨_, _, _, _, _, _, _, _, _, _, _, _, rfl, (I0), (kp f0), (kp f1), (kp f2), (kp f3), (fun _ => trivial), (fun _ => trivial), (fun _ => trivial), (fun _ => trivial), (fun _ => trivial), (fun _ => trivial), (kp f10), (kp f11)⟩
      · obtain rfl := Option.some.inj ho
        have g3 := f3 (hd ⟨3, .guard⟩ (by simp) rfl)
        subst g3
        refine wpOp_step rfl (fun K' hK => ?_)
        go_simp
        refine hK _ _ ?_
        exact ⟨_, _, _, _, _, _, _, _, _, _, _, _, rfl, (I0), (kp f0), (kp f1), (kp f2), (kp f3), (fun _ => trivial), (fun _ => trivial), (fun _ => trivial), (fun _ => trivial), (fun _ => trivial), (fun _ => trivial), (kp f10), (kp f11)⟩
      · obtain rfl := Option.some.inj ho
        have g3 := f3 (hd ⟨3, .guard⟩ (by simp) rfl)
        subst g3
        refine wpOp_step rfl (fun K' hK => ?_)
        go_simp
        refine hK _ _ ?_
        exact ⟨_, _, _, _, _, _, _, _, _, _, _, _, rfl, (I0), (kp f0), (kp f1), (kp f2), (kp f3), (fun _ => trivial), (fun _ => trivial), (fun _ => trivial), (fun _ => trivial), (fun _ => trivial), (fun _ => trivial), (kp f10), (kp f11)⟩
      · obtain rfl := Option.some.inj ho
        have g3 := f3 (hd ⟨3, .guard⟩ (by simp) rfl)
        subst g3
        refine wpOp_step rfl (fun K' hK => ?_)
        go_simp
        refine hK _ _ ?_
        exact ⟨_, _, _, _, _, _, _, _, _, _, _, _, rfl, (I0), (kp f0), (kp f1), (kp f2), (kp f3), (fun _ => trivial), (fun _ => trivial), (fun _ => trivial), (fun _ => trivial), (fun _ => trivial), (fun _ => trivial), (kp f10), (kp f11)⟩
      · obtain rfl := Option.some.inj ho
        have g3 := f3 (hd ⟨3, .data⟩ (by simp) rfl)
        subst g3
        refine wpOp_step rfl (fun K' hK => ?_)
        go_simp
        refine hK _ _ ?_
        exact ⟨_, _, _, _, _, _, _, _, _, _, _, _, rfl, (I0), (kp f0), (kp f1), (kp f2), (kp f3), (fun _ => trivial), (fun _ => trivial), (fun _ => trivial), (fun _ => trivial), (fun _ => trivial), (fun _ => trivial), (fun _ => rfl), (kp f11)⟩
      · obtain rfl := Option.some.inj ho
        have g10 := f10 (hd ⟨10, .data⟩ (by simp) rfl)
        subst g10
        refine wpOp_step rfl (fun K' hK => ?_)
        go_simp
        refine hK _ _ ?_
        exact ⟨_, _, _, _, _, _, _, _, _, _, _, _, rfl, (I0), (kp f0), (kp f1), (kp f2), (kp f3), (fun _ => trivial), (fun _ => trivial), (fun _ => trivial), (fun _ => trivial), (fun _ => trivial), (fun _ => trivial), (kp f10), (fun _ => rfl)⟩
    case hdone =>
      rintro L ac ww hall ⟨t2, t3, t4, t5, t6, t7, t8, t9, t10, t11, t12, t13, rfl, I0, f0, f1, f2, f3, f4, f5, f6, f7, f8, f9, f10, f11⟩
      have e0 := f0 (hall 0 (by decide))
      have e1 := f1 (hall 1 (by decide))
      have e2 := f2 (hall 2 (by decide))
      have e3 := f3 (hall 3 (by decide))
      have e4 := f4 (hall 4 (by decide))
      have e5 := f5 (hall 5 (by decide))
      have e6 := f6 (hall 6 (by decide))
      have e7 := f7 (hall 7 (by decide))
      have e8 := f8 (hall 8 (by decide))
      have e9 := f9 (hall 9 (by decide))
      have e10 := f10 (hall 10 (by decide))
      have e11 := f11 (hall 11 (by decide))
      clear f0 f1 f2 f3 f4 f5 f6 f7 f8 f9 f10 f11
      subst e11
      have bbf := b0.trans (I0.mono b0.size)
      clear I0 e0 e1 e2 e3 e4 e5 e6 e7 e8 e9 e10 hall x0 x1 x2 Q0 r0 k0
      go_wp2_with fail
      go_ret
      exact ⟨by rw [HOK.out]; simp, by have := HB.out; subst this; exact bbf⟩
  · skip
    refine wp_region_inv (by kernel_rfl) (by kernel_rfl) (fun L ac ww => ∃ t2 t3 t4 t5 t6 t7 t8 t9 t10 t11 t12 t13 : Value, ac = { tmps := #[ctV A n c R m d K p q, Value.pointer (some { block := b, off := 0 }), t2, t3, t4, t5, t6, t7, t8, t9, t10, t11, t12, t13], defers := [] } ∧ (Below w2.heap.size w2 ww) ∧ (L 0 = true → t3 = .pointer (some ⟨b, 0, none⟩)) ∧ (L 1 = true → t4 = .agg #[.slice A n c, .slice R m d]) ∧ (L 2 = true → t5 = .bool true) ∧ (L 3 = true → t6 = .bool true) ∧ (L 4 = true → t7 = .pointer (some ⟨b, 2, none⟩)) ∧ (L 5 = true → t8 = .slice K p q) ∧ (L 6 = true → t9 = .pointer (some ⟨b, 0, none⟩)) ∧ (L 7 = true → t10 = .agg #[.slice A n c, .slice R m d]) ∧ (L 8 = true → ∃ A5 n5 c5, t11 = .slice A5 n5 c5 ∧ n5 ≤ 1099511627776 ∧ IS ww ww.heap.size A5 n5 (Hps.countsH h)) ∧ (L 9 = true → t12 = .bool (decide (l = Hps.countsH h))) ∧ (L 10 = true → t13 = .bool (decide (l = Hps.countsH h))) ∧ (L 11 = true → t2 = .bool (decide (l = Hps.countsH h)))) ?h0 ?hstep ?hdone
    case h0 => exact ⟨_, _, _, _, _, _, _, _, _, _, _, _, rfl, (Below.refl _ _).drew, (fun h => absurd h Bool.false_ne_true), (fun h => absurd h Bool.false_ne_true), (fun h => absurd h Bool.false_ne_true), (fun h => absurd h Bool.false_ne_true), (fun h => absurd h Bool.false_ne_true), (fun h => absurd h Bool.false_ne_true), (fun h => absurd h Bool.false_ne_true), (fun h => absurd h Bool.false_ne_true), (fun h => absurd h Bool.false_ne_true), (fun h => absurd h Bool.false_ne_true), (fun h => absurd h Bool.false_ne_true), (fun h => absurd h Bool.false_ne_true)⟩
    case hstep =>
      rintro L ac ww i o ho hL hd ⟨t2, t3, t4, t5, t6, t7, t8, t9, t10, t11, t12, t13, rfl, I0, f0, f1, f2, f3, f4, f5, f6, f7, f8, f9, f10, f11⟩
      have hi : i < 12 := (Array.getElem?_eq_some_iff.1 ho).1
      obtain rfl | rfl | rfl | rfl | rfl | rfl | rfl | rfl | rfl | rfl | rfl | rfl : i = 0 ∨ i = 1 ∨ i = 2 ∨ i = 3 ∨ i = 4 ∨ i = 5 ∨ i = 6 ∨ i = 7 ∨ i = 8 ∨ i = 9 ∨ i = 10 ∨ i = 11 := by omega
      · obtain rfl := Option.some.inj ho
        refine wpOp_step rfl (fun K' hK => ?_)
        go_simp
        refine hK _ _ ?_
        exact ⟨_, _, _, _, _, _, _, _, _, _, _, _, rfl, (I0), (fun _ => rfl), (kp f1), (kp f2), (kp f3), (kp f4), (kp f5), (kp f6), (kp f7), (kp f8), (kp f9), (kp f10), (kp f11)⟩
      · obtain rfl := Option.some.inj ho
        have g0 := f0 (hd ⟨0, .data⟩ (by simp) rfl)
        subst g0
        have z0 : ww.cell? ⟨b, 0, none⟩ = some (.slice A n c) := (I0.cell (p := ⟨b, 0, none⟩) hbl).trans x0
        have z1 : ww.cell? ⟨b, 1, none⟩ = some (.slice R m d) := (I0.cell (p := ⟨b, 1, none⟩) hbl).trans x1
        have z2 : ww.cell? ⟨b, 2, none⟩ = some (.slice K p q) := (I0.cell (p := ⟨b, 2, none⟩) hbl).trans x2
        refine wpOp_step rfl (fun K' hK => ?_)
        go_simp
        refine hK _ _ ?_
        exact ⟨_, _, _, _, _, _, _, _, _, _, _, _, rfl, (I0), (kp f0), (fun _ => rfl), (kp f2), (kp f3), (kp f4), (kp f5), (kp f6), (kp f7), (kp f8), (kp f9), (kp f10), (kp f11)⟩
      · obtain rfl := Option.some.inj ho
        have g1 := f1 (hd ⟨1, .data⟩ (by simp) rfl)
        subst g1
        refine wpOp_step rfl (fun K' hK => ?_)
        go_simp
        refine (heapValid_any _ _ _ _ _ _ h ww (r0.up I0) hn hm hnc hmd).mono ?_
        rw [HV.out]
        rintro e w' ⟨rfl, b5⟩
        refine hK _ _ ?_
        exact ⟨_, _, _, _, _, _, _, _, _, _, _, _, rfl, (I0.trans (b5.mono I0.size)), (kp f0), (kp f1), (fun _ => rfl), (kp f3), (kp f4), (kp f5), (kp f6), (kp f7), (fun h => by
          obtain ⟨A5, n5, c5, e, hn5, hr9⟩ := f8 (upd_ne h (by decide))
          exact ⟨A5, n5, c5, e, hn5, hr9.up b5⟩), (kp f9), (kp f10), (kp f11)⟩
      · obtain rfl := Option.some.inj ho
        have g2 := f2 (hd ⟨2, .data⟩ (by simp) rfl)
        subst g2
        refine wpOp_step rfl (fun K' hK => ?_)
        go_simp
        refine hK _ _ ?_
        exact ⟨_, _, _, _, _, _, _, _, _, _, _, _, rfl, (I0), (kp f0), (kp f1), (kp f2), (fun _ => rfl), (kp f4), (kp f5), (kp f6), (kp f7), (kp f8), (kp f9), (kp f10), (kp f11)⟩
      · obtain rfl := Option.some.inj ho
        have g3 := f3 (hd ⟨3, .guard⟩ (by simp) rfl)
        subst g3
        refine wpOp_step rfl (fun K' hK => ?_)
        go_simp
        refine hK _ _ ?_
        exact ⟨_, _, _, _, _, _, _, _, _, _, _, _, rfl, (I0), (kp f0), (kp f1), (kp f2), (kp f3), (fun _ => rfl), (kp f5), (kp f6), (kp f7), (kp f8), (kp f9), (kp f10), (kp f11)⟩
      · obtain rfl := Option.some.inj ho
        have g4 := f4 (hd ⟨4, .data⟩ (by simp) rfl)
        subst g4
        have g3 := f3 (hd ⟨3, .guard⟩ (by simp) rfl)
        subst g3
        have z0 : ww.cell? ⟨b, 0, none⟩ = some (.slice A n c) := (I0.cell (p := ⟨b, 0, none⟩) hbl).trans x0
        have z1 : ww.cell? ⟨b, 1, none⟩ = some (.slice R m d) := (I0.cell (p := ⟨b, 1, none⟩) hbl).trans x1
        have z2 : ww.cell? ⟨b, 2, none⟩ = some (.slice K p q) := (I0.cell (p := ⟨b, 2, none⟩) hbl).trans x2
        refine wpOp_step rfl (fun K' hK => ?_)
        go_simp
        refine hK _ _ ?_
        exact ⟨_, _, _, _, _, _, _, _, _, _, _, _, rfl, (I0), (kp f0), (kp f1), (kp f2), (kp f3), (kp f4), (fun _ => rfl), (kp f6), (kp f7), (kp f8), (kp f9), (kp f10), (kp f11)⟩
      · obtain rfl := Option.some.inj ho
        have g3 := f3 (hd ⟨3, .guard⟩ (by simp) rfl)
        subst g3
        refine wpOp_step rfl (fun K' hK => ?_)
        go_simp
        refine hK _ _ ?_
        exact ⟨_, _, _, _, _, _, _, _, _, _, _, _, rfl, (I0), (kp f0), (kp f1), (kp f2), (kp f3), (kp f4), (kp f5), (fun _ => rfl), (kp f7), (kp f8), (kp f9), (kp f10), (kp f11)⟩
      · obtain rfl := Option.some.inj ho
        have g6 := f6 (hd ⟨6, .data⟩ (by simp) rfl)
        subst g6
        have g3 := f3 (hd ⟨3, .guard⟩ (by simp) rfl)
        subst g3
        have z0 : ww.cell? ⟨b, 0, none⟩ = some (.slice A n c) := (I0.cell (p := ⟨b, 0, none⟩) hbl).trans x0
        have z1 : ww.cell? ⟨b, 1, none⟩ = some (.slice R m d) := (I0.cell (p := ⟨b, 1, none⟩) hbl).trans x1
        have z2 : ww.cell? ⟨b, 2, none⟩ = some (.slice K p q) := (I0.cell (p := ⟨b, 2, none⟩) hbl).trans x2
        refine wpOp_step rfl (fun K' hK => ?_)
        go_simp
        refine hK _ _ ?_
        exact ⟨_, _, _, _, _, _, _, _, _, _, _, _, rfl, (I0), (kp f0), (kp f1), (kp f2), (kp f3), (kp f4), (kp f5), (kp f6), (fun _ => rfl), (kp f8), (kp f9), (kp f10), (kp f11)⟩
      · obtain rfl := Option.some.inj ho
        have g7 := f7 (hd ⟨7, .data⟩ (by simp) rfl)
        subst g7
        have g3 := f3 (hd ⟨3, .guard⟩ (by simp) rfl)
        subst g3
        refine wpOp_step rfl (fun K' hK => ?_)
        go_simp
        refine (refCounts_any _ _ _ _ _ _ h ww (r0.up I0) hn hm hnc hmd).mono ?_
        rintro e w' ⟨v1, rfl, ow, b5⟩
        obtain ⟨A5, c5, rfl, -⟩ := ow.form
        have hr9 := ow.reads
        refine hK _ _ ?_
        exact ⟨_, _, _, _, _, _, _, _, _, _, _, _, rfl, (I0.trans (b5.mono I0.size)), (kp f0), (kp f1), (kp f2), (kp f3), (kp f4), (kp f5), (kp f6), (kp f7), (fun _ => ⟨A5, _, c5, rfl, by omega, hr9⟩), (kp f9), (kp f10), (kp f11)⟩
      · obtain rfl := Option.some.inj ho
        have g5 := f5 (hd ⟨5, .data⟩ (by simp) rfl)
        have g8 := f8 (hd ⟨8, .data⟩ (by simp) rfl)
        subst g5
        have g3 := f3 (hd ⟨3, .guard⟩ (by simp) rfl)
        subst g3
        obtain ⟨A5, n5, c5, rfl, hn5, hr9⟩ := g8
        refine wpOp_step rfl (fun K' hK => ?_)
        go_simp
        refine (equalI_any _ _ _ _ _ _ l (Hps.countsH h) ww (k0.up I0) hr9 hp hn5).mono ?_
        rintro e w' ⟨rfl, b5⟩
        refine hK _ _ ?_
        exact ⟨_, _, _, _, _, _, _, _, _, _, _, _, rfl, (I0.trans (b5.mono I0.size)), (kp f0), (kp f1), (kp f2), (kp f3), (kp f4), (kp f5), (kp f6), (kp f7), (fun _ => ⟨A5, n5, c5, rfl, hn5, hr9.up b5⟩), (fun _ => rfl), (kp f10), (kp f11)⟩
      · obtain rfl := Option.some.inj ho
        have g3 := f3 (hd ⟨3, .data⟩ (by simp) rfl)
        have g9 := f9 (hd ⟨9, .data⟩ (by simp) rfl)
        subst g3
        subst g9
        refine wpOp_step rfl (fun K' hK => ?_)
        go_simp
        refine hK _ _ ?_
        exact ⟨_, _, _, _, _, _, _, _, _, _, _, _, rfl, (I0), (kp f0), (kp f1), (kp f2), (kp f3), (kp f4), (kp f5), (kp f6), (kp f7), (kp f8), (kp f9), (fun _ => rfl), (kp f11)⟩
      · obtain rfl := Option.some.inj ho
        have g10 := f10 (hd ⟨10, .data⟩ (by simp) rfl)
        subst g10
        refine wpOp_step rfl (fun K' hK => ?_)
        go_simp
        refine hK _ _ ?_
        exact ⟨_, _, _, _, _, _, _, _, _, _, _, _, rfl, (I0), (kp f0), (kp f1), (kp f2), (kp f3), (kp f4), (kp f5), (kp f6), (kp f7), (kp f8), (kp f9), (kp f10), (fun _ => rfl)⟩
    case hdone =>
      rintro L ac ww hall ⟨t2, t3, t4, t5, t6, t7, t8, t9, t10, t11, t12, t13, rfl, I0, f0, f1, f2, f3, f4, f5, f6, f7, f8, f9, f10, f11⟩
      have e0 := f0 (hall 0 (by decide))
      have e1 := f1 (hall 1 (by decide))
      have e2 := f2 (hall 2 (by decide))
      have e3 := f3 (hall 3 (by decide))
      have e4 := f4 (hall 4 (by decide))
      have e5 := f5 (hall 5 (by decide))
      have e6 := f6 (hall 6 (by decide))
      have e7 := f7 (hall 7 (by decide))
      have e8 := f8 (hall 8 (by decide))
      have e9 := f9 (hall 9 (by decide))
      have e10 := f10 (hall 10 (by decide))
      have e11 := f11 (hall 11 (by decide))
      clear f0 f1 f2 f3 f4 f5 f6 f7 f8 f9 f10 f11
      subst e11
      have bbf := b0.trans (I0.mono b0.size)
      clear I0 e0 e1 e2 e3 e4 e5 e6 e7 e8 e9 e10 hall x0 x1 x2 Q0 r0 k0
      go_wp2_with fail
      go_ret
      exact ⟨by rw [HOK.out]; simp, by have := HB.out; subst this; exact bbf⟩
end Go.Proofs.YtfgdenmlfloloaaDoor

namespace Go.Proofs.YtfgdenmlfloloaaDoor
open Go.RowKit
set_option maxRecDepth 100000
namespace Hps
theorem stepCt_reu {h : Hp} {l : List Int} {o : Cm} (h1 : okCt h l = true) (h2 : okCm o = true) : stepCt h l o = if (reuH h o).2 = true then ((freeH (reuH h o).1, countsL (freeH (reuH h o).1)), true) else (((reuH h o).1, l), false) := by
  rw [stepCt, if_pos (by rw [h1, h2]; rfl)]
  unfold reuH
  split <;> simp
theorem reuH_valid {h : Hp} {o : Cm} (hv : validH h = true) (hr : (reuH h o).2 = true) : validH (reuH h o).1 = true := by
  unfold reuH at hr ⊢
  split at hr
  · cases hr
  · next e =>
    rw [if_neg e]
    simp only [Bool.or_eq_true, Bool.not_eq_true', Bool.and_eq_true, decide_eq_true_eq, not_or, Bool.not_eq_false] at e
    exact doH_valid e.1 (gap_room hv e.2)
end Hps
set_option maxHeartbeats 4000000 in
theorem stepCounted_any (A R K : Option Addr) (n c m d p q : Nat) (h : Hp) (l : List Int) (o : Cm) (w : World) (hT : TzT w) (hs : HS w w.heap.size A n R m h) (hk : IS w w.heap.size K p l) (hn : n ≤ 1099511627776) (hm : m ≤ 1099511627776) (hp : p ≤ 1099511627776) (hnc : n ≤ c) (hmd : m ≤ d) :
    Calls Tryd.prog 16 #[ctV A n c R m d K p q, cmV o] w (GaveCt2 w (Hps.stepCt h l o).1.1 (Hps.stepCt h l o).1.2 (Hps.stepCt h l o).2) := by
  have b2 : Below w.heap.size w (((w.alloc (.cells #[.slice A n c, .slice R m d, .slice K p q] 34)).alloc (.cells #[.int .i64 o.op, .int .i64 o.a, .int .i64 o.b, .int .i64 o.c] 36)).alloc (.cells #[.slice none 0 0, .slice none 0 0, .slice none 0 0] 34)) := (((Below.refl w.heap.size w).alloc (Nat.le_refl _) _).alloc (by simp) _).alloc (by simp; omega) _
  have q1 := ((Rw.new w 34 #[.slice A n c, .slice R m d, .slice K p q]).alloc (.cells #[.int .i64 o.op, .int .i64 o.a, .int .i64 o.b, .int .i64 o.c] 36)).alloc (.cells #[.slice none 0 0, .slice none 0 0, .slice none 0 0] 34)
  have q2 := (Rw.new (w.alloc (.cells #[.slice A n c, .slice R m d, .slice K p q] 34)) 36 #[.int .i64 o.op, .int .i64 o.a, .int .i64 o.b, .int .i64 o.c]).alloc (.cells #[.slice none 0 0, .slice none 0 0, .slice none 0 0] 34)
  have q3 := Rw.new ((w.alloc (.cells #[.slice A n c, .slice R m d, .slice K p q] 34)).alloc (.cells #[.int .i64 o.op, .int .i64 o.a, .int .i64 o.b, .int .i64 o.c] 36)) 34 #[.slice none 0 0, .slice none 0 0, .slice none 0 0]
  simp only [World.size_alloc] at q2 q3
  have hT2 := hT.below b2
  have s2 := hs.up b2
  have k2 := hk.up b2
  go_enter Tryd.func16, Tryd.ntmps16
  go_upto_region 1 with fail
  generalize (((w.alloc (.cells #[.slice A n c, .slice R m d, .slice K p q] 34)).alloc (.cells #[.int .i64 o.op, .int .i64 o.a, .int .i64 o.b, .int .i64 o.c] 36)).alloc (.cells #[.slice none 0 0, .slice none 0 0, .slice none 0 0] 34)) = w2 at b2 q1 q2 q3 hT2 s2 k2 ⊢
  have x0 : w2.cell? ⟨w.heap.size, 0, none⟩ = some (.slice A n c) := q1.cell 0
  have x1 : w2.cell? ⟨w.heap.size, 1, none⟩ = some (.slice R m d) := q1.cell 1
  have x2 : w2.cell? ⟨w.heap.size, 2, none⟩ = some (.slice K p q) := q1.cell 2
  have y0 : w2.cell? ⟨w.heap.size + 1, 0, none⟩ = some (.int .i64 o.op) := q2.cell 0
  have y1 : w2.cell? ⟨w.heap.size + 1, 1, none⟩ = some (.int .i64 o.a) := q2.cell 1
  have y2 : w2.cell? ⟨w.heap.size + 1, 2, none⟩ = some (.int .i64 o.b) := q2.cell 2
  have y3 : w2.cell? ⟨w.heap.size + 1, 3, none⟩ = some (.int .i64 o.c) := q2.cell 3
  go_wp2_with fail
  refine (countedValid_any _ _ _ _ _ _ _ _ _ h l _ s2 k2 hn hm hp hnc hmd).mono ?_
  obtain ⟨r, hok⟩ : ∃ r, Hps.okCt h l = r := ⟨_, rfl⟩
  rw [hok]
  rintro e w3 ⟨rfl, b3⟩
  replace q1 := q1.keep b3 q1.lt
  replace q2 := q2.keep b3 q2.lt
  replace q3 := q3.keep b3 q3.lt
  replace hT2 := hT2.below b3
  replace s2 := s2.up b3
  replace k2 := k2.up b3
  replace b2 := b2.trans (b3.mono b2.size)
  clear x0 x1 x2 y0 y1 y2 y3 b3
  have x0 : w3.cell? ⟨w.heap.size, 0, none⟩ = some (.slice A n c) := q1.cell 0
  have x1 : w3.cell? ⟨w.heap.size, 1, none⟩ = some (.slice R m d) := q1.cell 1
  have x2 : w3.cell? ⟨w.heap.size, 2, none⟩ = some (.slice K p q) := q1.cell 2
  have y0 : w3.cell? ⟨w.heap.size + 1, 0, none⟩ = some (.int .i64 o.op) := q2.cell 0
  have y1 : w3.cell? ⟨w.heap.size + 1, 1, none⟩ = some (.int .i64 o.a) := q2.cell 1
  have y2 : w3.cell? ⟨w.heap.size + 1, 2, none⟩ = some (.int .i64 o.b) := q2.cell 2
  have y3 : w3.cell? ⟨w.heap.size + 1, 3, none⟩ = some (.int .i64 o.c) := q2.cell 3
  have hsz3 := q3.lt
  cases r
  · have HF := Lib.hid (Hps.stepCt_no (o := o) (.inl hok))
    clear hok hT2 s2 k2
    have r2 : (w3).frozen? ⟨w.heap.size + 1 + 1, 0, none⟩ = false := q3.frozen 0
    have r3 : (w3).frozen? ⟨w.heap.size + 1 + 1, 1, none⟩ = false := q3.frozen 1
    have r4 : (w3).frozen? ⟨w.heap.size + 1 + 1, 2, none⟩ = false := q3.frozen 2
    have r5 : (w3).cell? ⟨w.heap.size + 1 + 1, 0, none⟩ = some (.slice none 0 0) := q3.cell 0
    have r6 : (w3).cell? ⟨w.heap.size + 1 + 1, 1, none⟩ = some (.slice none 0 0) := q3.cell 1
    have r7 : (w3).cell? ⟨w.heap.size + 1 + 1, 2, none⟩ = some (.slice none 0 0) := q3.cell 2
    have q4 := ((q3.put 0 (.slice none 0 0)).put 1 (.slice none 0 0)).put 2 (.slice none 0 0)
    have r8 : ((((w3).setCell ⟨w.heap.size + 1 + 1, 0, none⟩ (.slice none 0 0)).setCell ⟨w.heap.size + 1 + 1, 1, none⟩ (.slice none 0 0)).setCell ⟨w.heap.size + 1 + 1, 2, none⟩ (.slice none 0 0)).cell? ⟨w.heap.size + 1 + 1, 0, none⟩ = some (.slice none 0 0) := q4.cell 0
    have r9 : ((((w3).setCell ⟨w.heap.size + 1 + 1, 0, none⟩ (.slice none 0 0)).setCell ⟨w.heap.size + 1 + 1, 1, none⟩ (.slice none 0 0)).setCell ⟨w.heap.size + 1 + 1, 2, none⟩ (.slice none 0 0)).cell? ⟨w.heap.size + 1 + 1, 1, none⟩ = some (.slice none 0 0) := q4.cell 1
    have r10 : ((((w3).setCell ⟨w.heap.size + 1 + 1, 0, none⟩ (.slice none 0 0)).setCell ⟨w.heap.size + 1 + 1, 1, none⟩ (.slice none 0 0)).setCell ⟨w.heap.size + 1 + 1, 2, none⟩ (.slice none 0 0)).cell? ⟨w.heap.size + 1 + 1, 2, none⟩ = some (.slice none 0 0) := q4.cell 2
    have D := Lib.hid (OwnC.out (w := w) (g := w.heap.size + 1 + 1) (own_zeroC w3 w3.heap.size (Nat.le_refl _)) (by omega) (b2) (by omega))
    clear q1 q2 q3 q4 b2 x0 x1 x2 y0 y1 y2 y3
    go_wp2_with fail
    exact bodyPost_ret (v := .tuple #[.agg #[.slice none 0 0, .slice none 0 0, .slice none 0 0], .bool false]) (by simp [results, Tryd.results16, go_sem, *]) rfl ⟨_, _, _, by rw [HF.out], by rw [HF.out]; exact D.out.1, D.out.2⟩
  have HOK := Lib.hid hok
  clear hok
  go_wp2_with fail
  refine (commandValid_any o _).mono ?_
  obtain ⟨r, ho⟩ : ∃ r, Hps.okCm o = r := ⟨_, rfl⟩
  rw [ho]
  rintro e w4 ⟨rfl, b4⟩
  replace q1 := q1.keep b4 q1.lt
  replace q2 := q2.keep b4 q2.lt
  replace q3 := q3.keep b4 q3.lt
  replace hT2 := hT2.below b4
  replace s2 := s2.up b4
  replace k2 := k2.up b4
  replace b2 := b2.trans (b4.mono b2.size)
  clear x0 x1 x2 y0 y1 y2 y3 b4 hsz3
  have x0 : w4.cell? ⟨w.heap.size, 0, none⟩ = some (.slice A n c) := q1.cell 0
  have x1 : w4.cell? ⟨w.heap.size, 1, none⟩ = some (.slice R m d) := q1.cell 1
  have x2 : w4.cell? ⟨w.heap.size, 2, none⟩ = some (.slice K p q) := q1.cell 2
  have y0 : w4.cell? ⟨w.heap.size + 1, 0, none⟩ = some (.int .i64 o.op) := q2.cell 0
  have y1 : w4.cell? ⟨w.heap.size + 1, 1, none⟩ = some (.int .i64 o.a) := q2.cell 1
  have y2 : w4.cell? ⟨w.heap.size + 1, 2, none⟩ = some (.int .i64 o.b) := q2.cell 2
  have y3 : w4.cell? ⟨w.heap.size + 1, 3, none⟩ = some (.int .i64 o.c) := q2.cell 3
  have hsz4 := q3.lt
  cases r
  · have HF := Lib.hid (Hps.stepCt_no (h := h) (l := l) (.inr ho))
    clear ho hT2 s2 k2
    have r2 : (w4).frozen? ⟨w.heap.size + 1 + 1, 0, none⟩ = false := q3.frozen 0
    have r3 : (w4).frozen? ⟨w.heap.size + 1 + 1, 1, none⟩ = false := q3.frozen 1
    have r4 : (w4).frozen? ⟨w.heap.size + 1 + 1, 2, none⟩ = false := q3.frozen 2
    have r5 : (w4).cell? ⟨w.heap.size + 1 + 1, 0, none⟩ = some (.slice none 0 0) := q3.cell 0
    have r6 : (w4).cell? ⟨w.heap.size + 1 + 1, 1, none⟩ = some (.slice none 0 0) := q3.cell 1
    have r7 : (w4).cell? ⟨w.heap.size + 1 + 1, 2, none⟩ = some (.slice none 0 0) := q3.cell 2
    have q4 := ((q3.put 0 (.slice none 0 0)).put 1 (.slice none 0 0)).put 2 (.slice none 0 0)
    have r8 : ((((w4).setCell ⟨w.heap.size + 1 + 1, 0, none⟩ (.slice none 0 0)).setCell ⟨w.heap.size + 1 + 1, 1, none⟩ (.slice none 0 0)).setCell ⟨w.heap.size + 1 + 1, 2, none⟩ (.slice none 0 0)).cell? ⟨w.heap.size + 1 + 1, 0, none⟩ = some (.slice none 0 0) := q4.cell 0
    have r9 : ((((w4).setCell ⟨w.heap.size + 1 + 1, 0, none⟩ (.slice none 0 0)).setCell ⟨w.heap.size + 1 + 1, 1, none⟩ (.slice none 0 0)).setCell ⟨w.heap.size + 1 + 1, 2, none⟩ (.slice none 0 0)).cell? ⟨w.heap.size + 1 + 1, 1, none⟩ = some (.slice none 0 0) := q4.cell 1
    have r10 : ((((w4).setCell ⟨w.heap.size + 1 + 1, 0, none⟩ (.slice none 0 0)).setCell ⟨w.heap.size + 1 + 1, 1, none⟩ (.slice none 0 0)).setCell ⟨w.heap.size + 1 + 1, 2, none⟩ (.slice none 0 0)).cell? ⟨w.heap.size + 1 + 1, 2, none⟩ = some (.slice none 0 0) := q4.cell 2
    have D := Lib.hid (OwnC.out (w := w) (g := w.heap.size + 1 + 1) (own_zeroC w4 w4.heap.size (Nat.le_refl _)) (by omega) (b2) (by omega))
    clear q1 q2 q3 q4 b2 x0 x1 x2 y0 y1 y2 y3
    go_wp2_with fail
    exact bodyPost_ret (v := .tuple #[.agg #[.slice none 0 0, .slice none 0 0, .slice none 0 0], .bool false]) (by simp [results, Tryd.results16, go_sem, *]) rfl ⟨_, _, _, by rw [HF.out], by rw [HF.out]; exact D.out.1, D.out.2⟩
  have HO := Lib.hid ho
  have HV := Lib.hid (Hps.okCt_iff.1 HOK.out).1
  have q3b := Lib.hid q3
  clear ho
  go_wp2_with fail
  refine (stepReusing_any _ _ _ _ _ _ h o _ hT2 s2 HV.out HO.out hnc hmd).mono ?_
  have HFB := Lib.hid (Hps.stepCt_reu HOK.out HO.out)
  have HRV := Lib.hid (fun hr => Hps.reuH_valid (h := h) (o := o) HV.out hr)
  obtain ⟨x, hx⟩ : ∃ x, (Hps.reuH h o).1 = x := ⟨_, rfl⟩
  obtain ⟨r, hr⟩ : ∃ r, (Hps.reuH h o).2 = r := ⟨_, rfl⟩
  rw [hx, hr] at HFB HRV ⊢
  clear hx hr
  rintro e w5 ⟨vc, vr, rfl, ow, b5⟩
  obtain ⟨A5, n5, c5, R5, m5, d5, rfl, rfl⟩ := ow.slices
  obtain ⟨rvs, S0⟩ := BoxSt.of ow b5
  replace q1 := (q1.keep b5 q1.lt).alloc (.cells #[.slice A5 n5 c5, .slice R5 m5 d5] 26)
  replace q3 := (q3.keep b5 q3.lt).alloc (.cells #[.slice A5 n5 c5, .slice R5 m5 d5] 26)
  replace k2 := (k2.up b5).up ((Below.refl _ _).alloc (Nat.le_refl _) (.cells #[.slice A5 n5 c5, .slice R5 m5 d5] 26))
  have b6 := (b2.trans (b5.mono b2.size)).alloc (Nat.le_trans b2.size b5.size) (.cells #[.slice A5 n5 c5, .slice R5 m5 d5] 26)
  have B2K := Lib.hid b2
  clear q2 x0 x1 x2 y0 y1 y2 y3 b5 ow hT2 s2 b2
  go_upto_region 4 with fail
  generalize w5.alloc (.cells #[.slice A5 n5 c5, .slice R5 m5 d5] 26) = w6 at S0 q1 q3 k2 b6 ⊢
  generalize w5.heap.size = b at S0 ⊢
  clear w5
  have v0 : w6.cell? ⟨b, 0, none⟩ = some (.slice A5 n5 c5) := S0.box.cell 0
  have v1 : w6.cell? ⟨b, 1, none⟩ = some (.slice R5 m5 d5) := S0.box.cell 1
  have x2 : w6.cell? ⟨w.heap.size, 2, none⟩ = some (.slice K p q) := q1.cell 2
  have hbl := S0.box.lt
  have hql := q1.lt
  have hrl := q3.lt
  have hw6 := b6.size
  cases r
  · have HF := Lib.hid (show Hps.stepCt h l o = ((x, l), false) from HFB.out)
    clear HFB HRV
    go_upto_region 5 with fail
    refine wp_region_inv (by kernel_rfl) (by kernel_rfl) (fun L ac ww => ∃ t5 t27 t28 t29 t30 t31 : Value, ac = { tmps := #[ctV A n c R m d K p q, cmV o, Value.pointer (some { block := w.heap.size, off := 0 }), Value.pointer (some { block := w.heap.size + 1, off := 0 }), Value.pointer (some { block := w.heap.size + 1 + 1, off := 0 }), t5, Value.pointer (some { block := b, off := 0 }), Value.bool false, undef, Value.agg #[Value.slice A n c, Value.slice R m d, Value.slice K p q], Value.bool true, Value.bool false, Value.bool false, Value.agg #[Value.int IntKind.i64 o.op, Value.int IntKind.i64 o.a, Value.int IntKind.i64 o.b, Value.int IntKind.i64 o.c], Value.bool true, Value.bool false, Value.bool false, undef, Value.tuple #[Value.agg #[Value.slice A5 n5 c5, Value.slice R5 m5 d5], Value.bool false], Value.pointer (some { block := w.heap.size, off := 0 }), Value.agg #[Value.slice A n c, Value.slice R m d], Value.agg #[Value.int IntKind.i64 o.op, Value.int IntKind.i64 o.a, Value.int IntKind.i64 o.b, Value.int IntKind.i64 o.c], Value.tuple #[Value.agg #[Value.slice A5 n5 c5, Value.slice R5 m5 d5], Value.bool false], Value.agg #[Value.slice A5 n5 c5, Value.slice R5 m5 d5], Value.bool false, Value.bool false, Value.bool true, t27, t28, t29, t30, t31, undef, undef, undef, undef], defers := [] } ∧ (L 5 = false → Below w6.heap.size w6 ww) ∧ (L 0 = true → t27 = .agg #[.slice A5 n5 c5, .slice R5 m5 d5]) ∧ (L 1 = true → t28 = .pointer (some ⟨w.heap.size, 2, none⟩)) ∧ (L 2 = true → t29 = .slice K p q) ∧ (L 3 = true → ∃ K5 p5 q5, t30 = .slice K5 p5 q5 ∧ (L 5 = false → OwnI ww w6.heap.size t30 l)) ∧ (L 4 = true → t31 = .agg #[.slice A5 n5 c5, .slice R5 m5 d5, t30] ∧ L 3 = true) ∧ (L 5 = true → (∀ q, q < 5 → L q = true) ∧ ∃ wp K5 p5 q5, t30 = .slice K5 p5 q5 ∧ ww = ((((wp).setCell ⟨w.heap.size + 1 + 1, 0, none⟩ (.slice A5 n5 c5)).setCell ⟨w.heap.size + 1 + 1, 1, none⟩ (.slice R5 m5 d5)).setCell ⟨w.heap.size + 1 + 1, 2, none⟩ (t30)) ∧ Below w6.heap.size w6 wp ∧ OwnI wp w6.heap.size t30 l) ∧ (L 6 = true → t5 = .bool false ∧ L 5 = true)) ?h0 ?hstep ?hdone
    case h0 => exact ⟨_, _, _, _, _, _, rfl, fun _ => (Below.refl _ _).drew, (fun h => absurd h Bool.false_ne_true), (fun h => absurd h Bool.false_ne_true), (fun h => absurd h Bool.false_ne_true), (fun h => absurd h Bool.false_ne_true), (fun h => absurd h Bool.false_ne_true), (fun h => absurd h Bool.false_ne_true), (fun h => absurd h Bool.false_ne_true)⟩
    case hstep =>
      rintro L ac ww i o ho hL hd ⟨t5, t27, t28, t29, t30, t31, rfl, I0, f0, f1, f2, f3, f4, f5, f6⟩
      have hi : i < 7 := (Array.getElem?_eq_some_iff.1 ho).1
      obtain rfl | rfl | rfl | rfl | rfl | rfl | rfl : i = 0 ∨ i = 1 ∨ i = 2 ∨ i = 3 ∨ i = 4 ∨ i = 5 ∨ i = 6 := by omega
      · obtain rfl := Option.some.inj ho
        have hL5 : L 5 = false := by
          cases e : L 5
          · rfl
          · exact absurd ((f5 e).1 0 (by decide)) (by rw [hL]; decide)
        have J := I0 hL5
        have z0 : ww.cell? ⟨b, 0, none⟩ = some (.slice A5 n5 c5) := (J.cell (p := ⟨b, 0, none⟩) hbl).trans v0
        have z1 : ww.cell? ⟨b, 1, none⟩ = some (.slice R5 m5 d5) := (J.cell (p := ⟨b, 1, none⟩) hbl).trans v1
        refine wpOp_step rfl (fun K' hK => ?_)
        go_simp
        refine hK _ _ ?_
        exact ⟨_, _, _, _, _, _, rfl, (fun _ => J), (fun _ => rfl), (kp f1), (kp f2), (fun h => by
          obtain ⟨K5, p5, q5, e8, r8⟩ := f3 (upd_ne h (by decide))
          exact ⟨K5, p5, q5, e8, fun h5 => r8 (by rw [upd_other (by decide)] at h5; exact h5)⟩), (fun h => ⟨(f4 (upd_ne h (by decide))).1, upd_mono (f4 (upd_ne h (by decide))).2⟩), (fun h => absurd hL5 (by rw [upd_ne h (by decide)]; decide)), (fun h => absurd (f6 (upd_ne h (by decide))).2 (by rw [hL5]; decide))⟩
      · obtain rfl := Option.some.inj ho
        have hL5 : L 5 = false := by
          cases e : L 5
          · rfl
          · exact absurd ((f5 e).1 1 (by decide)) (by rw [hL]; decide)
        have J := I0 hL5
        refine wpOp_step rfl (fun K' hK => ?_)
        go_simp
        refine hK _ _ ?_
        exact ⟨_, _, _, _, _, _, rfl, (fun _ => J), (kp f0), (fun _ => rfl), (kp f2), (fun h => by
          obtain ⟨K5, p5, q5, e8, r8⟩ := f3 (upd_ne h (by decide))
          exact ⟨K5, p5, q5, e8, fun h5 => r8 (by rw [upd_other (by decide)] at h5; exact h5)⟩), (fun h => ⟨(f4 (upd_ne h (by decide))).1, upd_mono (f4 (upd_ne h (by decide))).2⟩), (fun h => absurd hL5 (by rw [upd_ne h (by decide)]; decide)), (fun h => absurd (f6 (upd_ne h (by decide))).2 (by rw [hL5]; decide))⟩
      · obtain rfl := Option.some.inj ho
        have g1 := f1 (hd ⟨1, .data⟩ (by simp) rfl)
        subst g1
        have hL5 : L 5 = false := by
          cases e : L 5
          · rfl
          · exact absurd ((f5 e).1 2 (by decide)) (by rw [hL]; decide)
        have J := I0 hL5
        have z2 : ww.cell? ⟨w.heap.size, 2, none⟩ = some (.slice K p q) := (J.cell (p := ⟨w.heap.size, 2, none⟩) hql).trans x2
        refine wpOp_step rfl (fun K' hK => ?_)
        go_simp
        refine hK _ _ ?_
        exact ⟨_, _, _, _, _, _, rfl, (fun _ => J), (kp f0), (kp f1), (fun _ => rfl), (fun h => by
          obtain ⟨K5, p5, q5, e8, r8⟩ := f3 (upd_ne h (by decide))
          exact ⟨K5, p5, q5, e8, fun h5 => r8 (by rw [upd_other (by decide)] at h5; exact h5)⟩), (fun h => ⟨(f4 (upd_ne h (by decide))).1, upd_mono (f4 (upd_ne h (by decide))).2⟩), (fun h => absurd hL5 (by rw [upd_ne h (by decide)]; decide)), (fun h => absurd (f6 (upd_ne h (by decide))).2 (by rw [hL5]; decide))⟩
      · obtain rfl := Option.some.inj ho
        have g2 := f2 (hd ⟨2, .data⟩ (by simp) rfl)
        subst g2
        have hL5 : L 5 = false := by
          cases e : L 5
          · rfl
          · exact absurd ((f5 e).1 3 (by decide)) (by rw [hL]; decide)
        have J := I0 hL5
        refine wpOp_step rfl (fun K' hK => ?_)
        go_simp
        refine (cloneI_any K p q l ww (k2.up J) hp).mono ?_
        rintro e w' ⟨v1, rfl, o1, b5⟩
        obtain ⟨K5, q5, e8, -⟩ := o1.form
        refine hK _ _ ?_
        exact ⟨_, _, _, _, _, _, rfl, (fun _ => J.trans (b5.mono J.size)), (kp f0), (kp f1), (kp f2), (fun _ => ⟨K5, _, q5, e8, fun _ => o1.base J.size⟩), (fun h => absurd (f4 (upd_ne h (by decide))).2 (by rw [hL]; decide)), (fun h => absurd hL5 (by rw [upd_ne h (by decide)]; decide)), (fun h => absurd (f6 (upd_ne h (by decide))).2 (by rw [hL5]; decide))⟩
      · obtain rfl := Option.some.inj ho
        have g0 := f0 (hd ⟨0, .data⟩ (by simp) rfl)
        have g3 := f3 (hd ⟨3, .data⟩ (by simp) rfl)
        subst g0
        have hL5 : L 5 = false := by
          cases e : L 5
          · rfl
          · exact absurd ((f5 e).1 4 (by decide)) (by rw [hL]; decide)
        have J := I0 hL5
        have l3 := Lib.hid (hd ⟨3, .data⟩ (by simp) rfl)
        obtain ⟨K5, p5, q5, e8, r8⟩ := g3
        subst e8
        refine wpOp_step rfl (fun K' hK => ?_)
        go_simp
        refine hK _ _ ?_
        exact ⟨_, _, _, _, _, _, rfl, (fun _ => J), (kp f0), (kp f1), (kp f2), (fun _ => ⟨K5, p5, q5, rfl, fun h7 => r8 (by rw [upd_other (by decide)] at h7; exact h7)⟩), (fun _ => ⟨rfl, upd_mono l3.out⟩), (fun h => absurd hL5 (by rw [upd_ne h (by decide)]; decide)), (fun h => absurd (f6 (upd_ne h (by decide))).2 (by rw [hL5]; decide))⟩
      · obtain rfl := Option.some.inj ho
        have g4 := f4 (hd ⟨4, .data⟩ (by simp) rfl)
        have lq : Hid (∀ q, q < 5 → L q = true) := Lib.hid (by
          intro q hq
          obtain rfl | rfl | rfl | rfl | rfl : q = 0 ∨ q = 1 ∨ q = 2 ∨ q = 3 ∨ q = 4 := by omega
          · exact hd ⟨0, .phase⟩ (by simp) rfl
          · exact hd ⟨1, .phase⟩ (by simp) rfl
          · exact hd ⟨2, .phase⟩ (by simp) rfl
          · exact hd ⟨3, .phase⟩ (by simp) rfl
          · exact hd ⟨4, .phase⟩ (by simp) rfl)
        have J := I0 hL
        obtain ⟨e9, -⟩ := g4
        subst e9
        obtain ⟨K5, p5, q5, e8, r8⟩ := f3 (lq.out 3 (by decide))
        subst e8
        have o8 := r8 hL
        have P := q3.keep J hrl
        have zf0 : ww.frozen? ⟨w.heap.size + 1 + 1, 0, none⟩ = false := P.frozen 0
        have zf1 : ww.frozen? ⟨w.heap.size + 1 + 1, 1, none⟩ = false := P.frozen 1
        have zf2 : ww.frozen? ⟨w.heap.size + 1 + 1, 2, none⟩ = false := P.frozen 2
        have zc0 : ww.cell? ⟨w.heap.size + 1 + 1, 0, none⟩ = some (.slice none 0 0) := P.cell 0
        have zc1 : ww.cell? ⟨w.heap.size + 1 + 1, 1, none⟩ = some (.slice none 0 0) := P.cell 1
        have zc2 : ww.cell? ⟨w.heap.size + 1 + 1, 2, none⟩ = some (.slice none 0 0) := P.cell 2
        refine wpOp_step rfl (fun K' hK => ?_)
        go_simp
        refine hK _ _ ?_
        exact ⟨_, _, _, _, _, _, rfl, (fun h => absurd h (by rw [upd_self]; decide)), (kp f0), (kp f1), (kp f2), (fun _ => ⟨K5, p5, q5, rfl, fun h => absurd h (by rw [upd_self]; decide)⟩), (fun _ => ⟨rfl, upd_mono (lq.out 3 (by decide))⟩), (fun _ => ⟨fun q hq => upd_mono (lq.out q hq), ww, K5, p5, q5, rfl, rfl, J, o8⟩), (fun h => absurd (f6 (upd_ne h (by decide))).2 (by rw [hL]; decide))⟩
      · obtain rfl := Option.some.inj ho
        have l5 := Lib.hid (hd ⟨5, .chain⟩ (by simp) rfl)
        refine wpOp_step rfl (fun K' hK => ?_)
        go_simp
        refine hK _ _ ?_
        exact ⟨_, _, _, _, _, _, rfl, (fun h => absurd l5.out (by rw [upd_other (by decide)] at h; rw [h]; decide)), (kp f0), (kp f1), (kp f2), (fun h => by
          obtain ⟨K5, p5, q5, e8, r8⟩ := f3 (upd_ne h (by decide))
          exact ⟨K5, p5, q5, e8, fun h5 => absurd l5.out (by rw [upd_other (by decide)] at h5; rw [h5]; decide)⟩), (fun h => ⟨(f4 (upd_ne h (by decide))).1, upd_mono (f4 (upd_ne h (by decide))).2⟩), (fun h => by
          obtain ⟨a1, a2⟩ := f5 (upd_ne h (by decide))
          exact ⟨fun q hq => upd_mono (a1 q hq), a2⟩), (fun _ => ⟨rfl, upd_mono l5.out⟩)⟩
    case hdone =>
      rintro L ac ww hall ⟨t5, t27, t28, t29, t30, t31, rfl, I0, f0, f1, f2, f3, f4, f5, f6⟩
      have e0 := f0 (hall 0 (by decide))
      have e1 := f1 (hall 1 (by decide))
      have e2 := f2 (hall 2 (by decide))
      have e3 := f3 (hall 3 (by decide))
      have e4 := f4 (hall 4 (by decide))
      have e5 := f5 (hall 5 (by decide))
      have e6 := f6 (hall 6 (by decide))
      clear f0 f1 f2 f3 f4 f5 f6
      obtain ⟨-, wp, K5, p5, q5, rfl, rfl, r1, r9⟩ := e5
      obtain ⟨rfl, -⟩ := e6
      have hlo6 := S0.low.size
      have OC := OwnC.of S0.ownH r1 r9 hlo6
      have P := q3.keep r1 hrl
      have bP := b6.trans (r1.mono hw6)
      have P4 := ((P.put 0 (.slice A5 n5 c5)).put 1 (.slice R5 m5 d5)).put 2 (.slice K5 p5 q5)
      have s8 : ((((wp).setCell ⟨w.heap.size + 1 + 1, 0, none⟩ (.slice A5 n5 c5)).setCell ⟨w.heap.size + 1 + 1, 1, none⟩ (.slice R5 m5 d5)).setCell ⟨w.heap.size + 1 + 1, 2, none⟩ (.slice K5 p5 q5)).cell? ⟨w.heap.size + 1 + 1, 0, none⟩ = some (.slice A5 n5 c5) := P4.cell 0
      have s9 : ((((wp).setCell ⟨w.heap.size + 1 + 1, 0, none⟩ (.slice A5 n5 c5)).setCell ⟨w.heap.size + 1 + 1, 1, none⟩ (.slice R5 m5 d5)).setCell ⟨w.heap.size + 1 + 1, 2, none⟩ (.slice K5 p5 q5)).cell? ⟨w.heap.size + 1 + 1, 1, none⟩ = some (.slice R5 m5 d5) := P4.cell 1
      have s10 : ((((wp).setCell ⟨w.heap.size + 1 + 1, 0, none⟩ (.slice A5 n5 c5)).setCell ⟨w.heap.size + 1 + 1, 1, none⟩ (.slice R5 m5 d5)).setCell ⟨w.heap.size + 1 + 1, 2, none⟩ (.slice K5 p5 q5)).cell? ⟨w.heap.size + 1 + 1, 2, none⟩ = some (.slice K5 p5 q5) := P4.cell 2
      have D := Lib.hid (OwnC.out (w := w) (g := w.heap.size + 1 + 1) OC (by omega) bP (by omega))
      clear I0 e0 e1 e2 e3 e4 hall r1 r9 P P4 OC bP S0 q1 q3 k2 b6 v0 v1 x2
      go_wp2_with fail
      exact bodyPost_ret (v := .tuple #[.agg #[.slice A5 n5 c5, .slice R5 m5 d5, .slice K5 p5 q5], .bool false]) (by simp [results, Tryd.results16, go_sem, *]) rfl ⟨_, _, _, by rw [HF.out], by rw [HF.out]; exact D.out.1, D.out.2⟩
  have HF := Lib.hid (show Hps.stepCt h l o = ((Hps.freeH x, Hps.countsL (Hps.freeH x)), true) from HFB.out)
  go_wp2_with fail
  refine (freeLost_any w4 b _ _ rvs x _ S0 (HRV.out (by first | exact trivial | rfl))).mono ?_
  rintro e w7 ⟨vk, rvs7, rfl, S7, hb7, o7⟩
  obtain ⟨K5, q5, rfl, -⟩ := o7.form
  generalize hp5 : (Hps.countsL (Hps.freeH x)).length = p5 at *
  have OC : OwnC w7 w4.heap.size (.slice A5 n5 c5) (.slice R5 m5 d5) (.slice K5 p5 q5) (Hps.freeH x) (Hps.countsL (Hps.freeH x)) := ⟨rvs7, S7.own, o7.base (by have := S0.low.size; omega), fun u hu => by
    cases e : u.ownBlock with
    | none => exact .inl rfl
    | some k =>
      right
      intro e'
      have a1 := (World.ownsRow.lt o7 k e'.symm).1
      have a2 := hb7 u hu k e
      omega⟩
  have b9 : Below w.heap.size w w7 := B2K.out.trans (S7.low.mono B2K.out.size)
  have v0 : w7.cell? ⟨b, 0, none⟩ = some (.slice A5 n5 c5) := S7.box.cell 0
  have v1 : w7.cell? ⟨b, 1, none⟩ = some (.slice R5 m5 d5) := S7.box.cell 1
  have Q7 := q3b.out.keep (S7.low) hsz4
  have r2 : (w7).frozen? ⟨w.heap.size + 1 + 1, 0, none⟩ = false := Q7.frozen 0
  have r3 : (w7).frozen? ⟨w.heap.size + 1 + 1, 1, none⟩ = false := Q7.frozen 1
  have r4 : (w7).frozen? ⟨w.heap.size + 1 + 1, 2, none⟩ = false := Q7.frozen 2
  have r5 : (w7).cell? ⟨w.heap.size + 1 + 1, 0, none⟩ = some (.slice none 0 0) := Q7.cell 0
  have r6 : (w7).cell? ⟨w.heap.size + 1 + 1, 1, none⟩ = some (.slice none 0 0) := Q7.cell 1
  have r7 : (w7).cell? ⟨w.heap.size + 1 + 1, 2, none⟩ = some (.slice none 0 0) := Q7.cell 2
  have q4 := ((Q7.put 0 (.slice A5 n5 c5)).put 1 (.slice R5 m5 d5)).put 2 (.slice K5 p5 q5)
  have r8 : ((((w7).setCell ⟨w.heap.size + 1 + 1, 0, none⟩ (.slice A5 n5 c5)).setCell ⟨w.heap.size + 1 + 1, 1, none⟩ (.slice R5 m5 d5)).setCell ⟨w.heap.size + 1 + 1, 2, none⟩ (.slice K5 p5 q5)).cell? ⟨w.heap.size + 1 + 1, 0, none⟩ = some (.slice A5 n5 c5) := q4.cell 0
  have r9 : ((((w7).setCell ⟨w.heap.size + 1 + 1, 0, none⟩ (.slice A5 n5 c5)).setCell ⟨w.heap.size + 1 + 1, 1, none⟩ (.slice R5 m5 d5)).setCell ⟨w.heap.size + 1 + 1, 2, none⟩ (.slice K5 p5 q5)).cell? ⟨w.heap.size + 1 + 1, 1, none⟩ = some (.slice R5 m5 d5) := q4.cell 1
  have r10 : ((((w7).setCell ⟨w.heap.size + 1 + 1, 0, none⟩ (.slice A5 n5 c5)).setCell ⟨w.heap.size + 1 + 1, 1, none⟩ (.slice R5 m5 d5)).setCell ⟨w.heap.size + 1 + 1, 2, none⟩ (.slice K5 p5 q5)).cell? ⟨w.heap.size + 1 + 1, 2, none⟩ = some (.slice K5 p5 q5) := q4.cell 2
  have D := Lib.hid (OwnC.out (w := w) (g := w.heap.size + 1 + 1) (OC) (by omega) (b9) (by omega))
  clear S7 OC b9 Q7 q4 o7 q1 q3 k2 b6 x2
  go_wp2_with fail
  exact bodyPost_ret (v := .tuple #[.agg #[.slice A5 n5 c5, .slice R5 m5 d5, .slice K5 p5 q5], .bool true]) (by simp [results, Tryd.results16, go_sem, *]) rfl ⟨_, _, _, by rw [HF.out], by rw [HF.out]; exact D.out.1, D.out.2⟩
end Go.Proofs.YtfgdenmlfloloaaDoor

namespace Go.Proofs.YtfgdenmlfloloaaDoor
open Go.RowKit
set_option maxRecDepth 100000
section
variable {w w' : World} {bs : Nat} {vc vr vk : Value} {h : Hp} {l : List Int}
theorem OwnC.new (ho : OwnH w bs vc vr h) (hb : bs ≤ w.heap.size) : OwnC (w.alloc (.cells #[] 3)) bs vc vr (.slice (some ⟨w.heap.size, 0, none⟩) 0 0) h [] :=
  OwnC.of ho ((Below.refl _ _).alloc (Nat.le_refl _) _) (own_noneI w w.heap.size (Nat.le_refl _)) hb
/-- a heap that is made behind the counts -/
theorem OwnC.of2 (k : OwnI w bs vk l) (hb : bs ≤ w.heap.size) (hB : Below w.heap.size w w') (ho : OwnH w' w.heap.size vc vr h) : OwnC w' bs vc vr vk h l := by
  obtain ⟨rvs, o⟩ := ho
  refine ⟨rvs, o.base hb, k.below hB (Nat.le_refl _), fun u hu => ?_⟩
  cases e : u.ownBlock with
  | none => exact .inl rfl
  | some j =>
    right
    intro e'
    have h1 := (o.blocks hu e).1
    have h2 := (World.ownsRow.lt k j e'.symm).2
    omega
/-- the counts become longer -/
theorem OwnC.app {v' : Value} {l' : List Int} (ho : OwnC w bs vc vr vk h l) (o1 : OwnI w' bs v' l') (g1 : w.grownBy w' vk.ownBlock) (s1 : v'.ownBlock = vk.ownBlock ∨ v'.ownBlock = some w.heap.size) : OwnC w' bs vc vr v' h l' := by
  obtain ⟨rvs, o⟩ := ho
  refine ⟨rvs, o.heap.far g1 (fun u hu => o.sep u hu), o1, fun u hu => ?_⟩
  rcases s1 with e | e
  · rw [e]; exact o.sep u hu
  · cases e2 : u.ownBlock with
    | none => exact .inl rfl
    | some j =>
      right
      rw [e]
      intro e3
      have h1 := (o.heap.blocks hu e2).2
      have := Option.some.inj e3
      omega
end
set_option maxHeartbeats 8000000 in
theorem mStepCounted_any (A R K : Option Addr) (n c m d p q : Nat) (h : Hp) (l : List Int) (o : Cm) (w : World) (hs : HS w w.heap.size A n R m h) (hk : IS w w.heap.size K p l) (hn : n ≤ 1099511627776) (hm : m ≤ 1099511627776) (hp : p ≤ 1099511627776) :
    Calls Tryd.prog 17 #[ctV A n c R m d K p q, cmV o] w (GaveCt2 w (Hps.stepCt h l o).1.1 (Hps.stepCt h l o).1.2 (Hps.stepCt h l o).2) := by
  have b2 : Below w.heap.size w (((w.alloc (.cells #[.slice A n c, .slice R m d, .slice K p q] 34)).alloc (.cells #[.int .i64 o.op, .int .i64 o.a, .int .i64 o.b, .int .i64 o.c] 36)).alloc (.cells #[.slice none 0 0, .slice none 0 0, .slice none 0 0] 34)) := (((Below.refl w.heap.size w).alloc (Nat.le_refl _) _).alloc (by simp) _).alloc (by simp; omega) _
  have s2 := hs.up b2
  have k2 := hk.up b2
  have q1 := ((Rw.new w 34 #[.slice A n c, .slice R m d, .slice K p q]).alloc (.cells #[.int .i64 o.op, .int .i64 o.a, .int .i64 o.b, .int .i64 o.c] 36)).alloc (.cells #[.slice none 0 0, .slice none 0 0, .slice none 0 0] 34)
  have q2 := (Rw.new (w.alloc (.cells #[.slice A n c, .slice R m d, .slice K p q] 34)) 36 #[.int .i64 o.op, .int .i64 o.a, .int .i64 o.b, .int .i64 o.c]).alloc (.cells #[.slice none 0 0, .slice none 0 0, .slice none 0 0] 34)
  have q3 := Rw.new ((w.alloc (.cells #[.slice A n c, .slice R m d, .slice K p q] 34)).alloc (.cells #[.int .i64 o.op, .int .i64 o.a, .int .i64 o.b, .int .i64 o.c] 36)) 34 #[.slice none 0 0, .slice none 0 0, .slice none 0 0]
  simp only [World.size_alloc] at q2 q3
  go_enter Tryd.func17, Tryd.ntmps17
  go_upto_region 1 with fail
  generalize ((w.alloc (.cells #[.slice A n c, .slice R m d, .slice K p q] 34)).alloc (.cells #[.int .i64 o.op, .int .i64 o.a, .int .i64 o.b, .int .i64 o.c] 36)).alloc (.cells #[.slice none 0 0, .slice none 0 0, .slice none 0 0] 34) = w0 at b2 s2 k2 q1 q2 q3 ⊢
  have x0 : w0.cell? ⟨w.heap.size, 0, none⟩ = some (.slice A n c) := q1.cell 0
  have x1 : w0.cell? ⟨w.heap.size, 1, none⟩ = some (.slice R m d) := q1.cell 1
  have x2 : w0.cell? ⟨w.heap.size, 2, none⟩ = some (.slice K p q) := q1.cell 2
  go_wp2_with fail
  refine (mCountedValid_any _ _ _ _ _ _ _ _ _ h l _ s2 k2 hn hm hp).mono ?_
  rintro e w1 ⟨rfl, b1⟩
  replace q1 := q1.keep b1 q1.lt
  replace q2 := q2.keep b1 q2.lt
  replace q3 := q3.keep b1 q3.lt
  replace b2 := b2.trans (b1.mono b2.size)
  clear b1
  clear s2 k2 x0 x1 x2
  cases hv : Hps.okCt h l
  · have HF := Lib.hid (Hps.stepCt_no (o := o) (.inl hv))
    have r2 : (w1).frozen? ⟨w.heap.size + 1 + 1, 0, none⟩ = false := q3.frozen 0
    have r3 : (w1).frozen? ⟨w.heap.size + 1 + 1, 1, none⟩ = false := q3.frozen 1
    have r4 : (w1).frozen? ⟨w.heap.size + 1 + 1, 2, none⟩ = false := q3.frozen 2
    have r5 : (w1).cell? ⟨w.heap.size + 1 + 1, 0, none⟩ = some (.slice none 0 0) := q3.cell 0
    have r6 : (w1).cell? ⟨w.heap.size + 1 + 1, 1, none⟩ = some (.slice none 0 0) := q3.cell 1
    have r7 : (w1).cell? ⟨w.heap.size + 1 + 1, 2, none⟩ = some (.slice none 0 0) := q3.cell 2
    have q4 := ((q3.put 0 (.slice none 0 0)).put 1 (.slice none 0 0)).put 2 (.slice none 0 0)
    have r8 : (((w1.setCell ⟨w.heap.size + 1 + 1, 0, none⟩ (.slice none 0 0)).setCell ⟨w.heap.size + 1 + 1, 1, none⟩ (.slice none 0 0)).setCell ⟨w.heap.size + 1 + 1, 2, none⟩ (.slice none 0 0)).cell? ⟨w.heap.size + 1 + 1, 0, none⟩ = some (.slice none 0 0) := q4.cell 0
    have r9 : (((w1.setCell ⟨w.heap.size + 1 + 1, 0, none⟩ (.slice none 0 0)).setCell ⟨w.heap.size + 1 + 1, 1, none⟩ (.slice none 0 0)).setCell ⟨w.heap.size + 1 + 1, 2, none⟩ (.slice none 0 0)).cell? ⟨w.heap.size + 1 + 1, 1, none⟩ = some (.slice none 0 0) := q4.cell 1
    have r10 : (((w1.setCell ⟨w.heap.size + 1 + 1, 0, none⟩ (.slice none 0 0)).setCell ⟨w.heap.size + 1 + 1, 1, none⟩ (.slice none 0 0)).setCell ⟨w.heap.size + 1 + 1, 2, none⟩ (.slice none 0 0)).cell? ⟨w.heap.size + 1 + 1, 2, none⟩ = some (.slice none 0 0) := q4.cell 2
    have D := Lib.hid (OwnC.out (w := w) (own_zeroC w1 w1.heap.size (Nat.le_refl _)) q3.lt b2 (Nat.le_trans (Nat.le_succ _) (Nat.le_succ _)))
    clear q1 q2 q3 q4 b2
    go_wp2_with fail
    exact bodyPost_ret (v := .tuple #[.agg #[.slice none 0 0, .slice none 0 0, .slice none 0 0], .bool false]) (by simp [results, Tryd.results17, go_sem, *]) rfl ⟨_, _, _, by rw [HF.out], by rw [HF.out]; exact D.out.1, D.out.2⟩
  have z0 : w1.cell? ⟨w.heap.size + 1, 0, none⟩ = some (.int .i64 o.op) := q2.cell 0
  have z1 : w1.cell? ⟨w.heap.size + 1, 1, none⟩ = some (.int .i64 o.a) := q2.cell 1
  have z2 : w1.cell? ⟨w.heap.size + 1, 2, none⟩ = some (.int .i64 o.b) := q2.cell 2
  have z3 : w1.cell? ⟨w.heap.size + 1, 3, none⟩ = some (.int .i64 o.c) := q2.cell 3
  go_wp2_with fail
  refine (mCommandValid_any o _).mono ?_
  rintro e w3 ⟨rfl, b1⟩
  replace q1 := q1.keep b1 q1.lt
  replace q2 := q2.keep b1 q2.lt
  replace q3 := q3.keep b1 q3.lt
  replace b2 := b2.trans (b1.mono b2.size)
  clear b1
  clear z0 z1 z2 z3
  cases ho : Hps.okCm o
  · have HF := Lib.hid (Hps.stepCt_no (h := h) (l := l) (.inr ho))
    have r2 : (w3).frozen? ⟨w.heap.size + 1 + 1, 0, none⟩ = false := q3.frozen 0
    have r3 : (w3).frozen? ⟨w.heap.size + 1 + 1, 1, none⟩ = false := q3.frozen 1
    have r4 : (w3).frozen? ⟨w.heap.size + 1 + 1, 2, none⟩ = false := q3.frozen 2
    have r5 : (w3).cell? ⟨w.heap.size + 1 + 1, 0, none⟩ = some (.slice none 0 0) := q3.cell 0
    have r6 : (w3).cell? ⟨w.heap.size + 1 + 1, 1, none⟩ = some (.slice none 0 0) := q3.cell 1
    have r7 : (w3).cell? ⟨w.heap.size + 1 + 1, 2, none⟩ = some (.slice none 0 0) := q3.cell 2
    have q4 := ((q3.put 0 (.slice none 0 0)).put 1 (.slice none 0 0)).put 2 (.slice none 0 0)
    have r8 : (((w3.setCell ⟨w.heap.size + 1 + 1, 0, none⟩ (.slice none 0 0)).setCell ⟨w.heap.size + 1 + 1, 1, none⟩ (.slice none 0 0)).setCell ⟨w.heap.size + 1 + 1, 2, none⟩ (.slice none 0 0)).cell? ⟨w.heap.size + 1 + 1, 0, none⟩ = some (.slice none 0 0) := q4.cell 0
    have r9 : (((w3.setCell ⟨w.heap.size + 1 + 1, 0, none⟩ (.slice none 0 0)).setCell ⟨w.heap.size + 1 + 1, 1, none⟩ (.slice none 0 0)).setCell ⟨w.heap.size + 1 + 1, 2, none⟩ (.slice none 0 0)).cell? ⟨w.heap.size + 1 + 1, 1, none⟩ = some (.slice none 0 0) := q4.cell 1
    have r10 : (((w3.setCell ⟨w.heap.size + 1 + 1, 0, none⟩ (.slice none 0 0)).setCell ⟨w.heap.size + 1 + 1, 1, none⟩ (.slice none 0 0)).setCell ⟨w.heap.size + 1 + 1, 2, none⟩ (.slice none 0 0)).cell? ⟨w.heap.size + 1 + 1, 2, none⟩ = some (.slice none 0 0) := q4.cell 2
    have D := Lib.hid (OwnC.out (w := w) (own_zeroC w3 w3.heap.size (Nat.le_refl _)) q3.lt b2 (Nat.le_trans (Nat.le_succ _) (Nat.le_succ _)))
    clear q1 q2 q3 q4 b2
    go_wp2_with fail
    exact bodyPost_ret (v := .tuple #[.agg #[.slice none 0 0, .slice none 0 0, .slice none 0 0], .bool false]) (by simp [results, Tryd.results17, go_sem, *]) rfl ⟨_, _, _, by rw [HF.out], by rw [HF.out]; exact D.out.1, D.out.2⟩
  have s2 := hs.up b2
  have x0 : w3.cell? ⟨w.heap.size, 0, none⟩ = some (.slice A n c) := q1.cell 0
  have x1 : w3.cell? ⟨w.heap.size, 1, none⟩ = some (.slice R m d) := q1.cell 1
  have x2 : w3.cell? ⟨w.heap.size, 2, none⟩ = some (.slice K p q) := q1.cell 2
  go_wp2_with fail
  refine (mPlace_any _ _ _ _ _ _ h _ s2 hn).mono ?_
  rintro e w4 ⟨rfl, b1⟩
  replace q1 := q1.keep b1 q1.lt
  replace q2 := q2.keep b1 q2.lt
  replace q3 := q3.keep b1 q3.lt
  replace b2 := b2.trans (b1.mono b2.size)
  clear b1
  clear s2 x0 x1 x2
  obtain ⟨hvh, hll⟩ := Hps.okCt_iff.1 hv
  have HVC := Lib.hid hv
  have HOK := Lib.hid ho
  have HVH := Lib.hid hvh
  obtain ⟨nb, hnb⟩ : ∃ nb, (!Hps.canH h o || (decide (o.op = 1) && decide (Hps.gapH h = 40))) = nb := ⟨_, rfl⟩
  have HNB := Lib.hid hnb
  obtain ⟨gp, hgp⟩ : ∃ gp, Hps.gapH h = gp := ⟨_, rfl⟩
  have HGP := Lib.hid hgp
  rw [hgp]
  clear hv ho hvh hll hnb hgp
  have s2 := hs.up b2
  have x0 : w4.cell? ⟨w.heap.size, 0, none⟩ = some (.slice A n c) := q1.cell 0
  have x1 : w4.cell? ⟨w.heap.size, 1, none⟩ = some (.slice R m d) := q1.cell 1
  have x2 : w4.cell? ⟨w.heap.size, 2, none⟩ = some (.slice K p q) := q1.cell 2
  have z0 : w4.cell? ⟨w.heap.size + 1, 0, none⟩ = some (.int .i64 o.op) := q2.cell 0
  have z1 : w4.cell? ⟨w.heap.size + 1, 1, none⟩ = some (.int .i64 o.a) := q2.cell 1
  have z2 : w4.cell? ⟨w.heap.size + 1, 2, none⟩ = some (.int .i64 o.b) := q2.cell 2
  have z3 : w4.cell? ⟨w.heap.size + 1, 3, none⟩ = some (.int .i64 o.c) := q2.cell 3
  go_upto_region 4 with fail
  go_cut [32] from 7 (fun v wc => v = .bool nb ∧ Below w4.heap.size w4 wc)
  case first =>
    go_wp2_with fail
    refine (mCommandPossible_any _ _ _ _ _ _ h o _ s2 hn hm).mono ?_
    rintro e w5 ⟨rfl, b1⟩
    have z0 : w5.cell? ⟨w.heap.size + 1, 0, none⟩ = some (.int .i64 o.op) := (q2.keep b1 q2.lt).cell 0
    cases hc : Hps.canH h o
    · have HN := Lib.hid (show true = nb by rw [← HNB.out, hc]; rfl)
      clear hc
      go_wp2_with fail
      go_meet
      case rel => exact ⟨by rw [← HN.out], by first | exact b1 | exact below_drewN b1 _⟩
    · by_cases h1 : o.op = 1
      · have ht : (o.op == (1 : Int)) = true := by rw [h1]; rfl
        have HN := Lib.hid (show decide (gp = 40) = nb by rw [← HNB.out, hc, HGP.out, h1]; simp)
        clear hc h1
        by_cases hf : gp = 40
        · subst hf
          go_wp2_with fail
          go_meet
          case rel => exact ⟨by rw [← HN.out]; rfl, by first | exact b1 | exact below_drewN b1 _⟩
        · have hf' : ¬ (gp : Int) = 40 := by omega
          have hf2 : ((gp : Int) == 40) = false := by rw [beq_eq_false_iff_ne]; exact hf'
          have HF2 := Lib.hid (decide_eq_false hf)
          clear hf
          go_wp2_with fail
          go_meet
          case rel => exact ⟨by rw [← HN.out, HF2.out], by first | exact b1 | exact below_drewN b1 _⟩
      · have ht : (o.op == (1 : Int)) = false := by rw [beq_eq_false_iff_ne]; exact h1
        have HN := Lib.hid (show false = nb by rw [← HNB.out, hc, decide_eq_false h1]; simp)
        clear hc h1
        go_wp2_with fail
        go_meet
        case rel => exact ⟨by rw [← HN.out], by first | exact b1 | exact below_drewN b1 _⟩
  case rest =>
  obtain ⟨rfl, b1⟩ := hcut
  replace q1 := q1.keep b1 q1.lt
  replace q2 := q2.keep b1 q2.lt
  replace q3 := q3.keep b1 q3.lt
  replace b2 := b2.trans (b1.mono b2.size)
  clear b1
  clear s2 x0 x1 x2 z0 z1 z2 z3 w1 w3
  have s2 := hs.up b2
  have k2 := hk.up b2
  have x0 : wc.cell? ⟨w.heap.size, 0, none⟩ = some (.slice A n c) := q1.cell 0
  have x1 : wc.cell? ⟨w.heap.size, 1, none⟩ = some (.slice R m d) := q1.cell 1
  have x2 : wc.cell? ⟨w.heap.size, 2, none⟩ = some (.slice K p q) := q1.cell 2
  have z0 : wc.cell? ⟨w.heap.size + 1, 0, none⟩ = some (.int .i64 o.op) := q2.cell 0
  have z1 : wc.cell? ⟨w.heap.size + 1, 1, none⟩ = some (.int .i64 o.a) := q2.cell 1
  have z2 : wc.cell? ⟨w.heap.size + 1, 2, none⟩ = some (.int .i64 o.b) := q2.cell 2
  have z3 : wc.cell? ⟨w.heap.size + 1, 3, none⟩ = some (.int .i64 o.c) := q2.cell 3
  have hsz : w.heap.size + 1 + 1 < wc.heap.size := q3.lt
  cases nb
  · have hcan : Hps.canH h o = true := by
      have := HNB.out
      rw [Bool.or_eq_false_iff] at this
      simpa using this.1
    have hgo : ¬ (o.op = 1 ∧ Hps.gapH h = 40) := by
      have := HNB.out
      rw [Bool.or_eq_false_iff] at this
      have h2 := this.2
      rintro ⟨e1, e2⟩
      rw [decide_eq_true e1, decide_eq_true e2] at h2
      cases h2
    have HF := Lib.hid (Hps.stepCt_does HVC.out HOK.out hcan hgo)
    have hgl := Hps.gapH_le h
    have DO := Lib.hid (l8Do_any A R n c m d h o gp wc s2 hcan (fun _ => by have := hs.cells.1; have := HGP.out; omega))
    have HDV := Lib.hid (Hps.doH_valid hcan (Hps.gap_room HVH.out hgo))
    rw [HGP.out] at HF HDV
    clear hcan hgo hgl s2 k2
    go_wp2_with fail
    refine DO.out.mono ?_
    rintro e w5 ⟨vc, vr, rfl, oh, b1⟩
    obtain ⟨A5, c5, R5, d5, rfl, rfl, hs5⟩ := oh.form
    obtain ⟨h5, hh5⟩ : ∃ h5, Hps.doH h o gp = h5 := ⟨_, rfl⟩
    rw [hh5] at hs5 HF HDV ⊢
    obtain ⟨n5, hn5⟩ : ∃ n5, h5.cs.length = n5 := ⟨_, rfl⟩
    obtain ⟨m5, hm5⟩ : ∃ m5, h5.rt.length = m5 := ⟨_, rfl⟩
    rw [hn5, hm5] at hs5 ⊢
    clear oh hh5 hn5 hm5
    replace q3 := q3.keep b1 q3.lt
    have b3 := b2.trans (b1.mono b2.size)
    clear DO x0 x1 x2 z0 z1 z2 z3 q1 q2
    go_wp2_with fail
    refine (l10Free_any _ _ _ _ _ _ _ _ hs5 HDV.out).mono ?_
    rintro e w6 ⟨vc, vr, vk, rfl, oc, b4⟩
    obtain ⟨A6, n6, c6, R6, m6, d6, K6, p6, q6, rfl, rfl, rfl⟩ := oc.slices
    replace q3 := q3.keep b4 q3.lt
    have b5 := b3.trans (b4.mono b3.size)
    replace oc := oc.base (bs' := wc.heap.size) b1.size
    have r2 : (w6).frozen? ⟨w.heap.size + 1 + 1, 0, none⟩ = false := q3.frozen 0
    have r3 : (w6).frozen? ⟨w.heap.size + 1 + 1, 1, none⟩ = false := q3.frozen 1
    have r4 : (w6).frozen? ⟨w.heap.size + 1 + 1, 2, none⟩ = false := q3.frozen 2
    have r5 : (w6).cell? ⟨w.heap.size + 1 + 1, 0, none⟩ = some (.slice none 0 0) := q3.cell 0
    have r6 : (w6).cell? ⟨w.heap.size + 1 + 1, 1, none⟩ = some (.slice none 0 0) := q3.cell 1
    have r7 : (w6).cell? ⟨w.heap.size + 1 + 1, 2, none⟩ = some (.slice none 0 0) := q3.cell 2
    have q4 := ((q3.put 0 (.slice A6 n6 c6)).put 1 (.slice R6 m6 d6)).put 2 (.slice K6 p6 q6)
    have r8 : (((w6.setCell ⟨w.heap.size + 1 + 1, 0, none⟩ (.slice A6 n6 c6)).setCell ⟨w.heap.size + 1 + 1, 1, none⟩ (.slice R6 m6 d6)).setCell ⟨w.heap.size + 1 + 1, 2, none⟩ (.slice K6 p6 q6)).cell? ⟨w.heap.size + 1 + 1, 0, none⟩ = some (.slice A6 n6 c6) := q4.cell 0
    have r9 : (((w6.setCell ⟨w.heap.size + 1 + 1, 0, none⟩ (.slice A6 n6 c6)).setCell ⟨w.heap.size + 1 + 1, 1, none⟩ (.slice R6 m6 d6)).setCell ⟨w.heap.size + 1 + 1, 2, none⟩ (.slice K6 p6 q6)).cell? ⟨w.heap.size + 1 + 1, 1, none⟩ = some (.slice R6 m6 d6) := q4.cell 1
    have r10 : (((w6.setCell ⟨w.heap.size + 1 + 1, 0, none⟩ (.slice A6 n6 c6)).setCell ⟨w.heap.size + 1 + 1, 1, none⟩ (.slice R6 m6 d6)).setCell ⟨w.heap.size + 1 + 1, 2, none⟩ (.slice K6 p6 q6)).cell? ⟨w.heap.size + 1 + 1, 2, none⟩ = some (.slice K6 p6 q6) := q4.cell 2
    have D := Lib.hid (OwnC.out (w := w) oc hsz b5 (Nat.le_trans (Nat.le_succ _) (Nat.le_succ _)))
    clear oc hs5 b1 b2 b3 b4 b5 q3 q4
    go_wp2_with fail
    exact bodyPost_ret (v := .tuple #[.agg #[.slice A6 n6 c6, .slice R6 m6 d6, .slice K6 p6 q6], .bool true]) (by simp [results, Tryd.results17, go_sem, *]) rfl ⟨_, _, _, by rw [HF.out], by rw [HF.out]; exact D.out.1, D.out.2⟩
  · have hcan : Hps.canH h o = false ∨ (o.op = 1 ∧ Hps.gapH h = 40) := by
      have := HNB.out
      rw [Bool.or_eq_true, Bool.and_eq_true, decide_eq_true_iff, decide_eq_true_iff] at this
      rcases this with e | e
      · exact .inl (by simpa using e)
      · exact .inr e
    have HF := Lib.hid (Hps.stepCt_cannot HVC.out HOK.out hcan)
    have hlc := hs.cells.1
    have hlr := hs.roots.1
    obtain ⟨V1, V2, V3, V4⟩ := Hps.valid_iff.1 HVH.out
    have H3 := Lib.hid (fun cl (hcl : cl ∈ h.cs) => show cl.r.length ≤ 1000000 by have := (Hps.okCell_iff.1 (V1 cl hcl)).2.2.1; omega)
    have CALL := Lib.hid (fun (ww : World) (hB : Below wc.heap.size wc ww) => l7Copy_any A R n c m d h ww (s2.up hB) (by omega) (by omega) H3.out)
    have KS := Lib.hid (fun (ww : World) (hB : Below wc.heap.size wc ww) => k2.up hB)
    have hll := hk.1
    have HLL := Lib.hid hll
    have HQ := Lib.hid q3
    have HB2 := Lib.hid b2
    clear hcan hlc hlr V1 V2 V3 V4 s2 k2 hll z0 z1 z2 z3
    go_upto_region 5 with fail
    refine wp_region_inv (by kernel_rfl) (by kernel_rfl) (fun L ac ww => ∃ t5 t33 t34 t35 t36 t37 t38 t39 t40 : Value, ac = { tmps := #[ctV A n c R m d K p q, cmV o, Value.pointer (some { block := w.heap.size, off := 0 }), Value.pointer (some { block := w.heap.size + 1, off := 0 }), Value.pointer (some { block := w.heap.size + 1 + 1, off := 0 }), t5, Value.int IntKind.i64 ↑gp, u7, u8, u9, u10, u11, u12, u13, u14, u15, u16, u17, u18, u19, u20, u21, u22, u23, u24, u25, u26, u27, u28, u29, u30, u31, Value.bool true, t33, t34, t35, t36, t37, t38, t39, t40, u41, u42, u43, u44, u45, u46], defers := [] } ∧ (L 8 = false → Below wc.heap.size wc ww) ∧ (L 6 = true → L 2 = true) ∧ (L 6 = true → L 3 = true) ∧ (L 7 = true → L 6 = true) ∧ (L 8 = true → L 7 = true) ∧ (L 9 = true → L 8 = true) ∧ (L 2 = true → L 1 = true) ∧ (L 6 = true → L 5 = true) ∧ (L 5 = true → L 4 = true) ∧ (L 1 = true → L 0 = true) ∧ (L 0 = true → t33 = .pointer (some ⟨w.heap.size, 0, none⟩)) ∧ (L 1 = true → t34 = .agg #[.slice A n c, .slice R m d]) ∧ (L 2 = true → ∃ (A5 : Option Addr) (n5 c5 : Nat) (R5 : Option Addr) (m5 d5 : Nat), t35 = .agg #[.slice A5 n5 c5, .slice R5 m5 d5] ∧ (L 6 = false → (L 3 = false → OwnH ww wc.heap.size (.slice A5 n5 c5) (.slice R5 m5 d5) h) ∧ (L 3 = true → OwnC ww wc.heap.size (.slice A5 n5 c5) (.slice R5 m5 d5) t36 h []))) ∧ (L 3 = true → ∃ gs, t36 = .slice (some ⟨gs, 0, none⟩) 0 0 ∧ (L 6 = false → OwnI ww wc.heap.size t36 [])) ∧ (L 4 = true → t37 = .pointer (some ⟨w.heap.size, 2, none⟩)) ∧ (L 5 = true → t38 = .slice K p q) ∧ (L 6 = true → ∃ (A5 : Option Addr) (n5 c5 : Nat) (R5 : Option Addr) (m5 d5 : Nat) (A9 : Option Addr) (c9 : Nat), t35 = .agg #[.slice A5 n5 c5, .slice R5 m5 d5] ∧ t39 = .slice A9 p c9 ∧ (L 8 = false → OwnC ww wc.heap.size (.slice A5 n5 c5) (.slice R5 m5 d5) t39 h l)) ∧ (L 7 = true → ∃ (A5 : Option Addr) (n5 c5 : Nat) (R5 : Option Addr) (m5 d5 : Nat) (A9 : Option Addr) (c9 : Nat), t35 = .agg #[.slice A5 n5 c5, .slice R5 m5 d5] ∧ t39 = .slice A9 p c9 ∧ t40 = .agg #[.slice A5 n5 c5, .slice R5 m5 d5, .slice A9 p c9]) ∧ (L 8 = true → ∃ (A5 : Option Addr) (n5 c5 : Nat) (R5 : Option Addr) (m5 d5 : Nat) (A9 : Option Addr) (c9 : Nat) (w1 : World), ww = ((w1.setCell ⟨w.heap.size + 1 + 1, 0, none⟩ (.slice A5 n5 c5)).setCell ⟨w.heap.size + 1 + 1, 1, none⟩ (.slice R5 m5 d5)).setCell ⟨w.heap.size + 1 + 1, 2, none⟩ (.slice A9 p c9) ∧ OwnC w1 wc.heap.size (.slice A5 n5 c5) (.slice R5 m5 d5) (.slice A9 p c9) h l ∧ Below wc.heap.size wc w1) ∧ (L 9 = true → t5 = .bool false)) ?h0 ?hstep ?hdone
    case h0 => exact ⟨_, _, _, _, _, _, _, _, _, rfl, fun _ => (Below.refl _ _).drew, fun h => absurd h Bool.false_ne_true, fun h => absurd h Bool.false_ne_true, fun h => absurd h Bool.false_ne_true, fun h => absurd h Bool.false_ne_true, fun h => absurd h Bool.false_ne_true, fun h => absurd h Bool.false_ne_true, fun h => absurd h Bool.false_ne_true, fun h => absurd h Bool.false_ne_true, fun h => absurd h Bool.false_ne_true, (fun h => absurd h Bool.false_ne_true), (fun h => absurd h Bool.false_ne_true), (fun h => absurd h Bool.false_ne_true), (fun h => absurd h Bool.false_ne_true), (fun h => absurd h Bool.false_ne_true), (fun h => absurd h Bool.false_ne_true), (fun h => absurd h Bool.false_ne_true), (fun h => absurd h Bool.false_ne_true), (fun h => absurd h Bool.false_ne_true), (fun h => absurd h Bool.false_ne_true)⟩
    case hstep =>
      rintro L ac ww i o ho hL hd ⟨t5, t33, t34, t35, t36, t37, t38, t39, t40, rfl, I0, I1, I2, I3, I4, I5, I6, I7, I8, I9, f0, f1, f2, f3, f4, f5, f6, f7, f8, f9⟩
      have hi : i < 10 := (Array.getElem?_eq_some_iff.1 ho).1
      obtain rfl | rfl | rfl | rfl | rfl | rfl | rfl | rfl | rfl | rfl : i = 0 ∨ i = 1 ∨ i = 2 ∨ i = 3 ∨ i = 4 ∨ i = 5 ∨ i = 6 ∨ i = 7 ∨ i = 8 ∨ i = 9 := by omega
      · obtain rfl := Option.some.inj ho
        have h8 : L 8 = false := by
          cases hh : L 8
          · rfl
          · exact absurd (I9 (I6 (I1 (I3 (I4 hh))))) (by rw [hL]; decide)
        have hB := I0 h8
        refine wpOp_step rfl (fun K' hK => ?_)
        go_simp
        refine hK _ _ ?_
        exact ⟨_, _, _, _, _, _, _, _, _, rfl, (fun h => I0 (by rw [upd_other (by decide)] at h; exact h)), (fun h => upd_mono (I1 (upd_ne h (by decide)))), (fun h => upd_mono (I2 (upd_ne h (by decide)))), (fun h => upd_mono (I3 (upd_ne h (by decide)))), (fun h => upd_mono (I4 (upd_ne h (by decide)))), (fun h => upd_mono (I5 (upd_ne h (by decide)))), (fun h => upd_mono (I6 (upd_ne h (by decide)))), (fun h => upd_mono (I7 (upd_ne h (by decide)))), (fun h => upd_mono (I8 (upd_ne h (by decide)))), (fun h => upd_mono (I9 (upd_ne h (by decide)))), (fun _ => rfl), (kp f1), (fun h => by
          obtain ⟨A5, n5, c5, R5, m5, d5, e, oo⟩ := f2 (upd_ne h (by decide))
          exact ⟨A5, n5, c5, R5, m5, d5, e, fun h6 => by
            rw [upd_other (by decide)] at h6
            rw [upd_other (by decide)]
            exact oo h6⟩), (fun h => by
          obtain ⟨gs, e, oo⟩ := f3 (upd_ne h (by decide))
          exact ⟨gs, e, fun h6 => by
            rw [upd_other (by decide)] at h6
            exact oo h6⟩), (kp f4), (kp f5), (fun h => by
          obtain ⟨A5, n5, c5, R5, m5, d5, A9, c9, e, e2, oo⟩ := f6 (upd_ne h (by decide))
          exact ⟨A5, n5, c5, R5, m5, d5, A9, c9, e, e2, fun h8 => by
            rw [upd_other (by decide)] at h8
            exact oo h8⟩), (kp f7), (fun h => absurd ((upd_ne h (by decide)).symm.trans h8) (by decide)), (kp f9)⟩
      · obtain rfl := Option.some.inj ho
        have g0 := f0 (hd ⟨0, .data⟩ (by simp) rfl)
        subst g0
        have h8 : L 8 = false := by
          cases hh : L 8
          · rfl
          · exact absurd (I6 (I1 (I3 (I4 hh)))) (by rw [hL]; decide)
        have hB := I0 h8
        have y0 : ww.cell? ⟨w.heap.size, 0, none⟩ = some (.slice A n c) := (hB.cell (p := ⟨w.heap.size, 0, none⟩) (by show w.heap.size < wc.heap.size; omega)).trans x0
        have y1 : ww.cell? ⟨w.heap.size, 1, none⟩ = some (.slice R m d) := (hB.cell (p := ⟨w.heap.size, 1, none⟩) (by show w.heap.size < wc.heap.size; omega)).trans x1
        refine wpOp_step rfl (fun K' hK => ?_)
        go_simp
        refine hK _ _ ?_
        exact ⟨_, _, _, _, _, _, _, _, _, rfl, (fun h => I0 (by rw [upd_other (by decide)] at h; exact h)), (fun h => upd_mono (I1 (upd_ne h (by decide)))), (fun h => upd_mono (I2 (upd_ne h (by decide)))), (fun h => upd_mono (I3 (upd_ne h (by decide)))), (fun h => upd_mono (I4 (upd_ne h (by decide)))), (fun h => upd_mono (I5 (upd_ne h (by decide)))), (fun h => upd_mono (I6 (upd_ne h (by decide)))), (fun h => upd_mono (I7 (upd_ne h (by decide)))), (fun h => upd_mono (I8 (upd_ne h (by decide)))), (fun _ => upd_mono (hd ⟨0, .data⟩ (by simp) rfl)), (kp f0), (fun _ => rfl), (fun h => by
          obtain ⟨A5, n5, c5, R5, m5, d5, e, oo⟩ := f2 (upd_ne h (by decide))
          exact ⟨A5, n5, c5, R5, m5, d5, e, fun h6 => by
            rw [upd_other (by decide)] at h6
            rw [upd_other (by decide)]
            exact oo h6⟩), (fun h => by
          obtain ⟨gs, e, oo⟩ := f3 (upd_ne h (by decide))
          exact ⟨gs, e, fun h6 => by
            rw [upd_other (by decide)] at h6
            exact oo h6⟩), (kp f4), (kp f5), (fun h => by
          obtain ⟨A5, n5, c5, R5, m5, d5, A9, c9, e, e2, oo⟩ := f6 (upd_ne h (by decide))
          exact ⟨A5, n5, c5, R5, m5, d5, A9, c9, e, e2, fun h8 => by
            rw [upd_other (by decide)] at h8
            exact oo h8⟩), (kp f7), (fun h => absurd ((upd_ne h (by decide)).symm.trans h8) (by decide)), (kp f9)⟩
      · obtain rfl := Option.some.inj ho
        have g1 := f1 (hd ⟨1, .data⟩ (by simp) rfl)
        subst g1
        have h8 : L 8 = false := by
          cases hh : L 8
          · rfl
          · exact absurd (I1 (I3 (I4 hh))) (by rw [hL]; decide)
        have hB := I0 h8
        have h6 : L 6 = false := by
          cases hh : L 6
          · rfl
          · exact absurd (I1 hh) (by rw [hL]; decide)
        refine wpOp_step rfl (fun K' hK => ?_)
        go_simp
        refine (CALL.out ww hB).mono ?_
        rintro e w' ⟨v1, v2, rfl, oh, b5⟩
        obtain ⟨A5, n5, c5, R5, m5, d5, rfl, rfl⟩ := oh.slices
        refine hK _ _ ?_
        exact ⟨_, _, _, _, _, _, _, _, _, rfl, (fun _ => hB.trans (b5.mono hB.size)), (fun h => upd_mono (I1 (upd_ne h (by decide)))), (fun h => upd_mono (I2 (upd_ne h (by decide)))), (fun h => upd_mono (I3 (upd_ne h (by decide)))), (fun h => upd_mono (I4 (upd_ne h (by decide)))), (fun h => upd_mono (I5 (upd_ne h (by decide)))), (fun _ => upd_mono (hd ⟨1, .data⟩ (by simp) rfl)), (fun h => upd_mono (I7 (upd_ne h (by decide)))), (fun h => upd_mono (I8 (upd_ne h (by decide)))), (fun h => upd_mono (I9 (upd_ne h (by decide)))), (kp f0), (kp f1), (fun _ => ⟨A5, n5, c5, R5, m5, d5, rfl, fun _ => ⟨fun _ => oh.base hB.size, fun hl3 => by
          obtain ⟨gs, e, o3⟩ := f3 (by rw [upd_other (by decide)] at hl3; exact hl3)
          exact OwnC.of2 (o3 h6) hB.size b5 oh⟩⟩), (fun h => by
          obtain ⟨gs, e, oo⟩ := f3 (upd_ne h (by decide))
          exact ⟨gs, e, fun _ => (oo h6).below b5 (Nat.le_refl _)⟩), (kp f4), (kp f5), (fun h => absurd ((upd_ne h (by decide)).symm.trans h6) (by decide)), (fun h => absurd (I3 (upd_ne h (by decide))) (by rw [h6]; decide)), (fun h => absurd ((upd_ne h (by decide)).symm.trans h8) (by decide)), (kp f9)⟩
      · obtain rfl := Option.some.inj ho
        have h8 : L 8 = false := by
          cases hh : L 8
          · rfl
          · exact absurd (I2 (I3 (I4 hh))) (by rw [hL]; decide)
        have hB := I0 h8
        have h6 : L 6 = false := by
          cases hh : L 6
          · rfl
          · exact absurd (I2 hh) (by rw [hL]; decide)
        refine wpOp_step rfl (fun K' hK => ?_)
        go_simp
        refine hK _ _ ?_
        exact ⟨_, _, _, _, _, _, _, _, _, rfl, (fun _ => hB.alloc hB.size _), (fun h => upd_mono (I1 (upd_ne h (by decide)))), (fun h => upd_mono (I2 (upd_ne h (by decide)))), (fun h => upd_mono (I3 (upd_ne h (by decide)))), (fun h => upd_mono (I4 (upd_ne h (by decide)))), (fun h => upd_mono (I5 (upd_ne h (by decide)))), (fun h => upd_mono (I6 (upd_ne h (by decide)))), (fun h => upd_mono (I7 (upd_ne h (by decide)))), (fun h => upd_mono (I8 (upd_ne h (by decide)))), (fun h => upd_mono (I9 (upd_ne h (by decide)))), (kp f0), (kp f1), (fun h => by
          obtain ⟨A5, n5, c5, R5, m5, d5, e, oo⟩ := f2 (upd_ne h (by decide))
          exact ⟨A5, n5, c5, R5, m5, d5, e, fun _ => ⟨fun h3 => absurd (upd_self.symm.trans h3) (by decide), fun _ => OwnC.new ((oo h6).1 hL) hB.size⟩⟩), (fun _ => ⟨_, rfl, fun _ => own_noneI ww wc.heap.size hB.size⟩), (kp f4), (kp f5), (fun h => absurd ((upd_ne h (by decide)).symm.trans h6) (by decide)), (fun h => absurd (I3 (upd_ne h (by decide))) (by rw [h6]; decide)), (fun h => absurd ((upd_ne h (by decide)).symm.trans h8) (by decide)), (kp f9)⟩
      · obtain rfl := Option.some.inj ho
        have h8 : L 8 = false := by
          cases hh : L 8
          · rfl
          · exact absurd (I8 (I7 (I3 (I4 hh)))) (by rw [hL]; decide)
        have hB := I0 h8
        refine wpOp_step rfl (fun K' hK => ?_)
        go_simp
        refine hK _ _ ?_
        exact ⟨_, _, _, _, _, _, _, _, _, rfl, (fun h => I0 (by rw [upd_other (by decide)] at h; exact h)), (fun h => upd_mono (I1 (upd_ne h (by decide)))), (fun h => upd_mono (I2 (upd_ne h (by decide)))), (fun h => upd_mono (I3 (upd_ne h (by decide)))), (fun h => upd_mono (I4 (upd_ne h (by decide)))), (fun h => upd_mono (I5 (upd_ne h (by decide)))), (fun h => upd_mono (I6 (upd_ne h (by decide)))), (fun h => upd_mono (I7 (upd_ne h (by decide)))), (fun h => upd_mono (I8 (upd_ne h (by decide)))), (fun h => upd_mono (I9 (upd_ne h (by decide)))), (kp f0), (kp f1), (fun h => by
          obtain ⟨A5, n5, c5, R5, m5, d5, e, oo⟩ := f2 (upd_ne h (by decide))
          exact ⟨A5, n5, c5, R5, m5, d5, e, fun h6 => by
            rw [upd_other (by decide)] at h6
            rw [upd_other (by decide)]
            exact oo h6⟩), (fun h => by
          obtain ⟨gs, e, oo⟩ := f3 (upd_ne h (by decide))
          exact ⟨gs, e, fun h6 => by
            rw [upd_other (by decide)] at h6
            exact oo h6⟩), (fun _ => rfl), (kp f5), (fun h => by
          obtain ⟨A5, n5, c5, R5, m5, d5, A9, c9, e, e2, oo⟩ := f6 (upd_ne h (by decide))
          exact ⟨A5, n5, c5, R5, m5, d5, A9, c9, e, e2, fun h8 => by
            rw [upd_other (by decide)] at h8
            exact oo h8⟩), (kp f7), (fun h => absurd ((upd_ne h (by decide)).symm.trans h8) (by decide)), (kp f9)⟩
      · obtain rfl := Option.some.inj ho
        have g4 := f4 (hd ⟨4, .data⟩ (by simp) rfl)
        subst g4
        have h8 : L 8 = false := by
          cases hh : L 8
          · rfl
          · exact absurd (I7 (I3 (I4 hh))) (by rw [hL]; decide)
        have hB := I0 h8
        have y2 : ww.cell? ⟨w.heap.size, 2, none⟩ = some (.slice K p q) := (hB.cell (p := ⟨w.heap.size, 2, none⟩) (by show w.heap.size < wc.heap.size; omega)).trans x2
        refine wpOp_step rfl (fun K' hK => ?_)
        go_simp
        refine hK _ _ ?_
        exact ⟨_, _, _, _, _, _, _, _, _, rfl, (fun h => I0 (by rw [upd_other (by decide)] at h; exact h)), (fun h => upd_mono (I1 (upd_ne h (by decide)))), (fun h => upd_mono (I2 (upd_ne h (by decide)))), (fun h => upd_mono (I3 (upd_ne h (by decide)))), (fun h => upd_mono (I4 (upd_ne h (by decide)))), (fun h => upd_mono (I5 (upd_ne h (by decide)))), (fun h => upd_mono (I6 (upd_ne h (by decide)))), (fun h => upd_mono (I7 (upd_ne h (by decide)))), (fun _ => upd_mono (hd ⟨4, .data⟩ (by simp) rfl)), (fun h => upd_mono (I9 (upd_ne h (by decide)))), (kp f0), (kp f1), (fun h => by
          obtain ⟨A5, n5, c5, R5, m5, d5, e, oo⟩ := f2 (upd_ne h (by decide))
          exact ⟨A5, n5, c5, R5, m5, d5, e, fun h6 => by
            rw [upd_other (by decide)] at h6
            rw [upd_other (by decide)]
            exact oo h6⟩), (fun h => by
          obtain ⟨gs, e, oo⟩ := f3 (upd_ne h (by decide))
          exact ⟨gs, e, fun h6 => by
            rw [upd_other (by decide)] at h6
            exact oo h6⟩), (kp f4), (fun _ => rfl), (fun h => by
          obtain ⟨A5, n5, c5, R5, m5, d5, A9, c9, e, e2, oo⟩ := f6 (upd_ne h (by decide))
          exact ⟨A5, n5, c5, R5, m5, d5, A9, c9, e, e2, fun h8 => by
            rw [upd_other (by decide)] at h8
            exact oo h8⟩), (kp f7), (fun h => absurd ((upd_ne h (by decide)).symm.trans h8) (by decide)), (kp f9)⟩
      · obtain rfl := Option.some.inj ho
        have g3 := f3 (hd ⟨3, .data⟩ (by simp) rfl)
        have g5 := f5 (hd ⟨5, .data⟩ (by simp) rfl)
        subst g5
        have h8 : L 8 = false := by
          cases hh : L 8
          · rfl
          · exact absurd (I3 (I4 hh)) (by rw [hL]; decide)
        have hB := I0 h8
        have h3 := hd ⟨3, .data⟩ (by simp) rfl
        have h2 := hd ⟨2, .chain⟩ (by simp) rfl
        obtain ⟨gs, rfl, o3⟩ := g3
        obtain ⟨A5, n5, c5, R5, m5, d5, rfl, o2⟩ := f2 h2
        have oc := (o2 hL).2 h3
        have o3i := o3 hL
        refine wpOp_step rfl (fun K' hK => ?_)
        refine app_stepI rfl (.tmp 36) (.tmp 38) rfl wc.heap.size _ [] rfl o3i K p q ww.heap.size l rfl (KS.out ww hB) (by simp <;> omega) hB.size ?_
        intro v' w' o1 g1 s1
        rw [List.nil_append] at o1
        have hrow := fun kk hk => (World.ownsRow.lt o3i kk hk).1
        have hB2 := hB.grown g1 hB.size hrow
        have oc2 := oc.app o1 g1 s1
        obtain ⟨A9, c9, e9, x9⟩ := o1.form
        rw [HLL.out] at e9
        subst e9
        refine hK _ _ ?_
        exact ⟨_, _, _, _, _, _, _, _, _, rfl, (fun _ => hB2), (fun _ => upd_mono h2), (fun _ => upd_mono h3), (fun h => upd_mono (I3 (upd_ne h (by decide)))), (fun h => upd_mono (I4 (upd_ne h (by decide)))), (fun h => upd_mono (I5 (upd_ne h (by decide)))), (fun h => upd_mono (I6 (upd_ne h (by decide)))), (fun _ => upd_mono (hd ⟨5, .data⟩ (by simp) rfl)), (fun h => upd_mono (I8 (upd_ne h (by decide)))), (fun h => upd_mono (I9 (upd_ne h (by decide)))), (kp f0), (kp f1), (fun _ => ⟨_, _, _, _, _, _, rfl, fun h6 => absurd (upd_self.symm.trans h6) (by decide)⟩), (fun _ => ⟨gs, rfl, fun h6 => absurd (upd_self.symm.trans h6) (by decide)⟩), (kp f4), (kp f5), (fun _ => ⟨_, _, _, _, _, _, A9, c9, rfl, rfl, fun _ => oc2⟩), (fun h => absurd (I3 (upd_ne h (by decide))) (by rw [hL]; decide)), (fun h => absurd ((upd_ne h (by decide)).symm.trans h8) (by decide)), (kp f9)⟩
      · obtain rfl := Option.some.inj ho
        have g2 := f2 (hd ⟨2, .data⟩ (by simp) rfl)
        have g6 := f6 (hd ⟨6, .data⟩ (by simp) rfl)
        have h8 : L 8 = false := by
          cases hh : L 8
          · rfl
          · exact absurd (I4 hh) (by rw [hL]; decide)
        have hB := I0 h8
        obtain ⟨A5, n5, c5, R5, m5, d5, A9, c9, rfl, rfl, o6⟩ := g6
        refine wpOp_step rfl (fun K' hK => ?_)
        go_simp
        refine hK _ _ ?_
        exact ⟨_, _, _, _, _, _, _, _, _, rfl, (fun h => I0 (by rw [upd_other (by decide)] at h; exact h)), (fun h => upd_mono (I1 (upd_ne h (by decide)))), (fun h => upd_mono (I2 (upd_ne h (by decide)))), (fun _ => upd_mono (hd ⟨6, .data⟩ (by simp) rfl)), (fun h => upd_mono (I4 (upd_ne h (by decide)))), (fun h => upd_mono (I5 (upd_ne h (by decide)))), (fun h => upd_mono (I6 (upd_ne h (by decide)))), (fun h => upd_mono (I7 (upd_ne h (by decide)))), (fun h => upd_mono (I8 (upd_ne h (by decide)))), (fun h => upd_mono (I9 (upd_ne h (by decide)))), (kp f0), (kp f1), (fun h => by
          obtain ⟨A5, n5, c5, R5, m5, d5, e, oo⟩ := f2 (upd_ne h (by decide))
          exact ⟨A5, n5, c5, R5, m5, d5, e, fun h6 => by
            rw [upd_other (by decide)] at h6
            rw [upd_other (by decide)]
            exact oo h6⟩), (fun h => by
          obtain ⟨gs, e, oo⟩ := f3 (upd_ne h (by decide))
          exact ⟨gs, e, fun h6 => by
            rw [upd_other (by decide)] at h6
            exact oo h6⟩), (kp f4), (kp f5), (fun _ => ⟨_, _, _, _, _, _, A9, c9, rfl, rfl, fun h8 => by
            rw [upd_other (by decide)] at h8
            exact o6 h8⟩), (fun _ => ⟨_, _, _, _, _, _, _, _, rfl, rfl, rfl⟩), (fun h => absurd ((upd_ne h (by decide)).symm.trans h8) (by decide)), (kp f9)⟩
      · obtain rfl := Option.some.inj ho
        have g7 := f7 (hd ⟨7, .data⟩ (by simp) rfl)
        have H6 := Lib.hid (I3 (hd ⟨7, .data⟩ (by simp) rfl))
        have H7 := Lib.hid (hd ⟨7, .data⟩ (by simp) rfl)
        obtain ⟨A5, n5, c5, R5, m5, d5, A9, c9, rfl, rfl, rfl⟩ := g7
        obtain ⟨A6, n6, c6, R6, m6, d6, A8, c8, e6, e7, o6⟩ := f6 H6.out
        simp at e6 e7
        obtain ⟨⟨rfl, rfl, rfl⟩, rfl, rfl, rfl⟩ := e6
        obtain ⟨rfl, rfl⟩ := e7
        have oc := o6 hL
        have hB := I0 hL
        have q5 := HQ.out.keep hB HQ.out.lt
        have u0 := q5.cell 0
        have v0 := q5.frozen 0
        have u1 := q5.cell 1
        have v1 := q5.frozen 1
        have u2 := q5.cell 2
        have v2 := q5.frozen 2
        simp at u0 u1 u2
        refine wpOp_step rfl (fun K' hK => ?_)
        go_simp
        refine hK _ _ ?_
        exact ⟨_, _, _, _, _, _, _, _, _, rfl, (fun h => absurd (upd_self.symm.trans h) (by decide)), (fun h => upd_mono (I1 (upd_ne h (by decide)))), (fun h => upd_mono (I2 (upd_ne h (by decide)))), (fun h => upd_mono (I3 (upd_ne h (by decide)))), (fun _ => upd_mono H7.out), (fun h => upd_mono (I5 (upd_ne h (by decide)))), (fun h => upd_mono (I6 (upd_ne h (by decide)))), (fun h => upd_mono (I7 (upd_ne h (by decide)))), (fun h => upd_mono (I8 (upd_ne h (by decide)))), (fun h => upd_mono (I9 (upd_ne h (by decide)))), (kp f0), (kp f1), (fun h => ⟨_, _, _, _, _, _, rfl, fun hh => absurd (H6.out.symm.trans ((upd_other (by decide)).symm.trans hh)) (by decide)⟩), (fun h => by
          obtain ⟨gs, e, oo⟩ := f3 (upd_ne h (by decide))
          exact ⟨gs, e, fun hh => absurd (H6.out.symm.trans ((upd_other (by decide)).symm.trans hh)) (by decide)⟩), (kp f4), (kp f5), (fun _ => ⟨_, _, _, _, _, _, _, _, rfl, rfl, fun hh => absurd (upd_self.symm.trans hh) (by decide)⟩), (kp f7), (fun _ => ⟨_, _, _, _, _, _, _, _, ww, rfl, oc, hB⟩), (kp f9)⟩
      · obtain rfl := Option.some.inj ho
        have h8 := hd ⟨8, .chain⟩ (by simp) rfl
        refine wpOp_step rfl (fun K' hK => ?_)
        go_simp
        refine hK _ _ ?_
        exact ⟨_, _, _, _, _, _, _, _, _, rfl, (fun h => absurd (h8.symm.trans ((upd_other (by decide)).symm.trans h)) (by decide)), (fun h => upd_mono (I1 (upd_ne h (by decide)))), (fun h => upd_mono (I2 (upd_ne h (by decide)))), (fun h => upd_mono (I3 (upd_ne h (by decide)))), (fun h => upd_mono (I4 (upd_ne h (by decide)))), (fun _ => upd_mono h8), (fun h => upd_mono (I6 (upd_ne h (by decide)))), (fun h => upd_mono (I7 (upd_ne h (by decide)))), (fun h => upd_mono (I8 (upd_ne h (by decide)))), (fun h => upd_mono (I9 (upd_ne h (by decide)))), (kp f0), (kp f1), (fun h => by
          obtain ⟨A5, n5, c5, R5, m5, d5, e, oo⟩ := f2 (upd_ne h (by decide))
          exact ⟨A5, n5, c5, R5, m5, d5, e, fun h6 => by
            rw [upd_other (by decide)] at h6
            rw [upd_other (by decide)]
            exact oo h6⟩), (fun h => by
          obtain ⟨gs, e, oo⟩ := f3 (upd_ne h (by decide))
          exact ⟨gs, e, fun h6 => by
            rw [upd_other (by decide)] at h6
            exact oo h6⟩), (kp f4), (kp f5), (fun h => by
          obtain ⟨A5, n5, c5, R5, m5, d5, A9, c9, e, e2, oo⟩ := f6 (upd_ne h (by decide))
          exact ⟨A5, n5, c5, R5, m5, d5, A9, c9, e, e2, fun h8 => by
            rw [upd_other (by decide)] at h8
            exact oo h8⟩), (kp f7), (kp f8), (fun _ => rfl)⟩
    case hdone =>
      rintro L ac ww hall ⟨t5, t33, t34, t35, t36, t37, t38, t39, t40, rfl, I0, I1, I2, I3, I4, I5, I6, I7, I8, I9, f0, f1, f2, f3, f4, f5, f6, f7, f8, f9⟩
      have e0 := f0 (hall 0 (by decide))
      have e1 := f1 (hall 1 (by decide))
      have e2 := f2 (hall 2 (by decide))
      have e3 := f3 (hall 3 (by decide))
      have e4 := f4 (hall 4 (by decide))
      have e5 := f5 (hall 5 (by decide))
      have e6 := f6 (hall 6 (by decide))
      have e7 := f7 (hall 7 (by decide))
      have e8 := f8 (hall 8 (by decide))
      have e9 := f9 (hall 9 (by decide))
      clear f0 f1 f2 f3 f4 f5 f6 f7 f8 f9
      obtain ⟨A5, n5, c5, R5, m5, d5, A9, c9, w1, rfl, oc, hB⟩ := e8
      have q3 := HQ.out.keep hB HQ.out.lt
      have bw := HB2.out.trans (hB.mono HB2.out.size)
      have r2 : (w1).frozen? ⟨w.heap.size + 1 + 1, 0, none⟩ = false := q3.frozen 0
      have r3 : (w1).frozen? ⟨w.heap.size + 1 + 1, 1, none⟩ = false := q3.frozen 1
      have r4 : (w1).frozen? ⟨w.heap.size + 1 + 1, 2, none⟩ = false := q3.frozen 2
      have r5 : (w1).cell? ⟨w.heap.size + 1 + 1, 0, none⟩ = some (.slice none 0 0) := q3.cell 0
      have r6 : (w1).cell? ⟨w.heap.size + 1 + 1, 1, none⟩ = some (.slice none 0 0) := q3.cell 1
      have r7 : (w1).cell? ⟨w.heap.size + 1 + 1, 2, none⟩ = some (.slice none 0 0) := q3.cell 2
      have q4 := ((q3.put 0 (.slice A5 n5 c5)).put 1 (.slice R5 m5 d5)).put 2 (.slice A9 p c9)
      have r8 : (((w1.setCell ⟨w.heap.size + 1 + 1, 0, none⟩ (.slice A5 n5 c5)).setCell ⟨w.heap.size + 1 + 1, 1, none⟩ (.slice R5 m5 d5)).setCell ⟨w.heap.size + 1 + 1, 2, none⟩ (.slice A9 p c9)).cell? ⟨w.heap.size + 1 + 1, 0, none⟩ = some (.slice A5 n5 c5) := q4.cell 0
      have r9 : (((w1.setCell ⟨w.heap.size + 1 + 1, 0, none⟩ (.slice A5 n5 c5)).setCell ⟨w.heap.size + 1 + 1, 1, none⟩ (.slice R5 m5 d5)).setCell ⟨w.heap.size + 1 + 1, 2, none⟩ (.slice A9 p c9)).cell? ⟨w.heap.size + 1 + 1, 1, none⟩ = some (.slice R5 m5 d5) := q4.cell 1
      have r10 : (((w1.setCell ⟨w.heap.size + 1 + 1, 0, none⟩ (.slice A5 n5 c5)).setCell ⟨w.heap.size + 1 + 1, 1, none⟩ (.slice R5 m5 d5)).setCell ⟨w.heap.size + 1 + 1, 2, none⟩ (.slice A9 p c9)).cell? ⟨w.heap.size + 1 + 1, 2, none⟩ = some (.slice A9 p c9) := q4.cell 2
      have D := Lib.hid (OwnC.out (w := w) oc hsz bw (Nat.le_trans (Nat.le_succ _) (Nat.le_succ _)))
      clear e0 e1 e2 e3 e4 e5 e6 e7 I0 I1 I2 I3 I4 I5 I6 I7 I8 I9 oc hB q3 q4 bw q1 q2 b2 x0 x1 x2
      subst e9
      go_wp2_with fail
      exact bodyPost_ret (v := .tuple #[.agg #[.slice A5 n5 c5, .slice R5 m5 d5, .slice A9 p c9], .bool false]) (by simp [results, Tryd.results17, go_sem, *]) rfl ⟨_, _, _, by rw [HF.out], by rw [HF.out]; exact D.out.1, D.out.2⟩
end Go.Proofs.YtfgdenmlfloloaaDoor

namespace Go.Proofs.YtfgdenmlfloloaaDoor
open Go.RowKit
set_option maxRecDepth 100000
/-- a heap with counts of the call's own, and what a pointer v leads to lies apart, once l -/
def OwnFC (w : World) (base : Nat) (v : Value) (l : Bool) (vc vr vk : Value) (h : Hp) (ct : List Int) : Prop := ∃ rvs, OwnCt w base vc vr vk rvs h ct ∧ ∀ g, l = true → v = .pointer (some ⟨g, 0, none⟩) → Apart (some g) (vc :: vr :: vk :: rvs)
section
variable {w w' : World} {base : Nat} {v vc vr vk : Value} {l l' : Bool} {h : Hp} {ct : List Int}
theorem OwnFC.own (ho : OwnFC w base v l vc vr vk h ct) : OwnC w base vc vr vk h ct := by
  obtain ⟨rvs, o, _⟩ := ho
  exact ⟨rvs, o⟩
theorem OwnFC.below (ho : OwnFC w base v l vc vr vk h ct) (hb : Below w.heap.size w w') : OwnFC w' base v l vc vr vk h ct := by
  obtain ⟨rvs, o, a⟩ := ho
  exact ⟨rvs, o.below hb (Nat.le_refl _), a⟩
theorem OwnFC.alloc (ho : OwnFC w base v l vc vr vk h ct) (ob : Obj) : OwnFC (w.alloc ob) base (.pointer (some ⟨w.heap.size, 0, none⟩)) l' vc vr vk h ct := by
  obtain ⟨rvs, o, a⟩ := ho
  refine ⟨rvs, o.below ((Below.refl _ _).alloc (Nat.le_refl _) _) (Nat.le_refl _), fun g _ e => ?_⟩
  injection e with e
  injection e with e
  injection e with e
  subst e
  exact o.apart_new (Nat.le_refl _)
theorem OwnFC.put {g : Nat} (ho : OwnFC w base (.pointer (some ⟨g, 0, none⟩)) l vc vr vk h ct) (hl : l = true) (u u' u2 : Value) : OwnFC (((w.setCell ⟨g, 0, none⟩ u).setCell ⟨g, 1, none⟩ u').setCell ⟨g, 2, none⟩ u2) base (.pointer (some ⟨g, 0, none⟩)) l vc vr vk h ct := by
  obtain ⟨rvs, o, a⟩ := ho
  exact ⟨rvs, ((o.put (a g hl rfl) 0 u).put (a g hl rfl) 1 u').put (a g hl rfl) 2 u2, a⟩
end
namespace Hps
end Hps
/-- while a program runs: the heap with counts so far in the box b -/
structure RunStC (w wr : World) (b : Nat) (vc vr vk : Value) (h : Hp) (ct : List Int) : Prop where
  own : ∃ rvs, OwnCt wr (w.heap.size + 1) vc vr vk rvs h ct ∧ Apart (some b) (vc :: vr :: vk :: rvs)
  box : Rw wr b 34 #[vc, vr, vk]
  res : Rw wr w.heap.size 34 #[.slice none 0 0, .slice none 0 0, .slice none 0 0]
  bel : Below w.heap.size w wr
  lo : w.heap.size + 1 ≤ b
theorem RunStC.next {w wr w5 : World} {b : Nat} {vc vr vk vc' vr' vk' : Value} {h h' : Hp} {ct ct' : List Int} (S : RunStC w wr b vc vr vk h ct) (B : Below wr.heap.size wr w5) (o : OwnC w5 wr.heap.size vc' vr' vk' h' ct') :
    RunStC w (((w5.setCell ⟨b, 0, none⟩ vc').setCell ⟨b, 1, none⟩ vr').setCell ⟨b, 2, none⟩ vk') b vc' vr' vk' h' ct' := by
  have hb := S.box.lt
  have hlo := S.lo
  obtain ⟨rvs, own⟩ := o
  have ap : Apart (some b) (vc' :: vr' :: vk' :: rvs) := own.apart_below hb
  have x1 := S.box.keep B hb
  have x2 := S.res.keep B S.res.lt
  refine ⟨⟨rvs, (((own.put ap 0 vc').put ap 1 vr').put ap 2 vk').base (by omega), ap⟩, ((x1.put 0 vc').put 1 vr').put 2 vk', ((x2.other (by omega) _).other (by omega) _).other (by omega) _, ?_, hlo⟩
  exact (((S.bel.trans (B.mono S.bel.size)).setCell (p := ⟨b, 0, none⟩) (by show w.heap.size ≤ b; omega) _).setCell (p := ⟨b, 1, none⟩) (by show w.heap.size ≤ b; omega) _).setCell (p := ⟨b, 2, none⟩) (by show w.heap.size ≤ b; omega) _
end Go.Proofs.YtfgdenmlfloloaaDoor

namespace Go.Proofs.YtfgdenmlfloloaaDoor
open Go.RowKit
set_option maxRecDepth 100000
end Go.Proofs.YtfgdenmlfloloaaDoor

namespace Go.Proofs.YtfgdenmlfloloaaDoor
open Go.RowKit
set_option maxRecDepth 100000
theorem OwnCt.touched' {w w' : World} {base : Nat} {vc vr vk : Value} {rvs : List Value} {h : Hp} {ct : List Int} {l : List Value} (o : OwnCt w base vc vr vk rvs h ct) (ht : Touched w w' l) (ha : ∀ v ∈ vc :: vr :: vk :: rvs, ∀ u ∈ l, v.ownBlock = none ∨ v.ownBlock ≠ u.ownBlock) : OwnCt w' base vc vr vk rvs h ct :=
  ⟨o.heap.touched' ht (fun v hv => ha v (by simp only [List.mem_cons] at hv ⊢; rcases hv with e | e | e <;> simp [e])), row_touched o.cnts ht (ha vk (by simp)), o.sep⟩
end Go.Proofs.YtfgdenmlfloloaaDoor

namespace Go.Proofs.YtfgdenmlfloloaaDoor
open Go.RowKit
set_option maxRecDepth 100000
theorem upd_keep {L : Nat → Bool} {i k : Nat} (h : L k = true) : upd L i k = true := by
  unfold upd
  split
  · rfl
  · exact h
abbrev cmCs (o : Cm) : Array Value := #[.int .i64 o.op, .int .i64 o.a, .int .i64 o.b, .int .i64 o.c]
/-- what is known while an instruction is drawn: it lies in the box b, the reader in gr -/
structure CmSt (w wr : World) (gr N b : Nat) (o : Cm) : Prop where
  rd : Rd wr gr N
  grown : w.grownBy wr (some gr)
  box : Rw wr b 36 (cmCs o)
  res : Rw wr w.heap.size 36 (cmCs ⟨0, 0, 0, 0⟩)
  lo : w.heap.size < b
  old : gr < w.heap.size
section
variable {w wr w' : World} {gr N b : Nat} {o : Cm}
theorem CmSt.alloc (S : CmSt w wr gr N b o) (ob : Obj) : CmSt w (wr.alloc ob) gr N b o :=
  ⟨S.rd.below ((Below.refl wr.heap.size wr).alloc (Nat.le_refl _) ob) S.rd.lt, World.grownBy.trans S.grown (World.grownBy_alloc wr ob _), S.box.alloc ob, S.res.alloc ob, S.lo, S.old⟩
theorem CmSt.more {N' : Nat} (S : CmSt w wr gr N b o) (h : N ≤ N') : CmSt w wr gr N' b o := ⟨S.rd.more h, S.grown, S.box, S.res, S.lo, S.old⟩
theorem CmSt.put (S : CmSt w wr gr N b o) (i : Nat) (u : Value) {o' : Cm} (h : (cmCs o).setIfInBounds i u = cmCs o') : CmSt w (wr.setCell ⟨b, i, none⟩ u) gr N b o' := by
  have h1 := S.lo
  have h2 := S.old
  have hb : Below b wr (wr.setCell ⟨b, i, none⟩ u) := (Below.refl b wr).setCell (p := ⟨b, i, none⟩) (Nat.le_refl _) u
  exact ⟨S.rd.below hb (by omega), grown_below S.grown (hb.mono (by omega)), h ▸ S.box.put i u, S.res.other (by omega) u, h1, h2⟩
end
/-- a number out of a table, at any index -/
theorem Tbl.two (w : World) (_gr : Nat) (t : TypeId) (x y : Int) : Rw (w.alloc (.cells #[.int .i64 x, .int .i64 y] t)) w.heap.size t #[.int .i64 x, .int .i64 y] := Rw.new _ _ _
end Go.Proofs.YtfgdenmlfloloaaDoor

namespace Go.Proofs.YtfgdenmlfloloaaDoor
open Go.RowKit
set_option maxRecDepth 100000
theorem OwnCt.apart_box {w : World} {base g : Nat} {vc vr vk : Value} {rvs : List Value} {h : Hp} {l : List Int} {cs : Array Value} (o : OwnCt w base vc vr vk rvs h l) (hr : Rw w g 34 cs) : Apart (some g) (vc :: vr :: vk :: rvs) := fun v hv => by
  right
  intro e
  simp only [List.mem_cons] at hv
  rcases hv with rfl | rfl | rfl | hv
  · exact row_type o.heap.row hr (by decide) e.symm
  · exact row_type o.heap.roots hr (by decide) e.symm
  · exact row_type o.cnts hr (by decide) e.symm
  · obtain ⟨i, hi⟩ := List.mem_iff_getElem?.1 hv
    have hlt := (List.getElem?_eq_some_iff.1 hi).1
    have hc := List.getElem?_eq_getElem (show i < h.cs.length by rw [← o.heap.len]; exact hlt)
    exact row_type (o.heap.refs i _ v hc hi) hr (by decide) e.symm
theorem OwnCt.put3 {w : World} {base g : Nat} {vc vr vk : Value} {rvs : List Value} {h : Hp} {l : List Int} {cs : Array Value} (o : OwnCt w base vc vr vk rvs h l) (hr : Rw w g 34 cs) (x y z : Value) : OwnCt (((w.setCell ⟨g, 0, none⟩ x).setCell ⟨g, 1, none⟩ y).setCell ⟨g, 2, none⟩ z) base vc vr vk rvs h l :=
  ((o.put (o.apart_box hr) 0 x).put (o.apart_box hr) 1 y).put (o.apart_box hr) 2 z
theorem sizeC_small {h : Hp} (hz : sizeH h ≤ 1048576) : h.cs.length ≤ 1048576 ∧ h.rt.length ≤ 1048576 ∧ ∀ cl ∈ h.cs, cl.r.length ≤ 1048576 := by
  unfold sizeH at hz
  exact ⟨by omega, by omega, fun cl hcl => by have := refN_mem hcl; omega⟩
theorem tiny_stepC (h : Hp) (l : List Int) (o : Cm) : Tiny (Hps.stepCt h l o).1.1 ∧ (Hps.stepCt h l o).1.2.length ≤ 40 := by
  cases h1 : Hps.okCt h l
  · rw [Hps.stepCt_no (.inl h1)]
    exact ⟨tiny_zero, by simp⟩
  cases h2 : Hps.okCm o
  · rw [Hps.stepCt_no (.inr h2)]
    exact ⟨tiny_zero, by simp⟩
  · obtain ⟨hv, hl⟩ := Hps.okCt_iff.1 (Hps.stepCt_ok h1 h2)
    refine ⟨tiny_valid hv, ?_⟩
    rw [hl, Hps.counts_len]
    exact (Hps.valid_iff.1 hv).2.1
set_option maxHeartbeats 8000000 in
theorem exactStepCounted_walk (A R K : Option Addr) (n c m d p q : Nat) (h : Hp) (l : List Int) (o : Cm) (w : World) (hT : TzT w) (hs : HS w w.heap.size A n R m h) (hk : IS w w.heap.size K p l) (hn : n ≤ 9223372036854775807) (hm : m ≤ 9223372036854775807) (hp : p ≤ 9223372036854775807) (hb : ∀ cl ∈ h.cs, cl.r.length ≤ 9223372036854775807) :
    Calls Tryd.prog 6 #[ctV A n c R m d K p q, cmV o] w fun e w' => e = .returned (.bool true) ∧ Below w.heap.size w w' := by
  have b0 : Below w.heap.size w ((w.alloc (.cells #[.slice A n c, .slice R m d, .slice K p q] 57)).alloc (.cells #[.int .i64 o.op, .int .i64 o.a, .int .i64 o.b, .int .i64 o.c] 58)) := ((Below.refl _ _).alloc (Nat.le_refl _) _).alloc (by simp) _
  have s0 := hs.up b0
  have k0 := hk.up b0
  have q0 := (Rw.new w 57 #[.slice A n c, .slice R m d, .slice K p q]).alloc (.cells #[.int .i64 o.op, .int .i64 o.a, .int .i64 o.b, .int .i64 o.c] 58)
  have q1 := Rw.new (w.alloc (.cells #[.slice A n c, .slice R m d, .slice K p q] 57)) 58 #[.int .i64 o.op, .int .i64 o.a, .int .i64 o.b, .int .i64 o.c]
  rw [World.size_alloc] at q1
  have hlc := hs.cells.1
  have hlr := hs.roots.1
  have hlk := hk.1
  go_enter Tryd.func6, Tryd.ntmps6
  go_wp2_with fail
  refine (szCounted_any _ _ _ _ _ _ _ _ _ h l _ _ s0 k0 (by omega) (by omega) hn hm hp hb).mono ?_
  rintro e w1 ⟨rfl, b1⟩
  replace q0 := q0.keep b1 q0.lt
  replace q1 := q1.keep b1 q1.lt
  have bbk := b0.trans (b1.mono b0.size)
  clear b1 s0 k0 b0
  by_cases hz : sizeC h l ≤ 1048576
  case neg =>
    have HL : leftOf 1048576 (sizeC h l) = -1 := by rw [leftOf, if_neg (by omega)]
    rw [HL]
    go_wp2_with fail
    go_ret
    exact ⟨rfl, bbk⟩
  have HL : leftOf 1048576 (sizeC h l) = 1048576 - (sizeC h l : Int) := by rw [leftOf, if_pos (by omega)]
  rw [HL]
  have hz2 : sizeH h ≤ 1048576 ∧ l.length ≤ 1048576 := by unfold sizeC at hz; omega
  obtain ⟨z1, z2, z3⟩ := sizeC_small hz2.1
  have z4 := hz2.2
  rw [hlc] at z1
  rw [hlr] at z2
  rw [hlk] at z4
  have Z3 := Lib.hid (fun cl (hcl : cl ∈ h.cs) => show cl.r.length ≤ 1099511627776 by have := z3 cl hcl; omega)
  have HZX := Lib.hid (show sizeH h ≤ 1000000000 by omega)
  obtain ⟨lz, hlz⟩ : ∃ lz : Int, (1048576 : Int) - (sizeC h l : Int) = lz := ⟨_, rfl⟩
  have hlz0 : decide (lz < 0) = false := decide_eq_false (by omega)
  rw [hlz]
  obtain ⟨ga, hga⟩ : ∃ ga, w.heap.size = ga := ⟨_, rfl⟩
  rw [hga] at q0 q1 ⊢
  have HGA := Lib.hid hga
  have hgl := q0.lt
  have hgb := q1.lt
  have xa0 : w1.cell? ⟨ga, 0, none⟩ = some (.slice A n c) := q0.cell 0
  have xa1 : w1.cell? ⟨ga, 1, none⟩ = some (.slice R m d) := q0.cell 1
  have xa2 : w1.cell? ⟨ga, 2, none⟩ = some (.slice K p q) := q0.cell 2
  have xb0 : w1.cell? ⟨ga + 1, 0, none⟩ = some (.int .i64 o.op) := q1.cell 0
  have xb1 : w1.cell? ⟨ga + 1, 1, none⟩ = some (.int .i64 o.a) := q1.cell 1
  have xb2 : w1.cell? ⟨ga + 1, 2, none⟩ = some (.int .i64 o.b) := q1.cell 2
  have xb3 : w1.cell? ⟨ga + 1, 3, none⟩ = some (.int .i64 o.c) := q1.cell 3
  clear HL hlz hz hz2 z3 hb hlc hlr hlk hga
  obtain ⟨T, TC⟩ := tiny_stepC h l o
  obtain ⟨hh, hhe⟩ : ∃ hh, (Hps.stepCt h l o).1.1 = hh := ⟨_, rfl⟩
  obtain ⟨ct, hce⟩ : ∃ ct, (Hps.stepCt h l o).1.2 = ct := ⟨_, rfl⟩
  obtain ⟨vb, hvb⟩ : ∃ vb, (Hps.stepCt h l o).2 = vb := ⟨_, rfl⟩
  rw [hhe] at T
  rw [hce] at TC
  have HH := Lib.hid hhe
  have HCT := Lib.hid hce
  have HVB := Lib.hid hvb
  obtain ⟨pp, hpp⟩ : ∃ pp, ct.length = pp := ⟨_, rfl⟩
  have hp40 : pp ≤ 40 := by omega
  have E5 := Lib.hid hpp
  have E6 := Lib.hid hk.1
  obtain ⟨nn, hnn⟩ : ∃ nn, hh.cs.length = nn := ⟨_, rfl⟩
  obtain ⟨mm, hmm⟩ : ∃ mm, hh.rt.length = mm := ⟨_, rfl⟩
  have hn40 : nn ≤ 40 := by have := T.1; omega
  have hm4 : mm ≤ 4 := by have := T.2.1; omega
  have H3 := Lib.hid (fun cl (hcl : cl ∈ hh.cs) => show cl.r.length ≤ 1099511627776 by have := T.2.2 cl hcl; omega)
  have HSZ := Lib.hid T.size
  have E0 := Lib.hid hnn
  have E4 := Lib.hid hmm
  have EA := Lib.hid hs.cells.1
  have EB := Lib.hid hs.roots.1
  have hvv : (vb != vb) = false := by cases vb <;> rfl
  obtain ⟨kv, hkv⟩ : ∃ kv, markKH 1 hh + (pp : Int) = kv := ⟨_, rfl⟩
  have hk0 : decide (kv < 0) = false := by
    rw [← hkv]
    refine decide_eq_false ?_
    simp only [markKH, mkK]
    omega
  have hkk : (kv != kv) = false := by simp
  obtain ⟨kx, hkx⟩ : ∃ kx, markKH 1 h + (p : Int) = kx := ⟨_, rfl⟩
  have hx0 : decide (kx < 0) = false := by
    rw [← hkx]
    refine decide_eq_false ?_
    simp only [markKH, mkK]
    omega
  have HKV := Lib.hid hkv
  have HKX := Lib.hid hkx
  clear T TC hhe hce hvb hpp hnn hmm hkv hkx
  go_upto_region 5 with fail
  refine wp_region_inv (by kernel_rfl) (by kernel_rfl) (fun L ac ww => ∃ t6 t7 t21 t22 t23 t24 t25 t26 t27 t28 : Value, ac = { tmps := #[ctV A n c R m d K p q, cmV o, Value.pointer (some { block := ga, off := 0 }), Value.pointer (some { block := ga + 1, off := 0 }), Value.bool false, Value.int IntKind.i64 lz, t6, t7, undef, undef, undef, undef, undef, undef, undef, undef, Value.agg #[Value.slice A n c, Value.slice R m d, Value.slice K p q], Value.int IntKind.i64 1048576, Value.int IntKind.i64 lz, Value.int IntKind.i64 lz, Value.bool false, t21, t22, t23, t24, t25, t26, t27, t28, undef, undef, undef, undef, undef, undef, undef, undef, undef, undef, undef, undef, undef, undef, undef, undef, undef, undef, undef, undef, undef, undef, undef, undef, undef, undef, undef, undef, undef, undef, undef, undef, undef, undef, undef, undef, undef, undef, undef, undef, undef, undef, undef, undef, undef, undef, undef, undef, undef, undef, undef, undef, undef, undef, undef, undef, undef, undef, undef, undef, undef, undef, undef, undef, undef, undef, undef, undef, undef, undef, undef, undef, undef, undef, undef], defers := [] } ∧ (Below w1.heap.size w1 ww) ∧ (L 0 = true → t22 = .agg #[.slice A n c, .slice R m d, .slice K p q]) ∧ (L 1 = true → (L 4 = true ∨ ∃ u1 u2 u3 : Nat, t23 = .agg #[.slice (some ⟨u1, 0, none⟩) n n, .slice (some ⟨u2, 0, none⟩) m m, .slice (some ⟨u3, 0, none⟩) p p] ∧ HS ww ww.heap.size (some ⟨u1, 0, none⟩) n (some ⟨u2, 0, none⟩) m h ∧ IS ww ww.heap.size (some ⟨u3, 0, none⟩) p l)) ∧ (L 2 = true → t24 = .agg #[.int .i64 o.op, .int .i64 o.a, .int .i64 o.b, .int .i64 o.c]) ∧ (L 3 = true → t25 = .agg #[.int .i64 o.op, .int .i64 o.a, .int .i64 o.b, .int .i64 o.c]) ∧ (L 4 = true → ∃ (A' : Option Addr) (c' : Nat) (R' : Option Addr) (d' : Nat) (Kz : Option Addr) (qz : Nat) (rvs : List Value), t26 = .tuple #[.agg #[.slice A' nn c', .slice R' mm d', .slice Kz pp qz], .bool vb] ∧ OwnCt ww w1.heap.size (.slice A' nn c') (.slice R' mm d') (.slice Kz pp qz) rvs hh ct ∧ L 4 = true) ∧ (L 5 = true → ∃ (A' : Option Addr) (c' : Nat) (R' : Option Addr) (d' : Nat) (Kz : Option Addr) (qz : Nat) (rvs : List Value), t21 = .tuple #[.agg #[.slice A' nn c', .slice R' mm d', .slice Kz pp qz], .bool vb] ∧ OwnCt ww w1.heap.size (.slice A' nn c') (.slice R' mm d') (.slice Kz pp qz) rvs hh ct ∧ L 4 = true) ∧ (L 6 = true → ∃ (A' : Option Addr) (c' : Nat) (R' : Option Addr) (d' : Nat) (Kz : Option Addr) (qz : Nat) (rvs : List Value), t27 = .agg #[.slice A' nn c', .slice R' mm d', .slice Kz pp qz] ∧ OwnCt ww w1.heap.size (.slice A' nn c') (.slice R' mm d') (.slice Kz pp qz) rvs hh ct ∧ L 4 = true) ∧ (L 7 = true → t28 = .bool vb) ∧ (L 8 = true → ∃ g : Nat, t6 = .pointer (some ⟨g, 0, none⟩) ∧ w1.heap.size ≤ g ∧ (L 9 = true ∨ Rw ww g 34 #[.slice none 0 0, .slice none 0 0, .slice none 0 0])) ∧ (L 9 = true → ∃ (g : Nat) (A' : Option Addr) (c' : Nat) (R' : Option Addr) (d' : Nat) (Kz : Option Addr) (qz : Nat) (rvs : List Value), t6 = .pointer (some ⟨g, 0, none⟩) ∧ w1.heap.size ≤ g ∧ Rw ww g 34 #[.slice A' nn c', .slice R' mm d', .slice Kz pp qz] ∧ OwnCt ww w1.heap.size (.slice A' nn c') (.slice R' mm d') (.slice Kz pp qz) rvs hh ct ∧ L 8 = true ∧ L 4 = true) ∧ (L 10 = true → t7 = .bool vb)) ?h0 ?hstep ?hdone
  case h0 => exact ⟨_, _, _, _, _, _, _, _, _, _, rfl, (Below.refl _ _).drew, (fun h => absurd h Bool.false_ne_true), (fun h => absurd h Bool.false_ne_true), (fun h => absurd h Bool.false_ne_true), (fun h => absurd h Bool.false_ne_true), (fun h => absurd h Bool.false_ne_true), (fun h => absurd h Bool.false_ne_true), (fun h => absurd h Bool.false_ne_true), (fun h => absurd h Bool.false_ne_true), (fun h => absurd h Bool.false_ne_true), (fun h => absurd h Bool.false_ne_true), (fun h => absurd h Bool.false_ne_true)⟩
  case hstep =>
    rintro L ac ww i o ho hL hd ⟨t6, t7, t21, t22, t23, t24, t25, t26, t27, t28, rfl, I0, f0, f1, f2, f3, f4, f5, f6, f7, f8, f9, f10⟩
    have hi : i < 11 := (Array.getElem?_eq_some_iff.1 ho).1
    obtain rfl | rfl | rfl | rfl | rfl | rfl | rfl | rfl | rfl | rfl | rfl : i = 0 ∨ i = 1 ∨ i = 2 ∨ i = 3 ∨ i = 4 ∨ i = 5 ∨ i = 6 ∨ i = 7 ∨ i = 8 ∨ i = 9 ∨ i = 10 := by omega
    · obtain rfl := Option.some.inj ho
      have y0 : ww.cell? ⟨ga, 0, none⟩ = some (.slice A n c) := (I0.cell (p := ⟨ga, 0, none⟩) hgl).trans xa0
      have y1 : ww.cell? ⟨ga, 1, none⟩ = some (.slice R m d) := (I0.cell (p := ⟨ga, 1, none⟩) hgl).trans xa1
      have y2 : ww.cell? ⟨ga, 2, none⟩ = some (.slice K p q) := (I0.cell (p := ⟨ga, 2, none⟩) hgl).trans xa2
      refine wpOp_step rfl (fun K' hK => ?_)
      go_simp
      refine hK _ _ ?_
      exact ⟨_, _, _, _, _, _, _, _, _, _, rfl, (I0), (fun _ => rfl), (fun h => (f1 (upd_ne h (by decide))).imp (fun e => upd_keep e) id), (kp f2), (kp f3), (fun h => by
        obtain ⟨A', c', R', d', Kz, qz, rvs, e, q, l⟩ := f4 (upd_ne h (by decide))
        exact ⟨A', c', R', d', Kz, qz, rvs, e, q, upd_keep l⟩), (fun h => by
        obtain ⟨A', c', R', d', Kz, qz, rvs, e, q, l⟩ := f5 (upd_ne h (by decide))
        exact ⟨A', c', R', d', Kz, qz, rvs, e, q, upd_keep l⟩), (fun h => by
        obtain ⟨A', c', R', d', Kz, qz, rvs, e, q, l⟩ := f6 (upd_ne h (by decide))
        exact ⟨A', c', R', d', Kz, qz, rvs, e, q, upd_keep l⟩), (kp f7), (fun h => by
        obtain ⟨g, e, hg, r⟩ := f8 (upd_ne h (by decide))
        exact ⟨g, e, hg, r.imp (fun e => upd_keep e) (fun r => r)⟩), (fun h => by
        obtain ⟨g, A', c', R', d', Kz, qz, rvs, e, hg, r, q, la, lf⟩ := f9 (upd_ne h (by decide))
        exact ⟨g, A', c', R', d', Kz, qz, rvs, e, hg, r, q, upd_keep la, upd_keep lf⟩), (kp f10)⟩
    · obtain rfl := Option.some.inj ho
      have g0 := f0 (hd ⟨0, .data⟩ (by simp) rfl)
      subst g0
      refine wpOp_step rfl (fun K' hK => ?_)
      go_simp
      refine (toCounted_any _ _ _ _ _ _ _ _ _ h l ww (hs.up (bbk.trans (I0.mono bbk.size))) (hk.up (bbk.trans (I0.mono bbk.size))) (by omega) (by omega) (by omega) Z3.out).mono ?_
      rintro e w' ⟨u1, u2, u3, rfl, oc, b5⟩
      obtain ⟨rv, ow⟩ := oc
      have hr9 := ow.heap.reads
      have hk9 := ow.cnts.reads
      refine hK _ _ ?_
      exact ⟨_, _, _, _, _, _, _, _, _, _, rfl, (I0.trans (b5.mono I0.size)), (kp f0), (fun _ => .inr ⟨u1, u2, u3, rfl, hr9, hk9⟩), (kp f2), (kp f3), (fun h => by
        obtain ⟨A', c', R', d', Kz, qz, rvs, e, q, l⟩ := f4 (upd_ne h (by decide))
        exact ⟨A', c', R', d', Kz, qz, rvs, e, q.below b5 (Nat.le_refl _), upd_keep l⟩), (fun h => by
        obtain ⟨A', c', R', d', Kz, qz, rvs, e, q, l⟩ := f5 (upd_ne h (by decide))
        exact ⟨A', c', R', d', Kz, qz, rvs, e, q.below b5 (Nat.le_refl _), upd_keep l⟩), (fun h => by
        obtain ⟨A', c', R', d', Kz, qz, rvs, e, q, l⟩ := f6 (upd_ne h (by decide))
        exact ⟨A', c', R', d', Kz, qz, rvs, e, q.below b5 (Nat.le_refl _), upd_keep l⟩), (kp f7), (fun h => by
        obtain ⟨g, e, hg, r⟩ := f8 (upd_ne h (by decide))
        exact ⟨g, e, hg, r.imp (fun e => upd_keep e) (fun r => r.keep b5 r.lt)⟩), (fun h => by
        obtain ⟨g, A', c', R', d', Kz, qz, rvs, e, hg, r, q, la, lf⟩ := f9 (upd_ne h (by decide))
        exact ⟨g, A', c', R', d', Kz, qz, rvs, e, hg, r.keep b5 r.lt, q.below b5 (Nat.le_refl _), upd_keep la, upd_keep lf⟩), (kp f10)⟩
    · obtain rfl := Option.some.inj ho
      have y0 : ww.cell? ⟨ga + 1, 0, none⟩ = some (.int .i64 o.op) := (I0.cell (p := ⟨ga + 1, 0, none⟩) hgb).trans xb0
      have y1 : ww.cell? ⟨ga + 1, 1, none⟩ = some (.int .i64 o.a) := (I0.cell (p := ⟨ga + 1, 1, none⟩) hgb).trans xb1
      have y2 : ww.cell? ⟨ga + 1, 2, none⟩ = some (.int .i64 o.b) := (I0.cell (p := ⟨ga + 1, 2, none⟩) hgb).trans xb2
      have y3 : ww.cell? ⟨ga + 1, 3, none⟩ = some (.int .i64 o.c) := (I0.cell (p := ⟨ga + 1, 3, none⟩) hgb).trans xb3
      refine wpOp_step rfl (fun K' hK => ?_)
      go_simp
      refine hK _ _ ?_
      exact ⟨_, _, _, _, _, _, _, _, _, _, rfl, (I0), (kp f0), (fun h => (f1 (upd_ne h (by decide))).imp (fun e => upd_keep e) id), (fun _ => rfl), (kp f3), (fun h => by
        obtain ⟨A', c', R', d', Kz, qz, rvs, e, q, l⟩ := f4 (upd_ne h (by decide))
        exact ⟨A', c', R', d', Kz, qz, rvs, e, q, upd_keep l⟩), (fun h => by
        obtain ⟨A', c', R', d', Kz, qz, rvs, e, q, l⟩ := f5 (upd_ne h (by decide))
        exact ⟨A', c', R', d', Kz, qz, rvs, e, q, upd_keep l⟩), (fun h => by
        obtain ⟨A', c', R', d', Kz, qz, rvs, e, q, l⟩ := f6 (upd_ne h (by decide))
        exact ⟨A', c', R', d', Kz, qz, rvs, e, q, upd_keep l⟩), (kp f7), (fun h => by
        obtain ⟨g, e, hg, r⟩ := f8 (upd_ne h (by decide))
        exact ⟨g, e, hg, r.imp (fun e => upd_keep e) (fun r => r)⟩), (fun h => by
        obtain ⟨g, A', c', R', d', Kz, qz, rvs, e, hg, r, q, la, lf⟩ := f9 (upd_ne h (by decide))
        exact ⟨g, A', c', R', d', Kz, qz, rvs, e, hg, r, q, upd_keep la, upd_keep lf⟩), (kp f10)⟩
    · obtain rfl := Option.some.inj ho
      have g2 := f2 (hd ⟨2, .data⟩ (by simp) rfl)
      subst g2
      refine wpOp_step rfl (fun K' hK => ?_)
      go_simp
      refine (toCommand_any o ww).mono ?_
      rintro e w' ⟨rfl, b5⟩
      refine hK _ _ ?_
      exact ⟨_, _, _, _, _, _, _, _, _, _, rfl, (I0.trans (b5.mono I0.size)), (kp f0), (fun h => (f1 (upd_ne h (by decide))).imp (fun e => upd_keep e) (fun ⟨u1, u2, u3, e, q⟩ => ⟨u1, u2, u3, e, q.1.up b5, q.2.up b5⟩)), (kp f2), (fun _ => rfl), (fun h => by
        obtain ⟨A', c', R', d', Kz, qz, rvs, e, q, l⟩ := f4 (upd_ne h (by decide))
        exact ⟨A', c', R', d', Kz, qz, rvs, e, q.below b5 (Nat.le_refl _), upd_keep l⟩), (fun h => by
        obtain ⟨A', c', R', d', Kz, qz, rvs, e, q, l⟩ := f5 (upd_ne h (by decide))
        exact ⟨A', c', R', d', Kz, qz, rvs, e, q.below b5 (Nat.le_refl _), upd_keep l⟩), (fun h => by
        obtain ⟨A', c', R', d', Kz, qz, rvs, e, q, l⟩ := f6 (upd_ne h (by decide))
        exact ⟨A', c', R', d', Kz, qz, rvs, e, q.below b5 (Nat.le_refl _), upd_keep l⟩), (kp f7), (fun h => by
        obtain ⟨g, e, hg, r⟩ := f8 (upd_ne h (by decide))
        exact ⟨g, e, hg, r.imp (fun e => upd_keep e) (fun r => r.keep b5 r.lt)⟩), (fun h => by
        obtain ⟨g, A', c', R', d', Kz, qz, rvs, e, hg, r, q, la, lf⟩ := f9 (upd_ne h (by decide))
        exact ⟨g, A', c', R', d', Kz, qz, rvs, e, hg, r.keep b5 r.lt, q.below b5 (Nat.le_refl _), upd_keep la, upd_keep lf⟩), (kp f10)⟩
    · obtain rfl := Option.some.inj ho
      have g1 := f1 (hd ⟨1, .data⟩ (by simp) rfl)
      have g3 := f3 (hd ⟨3, .data⟩ (by simp) rfl)
      subst g3
      rcases g1 with q | ⟨u1, u2, u3, rfl, hr9, hk9⟩
      · rw [hL] at q
        cases q
      refine wpOp_step rfl (fun K' hK => ?_)
      go_simp
      refine (mStepCounted_any _ _ _ _ _ _ _ _ _ h l o ww (hr9) (hk9) (by omega) (by omega) (by omega)).mono ?_
      rw [HH.out, HCT.out, HVB.out]
      rintro e w' ⟨vc, vr, vk, rfl, ⟨rvs, ow⟩, b5⟩
      obtain ⟨A', c', R', d', Kz, qz, rfl, rfl, rfl⟩ := ow.slices
      rw [E0.out, E4.out, E5.out] at ow ⊢
      have ob := ow.base I0.size
      refine hK _ _ ?_
      exact ⟨_, _, _, _, _, _, _, _, _, _, rfl, (I0.trans (b5.mono I0.size)), (kp f0), (fun _ => .inl upd_self), (kp f2), (kp f3), (fun _ => ⟨A', c', R', d', Kz, qz, rvs, rfl, ob, upd_self⟩), (fun h => by
        obtain ⟨A', c', R', d', Kz, qz, rvs, e, q, l⟩ := f5 (upd_ne h (by decide))
        rw [hL] at l
        cases l), (fun h => by
        obtain ⟨A', c', R', d', Kz, qz, rvs, e, q, l⟩ := f6 (upd_ne h (by decide))
        rw [hL] at l
        cases l), (kp f7), (fun h => by
        obtain ⟨g, e, hg, r⟩ := f8 (upd_ne h (by decide))
        exact ⟨g, e, hg, r.imp (fun e => upd_keep e) (fun r => r.keep b5 r.lt)⟩), (fun h => by
        obtain ⟨g, A', c', R', d', Kz, qz, rvs, e, hg, r, q, la, lf⟩ := f9 (upd_ne h (by decide))
        rw [hL] at lf
        cases lf), (kp f10)⟩
    · obtain rfl := Option.some.inj ho
      have g4 := f4 (hd ⟨4, .data⟩ (by simp) rfl)
      obtain ⟨A', c', R', d', Kz, qz, rvs, rfl, ow, lf⟩ := g4
      refine wpOp_step rfl (fun K' hK => ?_)
      go_simp
      refine hK _ _ ?_
      exact ⟨_, _, _, _, _, _, _, _, _, _, rfl, (I0), (kp f0), (fun h => (f1 (upd_ne h (by decide))).imp (fun e => upd_keep e) id), (kp f2), (kp f3), (fun _ => ⟨A', c', R', d', Kz, qz, rvs, rfl, ow, upd_keep lf⟩), (fun _ => ⟨A', c', R', d', Kz, qz, rvs, rfl, ow, upd_keep lf⟩), (fun h => by
        obtain ⟨A', c', R', d', Kz, qz, rvs, e, q, l⟩ := f6 (upd_ne h (by decide))
        exact ⟨A', c', R', d', Kz, qz, rvs, e, q, upd_keep l⟩), (kp f7), (fun h => by
        obtain ⟨g, e, hg, r⟩ := f8 (upd_ne h (by decide))
        exact ⟨g, e, hg, r.imp (fun e => upd_keep e) (fun r => r)⟩), (fun h => by
        obtain ⟨g, A', c', R', d', Kz, qz, rvs, e, hg, r, q, la, lf⟩ := f9 (upd_ne h (by decide))
        exact ⟨g, A', c', R', d', Kz, qz, rvs, e, hg, r, q, upd_keep la, upd_keep lf⟩), (kp f10)⟩
    · obtain rfl := Option.some.inj ho
      have g5 := f5 (hd ⟨5, .data⟩ (by simp) rfl)
      obtain ⟨A', c', R', d', Kz, qz, rvs, rfl, ow, lf⟩ := g5
      refine wpOp_step rfl (fun K' hK => ?_)
      go_simp
      refine hK _ _ ?_
      exact ⟨_, _, _, _, _, _, _, _, _, _, rfl, (I0), (kp f0), (fun h => (f1 (upd_ne h (by decide))).imp (fun e => upd_keep e) id), (kp f2), (kp f3), (fun h => by
        obtain ⟨A', c', R', d', Kz, qz, rvs, e, q, l⟩ := f4 (upd_ne h (by decide))
        exact ⟨A', c', R', d', Kz, qz, rvs, e, q, upd_keep l⟩), (fun _ => ⟨A', c', R', d', Kz, qz, rvs, rfl, ow, upd_keep lf⟩), (fun _ => ⟨A', c', R', d', Kz, qz, rvs, rfl, ow, upd_keep lf⟩), (kp f7), (fun h => by
        obtain ⟨g, e, hg, r⟩ := f8 (upd_ne h (by decide))
        exact ⟨g, e, hg, r.imp (fun e => upd_keep e) (fun r => r)⟩), (fun h => by
        obtain ⟨g, A', c', R', d', Kz, qz, rvs, e, hg, r, q, la, lf⟩ := f9 (upd_ne h (by decide))
        exact ⟨g, A', c', R', d', Kz, qz, rvs, e, hg, r, q, upd_keep la, upd_keep lf⟩), (kp f10)⟩
    · obtain rfl := Option.some.inj ho
      have g5 := f5 (hd ⟨5, .data⟩ (by simp) rfl)
      obtain ⟨A', c', R', d', Kz, qz, rvs, rfl, ow, lf⟩ := g5
      refine wpOp_step rfl (fun K' hK => ?_)
      go_simp
      refine hK _ _ ?_
      exact ⟨_, _, _, _, _, _, _, _, _, _, rfl, (I0), (kp f0), (fun h => (f1 (upd_ne h (by decide))).imp (fun e => upd_keep e) id), (kp f2), (kp f3), (fun h => by
        obtain ⟨A', c', R', d', Kz, qz, rvs, e, q, l⟩ := f4 (upd_ne h (by decide))
        exact ⟨A', c', R', d', Kz, qz, rvs, e, q, upd_keep l⟩), (fun _ => ⟨A', c', R', d', Kz, qz, rvs, rfl, ow, upd_keep lf⟩), (fun h => by
        obtain ⟨A', c', R', d', Kz, qz, rvs, e, q, l⟩ := f6 (upd_ne h (by decide))
        exact ⟨A', c', R', d', Kz, qz, rvs, e, q, upd_keep l⟩), (fun _ => rfl), (fun h => by
        obtain ⟨g, e, hg, r⟩ := f8 (upd_ne h (by decide))
        exact ⟨g, e, hg, r.imp (fun e => upd_keep e) (fun r => r)⟩), (fun h => by
        obtain ⟨g, A', c', R', d', Kz, qz, rvs, e, hg, r, q, la, lf⟩ := f9 (upd_ne h (by decide))
        exact ⟨g, A', c', R', d', Kz, qz, rvs, e, hg, r, q, upd_keep la, upd_keep lf⟩), (kp f10)⟩
    · obtain rfl := Option.some.inj ho
      have bA : Below ww.heap.size ww (ww.alloc (.cells #[.slice none 0 0, .slice none 0 0, .slice none 0 0] 34)) := (Below.refl _ _).alloc (Nat.le_refl _) _
      refine wpOp_step rfl (fun K' hK => ?_)
      go_simp
      refine hK _ _ ?_
      exact ⟨_, _, _, _, _, _, _, _, _, _, rfl, (I0.trans (bA.mono I0.size)), (kp f0), (fun h => (f1 (upd_ne h (by decide))).imp (fun e => upd_keep e) (fun ⟨u1, u2, u3, e, q⟩ => ⟨u1, u2, u3, e, q.1.up bA, q.2.up bA⟩)), (kp f2), (kp f3), (fun h => by
        obtain ⟨A', c', R', d', Kz, qz, rvs, e, q, l⟩ := f4 (upd_ne h (by decide))
        exact ⟨A', c', R', d', Kz, qz, rvs, e, q.below bA (Nat.le_refl _), upd_keep l⟩), (fun h => by
        obtain ⟨A', c', R', d', Kz, qz, rvs, e, q, l⟩ := f5 (upd_ne h (by decide))
        exact ⟨A', c', R', d', Kz, qz, rvs, e, q.below bA (Nat.le_refl _), upd_keep l⟩), (fun h => by
        obtain ⟨A', c', R', d', Kz, qz, rvs, e, q, l⟩ := f6 (upd_ne h (by decide))
        exact ⟨A', c', R', d', Kz, qz, rvs, e, q.below bA (Nat.le_refl _), upd_keep l⟩), (kp f7), (fun _ => ⟨ww.heap.size, rfl, I0.size, .inr (Rw.new ww _ _)⟩), (fun h => by
        obtain ⟨g, A', c', R', d', Kz, qz, rvs, e, hg, r, q, la, lf⟩ := f9 (upd_ne h (by decide))
        rw [hL] at la
        cases la), (kp f10)⟩
    · obtain rfl := Option.some.inj ho
      have g6 := f6 (hd ⟨6, .data⟩ (by simp) rfl)
      have g8 := f8 (hd ⟨8, .data⟩ (by simp) rfl)
      obtain ⟨g, rfl, hg, rz⟩ := g8
      rcases rz with q | rz
      · rw [hL] at q
        cases q
      obtain ⟨A', c', R', d', Kz, qz, rvs, rfl, ow, lf⟩ := g6
      have u0 := rz.cell 0
      have u1 := rz.cell 1
      have u2 := rz.cell 2
      have v0 := rz.frozen 0
      have v1 := rz.frozen 1
      have v2 := rz.frozen 2
      simp at u0 u1 u2
      have la := hd ⟨8, .data⟩ (by simp) rfl
      refine wpOp_step rfl (fun K' hK => ?_)
      go_simp
      refine hK _ _ ?_
      exact ⟨_, _, _, _, _, _, _, _, _, _, rfl, (((I0.setCell (p := ⟨g, 0, none⟩) hg _).setCell (p := ⟨g, 1, none⟩) hg _).setCell (p := ⟨g, 2, none⟩) hg _), (kp f0), (fun _ => .inl (upd_keep lf)), (kp f2), (kp f3), (fun h => by
        obtain ⟨A', c', R', d', Kz, qz, rvs, e, q, l⟩ := f4 (upd_ne h (by decide))
        exact ⟨A', c', R', d', Kz, qz, rvs, e, q.put3 rz _ _ _, upd_keep l⟩), (fun h => by
        obtain ⟨A', c', R', d', Kz, qz, rvs, e, q, l⟩ := f5 (upd_ne h (by decide))
        exact ⟨A', c', R', d', Kz, qz, rvs, e, q.put3 rz _ _ _, upd_keep l⟩), (fun _ => ⟨A', c', R', d', Kz, qz, rvs, rfl, ow.put3 rz _ _ _, upd_keep lf⟩), (kp f7), (fun _ => ⟨g, rfl, hg, .inl upd_self⟩), (fun _ => ⟨g, A', c', R', d', Kz, qz, rvs, rfl, hg, ((rz.put 0 _).put 1 _).put 2 _, ow.put3 rz _ _ _, upd_keep la, upd_keep lf⟩), (kp f10)⟩
    · obtain rfl := Option.some.inj ho
      have g7 := f7 (hd ⟨7, .data⟩ (by simp) rfl)
      subst g7
      refine wpOp_step rfl (fun K' hK => ?_)
      go_simp
      refine hK _ _ ?_
      exact ⟨_, _, _, _, _, _, _, _, _, _, rfl, (I0), (kp f0), (fun h => (f1 (upd_ne h (by decide))).imp (fun e => upd_keep e) id), (kp f2), (kp f3), (fun h => by
        obtain ⟨A', c', R', d', Kz, qz, rvs, e, q, l⟩ := f4 (upd_ne h (by decide))
        exact ⟨A', c', R', d', Kz, qz, rvs, e, q, upd_keep l⟩), (fun h => by
        obtain ⟨A', c', R', d', Kz, qz, rvs, e, q, l⟩ := f5 (upd_ne h (by decide))
        exact ⟨A', c', R', d', Kz, qz, rvs, e, q, upd_keep l⟩), (fun h => by
        obtain ⟨A', c', R', d', Kz, qz, rvs, e, q, l⟩ := f6 (upd_ne h (by decide))
        exact ⟨A', c', R', d', Kz, qz, rvs, e, q, upd_keep l⟩), (kp f7), (fun h => by
        obtain ⟨g, e, hg, r⟩ := f8 (upd_ne h (by decide))
        exact ⟨g, e, hg, r.imp (fun e => upd_keep e) (fun r => r)⟩), (fun h => by
        obtain ⟨g, A', c', R', d', Kz, qz, rvs, e, hg, r, q, la, lf⟩ := f9 (upd_ne h (by decide))
        exact ⟨g, A', c', R', d', Kz, qz, rvs, e, hg, r, q, upd_keep la, upd_keep lf⟩), (fun _ => rfl)⟩
  case hdone =>
    rintro L ac ww hall ⟨t6, t7, t21, t22, t23, t24, t25, t26, t27, t28, rfl, I0, f0, f1, f2, f3, f4, f5, f6, f7, f8, f9, f10⟩
    have e0 := f0 (hall 0 (by decide))
    have e1 := f1 (hall 1 (by decide))
    have e2 := f2 (hall 2 (by decide))
    have e3 := f3 (hall 3 (by decide))
    have e4 := f4 (hall 4 (by decide))
    have e5 := f5 (hall 5 (by decide))
    have e6 := f6 (hall 6 (by decide))
    have e7 := f7 (hall 7 (by decide))
    have e8 := f8 (hall 8 (by decide))
    have e9 := f9 (hall 9 (by decide))
    have e10 := f10 (hall 10 (by decide))
    clear f0 f1 f2 f3 f4 f5 f6 f7 f8 f9 f10
    have ht7 := e10
    obtain ⟨g5, A0, c0, R0, d0, K0, q09, rvs0, ep, hg5, x0, o0, -⟩ := e9
    clear e0 e1 e2 e3 e4 e5 e6 e7 e8 e10 hall
    subst ht7 ep
    have hq1 := hgb
    have bb1 := bbk.trans (I0.mono bbk.size)
    replace q0 := q0.keep I0 q0.lt
    replace q1 := q1.keep I0 q1.lt
    clear xa0 xa1 xa2 xb0 xb1 xb2 xb3 hgl hgb bbk I0
    generalize ww = w5 at *
    have hp5 := x0.lt
    have hs5 := bb1.size
    have s1 := hs.up bb1
    have k1 := hk.up bb1
    have SA := Lib.hid (fun u (hu : u ∈ (Value.slice A0 nn c0) :: (Value.slice R0 mm d0) :: (Value.slice K0 pp q09) :: rvs0) k (hk : u.ownBlock = some k) => (o0.blocks hu hk).2)
    have xa0 : w5.cell? ⟨ga, 0, none⟩ = some (.slice A n c) := q0.cell 0
    have xa1 : w5.cell? ⟨ga, 1, none⟩ = some (.slice R m d) := q0.cell 1
    have xa2 : w5.cell? ⟨ga, 2, none⟩ = some (.slice K p q) := q0.cell 2
    go_wp2_with fail
    refine (toCounted_any _ _ _ _ _ _ _ _ _ h l _ s1 k1 (by omega) (by omega) (by omega) Z3.out).mono ?_
    rintro e w6 ⟨g1, g2, g3, rfl, ⟨rvsx, own⟩, b2⟩
    have bA : Below w6.heap.size w6 (w6.alloc (.cells #[.slice (some ⟨g1, 0, none⟩) n n, .slice (some ⟨g2, 0, none⟩) m m, .slice (some ⟨g3, 0, none⟩) p p] 34)) := (Below.refl _ _).alloc (Nat.le_refl _) _
    have rx := own.heap.reads.up bA
    have kx := own.cnts.reads.up bA
    have ox := own.below bA (Nat.le_refl _)
    have qx := Rw.new w6 34 #[.slice (some ⟨g1, 0, none⟩) n n, .slice (some ⟨g2, 0, none⟩) m m, .slice (some ⟨g3, 0, none⟩) p p]
    replace q0 := (q0.keep b2 q0.lt).alloc (.cells #[.slice (some ⟨g1, 0, none⟩) n n, .slice (some ⟨g2, 0, none⟩) m m, .slice (some ⟨g3, 0, none⟩) p p] 34)
    replace q1 := (q1.keep b2 q1.lt).alloc (.cells #[.slice (some ⟨g1, 0, none⟩) n n, .slice (some ⟨g2, 0, none⟩) m m, .slice (some ⟨g3, 0, none⟩) p p] 34)
    have bbk := (bb1.trans (b2.mono bb1.size)).trans (bA.mono (bb1.trans (b2.mono bb1.size)).size)
    have hwx := b2.size
    replace x0 := (x0.keep b2 x0.lt).alloc (.cells #[.slice (some ⟨g1, 0, none⟩) n n, .slice (some ⟨g2, 0, none⟩) m m, .slice (some ⟨g3, 0, none⟩) p p] 34)
    replace o0 := (o0.below b2 (Nat.le_refl _)).below bA (Nat.le_refl _)
    have SX := Lib.hid (fun u (hu : u ∈ (Value.slice (some ⟨g1, 0, none⟩) n n) :: (Value.slice (some ⟨g2, 0, none⟩) m m) :: (Value.slice (some ⟨g3, 0, none⟩) p p) :: rvsx) k (hk : u.ownBlock = some k) => own.blocks hu hk)
    clear own bA b2 s1 k1 xa0 xa1 xa2
    go_upto_region 7 with fail
    generalize w6.alloc (.cells #[.slice (some ⟨g1, 0, none⟩) n n, .slice (some ⟨g2, 0, none⟩) m m, .slice (some ⟨g3, 0, none⟩) p p] 34) = w7 at rx kx ox qx q0 q1 bbk x0 o0 ⊢
    obtain ⟨gx, hgxe⟩ : ∃ gx, w6.heap.size = gx := ⟨_, rfl⟩
    rw [hgxe] at qx hwx SX ⊢
    have hgx := qx.lt
    have hgl := q0.lt
    have hgb := q1.lt
    have xc0 : w7.cell? ⟨gx, 0, none⟩ = some (.slice (some ⟨g1, 0, none⟩) n n) := qx.cell 0
    have xc1 : w7.cell? ⟨gx, 1, none⟩ = some (.slice (some ⟨g2, 0, none⟩) m m) := qx.cell 1
    have xc2 : w7.cell? ⟨gx, 2, none⟩ = some (.slice (some ⟨g3, 0, none⟩) p p) := qx.cell 2
    have xb0 : w7.cell? ⟨ga + 1, 0, none⟩ = some (.int .i64 o.op) := q1.cell 0
    have xb1 : w7.cell? ⟨ga + 1, 1, none⟩ = some (.int .i64 o.a) := q1.cell 1
    have xb2 : w7.cell? ⟨ga + 1, 2, none⟩ = some (.int .i64 o.b) := q1.cell 2
    have xb3 : w7.cell? ⟨ga + 1, 3, none⟩ = some (.int .i64 o.c) := q1.cell 3
    clear hgxe bb1
    refine wp_region_inv (by kernel_rfl) (by kernel_rfl) (fun L ac ww => ∃ t9 t10 t31 t32 t33 t34 t35 t36 t37 : Value, ac = { tmps := #[ctV A n c R m d K p q, cmV o, Value.pointer (some { block := ga, off := 0 }), Value.pointer (some { block := ga + 1, off := 0 }), Value.bool false, Value.int IntKind.i64 lz, Value.pointer (some { block := g5, off := 0 }), Value.bool vb, Value.pointer (some { block := gx, off := 0 }), t9, t10, undef, undef, undef, undef, undef, Value.agg #[Value.slice A n c, Value.slice R m d, Value.slice K p q], Value.int IntKind.i64 1048576, Value.int IntKind.i64 lz, Value.int IntKind.i64 lz, Value.bool false, t21, t22, t23, t24, t25, t26, t27, t28, Value.agg #[Value.slice A n c, Value.slice R m d, Value.slice K p q], ctV (some { block := g1, off := 0 }) n n (some { block := g2, off := 0 }) m m (some { block := g3, off := 0 }) p p, t31, t32, t33, t34, t35, t36, t37, undef, undef, undef, undef, undef, undef, undef, undef, undef, undef, undef, undef, undef, undef, undef, undef, undef, undef, undef, undef, undef, undef, undef, undef, undef, undef, undef, undef, undef, undef, undef, undef, undef, undef, undef, undef, undef, undef, undef, undef, undef, undef, undef, undef, undef, undef, undef, undef, undef, undef, undef, undef, undef, undef, undef, undef, undef, undef, undef, undef, undef, undef, undef, undef, undef, undef], defers := [] } ∧ (Below w7.heap.size w7 ww) ∧ (L 0 = true → t32 = .agg #[.slice (some ⟨g1, 0, none⟩) n n, .slice (some ⟨g2, 0, none⟩) m m, .slice (some ⟨g3, 0, none⟩) p p]) ∧ (L 1 = true → t33 = .agg #[.int .i64 o.op, .int .i64 o.a, .int .i64 o.b, .int .i64 o.c]) ∧ (L 2 = true → t34 = .agg #[.int .i64 o.op, .int .i64 o.a, .int .i64 o.b, .int .i64 o.c]) ∧ (L 3 = true → ∃ (A' : Option Addr) (c' : Nat) (R' : Option Addr) (d' : Nat) (Kz : Option Addr) (qz : Nat) (rvs : List Value), t35 = .tuple #[.agg #[.slice A' nn c', .slice R' mm d', .slice Kz pp qz], .bool vb] ∧ OwnCt ww w7.heap.size (.slice A' nn c') (.slice R' mm d') (.slice Kz pp qz) rvs hh ct ∧ L 3 = true) ∧ (L 4 = true → ∃ (A' : Option Addr) (c' : Nat) (R' : Option Addr) (d' : Nat) (Kz : Option Addr) (qz : Nat) (rvs : List Value), t31 = .tuple #[.agg #[.slice A' nn c', .slice R' mm d', .slice Kz pp qz], .bool vb] ∧ OwnCt ww w7.heap.size (.slice A' nn c') (.slice R' mm d') (.slice Kz pp qz) rvs hh ct ∧ L 3 = true) ∧ (L 5 = true → ∃ (A' : Option Addr) (c' : Nat) (R' : Option Addr) (d' : Nat) (Kz : Option Addr) (qz : Nat) (rvs : List Value), t36 = .agg #[.slice A' nn c', .slice R' mm d', .slice Kz pp qz] ∧ OwnCt ww w7.heap.size (.slice A' nn c') (.slice R' mm d') (.slice Kz pp qz) rvs hh ct ∧ L 3 = true) ∧ (L 6 = true → t37 = .bool vb) ∧ (L 7 = true → ∃ g : Nat, t9 = .pointer (some ⟨g, 0, none⟩) ∧ w7.heap.size ≤ g ∧ (L 8 = true ∨ Rw ww g 34 #[.slice none 0 0, .slice none 0 0, .slice none 0 0])) ∧ (L 8 = true → ∃ (g : Nat) (A' : Option Addr) (c' : Nat) (R' : Option Addr) (d' : Nat) (Kz : Option Addr) (qz : Nat) (rvs : List Value), t9 = .pointer (some ⟨g, 0, none⟩) ∧ w7.heap.size ≤ g ∧ Rw ww g 34 #[.slice A' nn c', .slice R' mm d', .slice Kz pp qz] ∧ OwnCt ww w7.heap.size (.slice A' nn c') (.slice R' mm d') (.slice Kz pp qz) rvs hh ct ∧ L 7 = true ∧ L 3 = true) ∧ (L 9 = true → t10 = .bool vb)) ?h0 ?hstep ?hdone
    case h0 => exact ⟨_, _, _, _, _, _, _, _, _, rfl, (Below.refl _ _).drew, (fun h => absurd h Bool.false_ne_true), (fun h => absurd h Bool.false_ne_true), (fun h => absurd h Bool.false_ne_true), (fun h => absurd h Bool.false_ne_true), (fun h => absurd h Bool.false_ne_true), (fun h => absurd h Bool.false_ne_true), (fun h => absurd h Bool.false_ne_true), (fun h => absurd h Bool.false_ne_true), (fun h => absurd h Bool.false_ne_true), (fun h => absurd h Bool.false_ne_true)⟩
    case hstep =>
      rintro L ac ww i o ho hL hd ⟨t9, t10, t31, t32, t33, t34, t35, t36, t37, rfl, I0, f0, f1, f2, f3, f4, f5, f6, f7, f8, f9⟩
      have hi : i < 10 := (Array.getElem?_eq_some_iff.1 ho).1
      obtain rfl | rfl | rfl | rfl | rfl | rfl | rfl | rfl | rfl | rfl : i = 0 ∨ i = 1 ∨ i = 2 ∨ i = 3 ∨ i = 4 ∨ i = 5 ∨ i = 6 ∨ i = 7 ∨ i = 8 ∨ i = 9 := by omega
      · obtain rfl := Option.some.inj ho
        have y0 : ww.cell? ⟨gx, 0, none⟩ = some (.slice (some ⟨g1, 0, none⟩) n n) := (I0.cell (p := ⟨gx, 0, none⟩) hgx).trans xc0
        have y1 : ww.cell? ⟨gx, 1, none⟩ = some (.slice (some ⟨g2, 0, none⟩) m m) := (I0.cell (p := ⟨gx, 1, none⟩) hgx).trans xc1
        have y2 : ww.cell? ⟨gx, 2, none⟩ = some (.slice (some ⟨g3, 0, none⟩) p p) := (I0.cell (p := ⟨gx, 2, none⟩) hgx).trans xc2
        refine wpOp_step rfl (fun K' hK => ?_)
        go_simp
        refine hK _ _ ?_
        exact ⟨_, _, _, _, _, _, _, _, _, rfl, (I0), (fun _ => rfl), (kp f1), (kp f2), (fun h => by
          obtain ⟨A', c', R', d', Kz, qz, rvs, e, q, l⟩ := f3 (upd_ne h (by decide))
          exact ⟨A', c', R', d', Kz, qz, rvs, e, q, upd_keep l⟩), (fun h => by
          obtain ⟨A', c', R', d', Kz, qz, rvs, e, q, l⟩ := f4 (upd_ne h (by decide))
          exact ⟨A', c', R', d', Kz, qz, rvs, e, q, upd_keep l⟩), (fun h => by
          obtain ⟨A', c', R', d', Kz, qz, rvs, e, q, l⟩ := f5 (upd_ne h (by decide))
          exact ⟨A', c', R', d', Kz, qz, rvs, e, q, upd_keep l⟩), (kp f6), (fun h => by
          obtain ⟨g, e, hg, r⟩ := f7 (upd_ne h (by decide))
          exact ⟨g, e, hg, r.imp (fun e => upd_keep e) (fun r => r)⟩), (fun h => by
          obtain ⟨g, A', c', R', d', Kz, qz, rvs, e, hg, r, q, la, lf⟩ := f8 (upd_ne h (by decide))
          exact ⟨g, A', c', R', d', Kz, qz, rvs, e, hg, r, q, upd_keep la, upd_keep lf⟩), (kp f9)⟩
      · obtain rfl := Option.some.inj ho
        have y0 : ww.cell? ⟨ga + 1, 0, none⟩ = some (.int .i64 o.op) := (I0.cell (p := ⟨ga + 1, 0, none⟩) hgb).trans xb0
        have y1 : ww.cell? ⟨ga + 1, 1, none⟩ = some (.int .i64 o.a) := (I0.cell (p := ⟨ga + 1, 1, none⟩) hgb).trans xb1
        have y2 : ww.cell? ⟨ga + 1, 2, none⟩ = some (.int .i64 o.b) := (I0.cell (p := ⟨ga + 1, 2, none⟩) hgb).trans xb2
        have y3 : ww.cell? ⟨ga + 1, 3, none⟩ = some (.int .i64 o.c) := (I0.cell (p := ⟨ga + 1, 3, none⟩) hgb).trans xb3
        refine wpOp_step rfl (fun K' hK => ?_)
        go_simp
        refine hK _ _ ?_
        exact ⟨_, _, _, _, _, _, _, _, _, rfl, (I0), (kp f0), (fun _ => rfl), (kp f2), (fun h => by
          obtain ⟨A', c', R', d', Kz, qz, rvs, e, q, l⟩ := f3 (upd_ne h (by decide))
          exact ⟨A', c', R', d', Kz, qz, rvs, e, q, upd_keep l⟩), (fun h => by
          obtain ⟨A', c', R', d', Kz, qz, rvs, e, q, l⟩ := f4 (upd_ne h (by decide))
          exact ⟨A', c', R', d', Kz, qz, rvs, e, q, upd_keep l⟩), (fun h => by
          obtain ⟨A', c', R', d', Kz, qz, rvs, e, q, l⟩ := f5 (upd_ne h (by decide))
          exact ⟨A', c', R', d', Kz, qz, rvs, e, q, upd_keep l⟩), (kp f6), (fun h => by
          obtain ⟨g, e, hg, r⟩ := f7 (upd_ne h (by decide))
          exact ⟨g, e, hg, r.imp (fun e => upd_keep e) (fun r => r)⟩), (fun h => by
          obtain ⟨g, A', c', R', d', Kz, qz, rvs, e, hg, r, q, la, lf⟩ := f8 (upd_ne h (by decide))
          exact ⟨g, A', c', R', d', Kz, qz, rvs, e, hg, r, q, upd_keep la, upd_keep lf⟩), (kp f9)⟩
      · obtain rfl := Option.some.inj ho
        have g1 := f1 (hd ⟨1, .data⟩ (by simp) rfl)
        subst g1
        refine wpOp_step rfl (fun K' hK => ?_)
        go_simp
        refine (toCommand_any o ww).mono ?_
        rintro e w' ⟨rfl, b5⟩
        refine hK _ _ ?_
        exact ⟨_, _, _, _, _, _, _, _, _, rfl, (I0.trans (b5.mono I0.size)), (kp f0), (kp f1), (fun _ => rfl), (fun h => by
          obtain ⟨A', c', R', d', Kz, qz, rvs, e, q, l⟩ := f3 (upd_ne h (by decide))
          exact ⟨A', c', R', d', Kz, qz, rvs, e, q.below b5 (Nat.le_refl _), upd_keep l⟩), (fun h => by
          obtain ⟨A', c', R', d', Kz, qz, rvs, e, q, l⟩ := f4 (upd_ne h (by decide))
          exact ⟨A', c', R', d', Kz, qz, rvs, e, q.below b5 (Nat.le_refl _), upd_keep l⟩), (fun h => by
          obtain ⟨A', c', R', d', Kz, qz, rvs, e, q, l⟩ := f5 (upd_ne h (by decide))
          exact ⟨A', c', R', d', Kz, qz, rvs, e, q.below b5 (Nat.le_refl _), upd_keep l⟩), (kp f6), (fun h => by
          obtain ⟨g, e, hg, r⟩ := f7 (upd_ne h (by decide))
          exact ⟨g, e, hg, r.imp (fun e => upd_keep e) (fun r => r.keep b5 r.lt)⟩), (fun h => by
          obtain ⟨g, A', c', R', d', Kz, qz, rvs, e, hg, r, q, la, lf⟩ := f8 (upd_ne h (by decide))
          exact ⟨g, A', c', R', d', Kz, qz, rvs, e, hg, r.keep b5 r.lt, q.below b5 (Nat.le_refl _), upd_keep la, upd_keep lf⟩), (kp f9)⟩
      · obtain rfl := Option.some.inj ho
        have g0 := f0 (hd ⟨0, .data⟩ (by simp) rfl)
        have g2 := f2 (hd ⟨2, .data⟩ (by simp) rfl)
        subst g0
        subst g2
        refine wpOp_step rfl (fun K' hK => ?_)
        go_simp
        refine (stepCounted_any _ _ _ _ _ _ _ _ _ h l o ww (hT.below (bbk.trans (I0.mono bbk.size))) (rx.up I0) (kx.up I0) (by omega) (by omega) (by omega) (Nat.le_refl _) (Nat.le_refl _)).mono ?_
        rw [HH.out, HCT.out, HVB.out]
        rintro e w' ⟨vc, vr, vk, rfl, ⟨rvs, ow⟩, b5⟩
        obtain ⟨A', c', R', d', Kz, qz, rfl, rfl, rfl⟩ := ow.slices
        rw [E0.out, E4.out, E5.out] at ow ⊢
        have ob := ow.base I0.size
        refine hK _ _ ?_
        exact ⟨_, _, _, _, _, _, _, _, _, rfl, (I0.trans (b5.mono I0.size)), (kp f0), (kp f1), (kp f2), (fun _ => ⟨A', c', R', d', Kz, qz, rvs, rfl, ob, upd_self⟩), (fun h => by
          obtain ⟨A', c', R', d', Kz, qz, rvs, e, q, l⟩ := f4 (upd_ne h (by decide))
          rw [hL] at l
          cases l), (fun h => by
          obtain ⟨A', c', R', d', Kz, qz, rvs, e, q, l⟩ := f5 (upd_ne h (by decide))
          rw [hL] at l
          cases l), (kp f6), (fun h => by
          obtain ⟨g, e, hg, r⟩ := f7 (upd_ne h (by decide))
          exact ⟨g, e, hg, r.imp (fun e => upd_keep e) (fun r => r.keep b5 r.lt)⟩), (fun h => by
          obtain ⟨g, A', c', R', d', Kz, qz, rvs, e, hg, r, q, la, lf⟩ := f8 (upd_ne h (by decide))
          rw [hL] at lf
          cases lf), (kp f9)⟩
      · obtain rfl := Option.some.inj ho
        have g3 := f3 (hd ⟨3, .data⟩ (by simp) rfl)
        obtain ⟨A', c', R', d', Kz, qz, rvs, rfl, ow, lf⟩ := g3
        refine wpOp_step rfl (fun K' hK => ?_)
        go_simp
        refine hK _ _ ?_
        exact ⟨_, _, _, _, _, _, _, _, _, rfl, (I0), (kp f0), (kp f1), (kp f2), (fun _ => ⟨A', c', R', d', Kz, qz, rvs, rfl, ow, upd_keep lf⟩), (fun _ => ⟨A', c', R', d', Kz, qz, rvs, rfl, ow, upd_keep lf⟩), (fun h => by
          obtain ⟨A', c', R', d', Kz, qz, rvs, e, q, l⟩ := f5 (upd_ne h (by decide))
          exact ⟨A', c', R', d', Kz, qz, rvs, e, q, upd_keep l⟩), (kp f6), (fun h => by
          obtain ⟨g, e, hg, r⟩ := f7 (upd_ne h (by decide))
          exact ⟨g, e, hg, r.imp (fun e => upd_keep e) (fun r => r)⟩), (fun h => by
          obtain ⟨g, A', c', R', d', Kz, qz, rvs, e, hg, r, q, la, lf⟩ := f8 (upd_ne h (by decide))
          exact ⟨g, A', c', R', d', Kz, qz, rvs, e, hg, r, q, upd_keep la, upd_keep lf⟩), (kp f9)⟩
      · obtain rfl := Option.some.inj ho
        have g4 := f4 (hd ⟨4, .data⟩ (by simp) rfl)
        obtain ⟨A', c', R', d', Kz, qz, rvs, rfl, ow, lf⟩ := g4
        refine wpOp_step rfl (fun K' hK => ?_)
        go_simp
        refine hK _ _ ?_
        exact ⟨_, _, _, _, _, _, _, _, _, rfl, (I0), (kp f0), (kp f1), (kp f2), (fun h => by
          obtain ⟨A', c', R', d', Kz, qz, rvs, e, q, l⟩ := f3 (upd_ne h (by decide))
          exact ⟨A', c', R', d', Kz, qz, rvs, e, q, upd_keep l⟩), (fun _ => ⟨A', c', R', d', Kz, qz, rvs, rfl, ow, upd_keep lf⟩), (fun _ => ⟨A', c', R', d', Kz, qz, rvs, rfl, ow, upd_keep lf⟩), (kp f6), (fun h => by
          obtain ⟨g, e, hg, r⟩ := f7 (upd_ne h (by decide))
          exact ⟨g, e, hg, r.imp (fun e => upd_keep e) (fun r => r)⟩), (fun h => by
          obtain ⟨g, A', c', R', d', Kz, qz, rvs, e, hg, r, q, la, lf⟩ := f8 (upd_ne h (by decide))
          exact ⟨g, A', c', R', d', Kz, qz, rvs, e, hg, r, q, upd_keep la, upd_keep lf⟩), (kp f9)⟩
      · obtain rfl := Option.some.inj ho
        have g4 := f4 (hd ⟨4, .data⟩ (by simp) rfl)
        obtain ⟨A', c', R', d', Kz, qz, rvs, rfl, ow, lf⟩ := g4
        refine wpOp_step rfl (fun K' hK => ?_)
        go_simp
        refine hK _ _ ?_
        exact ⟨_, _, _, _, _, _, _, _, _, rfl, (I0), (kp f0), (kp f1), (kp f2), (fun h => by
          obtain ⟨A', c', R', d', Kz, qz, rvs, e, q, l⟩ := f3 (upd_ne h (by decide))
          exact ⟨A', c', R', d', Kz, qz, rvs, e, q, upd_keep l⟩), (fun _ => ⟨A', c', R', d', Kz, qz, rvs, rfl, ow, upd_keep lf⟩), (fun h => by
          obtain ⟨A', c', R', d', Kz, qz, rvs, e, q, l⟩ := f5 (upd_ne h (by decide))
          exact ⟨A', c', R', d', Kz, qz, rvs, e, q, upd_keep l⟩), (fun _ => rfl), (fun h => by
          obtain ⟨g, e, hg, r⟩ := f7 (upd_ne h (by decide))
          exact ⟨g, e, hg, r.imp (fun e => upd_keep e) (fun r => r)⟩), (fun h => by
          obtain ⟨g, A', c', R', d', Kz, qz, rvs, e, hg, r, q, la, lf⟩ := f8 (upd_ne h (by decide))
          exact ⟨g, A', c', R', d', Kz, qz, rvs, e, hg, r, q, upd_keep la, upd_keep lf⟩), (kp f9)⟩
      · obtain rfl := Option.some.inj ho
        have bA : Below ww.heap.size ww (ww.alloc (.cells #[.slice none 0 0, .slice none 0 0, .slice none 0 0] 34)) := (Below.refl _ _).alloc (Nat.le_refl _) _
        refine wpOp_step rfl (fun K' hK => ?_)
        go_simp
        refine hK _ _ ?_
        exact ⟨_, _, _, _, _, _, _, _, _, rfl, (I0.trans (bA.mono I0.size)), (kp f0), (kp f1), (kp f2), (fun h => by
          obtain ⟨A', c', R', d', Kz, qz, rvs, e, q, l⟩ := f3 (upd_ne h (by decide))
          exact ⟨A', c', R', d', Kz, qz, rvs, e, q.below bA (Nat.le_refl _), upd_keep l⟩), (fun h => by
          obtain ⟨A', c', R', d', Kz, qz, rvs, e, q, l⟩ := f4 (upd_ne h (by decide))
          exact ⟨A', c', R', d', Kz, qz, rvs, e, q.below bA (Nat.le_refl _), upd_keep l⟩), (fun h => by
          obtain ⟨A', c', R', d', Kz, qz, rvs, e, q, l⟩ := f5 (upd_ne h (by decide))
          exact ⟨A', c', R', d', Kz, qz, rvs, e, q.below bA (Nat.le_refl _), upd_keep l⟩), (kp f6), (fun _ => ⟨ww.heap.size, rfl, I0.size, .inr (Rw.new ww _ _)⟩), (fun h => by
          obtain ⟨g, A', c', R', d', Kz, qz, rvs, e, hg, r, q, la, lf⟩ := f8 (upd_ne h (by decide))
          rw [hL] at la
          cases la), (kp f9)⟩
      · obtain rfl := Option.some.inj ho
        have g5 := f5 (hd ⟨5, .data⟩ (by simp) rfl)
        have g7 := f7 (hd ⟨7, .data⟩ (by simp) rfl)
        obtain ⟨g, rfl, hg, rz⟩ := g7
        rcases rz with q | rz
        · rw [hL] at q
          cases q
        obtain ⟨A', c', R', d', Kz, qz, rvs, rfl, ow, lf⟩ := g5
        have u0 := rz.cell 0
        have u1 := rz.cell 1
        have u2 := rz.cell 2
        have v0 := rz.frozen 0
        have v1 := rz.frozen 1
        have v2 := rz.frozen 2
        simp at u0 u1 u2
        have la := hd ⟨7, .data⟩ (by simp) rfl
        refine wpOp_step rfl (fun K' hK => ?_)
        go_simp
        refine hK _ _ ?_
        exact ⟨_, _, _, _, _, _, _, _, _, rfl, (((I0.setCell (p := ⟨g, 0, none⟩) hg _).setCell (p := ⟨g, 1, none⟩) hg _).setCell (p := ⟨g, 2, none⟩) hg _), (kp f0), (kp f1), (kp f2), (fun h => by
          obtain ⟨A', c', R', d', Kz, qz, rvs, e, q, l⟩ := f3 (upd_ne h (by decide))
          exact ⟨A', c', R', d', Kz, qz, rvs, e, q.put3 rz _ _ _, upd_keep l⟩), (fun h => by
          obtain ⟨A', c', R', d', Kz, qz, rvs, e, q, l⟩ := f4 (upd_ne h (by decide))
          exact ⟨A', c', R', d', Kz, qz, rvs, e, q.put3 rz _ _ _, upd_keep l⟩), (fun _ => ⟨A', c', R', d', Kz, qz, rvs, rfl, ow.put3 rz _ _ _, upd_keep lf⟩), (kp f6), (fun _ => ⟨g, rfl, hg, .inl upd_self⟩), (fun _ => ⟨g, A', c', R', d', Kz, qz, rvs, rfl, hg, ((rz.put 0 _).put 1 _).put 2 _, ow.put3 rz _ _ _, upd_keep la, upd_keep lf⟩), (kp f9)⟩
      · obtain rfl := Option.some.inj ho
        have g6 := f6 (hd ⟨6, .data⟩ (by simp) rfl)
        subst g6
        refine wpOp_step rfl (fun K' hK => ?_)
        go_simp
        refine hK _ _ ?_
        exact ⟨_, _, _, _, _, _, _, _, _, rfl, (I0), (kp f0), (kp f1), (kp f2), (fun h => by
          obtain ⟨A', c', R', d', Kz, qz, rvs, e, q, l⟩ := f3 (upd_ne h (by decide))
          exact ⟨A', c', R', d', Kz, qz, rvs, e, q, upd_keep l⟩), (fun h => by
          obtain ⟨A', c', R', d', Kz, qz, rvs, e, q, l⟩ := f4 (upd_ne h (by decide))
          exact ⟨A', c', R', d', Kz, qz, rvs, e, q, upd_keep l⟩), (fun h => by
          obtain ⟨A', c', R', d', Kz, qz, rvs, e, q, l⟩ := f5 (upd_ne h (by decide))
          exact ⟨A', c', R', d', Kz, qz, rvs, e, q, upd_keep l⟩), (kp f6), (fun h => by
          obtain ⟨g, e, hg, r⟩ := f7 (upd_ne h (by decide))
          exact ⟨g, e, hg, r.imp (fun e => upd_keep e) (fun r => r)⟩), (fun h => by
          obtain ⟨g, A', c', R', d', Kz, qz, rvs, e, hg, r, q, la, lf⟩ := f8 (upd_ne h (by decide))
          exact ⟨g, A', c', R', d', Kz, qz, rvs, e, hg, r, q, upd_keep la, upd_keep lf⟩), (fun _ => rfl)⟩
    case hdone =>
      rintro L ac ww hall ⟨t9, t10, t31, t32, t33, t34, t35, t36, t37, rfl, I0, f0, f1, f2, f3, f4, f5, f6, f7, f8, f9⟩
      have e0 := f0 (hall 0 (by decide))
      have e1 := f1 (hall 1 (by decide))
      have e2 := f2 (hall 2 (by decide))
      have e3 := f3 (hall 3 (by decide))
      have e4 := f4 (hall 4 (by decide))
      have e5 := f5 (hall 5 (by decide))
      have e6 := f6 (hall 6 (by decide))
      have e7 := f7 (hall 7 (by decide))
      have e8 := f8 (hall 8 (by decide))
      have e9 := f9 (hall 9 (by decide))
      clear f0 f1 f2 f3 f4 f5 f6 f7 f8 f9
      have ht10 := e9
      obtain ⟨g9, A1, c1, R1, d1, K1, q19, rvs1, ep, hg9, x1, o1, -⟩ := e8
      clear e0 e1 e2 e3 e4 e5 e6 e7 e9 hall
      subst ht10 ep
      have SB := Lib.hid (fun u (hu : u ∈ (Value.slice A1 nn c1) :: (Value.slice R1 mm d1) :: (Value.slice K1 pp q19) :: rvs1) k (hk : u.ownBlock = some k) => o1.blocks hu hk)
      replace bbk := bbk.trans (I0.mono bbk.size)
      replace q0 := q0.keep I0 q0.lt
      replace q1 := q1.keep I0 q1.lt
      replace qx := qx.keep I0 qx.lt
      replace x0 := x0.keep I0 x0.lt
      replace o0 := o0.below I0 (Nat.le_refl _)
      replace ox := ox.below I0 (Nat.le_refl _)
      have hw7 := hgx
      have S01 := Lib.hid (fun v (hv : v ∈ (Value.slice A0 nn c0) :: (Value.slice R0 mm d0) :: (Value.slice K0 pp q09) :: rvs0) u (hu : u ∈ (Value.slice A1 nn c1) :: (Value.slice R1 mm d1) :: (Value.slice K1 pp q19) :: rvs1) => show v.ownBlock = none ∨ v.ownBlock ≠ u.ownBlock by
        cases e : v.ownBlock with
        | none => exact .inl rfl
        | some k =>
          right
          intro e'
          have h1 := SA.out v hv k e
          have h2 := (SB.out u hu k e'.symm).1
          omega)
      have S0X := Lib.hid (fun v (hv : v ∈ (Value.slice A0 nn c0) :: (Value.slice R0 mm d0) :: (Value.slice K0 pp q09) :: rvs0) u (hu : u ∈ (Value.slice (some ⟨g1, 0, none⟩) n n) :: (Value.slice (some ⟨g2, 0, none⟩) m m) :: (Value.slice (some ⟨g3, 0, none⟩) p p) :: rvsx) => show v.ownBlock = none ∨ v.ownBlock ≠ u.ownBlock by
        cases e : v.ownBlock with
        | none => exact .inl rfl
        | some k =>
          right
          intro e'
          have h1 := SA.out v hv k e
          have h2 := (SX.out u hu k e'.symm).1
          omega)
      have S1X := Lib.hid (fun v (hv : v ∈ (Value.slice A1 nn c1) :: (Value.slice R1 mm d1) :: (Value.slice K1 pp q19) :: rvs1) u (hu : u ∈ (Value.slice (some ⟨g1, 0, none⟩) n n) :: (Value.slice (some ⟨g2, 0, none⟩) m m) :: (Value.slice (some ⟨g3, 0, none⟩) p p) :: rvsx) => show v.ownBlock = none ∨ v.ownBlock ≠ u.ownBlock by
        cases e : v.ownBlock with
        | none => exact .inl rfl
        | some k =>
          right
          intro e'
          have h1 := (SB.out v hv k e).1
          have h2 := (SX.out u hu k e'.symm).2
          omega)
      clear xb0 xb1 xb2 xb3 xc0 xc1 xc2 hgl hgb hgx I0
      generalize ww = w8 at *
      have y0 : w8.cell? ⟨g5, 0, none⟩ = some (.slice A0 nn c0) := x0.cell 0
      have y1 : w8.cell? ⟨g5, 1, none⟩ = some (.slice R0 mm d0) := x0.cell 1
      have y1k : w8.cell? ⟨g5, 2, none⟩ = some (.slice K0 pp q09) := x0.cell 2
      have y2 : w8.cell? ⟨g9, 0, none⟩ = some (.slice A1 nn c1) := x1.cell 0
      have y3 : w8.cell? ⟨g9, 1, none⟩ = some (.slice R1 mm d1) := x1.cell 1
      have y3k : w8.cell? ⟨g9, 2, none⟩ = some (.slice K1 pp q19) := x1.cell 2
      go_wp2_with fail
      refine (eqCounted_any _ _ _ _ _ _ _ _ _ _ _ _ _ _ _ _ _ _ hh hh ct ct _ o1.heap.reads o1.cnts.reads o0.heap.reads o0.cnts.reads (by omega) (by omega) (by omega) (by omega) (by omega) (by omega) H3.out H3.out).mono ?_
      rw [decide_eq_true (show hh = hh ∧ ct = ct from ⟨rfl, rfl⟩)]
      rintro e w9 ⟨rfl, b9⟩
      replace o0 := o0.below b9 (Nat.le_refl _)
      replace o1 := o1.below b9 (Nat.le_refl _)
      replace ox := ox.below b9 (Nat.le_refl _)
      replace x0 := x0.keep b9 x0.lt
      replace x1 := x1.keep b9 x1.lt
      replace qx := qx.keep b9 qx.lt
      replace q0 := q0.keep b9 q0.lt
      replace q1 := q1.keep b9 q1.lt
      replace bbk := bbk.trans (b9.mono bbk.size)
      clear b9 y0 y1 y1k y2 y3 y3k rx kx
      have rx := ox.heap.reads
      have kx := ox.cnts.reads
      have hgx := qx.lt
      have hgl := q0.lt
      have xa0 : w9.cell? ⟨ga, 0, none⟩ = some (.slice A n c) := q0.cell 0
      have xa1 : w9.cell? ⟨ga, 1, none⟩ = some (.slice R m d) := q0.cell 1
      have xa2 : w9.cell? ⟨ga, 2, none⟩ = some (.slice K p q) := q0.cell 2
      have xc0 : w9.cell? ⟨gx, 0, none⟩ = some (.slice (some ⟨g1, 0, none⟩) n n) := qx.cell 0
      have xc1 : w9.cell? ⟨gx, 1, none⟩ = some (.slice (some ⟨g2, 0, none⟩) m m) := qx.cell 1
      have xc2 : w9.cell? ⟨gx, 2, none⟩ = some (.slice (some ⟨g3, 0, none⟩) p p) := qx.cell 2
      go_upto_region 10 with fail
      refine wp_region_inv (by kernel_rfl) (by kernel_rfl) (fun L ac ww => ∃ t47 t48 t49 t50 t51 : Value, ac = { tmps := #[ctV A n c R m d K p q, cmV o, Value.pointer (some { block := ga, off := 0 }), Value.pointer (some { block := ga + 1, off := 0 }), Value.bool false, Value.int IntKind.i64 lz, Value.pointer (some { block := g5, off := 0 }), Value.bool vb, Value.pointer (some { block := gx, off := 0 }), Value.pointer (some { block := g9, off := 0 }), Value.bool vb, undef, undef, undef, undef, undef, Value.agg #[Value.slice A n c, Value.slice R m d, Value.slice K p q], Value.int IntKind.i64 1048576, Value.int IntKind.i64 lz, Value.int IntKind.i64 lz, Value.bool false, t21, t22, t23, t24, t25, t26, t27, t28, Value.agg #[Value.slice A n c, Value.slice R m d, Value.slice K p q], ctV (some { block := g1, off := 0 }) n n (some { block := g2, off := 0 }) m m (some { block := g3, off := 0 }) p p, t31, t32, t33, t34, t35, t36, t37, Value.agg #[Value.slice A1 nn c1, Value.slice R1 mm d1, Value.slice K1 pp q19], Value.agg #[Value.slice A0 nn c0, Value.slice R0 mm d0, Value.slice K0 pp q09], Value.bool true, Value.bool false, Value.bool false, Value.bool vb, Value.bool vb, Value.bool false, Value.bool false, t47, t48, t49, t50, t51, undef, undef, undef, undef, undef, undef, undef, undef, undef, undef, undef, undef, undef, undef, undef, undef, undef, undef, undef, undef, undef, undef, undef, undef, undef, undef, undef, undef, undef, undef, undef, undef, undef, undef, undef, undef, undef, undef, undef, undef, undef, undef, undef, undef, undef, undef, undef, undef, undef, undef, undef, undef], defers := [] } ∧ (Below w9.heap.size w9 ww) ∧ (L 0 = true → t47 = .agg #[.slice (some ⟨g1, 0, none⟩) n n, .slice (some ⟨g2, 0, none⟩) m m, .slice (some ⟨g3, 0, none⟩) p p]) ∧ (L 1 = true → t48 = .agg #[.slice A n c, .slice R m d, .slice K p q]) ∧ (L 2 = true → ∃ u1 u2 u3 : Nat, t49 = .agg #[.slice (some ⟨u1, 0, none⟩) n n, .slice (some ⟨u2, 0, none⟩) m m, .slice (some ⟨u3, 0, none⟩) p p] ∧ HS ww ww.heap.size (some ⟨u1, 0, none⟩) n (some ⟨u2, 0, none⟩) m h ∧ IS ww ww.heap.size (some ⟨u3, 0, none⟩) p l) ∧ (L 3 = true → t50 = .bool true) ∧ (L 4 = true → t51 = .bool false)) ?h0 ?hstep ?hdone
      case h0 => exact ⟨_, _, _, _, _, rfl, (Below.refl _ _).drew, (fun h => absurd h Bool.false_ne_true), (fun h => absurd h Bool.false_ne_true), (fun h => absurd h Bool.false_ne_true), (fun h => absurd h Bool.false_ne_true), (fun h => absurd h Bool.false_ne_true)⟩
      case hstep =>
        rintro L ac ww i o ho hL hd ⟨t47, t48, t49, t50, t51, rfl, I0, f0, f1, f2, f3, f4⟩
        have hi : i < 5 := (Array.getElem?_eq_some_iff.1 ho).1
        obtain rfl | rfl | rfl | rfl | rfl : i = 0 ∨ i = 1 ∨ i = 2 ∨ i = 3 ∨ i = 4 := by omega
        · obtain rfl := Option.some.inj ho
          have y0 : ww.cell? ⟨gx, 0, none⟩ = some (.slice (some ⟨g1, 0, none⟩) n n) := (I0.cell (p := ⟨gx, 0, none⟩) hgx).trans xc0
          have y1 : ww.cell? ⟨gx, 1, none⟩ = some (.slice (some ⟨g2, 0, none⟩) m m) := (I0.cell (p := ⟨gx, 1, none⟩) hgx).trans xc1
          have y2 : ww.cell? ⟨gx, 2, none⟩ = some (.slice (some ⟨g3, 0, none⟩) p p) := (I0.cell (p := ⟨gx, 2, none⟩) hgx).trans xc2
          refine wpOp_step rfl (fun K' hK => ?_)
          go_simp
          refine hK _ _ ?_
          exact ⟨_, _, _, _, _, rfl, (I0), (fun _ => rfl), (kp f1), (kp f2), (kp f3), (kp f4)⟩
        · obtain rfl := Option.some.inj ho
          have y0 : ww.cell? ⟨ga, 0, none⟩ = some (.slice A n c) := (I0.cell (p := ⟨ga, 0, none⟩) hgl).trans xa0
          have y1 : ww.cell? ⟨ga, 1, none⟩ = some (.slice R m d) := (I0.cell (p := ⟨ga, 1, none⟩) hgl).trans xa1
          have y2 : ww.cell? ⟨ga, 2, none⟩ = some (.slice K p q) := (I0.cell (p := ⟨ga, 2, none⟩) hgl).trans xa2
          refine wpOp_step rfl (fun K' hK => ?_)
          go_simp
          refine hK _ _ ?_
          exact ⟨_, _, _, _, _, rfl, (I0), (kp f0), (fun _ => rfl), (kp f2), (kp f3), (kp f4)⟩
        · obtain rfl := Option.some.inj ho
          have g1 := f1 (hd ⟨1, .data⟩ (by simp) rfl)
          subst g1
          refine wpOp_step rfl (fun K' hK => ?_)
          go_simp
          refine (toCounted_any _ _ _ _ _ _ _ _ _ h l ww (hs.up (bbk.trans (I0.mono bbk.size))) (hk.up (bbk.trans (I0.mono bbk.size))) (by omega) (by omega) (by omega) Z3.out).mono ?_
          rintro e w' ⟨u1, u2, u3, rfl, oc, b5⟩
          obtain ⟨rv, ow⟩ := oc
          have hr9 := ow.heap.reads
          have hk9 := ow.cnts.reads
          refine hK _ _ ?_
          exact ⟨_, _, _, _, _, rfl, (I0.trans (b5.mono I0.size)), (kp f0), (kp f1), (fun _ => ⟨u1, u2, u3, rfl, hr9, hk9⟩), (kp f3), (kp f4)⟩
        · obtain rfl := Option.some.inj ho
          have g0 := f0 (hd ⟨0, .data⟩ (by simp) rfl)
          have g2 := f2 (hd ⟨2, .data⟩ (by simp) rfl)
          subst g0
          obtain ⟨u1, u2, u3, rfl, hr9, hk9⟩ := g2
          refine wpOp_step rfl (fun K' hK => ?_)
          go_simp
          refine (eqCounted_any _ _ _ _ _ _ _ _ _ _ _ _ _ _ _ _ _ _ h h l l ww (rx.up I0) (kx.up I0) hr9 hk9 (by omega) (by omega) (by omega) (by omega) (by omega) (by omega) Z3.out Z3.out).mono ?_
          rw [decide_eq_true (show h = h ∧ l = l from ⟨rfl, rfl⟩)]
          rintro e w' ⟨rfl, b5⟩
          refine hK _ _ ?_
          exact ⟨_, _, _, _, _, rfl, (I0.trans (b5.mono I0.size)), (kp f0), (kp f1), (fun _ => ⟨u1, u2, u3, rfl, hr9.up b5, hk9.up b5⟩), (fun _ => rfl), (kp f4)⟩
        · obtain rfl := Option.some.inj ho
          have g3 := f3 (hd ⟨3, .data⟩ (by simp) rfl)
          subst g3
          refine wpOp_step rfl (fun K' hK => ?_)
          go_simp
          refine hK _ _ ?_
          exact ⟨_, _, _, _, _, rfl, (I0), (kp f0), (kp f1), (kp f2), (kp f3), (fun _ => rfl)⟩
      case hdone =>
        rintro L ac ww hall ⟨t47, t48, t49, t50, t51, rfl, I0, f0, f1, f2, f3, f4⟩
        have e0 := f0 (hall 0 (by decide))
        have e1 := f1 (hall 1 (by decide))
        have e2 := f2 (hall 2 (by decide))
        have e3 := f3 (hall 3 (by decide))
        have e4 := f4 (hall 4 (by decide))
        clear f0 f1 f2 f3 f4
        subst e3 e4
        clear e0 e1 e2 hall
        replace o0 := o0.below I0 (Nat.le_refl _)
        replace o1 := o1.below I0 (Nat.le_refl _)
        replace ox := ox.below I0 (Nat.le_refl _)
        replace x0 := x0.keep I0 x0.lt
        replace x1 := x1.keep I0 x1.lt
        replace qx := qx.keep I0 qx.lt
        replace q0 := q0.keep I0 q0.lt
        replace q1 := q1.keep I0 q1.lt
        replace bbk := bbk.trans (I0.mono bbk.size)
        clear xa0 xa1 xa2 xc0 xc1 xc2 I0 rx kx hgx hgl
        generalize ww = w10 at *
        have xc0 : w10.cell? ⟨gx, 0, none⟩ = some (.slice (some ⟨g1, 0, none⟩) n n) := qx.cell 0
        have xc1 : w10.cell? ⟨gx, 1, none⟩ = some (.slice (some ⟨g2, 0, none⟩) m m) := qx.cell 1
        have xc2 : w10.cell? ⟨gx, 2, none⟩ = some (.slice (some ⟨g3, 0, none⟩) p p) := qx.cell 2
        have APX := ox.apart_box qx
        go_wp2_with fail
        refine (markCounted_any _ _ _ rvsx h l _ _ _ ox (by omega) (by omega) HZX.out (by have := E6.out; omega)).mono ?_
        rw [E6.out, HKX.out]
        rintro e w11 ⟨rfl, -, tx⟩
        replace o0 := o0.touched' tx S0X.out
        replace o1 := o1.touched' tx S1X.out
        replace x0 := x0.touched tx (fun u hu e => by have := (SX.out u hu _ e).1; omega)
        replace x1 := x1.touched tx (fun u hu e => by have := (SX.out u hu _ e).2; omega)
        replace q0 := q0.touched tx (fun u hu e => by have := (SX.out u hu _ e).1; omega)
        replace q1 := q1.touched tx (fun u hu e => by have := (SX.out u hu _ e).1; omega)
        replace bbk : Below w.heap.size w w11 := tx.below bbk bbk.size (fun u hu k hk => by have := (SX.out u hu k hk).1; omega)
        clear ox qx tx xc0 xc1 xc2 APX
        have y0 : w11.cell? ⟨g5, 0, none⟩ = some (.slice A0 nn c0) := x0.cell 0
        have y1 : w11.cell? ⟨g5, 1, none⟩ = some (.slice R0 mm d0) := x0.cell 1
        have y1k : w11.cell? ⟨g5, 2, none⟩ = some (.slice K0 pp q09) := x0.cell 2
        have y2 : w11.cell? ⟨g9, 0, none⟩ = some (.slice A1 nn c1) := x1.cell 0
        have y3 : w11.cell? ⟨g9, 1, none⟩ = some (.slice R1 mm d1) := x1.cell 1
        have y3k : w11.cell? ⟨g9, 2, none⟩ = some (.slice K1 pp q19) := x1.cell 2
        go_wp2_with fail
        refine (eqCounted_any _ _ _ _ _ _ _ _ _ _ _ _ _ _ _ _ _ _ hh hh ct ct _ o1.heap.reads o1.cnts.reads o0.heap.reads o0.cnts.reads (by omega) (by omega) (by omega) (by omega) (by omega) (by omega) H3.out H3.out).mono ?_
        rw [decide_eq_true (show hh = hh ∧ ct = ct from ⟨rfl, rfl⟩)]
        rintro e w12 ⟨rfl, b12⟩
        replace o0 := o0.below b12 (Nat.le_refl _)
        replace o1 := o1.below b12 (Nat.le_refl _)
        replace x0 := x0.keep b12 x0.lt
        replace x1 := x1.keep b12 x1.lt
        replace q0 := q0.keep b12 q0.lt
        replace q1 := q1.keep b12 q1.lt
        replace bbk := bbk.trans (b12.mono bbk.size)
        clear b12 y0 y1 y1k y2 y3 y3k
        have y2 : w12.cell? ⟨g9, 0, none⟩ = some (.slice A1 nn c1) := x1.cell 0
        have y3 : w12.cell? ⟨g9, 1, none⟩ = some (.slice R1 mm d1) := x1.cell 1
        have y3k : w12.cell? ⟨g9, 2, none⟩ = some (.slice K1 pp q19) := x1.cell 2
        have AP1 := o1.apart_box x1
        go_wp2_with fail
        refine (markCounted_any _ _ _ rvs1 hh ct _ _ _ o1 (by omega) (by omega) HSZ.out (by have := E5.out; omega)).mono ?_
        rw [E5.out, HKV.out]
        rintro e w13 ⟨rfl, m6, t6⟩
        replace o0 := o0.touched' t6 S01.out
        replace x0 := x0.touched t6 (fun u hu e => by have := (SB.out u hu _ e).1; omega)
        replace x1 := x1.touched t6 (fun u hu e => by rcases AP1 u hu with h1 | h1; rw [h1] at e; cases e; exact h1 e)
        replace q0 := q0.touched t6 (fun u hu e => by have := (SB.out u hu _ e).1; omega)
        replace q1 := q1.touched t6 (fun u hu e => by have := (SB.out u hu _ e).1; omega)
        replace bbk : Below w.heap.size w w13 := t6.below bbk bbk.size (fun u hu k hk => by have := (SB.out u hu k hk).1; omega)
        have r6 := m6.heap.reads
        have k6 := m6.cnts.reads
        clear o1 t6 m6 y2 y3 y3k AP1
        have y2 : w13.cell? ⟨g9, 0, none⟩ = some (.slice A1 nn c1) := x1.cell 0
        have y3 : w13.cell? ⟨g9, 1, none⟩ = some (.slice R1 mm d1) := x1.cell 1
        have y3k : w13.cell? ⟨g9, 2, none⟩ = some (.slice K1 pp q19) := x1.cell 2
        go_wp2_with fail
        refine (heldCounted_any _ _ _ _ _ _ _ _ _ hh _ _ r6 k6 E0.out E4.out (by omega) (by omega) HSZ.out (by omega)).mono ?_
        rw [HKV.out]
        rintro e w14 ⟨rfl, b14⟩
        replace o0 := o0.below b14 (Nat.le_refl _)
        replace x0 := x0.keep b14 x0.lt
        replace x1 := x1.keep b14 x1.lt
        replace q0 := q0.keep b14 q0.lt
        replace q1 := q1.keep b14 q1.lt
        replace r6 := r6.up b14
        replace k6 := k6.up b14
        replace bbk := bbk.trans (b14.mono bbk.size)
        clear b14 y2 y3 y3k
        have hgl := q0.lt
        have hgb := q1.lt
        have xa0 : w14.cell? ⟨ga, 0, none⟩ = some (.slice A n c) := q0.cell 0
        have xa1 : w14.cell? ⟨ga, 1, none⟩ = some (.slice R m d) := q0.cell 1
        have xa2 : w14.cell? ⟨ga, 2, none⟩ = some (.slice K p q) := q0.cell 2
        have xb0 : w14.cell? ⟨ga + 1, 0, none⟩ = some (.int .i64 o.op) := q1.cell 0
        have xb1 : w14.cell? ⟨ga + 1, 1, none⟩ = some (.int .i64 o.a) := q1.cell 1
        have xb2 : w14.cell? ⟨ga + 1, 2, none⟩ = some (.int .i64 o.b) := q1.cell 2
        have xb3 : w14.cell? ⟨ga + 1, 3, none⟩ = some (.int .i64 o.c) := q1.cell 3
        clear hg5 hg9 S0X S1X SX
        go_upto_region 24 with fail
        refine wp_region_inv (by kernel_rfl) (by kernel_rfl) (fun L ac ww => ∃ t14 t15 t79 t80 t81 t82 t83 t84 t85 t86 : Value, ac = { tmps := #[ctV A n c R m d K p q, cmV o, Value.pointer (some { block := ga, off := 0 }), Value.pointer (some { block := ga + 1, off := 0 }), Value.bool false, Value.int IntKind.i64 lz, Value.pointer (some { block := g5, off := 0 }), Value.bool vb, Value.pointer (some { block := gx, off := 0 }), Value.pointer (some { block := g9, off := 0 }), Value.bool vb, Value.int IntKind.i64 kx, Value.int IntKind.i64 kv, Value.int IntKind.i64 kv, t14, t15, Value.agg #[Value.slice A n c, Value.slice R m d, Value.slice K p q], Value.int IntKind.i64 1048576, Value.int IntKind.i64 lz, Value.int IntKind.i64 lz, Value.bool false, t21, t22, t23, t24, t25, t26, t27, t28, Value.agg #[Value.slice A n c, Value.slice R m d, Value.slice K p q], ctV (some { block := g1, off := 0 }) n n (some { block := g2, off := 0 }) m m (some { block := g3, off := 0 }) p p, t31, t32, t33, t34, t35, t36, t37, Value.agg #[Value.slice A1 nn c1, Value.slice R1 mm d1, Value.slice K1 pp q19], Value.agg #[Value.slice A0 nn c0, Value.slice R0 mm d0, Value.slice K0 pp q09], Value.bool true, Value.bool false, Value.bool false, Value.bool vb, Value.bool vb, Value.bool false, Value.bool false, t47, t48, t49, Value.bool true, Value.bool false, Value.agg #[Value.slice (some { block := g1, off := 0 }) n n, Value.slice (some { block := g2, off := 0 }) m m, Value.slice (some { block := g3, off := 0 }) p p], Value.int IntKind.i64 1, Value.int IntKind.i64 kx, Value.int IntKind.i64 kx, Value.bool false, Value.bool false, Value.agg #[Value.slice A1 nn c1, Value.slice R1 mm d1, Value.slice K1 pp q19], Value.agg #[Value.slice A0 nn c0, Value.slice R0 mm d0, Value.slice K0 pp q09], Value.bool true, Value.bool false, Value.bool false, Value.bool false, Value.bool vb, Value.bool vb, Value.bool false, Value.bool false, Value.agg #[Value.slice A1 nn c1, Value.slice R1 mm d1, Value.slice K1 pp q19], Value.int IntKind.i64 1, Value.int IntKind.i64 kv, Value.agg #[Value.slice A1 nn c1, Value.slice R1 mm d1, Value.slice K1 pp q19], Value.int IntKind.i64 1, Value.int IntKind.i64 kv, Value.int IntKind.i64 kv, Value.bool false, Value.int IntKind.i64 kv, Value.int IntKind.i64 kv, Value.bool false, t79, t80, t81, t82, t83, t84, t85, t86, undef, undef, undef, undef, undef, undef, undef, undef, undef, undef, undef, undef, undef, undef, undef, undef, undef], defers := [] } ∧ (Below w14.heap.size w14 ww) ∧ (L 0 = true → t80 = .agg #[.slice A n c, .slice R m d, .slice K p q]) ∧ (L 1 = true → (L 4 = true ∨ ∃ u1 u2 u3 : Nat, t81 = .agg #[.slice (some ⟨u1, 0, none⟩) n n, .slice (some ⟨u2, 0, none⟩) m m, .slice (some ⟨u3, 0, none⟩) p p] ∧ HS ww ww.heap.size (some ⟨u1, 0, none⟩) n (some ⟨u2, 0, none⟩) m h ∧ IS ww ww.heap.size (some ⟨u3, 0, none⟩) p l)) ∧ (L 2 = true → t82 = .agg #[.int .i64 o.op, .int .i64 o.a, .int .i64 o.b, .int .i64 o.c]) ∧ (L 3 = true → t83 = .agg #[.int .i64 o.op, .int .i64 o.a, .int .i64 o.b, .int .i64 o.c]) ∧ (L 4 = true → ∃ (A' : Option Addr) (c' : Nat) (R' : Option Addr) (d' : Nat) (Kz : Option Addr) (qz : Nat) (rvs : List Value), t84 = .tuple #[.agg #[.slice A' nn c', .slice R' mm d', .slice Kz pp qz], .bool vb] ∧ OwnCt ww w14.heap.size (.slice A' nn c') (.slice R' mm d') (.slice Kz pp qz) rvs hh ct ∧ L 4 = true) ∧ (L 5 = true → ∃ (A' : Option Addr) (c' : Nat) (R' : Option Addr) (d' : Nat) (Kz : Option Addr) (qz : Nat) (rvs : List Value), t79 = .tuple #[.agg #[.slice A' nn c', .slice R' mm d', .slice Kz pp qz], .bool vb] ∧ OwnCt ww w14.heap.size (.slice A' nn c') (.slice R' mm d') (.slice Kz pp qz) rvs hh ct ∧ L 4 = true) ∧ (L 6 = true → ∃ (A' : Option Addr) (c' : Nat) (R' : Option Addr) (d' : Nat) (Kz : Option Addr) (qz : Nat) (rvs : List Value), t85 = .agg #[.slice A' nn c', .slice R' mm d', .slice Kz pp qz] ∧ OwnCt ww w14.heap.size (.slice A' nn c') (.slice R' mm d') (.slice Kz pp qz) rvs hh ct ∧ L 4 = true) ∧ (L 7 = true → t86 = .bool vb) ∧ (L 8 = true → ∃ g : Nat, t14 = .pointer (some ⟨g, 0, none⟩) ∧ w14.heap.size ≤ g ∧ (L 9 = true ∨ Rw ww g 34 #[.slice none 0 0, .slice none 0 0, .slice none 0 0])) ∧ (L 9 = true → ∃ (g : Nat) (A' : Option Addr) (c' : Nat) (R' : Option Addr) (d' : Nat) (Kz : Option Addr) (qz : Nat) (rvs : List Value), t14 = .pointer (some ⟨g, 0, none⟩) ∧ w14.heap.size ≤ g ∧ Rw ww g 34 #[.slice A' nn c', .slice R' mm d', .slice Kz pp qz] ∧ OwnCt ww w14.heap.size (.slice A' nn c') (.slice R' mm d') (.slice Kz pp qz) rvs hh ct ∧ L 8 = true ∧ L 4 = true) ∧ (L 10 = true → t15 = .bool vb)) ?h0 ?hstep ?hdone
        case h0 => exact ⟨_, _, _, _, _, _, _, _, _, _, rfl, (Below.refl _ _).drew, (fun h => absurd h Bool.false_ne_true), (fun h => absurd h Bool.false_ne_true), (fun h => absurd h Bool.false_ne_true), (fun h => absurd h Bool.false_ne_true), (fun h => absurd h Bool.false_ne_true), (fun h => absurd h Bool.false_ne_true), (fun h => absurd h Bool.false_ne_true), (fun h => absurd h Bool.false_ne_true), (fun h => absurd h Bool.false_ne_true), (fun h => absurd h Bool.false_ne_true), (fun h => absurd h Bool.false_ne_true)⟩
        case hstep =>
          rintro L ac ww i o ho hL hd ⟨t14, t15, t79, t80, t81, t82, t83, t84, t85, t86, rfl, I0, f0, f1, f2, f3, f4, f5, f6, f7, f8, f9, f10⟩
          have hi : i < 11 := (Array.getElem?_eq_some_iff.1 ho).1
          obtain rfl | rfl | rfl | rfl | rfl | rfl | rfl | rfl | rfl | rfl | rfl : i = 0 ∨ i = 1 ∨ i = 2 ∨ i = 3 ∨ i = 4 ∨ i = 5 ∨ i = 6 ∨ i = 7 ∨ i = 8 ∨ i = 9 ∨ i = 10 := by omega
          · obtain rfl := Option.some.inj ho
            have y0 : ww.cell? ⟨ga, 0, none⟩ = some (.slice A n c) := (I0.cell (p := ⟨ga, 0, none⟩) hgl).trans xa0
            have y1 : ww.cell? ⟨ga, 1, none⟩ = some (.slice R m d) := (I0.cell (p := ⟨ga, 1, none⟩) hgl).trans xa1
            have y2 : ww.cell? ⟨ga, 2, none⟩ = some (.slice K p q) := (I0.cell (p := ⟨ga, 2, none⟩) hgl).trans xa2
            refine wpOp_step rfl (fun K' hK => ?_)
            go_simp
            refine hK _ _ ?_
            exact ⟨_, _, _, _, _, _, _, _, _, _, rfl, (I0), (fun _ => rfl), (fun h => (f1 (upd_ne h (by decide))).imp (fun e => upd_keep e) id), (kp f2), (kp f3), (fun h => by
              obtain ⟨A', c', R', d', Kz, qz, rvs, e, q, l⟩ := f4 (upd_ne h (by decide))
              exact ⟨A', c', R', d', Kz, qz, rvs, e, q, upd_keep l⟩), (fun h => by
              obtain ⟨A', c', R', d', Kz, qz, rvs, e, q, l⟩ := f5 (upd_ne h (by decide))
              exact ⟨A', c', R', d', Kz, qz, rvs, e, q, upd_keep l⟩), (fun h => by
              obtain ⟨A', c', R', d', Kz, qz, rvs, e, q, l⟩ := f6 (upd_ne h (by decide))
              exact ⟨A', c', R', d', Kz, qz, rvs, e, q, upd_keep l⟩), (kp f7), (fun h => by
              obtain ⟨g, e, hg, r⟩ := f8 (upd_ne h (by decide))
              exact ⟨g, e, hg, r.imp (fun e => upd_keep e) (fun r => r)⟩), (fun h => by
              obtain ⟨g, A', c', R', d', Kz, qz, rvs, e, hg, r, q, la, lf⟩ := f9 (upd_ne h (by decide))
              exact ⟨g, A', c', R', d', Kz, qz, rvs, e, hg, r, q, upd_keep la, upd_keep lf⟩), (kp f10)⟩
          · obtain rfl := Option.some.inj ho
            have g0 := f0 (hd ⟨0, .data⟩ (by simp) rfl)
            subst g0
            refine wpOp_step rfl (fun K' hK => ?_)
            go_simp
            refine (toCounted_any _ _ _ _ _ _ _ _ _ h l ww (hs.up (bbk.trans (I0.mono bbk.size))) (hk.up (bbk.trans (I0.mono bbk.size))) (by omega) (by omega) (by omega) Z3.out).mono ?_
            rintro e w' ⟨u1, u2, u3, rfl, oc, b5⟩
            obtain ⟨rv, ow⟩ := oc
            have hr9 := ow.heap.reads
            have hk9 := ow.cnts.reads
            refine hK _ _ ?_
            exact ⟨_, _, _, _, _, _, _, _, _, _, rfl, (I0.trans (b5.mono I0.size)), (kp f0), (fun _ => .inr ⟨u1, u2, u3, rfl, hr9, hk9⟩), (kp f2), (kp f3), (fun h => by
              obtain ⟨A', c', R', d', Kz, qz, rvs, e, q, l⟩ := f4 (upd_ne h (by decide))
              exact ⟨A', c', R', d', Kz, qz, rvs, e, q.below b5 (Nat.le_refl _), upd_keep l⟩), (fun h => by
              obtain ⟨A', c', R', d', Kz, qz, rvs, e, q, l⟩ := f5 (upd_ne h (by decide))
              exact ⟨A', c', R', d', Kz, qz, rvs, e, q.below b5 (Nat.le_refl _), upd_keep l⟩), (fun h => by
              obtain ⟨A', c', R', d', Kz, qz, rvs, e, q, l⟩ := f6 (upd_ne h (by decide))
              exact ⟨A', c', R', d', Kz, qz, rvs, e, q.below b5 (Nat.le_refl _), upd_keep l⟩), (kp f7), (fun h => by
              obtain ⟨g, e, hg, r⟩ := f8 (upd_ne h (by decide))
              exact ⟨g, e, hg, r.imp (fun e => upd_keep e) (fun r => r.keep b5 r.lt)⟩), (fun h => by
              obtain ⟨g, A', c', R', d', Kz, qz, rvs, e, hg, r, q, la, lf⟩ := f9 (upd_ne h (by decide))
              exact ⟨g, A', c', R', d', Kz, qz, rvs, e, hg, r.keep b5 r.lt, q.below b5 (Nat.le_refl _), upd_keep la, upd_keep lf⟩), (kp f10)⟩
          · obtain rfl := Option.some.inj ho
            have y0 : ww.cell? ⟨ga + 1, 0, none⟩ = some (.int .i64 o.op) := (I0.cell (p := ⟨ga + 1, 0, none⟩) hgb).trans xb0
            have y1 : ww.cell? ⟨ga + 1, 1, none⟩ = some (.int .i64 o.a) := (I0.cell (p := ⟨ga + 1, 1, none⟩) hgb).trans xb1
            have y2 : ww.cell? ⟨ga + 1, 2, none⟩ = some (.int .i64 o.b) := (I0.cell (p := ⟨ga + 1, 2, none⟩) hgb).trans xb2
            have y3 : ww.cell? ⟨ga + 1, 3, none⟩ = some (.int .i64 o.c) := (I0.cell (p := ⟨ga + 1, 3, none⟩) hgb).trans xb3
            refine wpOp_step rfl (fun K' hK => ?_)
            go_simp
            refine hK _ _ ?_
            exact ⟨_, _, _, _, _, _, _, _, _, _, rfl, (I0), (kp f0), (fun h => (f1 (upd_ne h (by decide))).imp (fun e => upd_keep e) id), (fun _ => rfl), (kp f3), (fun h => by
              obtain ⟨A', c', R', d', Kz, qz, rvs, e, q, l⟩ := f4 (upd_ne h (by decide))
              exact ⟨A', c', R', d', Kz, qz, rvs, e, q, upd_keep l⟩), (fun h => by
              obtain ⟨A', c', R', d', Kz, qz, rvs, e, q, l⟩ := f5 (upd_ne h (by decide))
              exact ⟨A', c', R', d', Kz, qz, rvs, e, q, upd_keep l⟩), (fun h => by
              obtain ⟨A', c', R', d', Kz, qz, rvs, e, q, l⟩ := f6 (upd_ne h (by decide))
              exact ⟨A', c', R', d', Kz, qz, rvs, e, q, upd_keep l⟩), (kp f7), (fun h => by
              obtain ⟨g, e, hg, r⟩ := f8 (upd_ne h (by decide))
              exact ⟨g, e, hg, r.imp (fun e => upd_keep e) (fun r => r)⟩), (fun h => by
              obtain ⟨g, A', c', R', d', Kz, qz, rvs, e, hg, r, q, la, lf⟩ := f9 (upd_ne h (by decide))
              exact ⟨g, A', c', R', d', Kz, qz, rvs, e, hg, r, q, upd_keep la, upd_keep lf⟩), (kp f10)⟩
          · obtain rfl := Option.some.inj ho
            have g2 := f2 (hd ⟨2, .data⟩ (by simp) rfl)
            subst g2
            refine wpOp_step rfl (fun K' hK => ?_)
            go_simp
            refine (toCommand_any o ww).mono ?_
            rintro e w' ⟨rfl, b5⟩
            refine hK _ _ ?_
            exact ⟨_, _, _, _, _, _, _, _, _, _, rfl, (I0.trans (b5.mono I0.size)), (kp f0), (fun h => (f1 (upd_ne h (by decide))).imp (fun e => upd_keep e) (fun ⟨u1, u2, u3, e, q⟩ => ⟨u1, u2, u3, e, q.1.up b5, q.2.up b5⟩)), (kp f2), (fun _ => rfl), (fun h => by
              obtain ⟨A', c', R', d', Kz, qz, rvs, e, q, l⟩ := f4 (upd_ne h (by decide))
              exact ⟨A', c', R', d', Kz, qz, rvs, e, q.below b5 (Nat.le_refl _), upd_keep l⟩), (fun h => by
              obtain ⟨A', c', R', d', Kz, qz, rvs, e, q, l⟩ := f5 (upd_ne h (by decide))
              exact ⟨A', c', R', d', Kz, qz, rvs, e, q.below b5 (Nat.le_refl _), upd_keep l⟩), (fun h => by
              obtain ⟨A', c', R', d', Kz, qz, rvs, e, q, l⟩ := f6 (upd_ne h (by decide))
              exact ⟨A', c', R', d', Kz, qz, rvs, e, q.below b5 (Nat.le_refl _), upd_keep l⟩), (kp f7), (fun h => by
              obtain ⟨g, e, hg, r⟩ := f8 (upd_ne h (by decide))
              exact ⟨g, e, hg, r.imp (fun e => upd_keep e) (fun r => r.keep b5 r.lt)⟩), (fun h => by
              obtain ⟨g, A', c', R', d', Kz, qz, rvs, e, hg, r, q, la, lf⟩ := f9 (upd_ne h (by decide))
              exact ⟨g, A', c', R', d', Kz, qz, rvs, e, hg, r.keep b5 r.lt, q.below b5 (Nat.le_refl _), upd_keep la, upd_keep lf⟩), (kp f10)⟩
          · obtain rfl := Option.some.inj ho
            have g1 := f1 (hd ⟨1, .data⟩ (by simp) rfl)
            have g3 := f3 (hd ⟨3, .data⟩ (by simp) rfl)
            subst g3
            rcases g1 with q | ⟨u1, u2, u3, rfl, hr9, hk9⟩
            · rw [hL] at q
              cases q
            refine wpOp_step rfl (fun K' hK => ?_)
            go_simp
            refine (stepCounted_any _ _ _ _ _ _ _ _ _ h l o ww (hT.below (bbk.trans (I0.mono bbk.size))) (hr9) (hk9) (by omega) (by omega) (by omega) (Nat.le_refl _) (Nat.le_refl _)).mono ?_
            rw [HH.out, HCT.out, HVB.out]
            rintro e w' ⟨vc, vr, vk, rfl, ⟨rvs, ow⟩, b5⟩
            obtain ⟨A', c', R', d', Kz, qz, rfl, rfl, rfl⟩ := ow.slices
            rw [E0.out, E4.out, E5.out] at ow ⊢
            have ob := ow.base I0.size
            refine hK _ _ ?_
            exact ⟨_, _, _, _, _, _, _, _, _, _, rfl, (I0.trans (b5.mono I0.size)), (kp f0), (fun _ => .inl upd_self), (kp f2), (kp f3), (fun _ => ⟨A', c', R', d', Kz, qz, rvs, rfl, ob, upd_self⟩), (fun h => by
              obtain ⟨A', c', R', d', Kz, qz, rvs, e, q, l⟩ := f5 (upd_ne h (by decide))
              rw [hL] at l
              cases l), (fun h => by
              obtain ⟨A', c', R', d', Kz, qz, rvs, e, q, l⟩ := f6 (upd_ne h (by decide))
              rw [hL] at l
              cases l), (kp f7), (fun h => by
              obtain ⟨g, e, hg, r⟩ := f8 (upd_ne h (by decide))
              exact ⟨g, e, hg, r.imp (fun e => upd_keep e) (fun r => r.keep b5 r.lt)⟩), (fun h => by
              obtain ⟨g, A', c', R', d', Kz, qz, rvs, e, hg, r, q, la, lf⟩ := f9 (upd_ne h (by decide))
              rw [hL] at lf
              cases lf), (kp f10)⟩
          · obtain rfl := Option.some.inj ho
            have g4 := f4 (hd ⟨4, .data⟩ (by simp) rfl)
            obtain ⟨A', c', R', d', Kz, qz, rvs, rfl, ow, lf⟩ := g4
            refine wpOp_step rfl (fun K' hK => ?_)
            go_simp
            refine hK _ _ ?_
            exact ⟨_, _, _, _, _, _, _, _, _, _, rfl, (I0), (kp f0), (fun h => (f1 (upd_ne h (by decide))).imp (fun e => upd_keep e) id), (kp f2), (kp f3), (fun _ => ⟨A', c', R', d', Kz, qz, rvs, rfl, ow, upd_keep lf⟩), (fun _ => ⟨A', c', R', d', Kz, qz, rvs, rfl, ow, upd_keep lf⟩), (fun h => by
              obtain ⟨A', c', R', d', Kz, qz, rvs, e, q, l⟩ := f6 (upd_ne h (by decide))
              exact ⟨A', c', R', d', Kz, qz, rvs, e, q, upd_keep l⟩), (kp f7), (fun h => by
              obtain ⟨g, e, hg, r⟩ := f8 (upd_ne h (by decide))
              exact ⟨g, e, hg, r.imp (fun e => upd_keep e) (fun r => r)⟩), (fun h => by
              obtain ⟨g, A', c', R', d', Kz, qz, rvs, e, hg, r, q, la, lf⟩ := f9 (upd_ne h (by decide))
              exact ⟨g, A', c', R', d', Kz, qz, rvs, e, hg, r, q, upd_keep la, upd_keep lf⟩), (kp f10)⟩
          · obtain rfl := Option.some.inj ho
            have g5 := f5 (hd ⟨5, .data⟩ (by simp) rfl)
            obtain ⟨A', c', R', d', Kz, qz, rvs, rfl, ow, lf⟩ := g5
            refine wpOp_step rfl (fun K' hK => ?_)
            go_simp
            refine hK _ _ ?_
            exact ⟨_, _, _, _, _, _, _, _, _, _, rfl, (I0), (kp f0), (fun h => (f1 (upd_ne h (by decide))).imp (fun e => upd_keep e) id), (kp f2), (kp f3), (fun h => by
              obtain ⟨A', c', R', d', Kz, qz, rvs, e, q, l⟩ := f4 (upd_ne h (by decide))
              exact ⟨A', c', R', d', Kz, qz, rvs, e, q, upd_keep l⟩), (fun _ => ⟨A', c', R', d', Kz, qz, rvs, rfl, ow, upd_keep lf⟩), (fun _ => ⟨A', c', R', d', Kz, qz, rvs, rfl, ow, upd_keep lf⟩), (kp f7), (fun h => by
              obtain ⟨g, e, hg, r⟩ := f8 (upd_ne h (by decide))
              exact ⟨g, e, hg, r.imp (fun e => upd_keep e) (fun r => r)⟩), (fun h => by
              obtain ⟨g, A', c', R', d', Kz, qz, rvs, e, hg, r, q, la, lf⟩ := f9 (upd_ne h (by decide))
              exact ⟨g, A', c', R', d', Kz, qz, rvs, e, hg, r, q, upd_keep la, upd_keep lf⟩), (kp f10)⟩
          · obtain rfl := Option.some.inj ho
            have g5 := f5 (hd ⟨5, .data⟩ (by simp) rfl)
            obtain ⟨A', c', R', d', Kz, qz, rvs, rfl, ow, lf⟩ := g5
            refine wpOp_step rfl (fun K' hK => ?_)
            go_simp
            refine hK _ _ ?_
            exact ⟨_, _, _, _, _, _, _, _, _, _, rfl, (I0), (kp f0), (fun h => (f1 (upd_ne h (by decide))).imp (fun e => upd_keep e) id), (kp f2), (kp f3), (fun h => by
              obtain ⟨A', c', R', d', Kz, qz, rvs, e, q, l⟩ := f4 (upd_ne h (by decide))
              exact ⟨A', c', R', d', Kz, qz, rvs, e, q, upd_keep l⟩), (fun _ => ⟨A', c', R', d', Kz, qz, rvs, rfl, ow, upd_keep lf⟩), (fun h => by
              obtain ⟨A', c', R', d', Kz, qz, rvs, e, q, l⟩ := f6 (upd_ne h (by decide))
              exact ⟨A', c', R', d', Kz, qz, rvs, e, q, upd_keep l⟩), (fun _ => rfl), (fun h => by
              obtain ⟨g, e, hg, r⟩ := f8 (upd_ne h (by decide))
              exact ⟨g, e, hg, r.imp (fun e => upd_keep e) (fun r => r)⟩), (fun h => by
              obtain ⟨g, A', c', R', d', Kz, qz, rvs, e, hg, r, q, la, lf⟩ := f9 (upd_ne h (by decide))
              exact ⟨g, A', c', R', d', Kz, qz, rvs, e, hg, r, q, upd_keep la, upd_keep lf⟩), (kp f10)⟩
          · obtain rfl := Option.some.inj ho
            have bA : Below ww.heap.size ww (ww.alloc (.cells #[.slice none 0 0, .slice none 0 0, .slice none 0 0] 34)) := (Below.refl _ _).alloc (Nat.le_refl _) _
            refine wpOp_step rfl (fun K' hK => ?_)
            go_simp
            refine hK _ _ ?_
            exact ⟨_, _, _, _, _, _, _, _, _, _, rfl, (I0.trans (bA.mono I0.size)), (kp f0), (fun h => (f1 (upd_ne h (by decide))).imp (fun e => upd_keep e) (fun ⟨u1, u2, u3, e, q⟩ => ⟨u1, u2, u3, e, q.1.up bA, q.2.up bA⟩)), (kp f2), (kp f3), (fun h => by
              obtain ⟨A', c', R', d', Kz, qz, rvs, e, q, l⟩ := f4 (upd_ne h (by decide))
              exact ⟨A', c', R', d', Kz, qz, rvs, e, q.below bA (Nat.le_refl _), upd_keep l⟩), (fun h => by
              obtain ⟨A', c', R', d', Kz, qz, rvs, e, q, l⟩ := f5 (upd_ne h (by decide))
              exact ⟨A', c', R', d', Kz, qz, rvs, e, q.below bA (Nat.le_refl _), upd_keep l⟩), (fun h => by
              obtain ⟨A', c', R', d', Kz, qz, rvs, e, q, l⟩ := f6 (upd_ne h (by decide))
              exact ⟨A', c', R', d', Kz, qz, rvs, e, q.below bA (Nat.le_refl _), upd_keep l⟩), (kp f7), (fun _ => ⟨ww.heap.size, rfl, I0.size, .inr (Rw.new ww _ _)⟩), (fun h => by
              obtain ⟨g, A', c', R', d', Kz, qz, rvs, e, hg, r, q, la, lf⟩ := f9 (upd_ne h (by decide))
              rw [hL] at la
              cases la), (kp f10)⟩
          · obtain rfl := Option.some.inj ho
            have g6 := f6 (hd ⟨6, .data⟩ (by simp) rfl)
            have g8 := f8 (hd ⟨8, .data⟩ (by simp) rfl)
            obtain ⟨g, rfl, hg, rz⟩ := g8
            rcases rz with q | rz
            · rw [hL] at q
              cases q
            obtain ⟨A', c', R', d', Kz, qz, rvs, rfl, ow, lf⟩ := g6
            have u0 := rz.cell 0
            have u1 := rz.cell 1
            have u2 := rz.cell 2
            have v0 := rz.frozen 0
            have v1 := rz.frozen 1
            have v2 := rz.frozen 2
            simp at u0 u1 u2
            have la := hd ⟨8, .data⟩ (by simp) rfl
            refine wpOp_step rfl (fun K' hK => ?_)
            go_simp
            refine hK _ _ ?_
            exact ⟨_, _, _, _, _, _, _, _, _, _, rfl, (((I0.setCell (p := ⟨g, 0, none⟩) hg _).setCell (p := ⟨g, 1, none⟩) hg _).setCell (p := ⟨g, 2, none⟩) hg _), (kp f0), (fun _ => .inl (upd_keep lf)), (kp f2), (kp f3), (fun h => by
              obtain ⟨A', c', R', d', Kz, qz, rvs, e, q, l⟩ := f4 (upd_ne h (by decide))
              exact ⟨A', c', R', d', Kz, qz, rvs, e, q.put3 rz _ _ _, upd_keep l⟩), (fun h => by
              obtain ⟨A', c', R', d', Kz, qz, rvs, e, q, l⟩ := f5 (upd_ne h (by decide))
              exact ⟨A', c', R', d', Kz, qz, rvs, e, q.put3 rz _ _ _, upd_keep l⟩), (fun _ => ⟨A', c', R', d', Kz, qz, rvs, rfl, ow.put3 rz _ _ _, upd_keep lf⟩), (kp f7), (fun _ => ⟨g, rfl, hg, .inl upd_self⟩), (fun _ => ⟨g, A', c', R', d', Kz, qz, rvs, rfl, hg, ((rz.put 0 _).put 1 _).put 2 _, ow.put3 rz _ _ _, upd_keep la, upd_keep lf⟩), (kp f10)⟩
          · obtain rfl := Option.some.inj ho
            have g7 := f7 (hd ⟨7, .data⟩ (by simp) rfl)
            subst g7
            refine wpOp_step rfl (fun K' hK => ?_)
            go_simp
            refine hK _ _ ?_
            exact ⟨_, _, _, _, _, _, _, _, _, _, rfl, (I0), (kp f0), (fun h => (f1 (upd_ne h (by decide))).imp (fun e => upd_keep e) id), (kp f2), (kp f3), (fun h => by
              obtain ⟨A', c', R', d', Kz, qz, rvs, e, q, l⟩ := f4 (upd_ne h (by decide))
              exact ⟨A', c', R', d', Kz, qz, rvs, e, q, upd_keep l⟩), (fun h => by
              obtain ⟨A', c', R', d', Kz, qz, rvs, e, q, l⟩ := f5 (upd_ne h (by decide))
              exact ⟨A', c', R', d', Kz, qz, rvs, e, q, upd_keep l⟩), (fun h => by
              obtain ⟨A', c', R', d', Kz, qz, rvs, e, q, l⟩ := f6 (upd_ne h (by decide))
              exact ⟨A', c', R', d', Kz, qz, rvs, e, q, upd_keep l⟩), (kp f7), (fun h => by
              obtain ⟨g, e, hg, r⟩ := f8 (upd_ne h (by decide))
              exact ⟨g, e, hg, r.imp (fun e => upd_keep e) (fun r => r)⟩), (fun h => by
              obtain ⟨g, A', c', R', d', Kz, qz, rvs, e, hg, r, q, la, lf⟩ := f9 (upd_ne h (by decide))
              exact ⟨g, A', c', R', d', Kz, qz, rvs, e, hg, r, q, upd_keep la, upd_keep lf⟩), (fun _ => rfl)⟩
        case hdone =>
          rintro L ac ww hall ⟨t14, t15, t79, t80, t81, t82, t83, t84, t85, t86, rfl, I0, f0, f1, f2, f3, f4, f5, f6, f7, f8, f9, f10⟩
          have e0 := f0 (hall 0 (by decide))
          have e1 := f1 (hall 1 (by decide))
          have e2 := f2 (hall 2 (by decide))
          have e3 := f3 (hall 3 (by decide))
          have e4 := f4 (hall 4 (by decide))
          have e5 := f5 (hall 5 (by decide))
          have e6 := f6 (hall 6 (by decide))
          have e7 := f7 (hall 7 (by decide))
          have e8 := f8 (hall 8 (by decide))
          have e9 := f9 (hall 9 (by decide))
          have e10 := f10 (hall 10 (by decide))
          clear f0 f1 f2 f3 f4 f5 f6 f7 f8 f9 f10
          have ht15 := e10
          obtain ⟨g14, A2, c2, R2, d2, K2, q29, rvs2, ep, hg14, x2, o2, -⟩ := e9
          clear e0 e1 e2 e3 e4 e5 e6 e7 e8 e10 hall
          subst ht15 ep
          have r9 := o2.heap.reads
          have k9 := o2.cnts.reads
          replace o0 := o0.below I0 (Nat.le_refl _)
          replace x0 := x0.keep I0 x0.lt
          replace x1 := x1.keep I0 x1.lt
          replace r6 := r6.up I0
          replace k6 := k6.up I0
          replace bbk := bbk.trans (I0.mono bbk.size)
          clear xa0 xa1 xa2 xb0 xb1 xb2 xb3 hgl hgb q0 q1 o2 I0
          generalize ww = w15 at *
          have y0 : w15.cell? ⟨g5, 0, none⟩ = some (.slice A0 nn c0) := x0.cell 0
          have y1 : w15.cell? ⟨g5, 1, none⟩ = some (.slice R0 mm d0) := x0.cell 1
          have y1k : w15.cell? ⟨g5, 2, none⟩ = some (.slice K0 pp q09) := x0.cell 2
          have y4 : w15.cell? ⟨g14, 0, none⟩ = some (.slice A2 nn c2) := x2.cell 0
          have y5 : w15.cell? ⟨g14, 1, none⟩ = some (.slice R2 mm d2) := x2.cell 1
          have y5k : w15.cell? ⟨g14, 2, none⟩ = some (.slice K2 pp q29) := x2.cell 2
          go_wp2_with fail
          refine (eqCounted_any _ _ _ _ _ _ _ _ _ _ _ _ _ _ _ _ _ _ hh hh ct ct _ r9 k9 o0.heap.reads o0.cnts.reads (by omega) (by omega) (by omega) (by omega) (by omega) (by omega) H3.out H3.out).mono ?_
          rw [decide_eq_true (show hh = hh ∧ ct = ct from ⟨rfl, rfl⟩)]
          rintro e w16 ⟨rfl, b16⟩
          replace x1 := x1.keep b16 x1.lt
          replace r6 := r6.up b16
          replace k6 := k6.up b16
          replace bbk := bbk.trans (b16.mono bbk.size)
          clear b16 y0 y1 y1k y4 y5 y5k o0 x0 x2 r9 k9
          have y2 : w16.cell? ⟨g9, 0, none⟩ = some (.slice A1 nn c1) := x1.cell 0
          have y3 : w16.cell? ⟨g9, 1, none⟩ = some (.slice R1 mm d1) := x1.cell 1
          have y3k : w16.cell? ⟨g9, 2, none⟩ = some (.slice K1 pp q19) := x1.cell 2
          go_wp2_with fail
          refine (heldCounted_any _ _ _ _ _ _ _ _ _ hh _ _ r6 k6 E0.out E4.out (by omega) (by omega) HSZ.out (by omega)).mono ?_
          rw [HKV.out]
          rintro e w17 ⟨rfl, b17⟩
          have bbf := bbk.trans (b17.mono bbk.size)
          go_wp2_with fail
          go_ret
          exact ⟨rfl, bbf⟩
end Go.Proofs.YtfgdenmlfloloaaDoor

namespace Go.Proofs.YtfgdenmlfloloaaDoor
open Go.ChangeShapes Go.WideShapes Go.ChangeAt Go.RowKit Go.Deep
section
variable {H : Type} {enc : TypeId × Value → H} {P : Program} {W : World}
/-- a slice of numbers -/
theorem nums_trod {t e : TypeId} {fuel : Nat} {v : Value} {x : DataW H × List MemPlace} (ht : P.underlying t = some (.slice e)) (he : P.underlying e = some (.int .i64)) (ce : P.cellsOf e = 1)
    (hf : DataW.trod enc P W 0 (fun _ => true) true fuel t [v] = some x) (hlt : ∀ y ∈ x.2, y.block < W.heap.size) :
    ∃ (A : Option Addr) (n c : Nat) (xs : List Int), v = .slice A n c ∧ n ≤ c ∧ n ≤ 9223372036854775807 ∧ IS W W.heap.size A n xs ∧ AllN xs := by
  rcases open_ints ht he ce hf with ⟨h0, _⟩ | ⟨a, len, cap, zs, hcs, hb, hl, hm, hz, hx, hi, hwf⟩
  · injection h0 with h0
    subst h0
    exact ⟨none, 0, 0, [], rfl, by omega, by omega, IS.none_ _ _ _, fun k v hv => by simp at hv⟩
  · injection hcs with hcs
    subst hcs
    simp only [if_true] at hz
    refine ⟨some a, len, cap, zs.take len, rfl, hl, by unfold maxLen at hm; omega, ⟨by rw [List.length_take]; omega, fun hn => ?_⟩, fun k v hv => i64_of_wf (hwf v (List.mem_of_mem_take (List.mem_of_getElem? hv)))⟩
    have h0 := hi 0 (by omega)
    simp [Addr.add] at h0
    have ha := addr_of_cell h0
    have hblt : a.block < W.heap.size := by
      apply hlt (.cell a.block a.off)
      rw [hx, hz, ha]
      simp [MemPlace.row]
      omega
    refine ⟨a.block, a.off, by rw [← ha], hblt, fun k y hk => ?_⟩
    have hkn := (List.getElem?_eq_some_iff.1 hk).1
    rw [List.length_take] at hkn
    rw [List.getElem?_take_of_lt (by omega)] at hk
    have hc := hi k (by omega)
    rw [ha, add_none, List.getD_eq_getElem?_getD, hk] at hc
    exact hc
/-- a slice of cells -/
theorem cells_trod {t e tb ti tr : TypeId} {f0 f1 f2 : Field} {fuel : Nat} {v : Value} {x : DataW H × List MemPlace} (ht : P.underlying t = some (.slice e)) (he : P.underlying e = some (.struct #[f0, f1, f2])) (ce : P.cellsOf e = 3)
    (t0 : f0.type = tb) (t1 : f1.type = ti) (t2 : f2.type = tr) (o0 : f0.offset = 0) (o1 : f1.offset = 1) (o2 : f2.offset = 2)
    (htb : P.underlying tb = some .bool) (hti : P.underlying ti = some (.int .i64)) (htr : P.underlying tr = some (.slice ti)) (cb : P.cellsOf tb = 1) (ci : P.cellsOf ti = 1) (cr : P.cellsOf tr = 1)
    (hf : DataW.trod enc P W 0 (fun _ => true) true fuel t [v] = some x) (hlt : ∀ y ∈ x.2, y.block < W.heap.size) :
    ∃ (A : Option Addr) (n c : Nat) (cs : List Cl), v = .slice A n c ∧ n ≤ c ∧ n ≤ 9223372036854775807 ∧ CS W W.heap.size A n cs ∧ ∀ cl ∈ cs, I64 cl.d ∧ AllN cl.r ∧ cl.r.length ≤ 9223372036854775807 := by
  rcases open_slice ht hf with ⟨h0, _⟩ | ⟨a, len, cap, m, n', D, Pl, hcs, hb, hl, hm, hmm, hx, hi⟩
  · injection h0 with h0
    subst h0
    exact ⟨none, 0, 0, [], rfl, by omega, by omega, CS.none_ _ _ _, fun cl hcl => by simp at hcl⟩
  · injection hcs with hcs
    subst hcs
    simp only [if_true] at hmm
    subst hmm
    have each : ∀ i, i < len → ∃ q : Cl × Option Addr × Nat × Nat, I64 q.1.d ∧ AllN q.1.r ∧ q.2.2.1 ≤ 9223372036854775807 ∧ W.cell? (a.add (i * 3)) = some (.bool q.1.u) ∧ W.cell? (a.add (i * 3 + 1)) = some (.int .i64 q.1.d) ∧ W.cell? (a.add (i * 3 + 2)) = some (.slice q.2.1 q.2.2.1 q.2.2.2) ∧ q.2.2.1 ≤ q.2.2.2 ∧ IS W W.heap.size q.2.1 q.2.2.1 q.1.r := by
      intro i hin
      obtain ⟨cs', h1, h2⟩ := hi i (by omega)
      rw [ce] at h1
      obtain ⟨_, hlen, hcell⟩ := World.cells?_some h1
      obtain ⟨ys, k, _, hys, _, hyl, hfd⟩ := DataW.trod_struct he h2
      match cs', hlen with
      | [v0, v1, v2], _ =>
        have g0 := hfd 0 f0 rfl
        have g1 := hfd 1 f1 rfl
        have g2 := hfd 2 f2 rfl
        rw [t0, o0, cb] at g0
        rw [t1, o1, ci] at g1
        rw [t2, o2, cr] at g2
        rw [List.getElem?_eq_getElem (by rw [hyl]; simp)] at g0 g1 g2
        obtain ⟨u, e0, _⟩ := DataW.trod_bool htb g0
        obtain ⟨n1, e1, _, w1⟩ := DataW.trod_int hti g1
        simp at e0 e1
        subst e0 e1
        have hlt2 : ∀ y ∈ (ys[2]'(by rw [hyl]; simp)).2, y.block < W.heap.size := fun y hy => by
          apply hlt
          rw [hx]
          apply List.mem_append_right
          rw [List.mem_flatMap]
          refine ⟨i, by simp; omega, ?_⟩
          have := congrArg Prod.snd hys
          simp only [] at this
          rw [this, List.mem_flatMap]
          exact ⟨_, List.getElem_mem _, hy⟩
        obtain ⟨A2, n2, c2, xs2, e2, hnc, hn2, hi2, ha2⟩ := nums_trod htr hti ci g2 hlt2
        subst e2
        have q0 := hcell 0 (by omega)
        have q1 := hcell 1 (by omega)
        have q2 := hcell 2 (by omega)
        rw [add_add] at q0 q1 q2
        exact ⟨(⟨u, n1, xs2⟩, A2, n2, c2), i64_of_wf w1, ha2, hn2, by simpa using q0, by simpa using q1, by simpa using q2, hnc, hi2⟩
    obtain ⟨F, hF⟩ := choose_lt each
    refine ⟨some a, len, _, (List.range len).map fun i => (F i).1, rfl, hl, by unfold maxLen at hm; omega, ⟨by simp, fun hn => ?_⟩, fun cl hcl => ?_⟩
    · have h0 := (hF 0 hn).2.2.2.1
      simp [Addr.add] at h0
      have ha := addr_of_cell h0
      have hblt : a.block < W.heap.size := by
        apply hlt (.cell a.block a.off)
        rw [hx, ce]
        apply List.mem_append_left
        rw [ha]
        simp [MemPlace.row]
        omega
      refine ⟨a.block, a.off, by rw [← ha], hblt, fun k c hk => ?_⟩
      have hkn : k < len := by
        have := (List.getElem?_eq_some_iff.1 hk).1
        simpa using this
      simp only [List.getElem?_map] at hk
      rw [List.getElem?_range hkn] at hk
      simp at hk
      subst hk
      obtain ⟨_, _, _, q1, q2, q3, q4, q5⟩ := hF k hkn
      rw [ha, add_none] at q1 q2 q3
      exact ⟨q1, by rw [Nat.add_assoc]; exact q2, _, _, _, by rw [Nat.add_assoc]; exact q3, q4, q5⟩
    · obtain ⟨i, hi', rfl⟩ := List.mem_map.1 hcl
      obtain ⟨q1, q2, q3, _, _, _, _, q5⟩ := hF i (by simpa using hi')
      exact ⟨q1, q2, by rw [q5.1]; exact q3⟩
end
end Go.Proofs.YtfgdenmlfloloaaDoor

namespace Go.Proofs.YtfgdenmlfloloaaDoor
open Go.ChangeShapes Go.WideShapes Go.ChangeAt Go.RowKit Go.Deep
set_option maxRecDepth 100000
end Go.Proofs.YtfgdenmlfloloaaDoor

namespace Go.Proofs.YtfgdenmlfloloaaDoor
open Go.ChangeShapes Go.WideShapes Go.ChangeAt Go.RowKit Go.Deep
set_option maxRecDepth 100000
section
variable {H : Type} {enc : TypeId × Value → H} {P : Program} {W : World}
theorem heap_trod {t tc tn e tb ti : TypeId} {h0 h1 f0 f1 f2 : Field} {v0 v1 : Value} {fuel : Nat} {x : DataW H × List MemPlace}
    (hh : P.underlying t = some (.struct #[h0, h1])) (s0 : h0.type = tc) (s1 : h1.type = tn) (p0 : h0.offset = 0) (p1 : h1.offset = 1) (ctc : P.cellsOf tc = 1) (ctn : P.cellsOf tn = 1)
    (htc : P.underlying tc = some (.slice e)) (htn : P.underlying tn = some (.slice ti)) (he : P.underlying e = some (.struct #[f0, f1, f2])) (ce : P.cellsOf e = 3)
    (t0 : f0.type = tb) (t1 : f1.type = ti) (t2 : f2.type = tn) (o0 : f0.offset = 0) (o1 : f1.offset = 1) (o2 : f2.offset = 2)
    (htb : P.underlying tb = some .bool) (hti : P.underlying ti = some (.int .i64)) (cb : P.cellsOf tb = 1) (ci : P.cellsOf ti = 1)
    (hf : DataW.trod enc P W 0 (fun _ => true) true fuel t [v0, v1] = some x) (hlt : ∀ y ∈ x.2, y.block < W.heap.size) :
    ∃ (A R : Option Addr) (n c m dd : Nat) (hp : Hp), v0 = .slice A n c ∧ v1 = .slice R m dd ∧ n ≤ 9223372036854775807 ∧ m ≤ 9223372036854775807 ∧ HS W W.heap.size A n R m hp ∧ ∀ cl ∈ hp.cs, cl.r.length ≤ 9223372036854775807 := by
  obtain ⟨d, ps⟩ := x
  obtain ⟨ys, k, _, hys, _, hyl, hfd⟩ := DataW.trod_struct hh hf
  have g0 := hfd 0 h0 rfl
  have g1 := hfd 1 h1 rfl
  rw [s0, p0, ctc] at g0
  rw [s1, p1, ctn] at g1
  rw [List.getElem?_eq_getElem (by rw [hyl]; simp)] at g0 g1
  simp at g0 g1
  have hpl : ∀ (i : Nat) (hi : i < ys.length), ∀ y ∈ (ys[i]).2, y.block < W.heap.size := fun i hi y hy => by
    apply hlt
    have := congrArg Prod.snd hys
    simp only [] at this
    rw [this, List.mem_flatMap]
    exact ⟨_, List.getElem_mem _, hy⟩
  obtain ⟨A, n, c, cs, e0, _, hn, hC, ha⟩ := cells_trod htc he ce t0 t1 t2 o0 o1 o2 htb hti htn cb ci ctn g0 (hpl 0 _)
  obtain ⟨R, m, dd, xs, e1, _, hm, hI, hx⟩ := nums_trod htn hti ci g1 (hpl 1 _)
  subst e0 e1
  exact ⟨A, R, n, c, m, dd, ⟨cs, xs⟩, rfl, rfl, hn, hm, ⟨hC, hI⟩, fun cl hcl => (ha cl hcl).2.2⟩
theorem open_counted {u t tc tn e tb ti : TypeId} {k0 k1 h0 h1 f0 f1 f2 : Field} {r : Reach} {b0 : Nat} {v : Value} {d : DataW H} {ps : List MemPlace}
    (hu : P.underlying u = some (.struct #[k0, k1])) (cu : P.cellsOf u = 3) (y0 : k0.type = t) (y1 : k1.type = tn) (x0 : k0.offset = 0) (x1 : k1.offset = 2) (ct : P.cellsOf t = 2)
    (hh : P.underlying t = some (.struct #[h0, h1])) (s0 : h0.type = tc) (s1 : h1.type = tn) (p0 : h0.offset = 0) (p1 : h1.offset = 1) (ctc : P.cellsOf tc = 1) (ctn : P.cellsOf tn = 1)
    (htc : P.underlying tc = some (.slice e)) (htn : P.underlying tn = some (.slice ti)) (he : P.underlying e = some (.struct #[f0, f1, f2])) (ce : P.cellsOf e = 3)
    (t0 : f0.type = tb) (t1 : f1.type = ti) (t2 : f2.type = tn) (o0 : f0.offset = 0) (o1 : f1.offset = 1) (o2 : f2.offset = 2)
    (htb : P.underlying tb = some .bool) (hti : P.underlying ti = some (.int .i64)) (cb : P.cellsOf tb = 1) (ci : P.cellsOf ti = 1)
    (hval : Value.okWide P W r b0 u v) (h : DataW.Trod enc P W 0 (fun _ => true) true u v d ps) (hlt : ∀ x ∈ ps, x.block < W.heap.size) :
    ∃ (A R K : Option Addr) (n c m dd p q : Nat) (hp : Hp) (l : List Int), v = .agg #[.slice A n c, .slice R m dd, .slice K p q] ∧ n ≤ 9223372036854775807 ∧ m ≤ 9223372036854775807 ∧ p ≤ 9223372036854775807 ∧ HS W W.heap.size A n R m hp ∧ IS W W.heap.size K p l ∧ ∀ cl ∈ hp.cs, cl.r.length ≤ 9223372036854775807 := by
  obtain ⟨cs, rfl, hsz⟩ := okWide_struct hu hval
  rw [cu] at hsz
  obtain ⟨fuel, hf⟩ := h
  obtain ⟨ys, k, _, hys, _, hyl, hfd⟩ := DataW.trod_struct hu hf
  obtain ⟨l⟩ := cs
  match l, hsz with
  | [v0, v1, v2], _ =>
    have g0 := hfd 0 k0 rfl
    have g1 := hfd 1 k1 rfl
    rw [y0, x0, ct] at g0
    rw [y1, x1, ctn] at g1
    rw [List.getElem?_eq_getElem (by rw [hyl]; simp)] at g0 g1
    simp at g0 g1
    have hpl : ∀ (i : Nat) (hi : i < ys.length), ∀ y ∈ (ys[i]).2, y.block < W.heap.size := fun i hi y hy => by
      apply hlt
      have := congrArg Prod.snd hys
      simp only [] at this
      rw [this, List.mem_flatMap]
      exact ⟨_, List.getElem_mem _, hy⟩
    obtain ⟨A, R, n, c, m, dd, hp, rfl, rfl, hn, hm, hs, hb⟩ := heap_trod hh s0 s1 p0 p1 ctc ctn htc htn he ce t0 t1 t2 o0 o1 o2 htb hti cb ci g0 (hpl 0 _)
    obtain ⟨K, p, q, xs, rfl, _, hp3, hI, _⟩ := nums_trod htn hti ci g1 (hpl 1 _)
    exact ⟨A, R, K, n, c, m, dd, p, q, hp, xs, rfl, hn, hm, hp3, hs, hI, hb⟩
end
theorem open_lawsCounted {H : Type} {enc : TypeId × Value → H} {W : World} {r : Reach} {base : Nat} {v : Value} {d : DataW H} {ps : List MemPlace} (hval : Value.okWide Tryd.prog W r base 57 v) (h : DataW.Trod enc Tryd.prog W 0 (fun _ => true) true 57 v d ps) (hlt : ∀ x ∈ ps, x.block < W.heap.size) :
    ∃ (A R K : Option Addr) (n c m dd p q : Nat) (hp : Hp) (l : List Int), v = .agg #[.slice A n c, .slice R m dd, .slice K p q] ∧ n ≤ 9223372036854775807 ∧ m ≤ 9223372036854775807 ∧ p ≤ 9223372036854775807 ∧ HS W W.heap.size A n R m hp ∧ IS W W.heap.size K p l ∧ ∀ cl ∈ hp.cs, cl.r.length ≤ 9223372036854775807 :=
  open_counted (t := 55) (tc := 53) (tn := 24) (e := 148) (tb := 4) (ti := 3) Tryd.underlying57 (by kernel_rfl) rfl rfl rfl rfl (by kernel_rfl) Tryd.underlying55 rfl rfl rfl rfl (by kernel_rfl) (by kernel_rfl) Tryd.underlying53 Tryd.underlying24 Tryd.underlying148 (by kernel_rfl) rfl rfl rfl rfl rfl rfl Tryd.underlying4 Tryd.underlying3 (by kernel_rfl) (by kernel_rfl) hval h hlt
end Go.Proofs.YtfgdenmlfloloaaDoor

namespace Go.Proofs.YtfgdenmlfloloaaDoor
open Go.ChangeShapes Go.WideShapes Go.ChangeAt Go.RowKit Go.Deep
set_option maxRecDepth 100000
section
variable {H : Type} {enc : TypeId × Value → H} {P : Program} {W : World}
theorem open_four {t ti : TypeId} {f0 f1 f2 f3 : Field} {r : Reach} {b0 : Nat} {v : Value} {d : DataW H} {ps : List MemPlace}
    (he : P.underlying t = some (.struct #[f0, f1, f2, f3])) (ce : P.cellsOf t = 4)
    (t0 : f0.type = ti) (t1 : f1.type = ti) (t2 : f2.type = ti) (t3 : f3.type = ti) (o0 : f0.offset = 0) (o1 : f1.offset = 1) (o2 : f2.offset = 2) (o3 : f3.offset = 3)
    (hti : P.underlying ti = some (.int .i64)) (ci : P.cellsOf ti = 1)
    (hval : Value.okWide P W r b0 t v) (h : DataW.Trod enc P W 0 (fun _ => true) true t v d ps) :
    ∃ o : Cm, v = cmV o := by
  obtain ⟨cs, rfl, hsz⟩ := okWide_struct he hval
  rw [ce] at hsz
  obtain ⟨fuel, hf⟩ := h
  obtain ⟨ys, k, _, _, _, hyl, hfd⟩ := DataW.trod_struct he hf
  obtain ⟨l⟩ := cs
  match l, hsz with
  | [v0, v1, v2, v3], _ =>
    have g0 := hfd 0 f0 rfl
    have g1 := hfd 1 f1 rfl
    have g2 := hfd 2 f2 rfl
    have g3 := hfd 3 f3 rfl
    rw [t0, o0, ci] at g0
    rw [t1, o1, ci] at g1
    rw [t2, o2, ci] at g2
    rw [t3, o3, ci] at g3
    rw [List.getElem?_eq_getElem (by rw [hyl]; simp)] at g0 g1 g2 g3
    obtain ⟨n0, e0, _, _⟩ := DataW.trod_int hti g0
    obtain ⟨n1, e1, _, _⟩ := DataW.trod_int hti g1
    obtain ⟨n2, e2, _, _⟩ := DataW.trod_int hti g2
    obtain ⟨n3, e3, _, _⟩ := DataW.trod_int hti g3
    simp [Value.cells] at e0 e1 e2 e3
    subst e0 e1 e2 e3
    exact ⟨⟨n0, n1, n2, n3⟩, rfl⟩
end
theorem open_lawsCommand {H : Type} {enc : TypeId × Value → H} {W : World} {r : Reach} {base : Nat} {v : Value} {d : DataW H} {ps : List MemPlace} (hval : Value.okWide Tryd.prog W r base 58 v) (h : DataW.Trod enc Tryd.prog W 0 (fun _ => true) true 58 v d ps) :
    ∃ o : Cm, v = cmV o :=
  open_four (ti := 3) Tryd.underlying58 (by kernel_rfl) rfl rfl rfl rfl rfl rfl rfl rfl Tryd.underlying3 (by kernel_rfl) hval h
end Go.Proofs.YtfgdenmlfloloaaDoor

namespace Go.Proofs.YtfgdenmlfloloaaDoor
open Go.ChangeShapes Go.WideShapes Go.ChangeAt Go.RowKit Go.Deep
theorem var_ltU {P : Program} {W : World} {n : String} {g : Nat} {cs : Array Value} (hg : P.globalNamed n = some g) (h : W.var? P n = some cs) : g < W.heap.size := by
  unfold World.var? at h
  simp only [hg, Option.bind_some] at h
  split at h
  · next h2 => exact (Array.getElem?_eq_some_iff.1 h2).1
  · cases h
theorem gTz : Tryd.prog.globalNamed "math/bits.deBruijn64tab" = some 0 := by kernel_rfl
theorem tab_cast : ∀ i : Nat, i < 64 → ([0, 1, 56, 2, 57, 49, 28, 3, 61, 58, 42, 50, 38, 29, 17, 4, 62, 47, 59, 36, 45, 43, 51, 22, 53, 39, 33, 30, 24, 18, 12, 5, 63, 55, 48, 27, 60, 41, 37, 16, 46, 35, 44, 21, 52, 32, 23, 11, 54, 26, 40, 15, 34, 20, 31, 10, 25, 14, 19, 9, 13, 8, 7, 6] : List Int).getD i 0 = (Lib.deBruijn64tab.getD i 0 : Nat) := by decide +kernel
theorem tzT_of_laid {W : World} (h : laidMetH Tryd.prog [("math/bits.deBruijn64tab", Rows.laid_math_bits_deBruijn64tab)] W) : TzT W := by
  rw [MakeChecks.laidMetH_plain _ _ _ (by kernel_rfl)] at h
  have hT : Lib.TabIs Tryd.prog W "math/bits.deBruijn64tab" .u8 [0, 1, 56, 2, 57, 49, 28, 3, 61, 58, 42, 50, 38, 29, 17, 4, 62, 47, 59, 36, 45, 43, 51, 22, 53, 39, 33, 30, 24, 18, 12, 5, 63, 55, 48, 27, 60, 41, 37, 16, 46, 35, 44, 21, 52, 32, 23, 11, 54, 26, 40, 15, 34, 20, 31, 10, 25, 14, 19, 9, 13, 8, 7, 6] :=
    Lib.tabIs_of_head (k := .u8) (zs := [0, 1, 56, 2, 57, 49, 28, 3, 61, 58, 42, 50, 38, 29, 17, 4, 62, 47, 59, 36, 45, 43, 51, 22, 53, 39, 33, 30, 24, 18, 12, 5, 63, 55, 48, 27, 60, 41, 37, 16, 46, 35, 44, 21, 52, 32, 23, 11, 54, 26, 40, 15, 34, 20, 31, 10, 25, 14, 19, 9, 13, 8, 7, 6]) (rest := []) (n := 64) (t := 156) (e := 5) gTz (by kernel_rfl) Tryd.underlying156 Tryd.underlying5 (by kernel_rfl) (by kernel_rfl) h
  exact ⟨var_ltU gTz hT, fun i hi => by
    rw [← tab_cast i hi]
    exact hT.cell gTz i (by simpa using hi)⟩
/-- the door's own heap meets the condition -/
theorem door_tz (os : Os) (args : Array Value) : laidMetH Tryd.prog [("math/bits.deBruijn64tab", Rows.laid_math_bits_deBruijn64tab)] ((World.doorLaid Tryd.prog 14 os).forCall (fun _ _ => 0) ⟨#[], args, []⟩).memory :=
  laidMetH_of_parts3 (fuel := 8) (laidMet_of_run' 8 (by kernel_rfl) (by kernel_rfl)) (by kernel_rfl) (by kernel_rfl)
end Go.Proofs.YtfgdenmlfloloaaDoor

