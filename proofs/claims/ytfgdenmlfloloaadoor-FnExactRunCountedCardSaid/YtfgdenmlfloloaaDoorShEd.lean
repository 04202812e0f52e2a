/- What the claim DERunCounted stands on, part 4 of 4: texts of one seat put together, with what the claim needs of them. No conditions. -/
import Derived.Test.YtfgdenmlfloloaaDoorShEc
namespace Go.Proofs.YtfgdenmlfloloaaDoor
open Go.RowKit
set_option maxRecDepth 100000
namespace Hps
theorem okCt_eq (h : Hp) (l : List Int) : okCt h l = (validH h && decide (countsH h = l)) := by
  rw [Bool.eq_iff_iff, okCt_iff, Bool.and_eq_true, decide_eq_true_iff]
  constructor
  · rintro ⟨h1, rfl⟩
    exact ⟨h1, by rw [countsH, if_pos h1]⟩
  · rintro ⟨h1, h2⟩
    rw [countsH, if_pos h1] at h2
    exact ⟨h1, h2.symm⟩
theorem countsH_len (h : Hp) : (countsH h).length ≤ h.cs.length := by
  unfold countsH
  split
  · simp [countsL]
  · simp
theorem gap_at {h : Hp} {k : Nat} (hk : k < h.cs.length) (hu : usedAt h.cs k = false) (hb : ∀ j, j < k → usedAt h.cs j = true) : gapH h = k := by
  rcases gapH_cases h with ⟨e1, e2⟩ | ⟨e1, e2, e3⟩
  · have := e2 k hk
    rw [hu] at this
    cases this
  · rcases Nat.lt_trichotomy (gapH h) k with q | q | q
    · have := hb _ q
      rw [e2] at this
      cases this
    · exact q
    · have := e3 k q
      rw [hu] at this
      cases this
theorem gap_end {h : Hp} (hb : ∀ j, j < h.cs.length → usedAt h.cs j = true) : gapH h = h.cs.length := by
  rcases gapH_cases h with ⟨e1, _⟩ | ⟨e1, e2, _⟩
  · exact e1
  · have := hb _ e1
    rw [e2] at this
    cases this
theorem usedAt_of {cs : List Cl} {k : Nat} {c : Cl} (hc : cs[k]? = some c) : usedAt cs k = c.u := by rw [usedAt, hc]
end Hps
set_option maxHeartbeats 4000000 in
theorem mCountedValid_any (A R K : Option Addr) (n c m d p q : Nat) (h : Hp) (l : List Int) (w : World) (hs : HS w w.heap.size A n R m h) (hk : IS w w.heap.size K p l) (hn : n ≤ 1099511627776) (hm : m ≤ 1099511627776) (hp : p ≤ 1099511627776) :
    Calls Tryd.prog 62 #[ctV A n c R m d K p q] w fun e w' => e = .returned (.bool (Hps.okCt h l)) ∧ Below w.heap.size w w' := by
  have b0 : Below w.heap.size w (w.alloc (.cells #[.slice A n c, .slice R m d, .slice K p q] 34)) := (Below.refl _ _).alloc (Nat.le_refl _) _
  have r0 := hs.up b0
  have k0 := hk.up b0
  have q0 := Rw.new w 34 #[.slice A n c, .slice R m d, .slice K p q]
  have hlc := hs.cells.1
  go_enter Tryd.func62, Tryd.ntmps62
  go_wp2_with fail
  refine (mRefCounts_any _ _ _ _ _ _ h _ r0 hn hm).mono ?_
  rintro e w1 ⟨v1, rfl, o1, b1⟩
  have bb1 := b0.trans (b1.mono b0.size)
  have r1 := r0.up b1
  have k1 := k0.up b1
  have q1 := q0.keep b1 q0.lt
  have x0 : w1.cell? ⟨w.heap.size, 0, none⟩ = some (.slice A n c) := q1.cell 0
  have x1 : w1.cell? ⟨w.heap.size, 1, none⟩ = some (.slice R m d) := q1.cell 1
  have x2 : w1.cell? ⟨w.heap.size, 2, none⟩ = some (.slice K p q) := q1.cell 2
  obtain ⟨A1, c1, rfl, -⟩ := o1.form
  have hle := Hps.countsH_len h
  have R1 := o1.reads
  have HE := Lib.hid (Hps.okCt_eq h l)
  obtain ⟨xs, hxs⟩ : ∃ xs, Hps.countsH h = xs := ⟨_, rfl⟩
  rw [hxs] at R1 HE hle ⊢
  have HX := Lib.hid hxs
  obtain ⟨f, hf⟩ : ∃ f, xs.length = f := ⟨_, rfl⟩
  rw [hf] at R1 hle ⊢
  have HF := Lib.hid hf
  have HP := Lib.hid hk.1
  clear hxs hf o1 b1 r0 k0 q0 b0
  by_cases hfp : f = p
  · subst hfp
    have hne : ((f : Int) != f) = false := by simp
    go_wp2_with fail
    go_loopw [4] (fun i wr => ∃ k : Nat, k ≤ f ∧ i = .int .i64 k ∧ Hid (xs.take k = l.take k) ∧ Below w1.heap.size w1 wr) (fun i _ => f - (intOf i).toNat)
    case atStart => exact ⟨0, Nat.zero_le _, rfl, by simp [Hid], Below.refl _ _⟩
    case round =>
      obtain ⟨k, hkf, rfl, hpre, hb⟩ := hrel
      have bbk := bb1.trans (hb.mono bb1.size)
      have q2 := q1.keep hb q1.lt
      have x0 : wr.cell? ⟨w.heap.size, 0, none⟩ = some (.slice A n c) := q2.cell 0
      have x1 : wr.cell? ⟨w.heap.size, 1, none⟩ = some (.slice R m d) := q2.cell 1
      have x2 : wr.cell? ⟨w.heap.size, 2, none⟩ = some (.slice K f q) := q2.cell 2
      by_cases hlt : k < f
      · obtain ⟨g, o, x, rfl, hg, hx, c1'⟩ := (R1.below hb).at_ hlt
        obtain ⟨g', o', y, rfl, hg', hy, c2'⟩ := (k1.below hb).at_ hlt
        have HX2 := Lib.hid hx
        have HY := Lib.hid hy
        have hlt' : (k : Int) < f := by omega
        clear hx hy
        by_cases hxy : x = y
        · subst hxy
          clear bbk q2
          go_wp2_with fail
          go_big_quiet (fail)
          go_wp2
          go_roundw
          case rel => exact ⟨k + 1, by omega, by go_num, Lib.hid (take_eq_succI hpre.out HX2.out HY.out), below_drewN hb _⟩
          case measure => simp [intOf]; omega
        · have hne : (x == y) = false := by rw [beq_eq_false_iff_ne]; exact hxy
          have hne2 : (x != y) = true := by rw [bne_iff_ne]; exact hxy
          have HR := Lib.hid (show Hps.okCt h l = false by
            rw [HE.out, decide_eq_false (show ¬ xs = l from Hps.take_ne HX2.out HY.out hxy), Bool.and_false])
          clear hxy q2
          go_wp2_with fail
          go_big_quiet (fail)
          go_wp2
          go_ret
          exact ⟨by rw [HR.out]; rfl, below_drewN bbk _⟩
      · have hkn : k = f := by omega
        have HR := Lib.hid (show Hps.okCt h l = Hps.validH h by
          have : xs = l := by
            have := hpre.out
            rwa [List.take_of_length_le (by rw [HF.out]; omega), List.take_of_length_le (by rw [HP.out]; omega)] at this
          rw [HE.out, decide_eq_true this, Bool.and_true])
        subst hkn
        clear hpre
        have rr := r1.up hb
        clear q2
        go_wp2_with fail
        refine (mHeapValid_any _ _ _ _ _ _ h _ rr hn hm).mono ?_
        rw [← HR.out]
        rintro e w5 ⟨rfl, b5⟩
        have bb5 := bbk.trans (b5.mono bbk.size)
        go_wp2_with fail
        go_ret
        exact ⟨rfl, bb5⟩
  · have hne : ((f : Int) != p) = true := by rw [bne_iff_ne]; omega
    have HR := Lib.hid (show Hps.okCt h l = false by
      rw [HE.out, decide_eq_false (show ¬ xs = l from fun e => hfp (by rw [← HF.out, e]; exact HP.out)), Bool.and_false])
    go_wp2_with fail
    go_ret
    exact ⟨by rw [HR.out]; rfl, bb1⟩
set_option maxHeartbeats 4000000 in
theorem mPlace_any (A R : Option Addr) (n c m d : Nat) (h : Hp) (w : World) (hs : HS w w.heap.size A n R m h) (hn : n ≤ 1099511627776) :
    Calls Tryd.prog 64 #[heapV A n c R m d] w fun e w' => e = .returned (.int .i64 (Hps.gapH h)) ∧ Below w.heap.size w w' := by
  have b0 : Below w.heap.size w (w.alloc (.cells #[.slice A n c, .slice R m d] 26)) := (Below.refl _ _).alloc (Nat.le_refl _) _
  have r0 := hs.up b0
  have q0 := Rw.new w 26 #[.slice A n c, .slice R m d]
  have hlc := hs.cells.1
  have HLC := Lib.hid hlc
  clear hlc
  go_enter Tryd.func64, Tryd.ntmps64
  go_wp2_with fail
  generalize w.alloc (.cells #[.slice A n c, .slice R m d] 26) = w0 at b0 r0 q0 ⊢
  go_loopw [3] (fun i wr => ∃ k : Nat, k ≤ n ∧ i = .int .i64 k ∧ Hid (∀ j, j < k → Hps.usedAt h.cs j = true) ∧ wr = w0) (fun i _ => n - (intOf i).toNat)
  case atStart => exact ⟨0, Nat.zero_le _, rfl, Lib.hid (fun j hj => by omega), rfl⟩
  case round =>
    obtain ⟨k, hk, rfl, hpre, rfl⟩ := hrel
    have x0 : wr.cell? ⟨w.heap.size, 0, none⟩ = some (.slice A n c) := q0.cell 0
    by_cases hlt : k < n
    · obtain ⟨g, o, cl, A', m', cc, e1, hg, hcl, d1, _, _, _, _⟩ := (hs.cells.below b0).at_ hlt
      subst e1
      have hlt' : (k : Int) < n := by omega
      have HU := Lib.hid (Hps.usedAt_of hcl)
      have HC := Lib.hid hcl
      clear hcl
      cases hu : cl.u <;> rw [hu] at d1 HU
      · have HG := Lib.hid (Hps.gap_at (h := h) (k := k) (by rw [HLC.out]; exact hlt) HU.out hpre.out)
        clear hu
        go_wp2_with fail
        go_ret
        exact ⟨by rw [HG.out]; rfl, b0⟩
      · clear hu
        go_wp2_with fail
        go_roundw
        case rel => exact ⟨k + 1, by omega, by go_num, Lib.hid (fun j hj => by
          rcases Nat.lt_or_ge j k with h1 | h1
          · exact hpre.out j h1
          · obtain rfl : j = k := by omega
            exact HU.out), trivial⟩
        case measure => simp [intOf]; omega
    · obtain rfl : k = n := by omega
      have HG := Lib.hid (show Hps.gapH h = k by rw [← HLC.out]; exact Hps.gap_end (by rw [HLC.out]; exact hpre.out))
      go_wp2_with fail
      go_ret
      exact ⟨by rw [HG.out]; rfl, b0⟩
end Go.Proofs.YtfgdenmlfloloaaDoor

namespace Go.Proofs.YtfgdenmlfloloaaDoor
open Go.RowKit
set_option maxRecDepth 100000
theorem equalI_any (A B : Option Addr) (n m c d : Nat) (xs ys : List Int) (w : World) (h : IS w w.heap.size A n xs) (h' : IS w w.heap.size B m ys) (hn : n ≤ 1099511627776) (hm : m ≤ 1099511627776) :
    Calls Tryd.prog 74 #[.slice A n c, .slice B m d] w fun e w' => e = .returned (.bool (decide (xs = ys))) ∧ Below w.heap.size w w' := by
  have HL := Lib.hid h.1
  have HL' := Lib.hid h'.1
  by_cases hnm : n = m
  · subst hnm
    go_enter Tryd.func74, Tryd.ntmps74
    go_wp2
    go_loopw [13] (fun i wr => ∃ (k : Nat), k ≤ n ∧ i = .int .i64 k ∧ Hid (xs.take k = ys.take k) ∧ Below w.heap.size w wr) (fun i _ => n - (intOf i).toNat)
    case atStart => exact ⟨0, Nat.zero_le _, rfl, by simp [Hid], Below.refl _ _⟩
    case round =>
      obtain ⟨k, hk, rfl, hpre, hb⟩ := hrel
      by_cases hlt : k < n
      · obtain ⟨g, o, x, rfl, hg, hx, c1⟩ := (h.below hb).at_ hlt
        obtain ⟨g', o', y, rfl, hg', hx', c1'⟩ := (h'.below hb).at_ hlt
        have HX := Lib.hid hx
        have HX' := Lib.hid hx'
        have hlt' : (k : Int) < n := by omega
        clear hx hx'
        by_cases hxy : x = y
        · subst hxy
          go_wp2_with fail
          go_quiet (fail)
          go_wp2
          go_roundw
          case rel => exact ⟨k + 1, by omega, by go_num, Lib.hid (take_eq_succI hpre.out HX.out HX'.out), below_drewN hb _⟩
          case measure => simp [intOf]; omega
        · have hne : (x == y) = false := by rw [beq_eq_false_iff_ne]; exact hxy
          have hne2 : (x != y) = true := by rw [bne_iff_ne]; exact hxy
          have HNE := Lib.hid (show xs ≠ ys from fun e => hxy (by
            have a := HX.out
            have b := HX'.out
            rw [e, b] at a
            exact (Option.some.inj a).symm))
          clear hxy
          go_wp2_with fail
          go_quiet (fail)
          go_wp2
          go_ret
          exact ⟨ret_bool (decide_eq_false HNE.out).symm, below_drewN hb _⟩
      · have hkn : k = n := by omega
        have HK := Lib.hid hkn
        clear hkn
        go_wp2
        go_ret
        refine ⟨ret_bool ?_, hb⟩
        have hp := hpre.out
        rw [HK.out, List.take_of_length_le (by rw [HL.out]; omega), List.take_of_length_le (by rw [HL'.out]; omega)] at hp
        simp [hp]
  · have hne : ((n : Int) != m) = true := by rw [bne_iff_ne]; omega
    have HN := Lib.hid hnm
    clear hnm
    go_enter Tryd.func74, Tryd.ntmps74
    go_wp2
    go_ret
    refine ⟨ret_bool ?_, Below.refl _ _⟩
    simp
    rintro rfl
    exact HN.out (HL.out.symm.trans HL'.out)
end Go.Proofs.YtfgdenmlfloloaaDoor

namespace Go.Proofs.YtfgdenmlfloloaaDoor
open Go.RowKit
set_option maxRecDepth 100000
set_option maxHeartbeats 4000000 in
theorem countedValid_any (A R K : Option Addr) (n c m d p q : Nat) (h : Hp) (l : List Int) (w : World) (hs : HS w w.heap.size A n R m h) (hk : IS w w.heap.size K p l) (hn : n ≤ 1099511627776) (hm : m ≤ 1099511627776) (hp : p ≤ 1099511627776) (hnc : n ≤ c) (hmd : m ≤ d) :
    Calls Tryd.prog 20 #[ctV A n c R m d K p q] w fun e w' => e = .returned (.bool (Hps.okCt h l)) ∧ Below w.heap.size w w' := by
  have b0 : Below w.heap.size w (w.alloc (.cells #[.slice A n c, .slice R m d, .slice K p q] 34)) := (Below.refl _ _).alloc (Nat.le_refl _) _
  have r0 := hs.up b0
  have k0 := hk.up b0
  have Q0 := Rw.new w 34 #[.slice A n c, .slice R m d, .slice K p q]
  obtain ⟨v, hv⟩ : ∃ v, Hps.validH h = v := ⟨_, rfl⟩
  have HOK := Lib.hid (show Hps.okCt h l = (v && decide (l = Hps.countsH h)) by
    rw [Hps.okCt_eq, hv]
    congr 1
    exact decide_eq_decide.2 ⟨fun e => e.symm, fun e => e.symm⟩)
  have HV := Lib.hid hv
  have HL := Hps.countsH_len h
  rw [hs.cells.1] at HL
  clear hv
  go_enter Tryd.func20, Tryd.ntmps20
  go_upto_region 1 with fail
  generalize w.alloc (.cells #[.slice A n c, .slice R m d, .slice K p q] 34) = w2 at b0 r0 k0 Q0 ⊢
  generalize hbq : w.heap.size = b at Q0 ⊢
  have HB := Lib.hid hbq
  clear hbq
  have hbl := Q0.lt
  have x0 : w2.cell? ⟨b, 0, none⟩ = some (.slice A n c) := Q0.cell 0
  have x1 : w2.cell? ⟨b, 1, none⟩ = some (.slice R m d) := Q0.cell 1
  have x2 : w2.cell? ⟨b, 2, none⟩ = some (.slice K p q) := Q0.cell 2
  cases v
  · skip
    refine wp_region_inv (by kernel_rfl) (by kernel_rfl) (fun L ac ww => ∃ t2 t3 t4 t5 t6 t7 t8 t9 t10 t11 t12 t13 : Value, ac = { tmps := #[ctV A n c R m d K p q, Value.pointer (some { block := b, off := 0 }), t2, t3, t4, t5, t6, t7, t8, t9, t10, t11, t12, t13], defers := [] } ∧ (Below w2.heap.size w2 ww) ∧ (L 0 = true → t3 = .pointer (some ⟨b, 0, none⟩)) ∧ (L 1 = true → t4 = .agg #[.slice A n c, .slice R m d]) ∧ (L 2 = true → t5 = .bool false) ∧ (L 3 = true → t6 = .bool false) ∧ (L 4 = true → True) ∧ (L 5 = true → True) ∧ (L 6 = true → True) ∧ (L 7 = true → True) ∧ (L 8 = true → True) ∧ (L 9 = true → True) ∧ (L 10 = true → t13 = .bool false) ∧ (L 11 = true → t2 = .bool false)) ?h0 ?hstep ?hdone
    case h0 => exact ⟨_, _, _, _, _, _, _, _, _, _, _, _, rfl, (Below.refl _ _).drew, (fun h => absurd h Bool.false_ne_true), (fun h => absurd h Bool.false_ne_true), (fun h => absurd h Bool.false_ne_true), (fun h => absurd h Bool.false_ne_true), (fun h => absurd h Bool.false_ne_true), (fun h => absurd h Bool.false_ne_true), (fun h => absurd h Bool.false_ne_true), (fun h => absurd h Bool.false_ne_true), (fun h => absurd h Bool.false_ne_true), (fun h => absurd h Bool.false_ne_true), (fun h => absurd h Bool.false_ne_true), (fun h => absurd h Bool.false_ne_true)⟩
    case hstep =>
      rintro L ac ww i o ho hL hd ⟨t2, t3, t4, t5, t6, t7, t8, t9, t10, t11, t12, t13, rfl, I0, f0, f1, f2, f3, f4, f5, f6, f7, f8, f9, f10, f11⟩
      have hi : i < 12 := (Array.getElem?_eq_some_iff.1 ho).1
      obtain rfl | rfl | rfl | rfl | rfl | rfl | rfl | rfl | rfl | rfl | rfl | rfl : i = 0 ∨ i = 1 ∨ i = 2 ∨ i = 3 ∨ i = 4 ∨ i = 5 ∨ i = 6 ∨ i = 7 ∨ i = 8 ∨ i = 9 ∨ i = 10 ∨ i = 11 := by omega
      · obtain rfl := Option.some.inj ho
        refine wpOp_step rfl (fun K' hK => ?_)
        go_simp
        refine hK _ _ ?_
        exact ⟨_, _, _, _, _, _, _, _, _, _, _, _, rfl, (I0), (fun _ => rfl), (kp f1), (kp f2), (kp f3), (fun _ => trivial), (fun _ => trivial), (fun _ => trivial), (fun _ => trivial), (fun _ => trivial), (fun _ => trivial), (kp f10), (kp f11)⟩
      · obtain rfl := Option.some.inj ho
        have g0 := f0 (hd ⟨0, .data⟩ (by simp) rfl)
        subst g0
        have z0 : ww.cell? ⟨b, 0, none⟩ = some (.slice A n c) := (I0.cell (p := ⟨b, 0, none⟩) hbl).trans x0
        have z1 : ww.cell? ⟨b, 1, none⟩ = some (.slice R m d) := (I0.cell (p := ⟨b, 1, none⟩) hbl).trans x1
        have z2 : ww.cell? ⟨b, 2, none⟩ = some (.slice K p q) := (I0.cell (p := ⟨b, 2, none⟩) hbl).trans x2
        refine wpOp_step rfl (fun K' hK => ?_)
        go_simp
        refine hK _ _ ?_
        exact ⟨_, _, _, _, _, _, _, _, _, _, _, _, rfl, (I0), (kp f0), (fun _ => rfl), (kp f2), (kp f3), (fun _ => trivial), (fun _ => trivial), (fun _ => trivial), (fun _ => trivial), (fun _ => trivial), (fun _ => trivial), (kp f10), (kp f11)⟩
      · obtain rfl := Option.some.inj ho
        have g1 := f1 (hd ⟨1, .data⟩ (by simp) rfl)
        subst g1
        refine wpOp_step rfl (fun K' hK => ?_)
        go_simp
        refine (heapValid_any _ _ _ _ _ _ h ww (r0.up I0) hn hm hnc hmd).mono ?_
        rw [HV.out]
        rintro e w' ⟨rfl, b5⟩
        refine hK _ _ ?_
        exact ⟨_, _, _, _, _, _, _, _, _, _, _, _, rfl, (I0.trans (b5.mono I0.size)), (kp f0), (kp f1), (fun _ => rfl), (kp f3), (fun _ => trivial), (fun _ => trivial), (fun _ => trivial), (fun _ => trivial), (fun _ => trivial), (fun _ => trivial), (kp f10), (kp f11)⟩
      · obtain rfl := Option.some.inj ho
        have g2 := f2 (hd ⟨2, .data⟩ (by simp) rfl)
        subst g2
        refine wpOp_step rfl (fun K' hK => ?_)
        go_simp
        refine hK _ _ ?_
        exact ⟨_, _, _, _, _, _, _, _, _, _, _, _, rfl, (I0), (kp f0), (kp f1), (kp f2), (fun _ => rfl), (fun _ => trivial), (fun _ => trivial), (fun _ => trivial), (fun _ => trivial), (fun _ => trivial), (fun _ => trivial), (kp f10), (kp f11)⟩
      · obtain rfl := Option.some.inj ho
        have g3 := f3 (hd ⟨3, .guard⟩ (by simp) rfl)
        subst g3
        refine wpOp_step rfl (fun K' hK => ?_)
        go_simp
        refine hK _ _ ?_
        exact ⟨_, _, _, _, _, _, _, _, _, _, _, _, rfl, (I0), (kp f0), (kp f1), (kp f2), (kp f3), (fun _ => trivial), (fun _ => trivial), (fun _ => trivial), (fun _ => trivial), (fun _ => trivial), (fun _ => trivial), (kp f10), (kp f11)⟩
      · obtain rfl := Option.some.inj ho
        have g3 := f3 (hd ⟨3, .guard⟩ (by simp) rfl)
        subst g3
        refine wpOp_step rfl (fun K' hK => ?_)
        go_simp
        refine hK _ _ ?_
        exact ⟨_, _, _, _, _, _, _, _, _, _, _, _, rfl, (I0), (kp f0), (kp f1), (kp f2), (kp f3), (fun _ => trivial), (fun _ => trivial), (fun _ => trivial), (fun _ => trivial), (fun _ => trivial), (fun _ => trivial), (kp f10), (kp f11)⟩
      · obtain rfl := Option.some.inj ho
        have g3 := f3 (hd ⟨3, .guard⟩ (by simp) rfl)
        subst g3
        refine wpOp_step rfl (fun K' hK => ?_)
        go_simp
        refine hK _ _ ?_
        exact ⟨_, _, _, _, _, _, _, _, _, _, _, _, rfl, (I0), (kp f0), (kp f1), (kp f2), (kp f3), (fun _ => trivial), (fun _ => trivial), (fun _ => trivial), (fun _ => trivial), (fun _ => trivial), (fun _ => trivial), (kp f10), (kp f11)⟩
      · obtain rfl := Option.some.inj ho
        have g3 := f3 (hd ⟨3, .guard⟩ (by simp) rfl)
        subst g3
        refine wpOp_step rfl (fun K' hK => ?_)
        go_simp
        refine hK _ _ ?_
        exact ⟨_, _, _, _, _, _, _, _, _, _, _, _, rfl, (I0), (kp f0), (kp f1), (kp f2), (kp f3), (fun _ => trivial), (fun _ => trivial), (fun _ => trivial), (fun _ => trivial), (fun _ => trivial), (fun _ => trivial), (kp f10), (kp f11)⟩
      · obtain rfl := Option.some.inj ho
        have g3 := f3 (hd ⟨3, .guard⟩ (by simp) rfl)
        subst g3
        refine wpOp_step rfl (fun K' hK => ?_)
        go_simp
        refine hK _ _ ?_
        exact ⟨_, _, _, _, _, _, _, _, _, _, _, _, rfl, (I0), (kp f0), (kp f1), (kp f2), (kp f3), (fun _ => trivial), (fun _ => trivial), (fun _ => trivial), (fun _ => trivial), (fun _ => trivial), (fun _ => trivial), (kp f10), (kp f11)⟩
      · obtain rfl := Option.some.inj ho
        have g3 := f3 (hd ⟨3, .guard⟩ (by simp) rfl)
        subst g3
        refine wpOp_step rfl (fun K' hK => ?_)
        go_simp
        refine hK _ _ ?_
        exact ⟨_, _, _, _, _, _, _, _, _, _, _, _, rfl, (I0), (kp f0), (kp f1), (kp f2), (kp f3), (fun _ => trivial), (fun _ => trivial), (fun _ => trivial), (fun _ => trivial), (fun _ => trivial), (fun _ => trivial), (kp f10), (kp f11)⟩
      · obtain rfl := Option.some.inj ho
        have g3 := f3 (hd ⟨3, .data⟩ (by simp) rfl)
        subst g3
        refine wpOp_step rfl (fun K' hK => ?_)
        go_simp
        refine hK _ _ ?_
        exact ⟨_, _, _, _, _, _, _, _, _, _, _, _, rfl, (I0), (kp f0), (kp f1), (kp f2), (kp f3), (fun _ => trivial), (fun _ => trivial), (fun _ => trivial), (fun _ => trivial), (fun _ => trivial), (fun _ => trivial), (fun _ => rfl), (kp f11)⟩
      · obtain rfl := Option.some.inj ho
        have g10 := f10 (hd ⟨10, .data⟩ (by simp) rfl)
        subst g10
        refine wpOp_step rfl (fun K' hK => ?_)
        go_simp
        refine hK _ _ ?_
        exact ⟨_, _, _, _, _, _, _, _, _, _, _, _, rfl, (I0), (kp f0), (kp f1), (kp f2), (kp f3), (fun _ => trivial), (fun _ => trivial), (fun _ => trivial), (fun _ => trivial), (fun _ => trivial), (fun _ => trivial), (kp f10), (fun _ => rfl)⟩
    case hdone =>
      rintro L ac ww hall ⟨t2, t3, t4, t5, t6, t7, t8, t9, t10, t11, t12, t13, rfl, I0, f0, f1, f2, f3, f4, f5, f6, f7, f8, f9, f10, f11⟩
      have e0 := f0 (hall 0 (by decide))
      have e1 := f1 (hall 1 (by decide))
      have e2 := f2 (hall 2 (by decide))
      have e3 := f3 (hall 3 (by decide))
      have e4 := f4 (hall 4 (by decide))
      have e5 := f5 (hall 5 (by decide))
      have e6 := f6 (hall 6 (by decide))
      have e7 := f7 (hall 7 (by decide))
      have e8 := f8 (hall 8 (by decide))
      have e9 := f9 (hall 9 (by decide))
      have e10 := f10 (hall 10 (by decide))
      have e11 := f11 (hall 11 (by decide))
      clear f0 f1 f2 f3 f4 f5 f6 f7 f8 f9 f10 f11
      subst e11
      have bbf := b0.trans (I0.mono b0.size)
      clear I0 e0 e1 e2 e3 e4 e5 e6 e7 e8 e9 e10 hall x0 x1 x2 Q0 r0 k0
      go_wp2_with fail
      go_ret
      exact ⟨by rw [HOK.out]; simp, by have := HB.out; subst this; exact bbf⟩
  · skip
    refine wp_region_inv (by kernel_rfl) (by kernel_rfl) (fun L ac ww => ∃ t2 t3 t4 t5 t6 t7 t8 t9 t10 t11 t12 t13 : Value, ac = { tmps := #[ctV A n c R m d K p q, Value.pointer (some { block := b, off := 0 }), t2, t3, t4, t5, t6, t7, t8, t9, t10, t11, t12, t13], defers := [] } ∧ (Below w2.heap.size w2 ww) ∧ (L 0 = true → t3 = .pointer (some ⟨b, 0, none⟩)) ∧ (L 1 = true → t4 = .agg #[.slice A n c, .slice R m d]) ∧ (L 2 = true → t5 = .bool true) ∧ (L 3 = true → t6 = .bool true) ∧ (L 4 = true → t7 = .pointer (some ⟨b, 2, none⟩)) ∧ (L 5 = true → t8 = .slice K p q) ∧ (L 6 = true → t9 = .pointer (some ⟨b, 0, none⟩)) ∧ (L 7 = true → t10 = .agg #[.slice A n c, .slice R m d]) ∧ (L 8 = true → ∃ A5 n5 c5, t11 = .slice A5 n5 c5 ∧ n5 ≤ 1099511627776 ∧ IS ww ww.heap.size A5 n5 (Hps.countsH h)) ∧ (L 9 = true → t12 = .bool (decide (l = Hps.countsH h))) ∧ (L 10 = true → t13 = .bool (decide (l = Hps.countsH h))) ∧ (L 11 = true → t2 = .bool (decide (l = Hps.countsH h)))) ?h0 ?hstep ?hdone
    case h0 => exact ⟨_, _, _, _, _, _, _, _, _, _, _, _, rfl, (Below.refl _ _).drew, (fun h => absurd h Bool.false_ne_true), (fun h => absurd h Bool.false_ne_true), (fun h => absurd h Bool.false_ne_true), (fun h => absurd h Bool.false_ne_true), (fun h => absurd h Bool.false_ne_true), (fun h => absurd h Bool.false_ne_true), (fun h => absurd h Bool.false_ne_true), (fun h => absurd h Bool.false_ne_true), (fun h => absurd h Bool.false_ne_true), (fun h => absurd h Bool.false_ne_true), (fun h => absurd h Bool.false_ne_true), (fun h => absurd h Bool.false_ne_true)⟩
    case hstep =>
      rintro L ac ww i o ho hL hd ⟨t2, t3, t4, t5, t6, t7, t8, t9, t10, t11, t12, t13, rfl, I0, f0, f1, f2, f3, f4, f5, f6, f7, f8, f9, f10, f11⟩
      have hi : i < 12 := (Array.getElem?_eq_some_iff.1 ho).1
      obtain rfl | rfl | rfl | rfl | rfl | rfl | rfl | rfl | rfl | rfl | rfl | rfl : i = 0 ∨ i = 1 ∨ i = 2 ∨ i = 3 ∨ i = 4 ∨ i = 5 ∨ i = 6 ∨ i = 7 ∨ i = 8 ∨ i = 9 ∨ i = 10 ∨ i = 11 := by omega
      · obtain rfl := Option.some.inj ho
        refine wpOp_step rfl (fun K' hK => ?_)
        go_simp
        refine hK _ _ ?_
        exact ⟨_, _, _, _, _, _, _, _, _, _, _, _, rfl, (I0), (fun _ => rfl), (kp f1), (kp f2), (kp f3), (kp f4), (kp f5), (kp f6), (kp f7), (kp f8), (kp f9), (kp f10), (kp f11)⟩
      · obtain rfl := Option.some.inj ho
        have g0 := f0 (hd ⟨0, .data⟩ (by simp) rfl)
        subst g0
        have z0 : ww.cell? ⟨b, 0, none⟩ = some (.slice A n c) := (I0.cell (p := ⟨b, 0, none⟩) hbl).trans x0
        have z1 : ww.cell? ⟨b, 1, none⟩ = some (.slice R m d) := (I0.cell (p := ⟨b, 1, none⟩) hbl).trans x1
        have z2 : ww.cell? ⟨b, 2, none⟩ = some (.slice K p q) := (I0.cell (p := ⟨b, 2, none⟩) hbl).trans x2
        refine wpOp_step rfl (fun K' hK => ?_)
        go_simp
        refine hK _ _ ?_
        exact ⟨_, _, _, _, _, _, _, _, _, _, _, _, rfl, (I0), (kp f0), (fun _ => rfl), (kp f2), (kp f3), (kp f4), (kp f5), (kp f6), (kp f7), (kp f8), (kp f9), (kp f10), (kp f11)⟩
      · obtain rfl := Option.some.inj ho
        have g1 := f1 (hd ⟨1, .data⟩ (by simp) rfl)
        subst g1
        refine wpOp_step rfl (fun K' hK => ?_)
        go_simp
        refine (heapValid_any _ _ _ _ _ _ h ww (r0.up I0) hn hm hnc hmd).mono ?_
        rw [HV.out]
        rintro e w' ⟨rfl, b5⟩
        refine hK _ _ ?_
        exact ⟨_, _, _, _, _, _, _, _, _, _, _, _, rfl, (I0.trans (b5.mono I0.size)), (kp f0), (kp f1), (fun _ => rfl), (kp f3), (kp f4), (kp f5), (kp f6), (kp f7), (fun h => by
          obtain ⟨A5, n5, c5, e, hn5, hr9⟩ := f8 (upd_ne h (by decide))
          exact ⟨A5, n5, c5, e, hn5, hr9.up b5⟩), (kp f9), (kp f10), (kp f11)⟩
      · obtain rfl := Option.some.inj ho
        have g2 := f2 (hd ⟨2, .data⟩ (by simp) rfl)
        subst g2
        refine wpOp_step rfl (fun K' hK => ?_)
        go_simp
        refine hK _ _ ?_
        exact ⟨_, _, _, _, _, _, _, _, _, _, _, _, rfl, (I0), (kp f0), (kp f1), (kp f2), (fun _ => rfl), (kp f4), (kp f5), (kp f6), (kp f7), (kp f8), (kp f9), (kp f10), (kp f11)⟩
      · obtain rfl := Option.some.inj ho
        have g3 := f3 (hd ⟨3, .guard⟩ (by simp) rfl)
        subst g3
        refine wpOp_step rfl (fun K' hK => ?_)
        go_simp
        refine hK _ _ ?_
        exact ⟨_, _, _, _, _, _, _, _, _, _, _, _, rfl, (I0), (kp f0), (kp f1), (kp f2), (kp f3), (fun _ => rfl), (kp f5), (kp f6), (kp f7), (kp f8), (kp f9), (kp f10), (kp f11)⟩
      · obtain rfl := Option.some.inj ho
        have g4 := f4 (hd ⟨4, .data⟩ (by simp) rfl)
        subst g4
        have g3 := f3 (hd ⟨3, .guard⟩ (by simp) rfl)
        subst g3
        have z0 : ww.cell? ⟨b, 0, none⟩ = some (.slice A n c) := (I0.cell (p := ⟨b, 0, none⟩) hbl).trans x0
        have z1 : ww.cell? ⟨b, 1, none⟩ = some (.slice R m d) := (I0.cell (p := ⟨b, 1, none⟩) hbl).trans x1
        have z2 : ww.cell? ⟨b, 2, none⟩ = some (.slice K p q) := (I0.cell (p := ⟨b, 2, none⟩) hbl).trans x2
        refine wpOp_step rfl (fun K' hK => ?_)
        go_simp
        refine hK _ _ ?_
        exact ⟨_, _, _, _, _, _, _, _, _, _, _, _, rfl, (I0), (kp f0), (kp f1), (kp f2), (kp f3), (kp f4), (fun _ => rfl), (kp f6), (kp f7), (kp f8), (kp f9), (kp f10), (kp f11)⟩
      · obtain rfl := Option.some.inj ho
        have g3 := f3 (hd ⟨3, .guard⟩ (by simp) rfl)
        subst g3
        refine wpOp_step rfl (fun K' hK => ?_)
        go_simp
        refine hK _ _ ?_
        exact ⟨_, _, _, _, _, _, _, _, _, _, _, _, rfl, (I0), (kp f0), (kp f1), (kp f2), (kp f3), (kp f4), (kp f5), (fun _ => rfl), (kp f7), (kp f8), (kp f9), (kp f10), (kp f11)⟩
      · obtain rfl := Option.some.inj ho
        have g6 := f6 (hd ⟨6, .data⟩ (by simp) rfl)
        subst g6
        have g3 := f3 (hd ⟨3, .guard⟩ (by simp) rfl)
        subst g3
        have z0 : ww.cell? ⟨b, 0, none⟩ = some (.slice A n c) := (I0.cell (p := ⟨b, 0, none⟩) hbl).trans x0
        have z1 : ww.cell? ⟨b, 1, none⟩ = some (.slice R m d) := (I0.cell (p := ⟨b, 1, none⟩) hbl).trans x1
        have z2 : ww.cell? ⟨b, 2, none⟩ = some (.slice K p q) := (I0.cell (p := ⟨b, 2, none⟩) hbl).trans x2
        refine wpOp_step rfl (fun K' hK => ?_)
        go_simp
        refine hK _ _ ?_
        exact ⟨_, _, _, _, _, _, _, _, _, _, _, _, rfl, (I0), (kp f0), (kp f1), (kp f2), (kp f3), (kp f4), (kp f5), (kp f6), (fun _ => rfl), (kp f8), (kp f9), (kp f10), (kp f11)⟩
      · obtain rfl := Option.some.inj ho
        have g7 := f7 (hd ⟨7, .data⟩ (by simp) rfl)
        subst g7
        have g3 := f3 (hd ⟨3, .guard⟩ (by simp) rfl)
        subst g3
        refine wpOp_step rfl (fun K' hK => ?_)
        go_simp
        refine (refCounts_any _ _ _ _ _ _ h ww (r0.up I0) hn hm hnc hmd).mono ?_
        rintro e w' ⟨v1, rfl, ow, b5⟩
        obtain ⟨A5, c5, rfl, -⟩ := ow.form
        have hr9 := ow.reads
        refine hK _ _ ?_
        exact ⟨_, _, _, _, _, _, _, _, _, _, _, _, rfl, (I0.trans (b5.mono I0.size)), (kp f0), (kp f1), (kp f2), (kp f3), (kp f4), (kp f5), (kp f6), (kp f7), (fun _ => ⟨A5, _, c5, rfl, by omega, hr9⟩), (kp f9), (kp f10), (kp f11)⟩
      · obtain rfl := Option.some.inj ho
        have g5 := f5 (hd ⟨5, .data⟩ (by simp) rfl)
        have g8 := f8 (hd ⟨8, .data⟩ (by simp) rfl)
        subst g5
        have g3 := f3 (hd ⟨3, .guard⟩ (by simp) rfl)
        subst g3
        obtain ⟨A5, n5, c5, rfl, hn5, hr9⟩ := g8
        refine wpOp_step rfl (fun K' hK => ?_)
        go_simp
        refine (equalI_any _ _ _ _ _ _ l (Hps.countsH h) ww (k0.up I0) hr9 hp hn5).mono ?_
        rintro e w' ⟨rfl, b5⟩
        refine hK _ _ ?_
        exact ⟨_, _, _, _, _, _, _, _, _, _, _, _, rfl, (I0.trans (b5.mono I0.size)), (kp f0), (kp f1), (kp f2), (kp f3), (kp f4), (kp f5), (kp f6), (kp f7), (fun _ => ⟨A5, n5, c5, rfl, hn5, hr9.up b5⟩), (fun _ => rfl), (kp f10), (kp f11)⟩
      · obtain rfl := Option.some.inj ho
        have g3 := f3 (hd ⟨3, .data⟩ (by simp) rfl)
        have g9 := f9 (hd ⟨9, .data⟩ (by simp) rfl)
        subst g3
        subst g9
        refine wpOp_step rfl (fun K' hK => ?_)
        go_simp
        refine hK _ _ ?_
        exact ⟨_, _, _, _, _, _, _, _, _, _, _, _, rfl, (I0), (kp f0), (kp f1), (kp f2), (kp f3), (kp f4), (kp f5), (kp f6), (kp f7), (kp f8), (kp f9), (fun _ => rfl), (kp f11)⟩
      · obtain rfl := Option.some.inj ho
        have g10 := f10 (hd ⟨10, .data⟩ (by simp) rfl)
        subst g10
        refine wpOp_step rfl (fun K' hK => ?_)
        go_simp
        refine hK _ _ ?_
        exact ⟨_, _, _, _, _, _, _, _, _, _, _, _, rfl, (I0), (kp f0), (kp f1), (kp f2), (kp f3), (kp f4), (kp f5), (kp f6), (kp f7), (kp f8), (kp f9), (kp f10), (fun _ => rfl)⟩
    case hdone =>
      rintro L ac ww hall ⟨t2, t3, t4, t5, t6, t7, t8, t9, t10, t11, t12, t13, rfl, I0, f0, f1, f2, f3, f4, f5, f6, f7, f8, f9, f10, f11⟩
      have e0 := f0 (hall 0 (by decide))
      have e1 := f1 (hall 1 (by decide))
      have e2 := f2 (hall 2 (by decide))
      have e3 := f3 (hall 3 (by decide))
      have e4 := f4 (hall 4 (by decide))
      have e5 := f5 (hall 5 (by decide))
      have e6 := f6 (hall 6 (by decide))
      have e7 := f7 (hall 7 (by decide))
      have e8 := f8 (hall 8 (by decide))
      have e9 := f9 (hall 9 (by decide))
      have e10 := f10 (hall 10 (by decide))
      have e11 := f11 (hall 11 (by decide))
      clear f0 f1 f2 f3 f4 f5 f6 f7 f8 f9 f10 f11
      subst e11
      have bbf := b0.trans (I0.mono b0.size)
      clear I0 e0 e1 e2 e3 e4 e5 e6 e7 e8 e9 e10 hall x0 x1 x2 Q0 r0 k0
      go_wp2_with fail
      go_ret
      exact ⟨by rw [HOK.out]; simp, by have := HB.out; subst this; exact bbf⟩
end Go.Proofs.YtfgdenmlfloloaaDoor

namespace Go.Proofs.YtfgdenmlfloloaaDoor
open Go.RowKit
set_option maxRecDepth 100000
namespace Hps
theorem stepCt_reu {h : Hp} {l : List Int} {o : Cm} (h1 : okCt h l = true) (h2 : okCm o = true) : stepCt h l o = if (reuH h o).2 = true then ((freeH (reuH h o).1, countsL (freeH (reuH h o).1)), true) else (((reuH h o).1, l), false) := by
  rw [stepCt, if_pos (by rw [h1, h2]; rfl)]
  unfold reuH
  split <;> simp
theorem reuH_valid {h : Hp} {o : Cm} (hv : validH h = true) (hr : (reuH h o).2 = true) : validH (reuH h o).1 = true := by
  unfold reuH at hr ⊢
  split at hr
  · cases hr
  · next e =>
    rw [if_neg e]
    simp only [Bool.or_eq_true, Bool.not_eq_true', Bool.and_eq_true, decide_eq_true_eq, not_or, Bool.not_eq_false] at e
    exact doH_valid e.1 (gap_room hv e.2)
end Hps
set_option maxHeartbeats 4000000 in
theorem stepCounted_any (A R K : Option Addr) (n c m d p q : Nat) (h : Hp) (l : List Int) (o : Cm) (w : World) (hT : TzT w) (hs : HS w w.heap.size A n R m h) (hk : IS w w.heap.size K p l) (hn : n ≤ 1099511627776) (hm : m ≤ 1099511627776) (hp : p ≤ 1099511627776) (hnc : n ≤ c) (hmd : m ≤ d) :
    Calls Tryd.prog 16 #[ctV A n c R m d K p q, cmV o] w (GaveCt2 w (Hps.stepCt h l o).1.1 (Hps.stepCt h l o).1.2 (Hps.stepCt h l o).2) := by
  have b2 : Below w.heap.size w (((w.alloc (.cells #[.slice A n c, .slice R m d, .slice K p q] 34)).alloc (.cells #[.int .i64 o.op, .int .i64 o.a, .int .i64 o.b, .int .i64 o.c] 36)).alloc (.cells #[.slice none 0 0, .slice none 0 0, .slice none 0 0] 34)) := (((Below.refl w.heap.size w).alloc (Nat.le_refl _) _).alloc (by simp) _).alloc (by simp; omega) _
  have q1 := ((Rw.new w 34 #[.slice A n c, .slice R m d, .slice K p q]).alloc (.cells #[.int .i64 o.op, .int .i64 o.a, .int .i64 o.b, .int .i64 o.c] 36)).alloc (.cells #[.slice none 0 0, .slice none 0 0, .slice none 0 0] 34)
  have q2 := (Rw.new (w.alloc (.cells #[.slice A n c, .slice R m d, .slice K p q] 34)) 36 #[.int .i64 o.op, .int .i64 o.a, .int .i64 o.b, .int .i64 o.c]).alloc (.cells #[.slice none 0 0, .slice none 0 0, .slice none 0 0] 34)
  have q3 := Rw.new ((w.alloc (.cells #[.slice A n c, .slice R m d, .slice K p q] 34)).alloc (.cells #[.int .i64 o.op, .int .i64 o.a, .int .i64 o.b, .int .i64 o.c] 36)) 34 #[.slice none 0 0, .slice none 0 0, .slice none 0 0]
  simp only [World.size_alloc] at q2 q3
  have hT2 := hT.below b2
  have s2 := hs.up b2
  have k2 := hk.up b2
  go_enter Tryd.func16, Tryd.ntmps16
  go_upto_region 1 with fail
  generalize (((w.alloc (.cells #[.slice A n c, .slice R m d, .slice K p q] 34)).alloc (.cells #[.int .i64 o.op, .int .i64 o.a, .int .i64 o.b, .int .i64 o.c] 36)).alloc (.cells #[.slice none 0 0, .slice none 0 0, .slice none 0 0] 34)) = w2 at b2 q1 q2 q3 hT2 s2 k2 ⊢
  have x0 : w2.cell? ⟨w.heap.size, 0, none⟩ = some (.slice A n c) := q1.cell 0
  have x1 : w2.cell? ⟨w.heap.size, 1, none⟩ = some (.slice R m d) := q1.cell 1
  have x2 : w2.cell? ⟨w.heap.size, 2, none⟩ = some (.slice K p q) := q1.cell 2
  have y0 : w2.cell? ⟨w.heap.size + 1, 0, none⟩ = some (.int .i64 o.op) := q2.cell 0
  have y1 : w2.cell? ⟨w.heap.size + 1, 1, none⟩ = some (.int .i64 o.a) := q2.cell 1
  have y2 : w2.cell? ⟨w.heap.size + 1, 2, none⟩ = some (.int .i64 o.b) := q2.cell 2
  have y3 : w2.cell? ⟨w.heap.size + 1, 3, none⟩ = some (.int .i64 o.c) := q2.cell 3
  go_wp2_with fail
  refine (countedValid_any _ _ _ _ _ _ _ _ _ h l _ s2 k2 hn hm hp hnc hmd).mono ?_
  obtain ⟨r, hok⟩ : ∃ r, Hps.okCt h l = r := ⟨_, rfl⟩
  rw [hok]
  rintro e w3 ⟨rfl, b3⟩
  replace q1 := q1.keep b3 q1.lt
  replace q2 := q2.keep b3 q2.lt
  replace q3 := q3.keep b3 q3.lt
  replace hT2 := hT2.below b3
  replace s2 := s2.up b3
  replace k2 := k2.up b3
  replace b2 := b2.trans (b3.mono b2.size)
  clear x0 x1 x2 y0 y1 y2 y3 b3
  have x0 : w3.cell? ⟨w.heap.size, 0, none⟩ = some (.slice A n c) := q1.cell 0
  have x1 : w3.cell? ⟨w.heap.size, 1, none⟩ = some (.slice R m d) := q1.cell 1
  have x2 : w3.cell? ⟨w.heap.size, 2, none⟩ = some (.slice K p q) := q1.cell 2
  have y0 : w3.cell? ⟨w.heap.size + 1, 0, none⟩ = some (.int .i64 o.op) := q2.cell 0
  have y1 : w3.cell? ⟨w.heap.size + 1, 1, none⟩ = some (.int .i64 o.a) := q2.cell 1
  have y2 : w3.cell? ⟨w.heap.size + 1, 2, none⟩ = some (.int .i64 o.b) := q2.cell 2
  have y3 : w3.cell? ⟨w.heap.size + 1, 3, none⟩ = some (.int .i64 o.c) := q2.cell 3
  have hsz3 := q3.lt
  cases r
  · have HF := Lib.hid (Hps.stepCt_no (o := o) (.inl hok))
    clear hok hT2 s2 k2
    have r2 : (w3).frozen? ⟨w.heap.size + 1 + 1, 0, none⟩ = false := q3.frozen 0
    have r3 : (w3).frozen? ⟨w.heap.size + 1 + 1, 1, none⟩ = false := q3.frozen 1
    have r4 : (w3).frozen? ⟨w.heap.size + 1 + 1, 2, none⟩ = false := q3.frozen 2
    have r5 : (w3).cell? ⟨w.heap.size + 1 + 1, 0, none⟩ = some (.slice none 0 0) := q3.cell 0
    have r6 : (w3).cell? ⟨w.heap.size + 1 + 1, 1, none⟩ = some (.slice none 0 0) := q3.cell 1
    have r7 : (w3).cell? ⟨w.heap.size + 1 + 1, 2, none⟩ = some (.slice none 0 0) := q3.cell 2
    have q4 := ((q3.put 0 (.slice none 0 0)).put 1 (.slice none 0 0)).put 2 (.slice none 0 0)
    have r8 : ((((w3).setCell ⟨w.heap.size + 1 + 1, 0, none⟩ (.slice none 0 0)).setCell ⟨w.heap.size + 1 + 1, 1, none⟩ (.slice none 0 0)).setCell ⟨w.heap.size + 1 + 1, 2, none⟩ (.slice none 0 0)).cell? ⟨w.heap.size + 1 + 1, 0, none⟩ = some (.slice none 0 0) := q4.cell 0
    have r9 : ((((w3).setCell ⟨w.heap.size + 1 + 1, 0, none⟩ (.slice none 0 0)).setCell ⟨w.heap.size + 1 + 1, 1, none⟩ (.slice none 0 0)).setCell ⟨w.heap.size + 1 + 1, 2, none⟩ (.slice none 0 0)).cell? ⟨w.heap.size + 1 + 1, 1, none⟩ = some (.slice none 0 0) := q4.cell 1
    have r10 : ((((w3).setCell ⟨w.heap.size + 1 + 1, 0, none⟩ (.slice none 0 0)).setCell ⟨w.heap.size + 1 + 1, 1, none⟩ (.slice none 0 0)).setCell ⟨w.heap.size + 1 + 1, 2, none⟩ (.slice none 0 0)).cell? ⟨w.heap.size + 1 + 1, 2, none⟩ = some (.slice none 0 0) := q4.cell 2
    have D := Lib.hid (OwnC.out (w := w) (g := w.heap.size + 1 + 1) (own_zeroC w3 w3.heap.size (Nat.le_refl _)) (by omega) (b2) (by omega))
    clear q1 q2 q3 q4 b2 x0 x1 x2 y0 y1 y2 y3
    go_wp2_with fail
    exact bodyPost_ret (v := .tuple #[.agg #[.slice none 0 0, .slice none 0 0, .slice none 0 0], .bool false]) (by simp [results, Tryd.results16, go_sem, *]) rfl ⟨_, _, _, by rw [HF.out], by rw [HF.out]; exact D.out.1, D.out.2⟩
  have HOK := Lib.hid hok
  clear hok
  go_wp2_with fail
  refine (commandValid_any o _).mono ?_
  obtain ⟨r, ho⟩ : ∃ r, Hps.okCm o = r := ⟨_, rfl⟩
  rw [ho]
  rintro e w4 ⟨rfl, b4⟩
  replace q1 := q1.keep b4 q1.lt
  replace q2 := q2.keep b4 q2.lt
  replace q3 := q3.keep b4 q3.lt
  replace hT2 := hT2.below b4
  replace s2 := s2.up b4
  replace k2 := k2.up b4
  replace b2 := b2.trans (b4.mono b2.size)
  clear x0 x1 x2 y0 y1 y2 y3 b4 hsz3
  have x0 : w4.cell? ⟨w.heap.size, 0, none⟩ = some (.slice A n c) := q1.cell 0
  have x1 : w4.cell? ⟨w.heap.size, 1, none⟩ = some (.slice R m d) := q1.cell 1
  have x2 : w4.cell? ⟨w.heap.size, 2, none⟩ = some (.slice K p q) := q1.cell 2
  have y0 : w4.cell? ⟨w.heap.size + 1, 0, none⟩ = some (.int .i64 o.op) := q2.cell 0
  have y1 : w4.cell? ⟨w.heap.size + 1, 1, none⟩ = some (.int .i64 o.a) := q2.cell 1
  have y2 : w4.cell? ⟨w.heap.size + 1, 2, none⟩ = some (.int .i64 o.b) := q2.cell 2
  have y3 : w4.cell? ⟨w.heap.size + 1, 3, none⟩ = some (.int .i64 o.c) := q2.cell 3
  have hsz4 := q3.lt
  cases r
  · have HF := Lib.hid (Hps.stepCt_no (h := h) (l := l) (.inr ho))
    clear ho hT2 s2 k2
    have r2 : (w4).frozen? ⟨w.heap.size + 1 + 1, 0, none⟩ = false := q3.frozen 0
    have r3 : (w4).frozen? ⟨w.heap.size + 1 + 1, 1, none⟩ = false := q3.frozen 1
    have r4 : (w4).frozen? ⟨w.heap.size + 1 + 1, 2, none⟩ = false := q3.frozen 2
    have r5 : (w4).cell? ⟨w.heap.size + 1 + 1, 0, none⟩ = some (.slice none 0 0) := q3.cell 0
    have r6 : (w4).cell? ⟨w.heap.size + 1 + 1, 1, none⟩ = some (.slice none 0 0) := q3.cell 1
    have r7 : (w4).cell? ⟨w.heap.size + 1 + 1, 2, none⟩ = some (.slice none 0 0) := q3.cell 2
    have q4 := ((q3.put 0 (.slice none 0 0)).put 1 (.slice none 0 0)).put 2 (.slice none 0 0)
    have r8 : ((((w4).setCell ⟨w.heap.size + 1 + 1, 0, none⟩ (.slice none 0 0)).setCell ⟨w.heap.size + 1 + 1, 1, none⟩ (.slice none 0 0)).setCell ⟨w.heap.size + 1 + 1, 2, none⟩ (.slice none 0 0)).cell? ⟨w.heap.size + 1 + 1, 0, none⟩ = some (.slice none 0 0) := q4.cell 0
    have r9 : ((((w4).setCell ⟨w.heap.size + 1 + 1, 0, none⟩ (.slice none 0 0)).setCell ⟨w.heap.size + 1 + 1, 1, none⟩ (.slice none 0 0)).setCell ⟨w.heap.size + 1 + 1, 2, none⟩ (.slice none 0 0)).cell? ⟨w.heap.size + 1 + 1, 1, none⟩ = some (.slice none 0 0) := q4.cell 1
    have r10 : ((((w4).setCell ⟨w.heap.size + 1 + 1, 0, none⟩ (.slice none 0 0)).setCell ⟨w.heap.size + 1 + 1, 1, none⟩ (.slice none 0 0)).setCell ⟨w.heap.size + 1 + 1, 2, none⟩ (.slice none 0 0)).cell? ⟨w.heap.size + 1 + 1, 2, none⟩ = some (.slice none 0 0) := q4.cell 2
    have D := Lib.hid (OwnC.out (w := w) (g := w.heap.size + 1 + 1) (own_zeroC w4 w4.heap.size (Nat.le_refl _)) (by omega) (b2) (by omega))
    clear q1 q2 q3 q4 b2 x0 x1 x2 y0 y1 y2 y3
    go_wp2_with fail
    exact bodyPost_ret (v := .tuple #[.agg #[.slice none 0 0, .slice none 0 0, .slice none 0 0], .bool false]) (by simp [results, Tryd.results16, go_sem, *]) rfl ⟨_, _, _, by rw [HF.out], by rw [HF.out]; exact D.out.1, D.out.2⟩
  have HO := Lib.hid ho
  have HV := Lib.hid (Hps.okCt_iff.1 HOK.out).1
  have q3b := Lib.hid q3
  clear ho
  go_wp2_with fail
  refine (stepReusing_any _ _ _ _ _ _ h o _ hT2 s2 HV.out HO.out hnc hmd).mono ?_
  have HFB := Lib.hid (Hps.stepCt_reu HOK.out HO.out)
  have HRV := Lib.hid (fun hr => Hps.reuH_valid (h := h) (o := o) HV.out hr)
  obtain ⟨x, hx⟩ : ∃ x, (Hps.reuH h o).1 = x := ⟨_, rfl⟩
  obtain ⟨r, hr⟩ : ∃ r, (Hps.reuH h o).2 = r := ⟨_, rfl⟩
  rw [hx, hr] at HFB HRV ⊢
  clear hx hr
  rintro e w5 ⟨vc, vr, rfl, ow, b5⟩
  obtain ⟨A5, n5, c5, R5, m5, d5, rfl, rfl⟩ := ow.slices
  obtain ⟨rvs, S0⟩ := BoxSt.of ow b5
  replace q1 := (q1.keep b5 q1.lt).alloc (.cells #[.slice A5 n5 c5, .slice R5 m5 d5] 26)
  replace q3 := (q3.keep b5 q3.lt).alloc (.cells #[.slice A5 n5 c5, .slice R5 m5 d5] 26)
  replace k2 := (k2.up b5).up ((Below.refl _ _).alloc (Nat.le_refl _) (.cells #[.slice A5 n5 c5, .slice R5 m5 d5] 26))
  have b6 := (b2.trans (b5.mono b2.size)).alloc (Nat.le_trans b2.size b5.size) (.cells #[.slice A5 n5 c5, .slice R5 m5 d5] 26)
  have B2K := Lib.hid b2
  clear q2 x0 x1 x2 y0 y1 y2 y3 b5 ow hT2 s2 b2
  go_upto_region 4 with fail
  generalize w5.alloc (.cells #[.slice A5 n5 c5, .slice R5 m5 d5] 26) = w6 at S0 q1 q3 k2 b6 ⊢
  generalize w5.heap.size = b at S0 ⊢
  clear w5
  have v0 : w6.cell? ⟨b, 0, none⟩ = some (.slice A5 n5 c5) := S0.box.cell 0
  have v1 : w6.cell? ⟨b, 1, none⟩ = some (.slice R5 m5 d5) := S0.box.cell 1
  have x2 : w6.cell? ⟨w.heap.size, 2, none⟩ = some (.slice K p q) := q1.cell 2
  have hbl := S0.box.lt
  have hql := q1.lt
  have hrl := q3.lt
  have hw6 := b6.size
  cases r
  · have HF := Lib.hid (show Hps.stepCt h l o = ((x, l), false) from HFB.out)
    clear HFB HRV
    go_upto_region 5 with fail
    refine wp_region_inv (by kernel_rfl) (by kernel_rfl) (fun L ac ww => ∃ t5 t27 t28 t29 t30 t31 : Value, ac = { tmps := #[ctV A n c R m d K p q, cmV o, Value.pointer (some { block := w.heap.size, off := 0 }), Value.pointer (some { block := w.heap.size + 1, off := 0 }), Value.pointer (some { block := w.heap.size + 1 + 1, off := 0 }), t5, Value.pointer (some { block := b, off := 0 }), Value.bool false, undef, Value.agg #[Value.slice A n c, Value.slice R m d, Value.slice K p q], Value.bool true, Value.bool false, Value.bool false, Value.agg #[Value.int IntKind.i64 o.op, Value.int IntKind.i64 o.a, Value.int IntKind.i64 o.b, Value.int IntKind.i64 o.c], Value.bool true, Value.bool false, Value.bool false, undef, Value.tuple #[Value.agg #[Value.slice A5 n5 c5, Value.slice R5 m5 d5], Value.bool false], Value.pointer (some { block := w.heap.size, off := 0 }), Value.agg #[Value.slice A n c, Value.slice R m d], Value.agg #[Value.int IntKind.i64 o.op, Value.int IntKind.i64 o.a, Value.int IntKind.i64 o.b, Value.int IntKind.i64 o.c], Value.tuple #[Value.agg #[Value.slice A5 n5 c5, Value.slice R5 m5 d5], Value.bool false], Value.agg #[Value.slice A5 n5 c5, Value.slice R5 m5 d5], Value.bool false, Value.bool false, Value.bool true, t27, t28, t29, t30, t31, undef, undef, undef, undef], defers := [] } ∧ (L 5 = false → Below w6.heap.size w6 ww) ∧ (L 0 = true → t27 = .agg #[.slice A5 n5 c5, .slice R5 m5 d5]) ∧ (L 1 = true → t28 = .pointer (some ⟨w.heap.size, 2, none⟩)) ∧ (L 2 = true → t29 = .slice K p q) ∧ (L 3 = true → ∃ K5 p5 q5, t30 = .slice K5 p5 q5 ∧ (L 5 = false → OwnI ww w6.heap.size t30 l)) ∧ (L 4 = true → t31 = .agg #[.slice A5 n5 c5, .slice R5 m5 d5, t30] ∧ L 3 = true) ∧ (L 5 = true → (∀ q, q < 5 → L q = true) ∧ ∃ wp K5 p5 q5, t30 = .slice K5 p5 q5 ∧ ww = ((((wp).setCell ⟨w.heap.size + 1 + 1, 0, none⟩ (.slice A5 n5 c5)).setCell ⟨w.heap.size + 1 + 1, 1, none⟩ (.slice R5 m5 d5)).setCell ⟨w.heap.size + 1 + 1, 2, none⟩ (t30)) ∧ Below w6.heap.size w6 wp ∧ OwnI wp w6.heap.size t30 l) ∧ (L 6 = true → t5 = .bool false ∧ L 5 = true)) ?h0 ?hstep ?hdone
    case h0 => exact ⟨_, _, _, _, _, _, rfl, fun _ => (Below.refl _ _).drew, (fun h => absurd h Bool.false_ne_true), (fun h => absurd h Bool.false_ne_true), (fun h => absurd h Bool.false_ne_true), (fun h => absurd h Bool.false_ne_true), (fun h => absurd h Bool.false_ne_true), (fun h => absurd h Bool.false_ne_true), (fun h => absurd h Bool.false_ne_true)⟩
    case hstep =>
      rintro L ac ww i o ho hL hd ⟨t5, t27, t28, t29, t30, t31, rfl, I0, f0, f1, f2, f3, f4, f5, f6⟩
      have hi : i < 7 := (Array.getElem?_eq_some_iff.1 ho).1
      obtain rfl | rfl | rfl | rfl | rfl | rfl | rfl : i = 0 ∨ i = 1 ∨ i = 2 ∨ i = 3 ∨ i = 4 ∨ i = 5 ∨ i = 6 := by omega
      · obtain rfl := Option.some.inj ho
        have hL5 : L 5 = false := by
          cases e : L 5
          · rfl
          · exact absurd ((f5 e).1 0 (by decide)) (by rw [hL]; decide)
        have J := I0 hL5
        have z0 : ww.cell? ⟨b, 0, none⟩ = some (.slice A5 n5 c5) := (J.cell (p := ⟨b, 0, none⟩) hbl).trans v0
        have z1 : ww.cell? ⟨b, 1, none⟩ = some (.slice R5 m5 d5) := (J.cell (p := ⟨b, 1, none⟩) hbl).trans v1
        refine wpOp_step rfl (fun K' hK => ?_)
        go_simp
        refine hK _ _ ?_
        exact ⟨_, _, _, _, _, _, rfl, (fun _ => J), (fun _ => rfl), (kp f1), (kp f2), (fun h => by
          obtain ⟨K5, p5, q5, e8, r8⟩ := f3 (upd_ne h (by decide))
          exact ⟨K5, p5, q5, e8, fun h5 => r8 (by rw [upd_other (by decide)] at h5; exact h5)⟩), (fun h => ⟨(f4 (upd_ne h (by decide))).1, upd_mono (f4 (upd_ne h (by decide))).2⟩), (fun h => absurd hL5 (by rw [upd_ne h (by decide)]; decide)), (fun h => absurd (f6 (upd_ne h (by decide))).2 (by rw [hL5]; decide))⟩
      · obtain rfl := Option.some.inj ho
        have hL5 : L 5 = false := by
          cases e : L 5
          · rfl
          · exact absurd ((f5 e).1 1 (by decide)) (by rw [hL]; decide)
        have J := I0 hL5
        refine wpOp_step rfl (fun K' hK => ?_)
        go_simp
        refine hK _ _ ?_
        exact ⟨_, _, _, _, _, _, rfl, (fun _ => J), (kp f0), (fun _ => rfl), (kp f2), (fun h => by
          obtain ⟨K5, p5, q5, e8, r8⟩ := f3 (upd_ne h (by decide))
          exact ⟨K5, p5, q5, e8, fun h5 => r8 (by rw [upd_other (by decide)] at h5; exact h5)⟩), (fun h => ⟨(f4 (upd_ne h (by decide))).1, upd_mono (f4 (upd_ne h (by decide))).2⟩), (fun h => absurd hL5 (by rw [upd_ne h (by decide)]; decide)), (fun h => absurd (f6 (upd_ne h (by decide))).2 (by rw [hL5]; decide))⟩
      · obtain rfl := Option.some.inj ho
        have g1 := f1 (hd ⟨1, .data⟩ (by simp) rfl)
        subst g1
        have hL5 : L 5 = false := by
          cases e : L 5
          · rfl
          · exact absurd ((f5 e).1 2 (by decide)) (by rw [hL]; decide)
        have J := I0 hL5
        have z2 : ww.cell? ⟨w.heap.size, 2, none⟩ = some (.slice K p q) := (J.cell (p := ⟨w.heap.size, 2, none⟩) hql).trans x2
        refine wpOp_step rfl (fun K' hK => ?_)
        go_simp
        refine hK _ _ ?_
        exact ⟨_, _, _, _, _, _, rfl, (fun _ => J), (kp f0), (kp f1), (fun _ => rfl), (fun h => by
          obtain ⟨K5, p5, q5, e8, r8⟩ := f3 (upd_ne h (by decide))
          exact ⟨K5, p5, q5, e8, fun h5 => r8 (by rw [upd_other (by decide)] at h5; exact h5)⟩), (fun h => ⟨(f4 (upd_ne h (by decide))).1, upd_mono (f4 (upd_ne h (by decide))).2⟩), (fun h => absurd hL5 (by rw [upd_ne h (by decide)]; decide)), (fun h => absurd (f6 (upd_ne h (by decide))).2 (by rw [hL5]; decide))⟩
      · obtain rfl := Option.some.inj ho
        have g2 := f2 (hd ⟨2, .data⟩ (by simp) rfl)
        subst g2
        have hL5 : L 5 = false := by
          cases e : L 5
          · rfl
          · exact absurd ((f5 e).1 3 (by decide)) (by rw [hL]; decide)
        have J := I0 hL5
        refine wpOp_step rfl (fun K' hK => ?_)
        go_simp
        refine (cloneI_any K p q l ww (k2.up J) hp).mono ?_
        rintro e w' ⟨v1, rfl, o1, b5⟩
        obtain ⟨K5, q5, e8, -⟩ := o1.form
        refine hK _ _ ?_
        exact ⟨_, _, _, _, _, _, rfl, (fun _ => J.trans (b5.mono J.size)), (kp f0), (kp f1), (kp f2), (fun _ => ⟨K5, _, q5, e8, fun _ => o1.base J.size⟩), (fun h => absurd (f4 (upd_ne h (by decide))).2 (by rw [hL]; decide)), (fun h => absurd hL5 (by rw [upd_ne h (by decide)]; decide)), (fun h => absurd (f6 (upd_ne h (by decide))).2 (by rw [hL5]; decide))⟩
      · obtain rfl := Option.some.inj ho
        have g0 := f0 (hd ⟨0, .data⟩ (by simp) rfl)
        have g3 := f3 (hd ⟨3, .data⟩ (by simp) rfl)
        subst g0
        have hL5 : L 5 = false := by
          cases e : L 5
          · rfl
          · exact absurd ((f5 e).1 4 (by decide)) (by rw [hL]; decide)
        have J := I0 hL5
        have l3 := Lib.hid (hd ⟨3, .data⟩ (by simp) rfl)
        obtain ⟨K5, p5, q5, e8, r8⟩ := g3
        subst e8
        refine wpOp_step rfl (fun K' hK => ?_)
        go_simp
        refine hK _ _ ?_
        exact ⟨_, _, _, _, _, _, rfl, (fun _ => J), (kp f0), (kp f1), (kp f2), (fun _ => ⟨K5, p5, q5, rfl, fun h7 => r8 (by rw [upd_other (by decide)] at h7; exact h7)⟩), (fun _ => ⟨rfl, upd_mono l3.out⟩), (fun h => absurd hL5 (by rw [upd_ne h (by decide)]; decide)), (fun h => absurd (f6 (upd_ne h (by decide))).2 (by rw [hL5]; decide))⟩
      · obtain rfl := Option.some.inj ho
        have g4 := f4 (hd ⟨4, .data⟩ (by simp) rfl)
        have lq : Hid (∀ q, q < 5 → L q = true) := Lib.hid (by
          intro q hq
          obtain rfl | rfl | rfl | rfl | rfl : q = 0 ∨ q = 1 ∨ q = 2 ∨ q = 3 ∨ q = 4 := by omega
          · exact hd ⟨0, .phase⟩ (by simp) rfl
          · exact hd ⟨1, .phase⟩ (by simp) rfl
          · exact hd ⟨2, .phase⟩ (by simp) rfl
          · exact hd ⟨3, .phase⟩ (by simp) rfl
          · exact hd ⟨4, .phase⟩ (by simp) rfl)
        have J := I0 hL
        obtain ⟨e9, -⟩ := g4
        subst e9
        obtain ⟨K5, p5, q5, e8, r8⟩ := f3 (lq.out 3 (by decide))
        subst e8
        have o8 := r8 hL
        have P := q3.keep J hrl
        have zf0 : ww.frozen? ⟨w.heap.size + 1 + 1, 0, none⟩ = false := P.frozen 0
        have zf1 : ww.frozen? ⟨w.heap.size + 1 + 1, 1, none⟩ = false := P.frozen 1
        have zf2 : ww.frozen? ⟨w.heap.size + 1 + 1, 2, none⟩ = false := P.frozen 2
        have zc0 : ww.cell? ⟨w.heap.size + 1 + 1, 0, none⟩ = some (.slice none 0 0) := P.cell 0
        have zc1 : ww.cell? ⟨w.heap.size + 1 + 1, 1, none⟩ = some (.slice none 0 0) := P.cell 1
        have zc2 : ww.cell? ⟨w.heap.size + 1 + 1, 2, none⟩ = some (.slice none 0 0) := P.cell 2
        refine wpOp_step rfl (fun K' hK => ?_)
        go_simp
        refine hK _ _ ?_
        exact ⟨_, _, _, _, _, _, rfl, (fun h => absurd h (by rw [upd_self]; decide)), (kp f0), (kp f1), (kp f2), (fun _ => ⟨K5, p5, q5, rfl, fun h => absurd h (by rw [upd_self]; decide)⟩), (fun _ => ⟨rfl, upd_mono (lq.out 3 (by decide))⟩), (fun _ => ⟨fun q hq => upd_mono (lq.out q hq), ww, K5, p5, q5, rfl, rfl, J, o8⟩), (fun h => absurd (f6 (upd_ne h (by decide))).2 (by rw [hL]; decide))⟩
      · obtain rfl := Option.some.inj ho
        have l5 := Lib.hid (hd ⟨5, .chain⟩ (by simp) rfl)
        refine wpOp_step rfl (fun K' hK => ?_)
        go_simp
        refine hK _ _ ?_
        exact ⟨_, _, _, _, _, _, rfl, (fun h => absurd l5.out (by rw [upd_other (by decide)] at h; rw [h]; decide)), (kp f0), (kp f1), (kp f2), (fun h => by
          obtain ⟨K5, p5, q5, e8, r8⟩ := f3 (upd_ne h (by decide))
          exact ⟨K5, p5, q5, e8, fun h5 => absurd l5.out (by rw [upd_other (by decide)] at h5; rw [h5]; decide)⟩), (fun h => ⟨(f4 (upd_ne h (by decide))).1, upd_mono (f4 (upd_ne h (by decide))).2⟩), (fun h => by
          obtain ⟨a1, a2⟩ := f5 (upd_ne h (by decide))
          exact ⟨fun q hq => upd_mono (a1 q hq), a2⟩), (fun _ => ⟨rfl, upd_mono l5.out⟩)⟩
    case hdone =>
      rintro L ac ww hall ⟨t5, t27, t28, t29, t30, t31, rfl, I0, f0, f1, f2, f3, f4, f5, f6⟩
      have e0 := f0 (hall 0 (by decide))
      have e1 := f1 (hall 1 (by decide))
      have e2 := f2 (hall 2 (by decide))
      have e3 := f3 (hall 3 (by decide))
      have e4 := f4 (hall 4 (by decide))
      have e5 := f5 (hall 5 (by decide))
      have e6 := f6 (hall 6 (by decide))
      clear f0 f1 f2 f3 f4 f5 f6
      obtain ⟨-, wp, K5, p5, q5, rfl, rfl, r1, r9⟩ := e5
      obtain ⟨rfl, -⟩ := e6
      have hlo6 := S0.low.size
      have OC := OwnC.of S0.ownH r1 r9 hlo6
      have P := q3.keep r1 hrl
      have bP := b6.trans (r1.mono hw6)
      have P4 := ((P.put 0 (.slice A5 n5 c5)).put 1 (.slice R5 m5 d5)).put 2 (.slice K5 p5 q5)
      have s8 : ((((wp).setCell ⟨w.heap.size + 1 + 1, 0, none⟩ (.slice A5 n5 c5)).setCell ⟨w.heap.size + 1 + 1, 1, none⟩ (.slice R5 m5 d5)).setCell ⟨w.heap.size + 1 + 1, 2, none⟩ (.slice K5 p5 q5)).cell? ⟨w.heap.size + 1 + 1, 0, none⟩ = some (.slice A5 n5 c5) := P4.cell 0
      have s9 : ((((wp).setCell ⟨w.heap.size + 1 + 1, 0, none⟩ (.slice A5 n5 c5)).setCell ⟨w.heap.size + 1 + 1, 1, none⟩ (.slice R5 m5 d5)).setCell ⟨w.heap.size + 1 + 1, 2, none⟩ (.slice K5 p5 q5)).cell? ⟨w.heap.size + 1 + 1, 1, none⟩ = some (.slice R5 m5 d5) := P4.cell 1
      have s10 : ((((wp).setCell ⟨w.heap.size + 1 + 1, 0, none⟩ (.slice A5 n5 c5)).setCell ⟨w.heap.size + 1 + 1, 1, none⟩ (.slice R5 m5 d5)).setCell ⟨w.heap.size + 1 + 1, 2, none⟩ (.slice K5 p5 q5)).cell? ⟨w.heap.size + 1 + 1, 2, none⟩ = some (.slice K5 p5 q5) := P4.cell 2
      have D := Lib.hid (OwnC.out (w := w) (g := w.heap.size + 1 + 1) OC (by omega) bP (by omega))
      clear I0 e0 e1 e2 e3 e4 hall r1 r9 P P4 OC bP S0 q1 q3 k2 b6 v0 v1 x2
      go_wp2_with fail
      exact bodyPost_ret (v := .tuple #[.agg #[.slice A5 n5 c5, .slice R5 m5 d5, .slice K5 p5 q5], .bool false]) (by simp [results, Tryd.results16, go_sem, *]) rfl ⟨_, _, _, by rw [HF.out], by rw [HF.out]; exact D.out.1, D.out.2⟩
  have HF := Lib.hid (show Hps.stepCt h l o = ((Hps.freeH x, Hps.countsL (Hps.freeH x)), true) from HFB.out)
  go_wp2_with fail
  refine (freeLost_any w4 b _ _ rvs x _ S0 (HRV.out (by first | exact trivial | rfl))).mono ?_
  rintro e w7 ⟨vk, rvs7, rfl, S7, hb7, o7⟩
  obtain ⟨K5, q5, rfl, -⟩ := o7.form
  generalize hp5 : (Hps.countsL (Hps.freeH x)).length = p5 at *
  have OC : OwnC w7 w4.heap.size (.slice A5 n5 c5) (.slice R5 m5 d5) (.slice K5 p5 q5) (Hps.freeH x) (Hps.countsL (Hps.freeH x)) := ⟨rvs7, S7.own, o7.base (by have := S0.low.size; omega), fun u hu => by
    cases e : u.ownBlock with
    | none => exact .inl rfl
    | some k =>
      right
      intro e'
      have a1 := (World.ownsRow.lt o7 k e'.symm).1
      have a2 := hb7 u hu k e
      omega⟩
  have b9 : Below w.heap.size w w7 := B2K.out.trans (S7.low.mono B2K.out.size)
  have v0 : w7.cell? ⟨b, 0, none⟩ = some (.slice A5 n5 c5) := S7.box.cell 0
  have v1 : w7.cell? ⟨b, 1, none⟩ = some (.slice R5 m5 d5) := S7.box.cell 1
  have Q7 := q3b.out.keep (S7.low) hsz4
  have r2 : (w7).frozen? ⟨w.heap.size + 1 + 1, 0, none⟩ = false := Q7.frozen 0
  have r3 : (w7).frozen? ⟨w.heap.size + 1 + 1, 1, none⟩ = false := Q7.frozen 1
  have r4 : (w7).frozen? ⟨w.heap.size + 1 + 1, 2, none⟩ = false := Q7.frozen 2
  have r5 : (w7).cell? ⟨w.heap.size + 1 + 1, 0, none⟩ = some (.slice none 0 0) := Q7.cell 0
  have r6 : (w7).cell? ⟨w.heap.size + 1 + 1, 1, none⟩ = some (.slice none 0 0) := Q7.cell 1
  have r7 : (w7).cell? ⟨w.heap.size + 1 + 1, 2, none⟩ = some (.slice none 0 0) := Q7.cell 2
  have q4 := ((Q7.put 0 (.slice A5 n5 c5)).put 1 (.slice R5 m5 d5)).put 2 (.slice K5 p5 q5)
  have r8 : ((((w7).setCell ⟨w.heap.size + 1 + 1, 0, none⟩ (.slice A5 n5 c5)).setCell ⟨w.heap.size + 1 + 1, 1, none⟩ (.slice R5 m5 d5)).setCell ⟨w.heap.size + 1 + 1, 2, none⟩ (.slice K5 p5 q5)).cell? ⟨w.heap.size + 1 + 1, 0, none⟩ = some (.slice A5 n5 c5) := q4.cell 0
  have r9 : ((((w7).setCell ⟨w.heap.size + 1 + 1, 0, none⟩ (.slice A5 n5 c5)).setCell ⟨w.heap.size + 1 + 1, 1, none⟩ (.slice R5 m5 d5)).setCell ⟨w.heap.size + 1 + 1, 2, none⟩ (.slice K5 p5 q5)).cell? ⟨w.heap.size + 1 + 1, 1, none⟩ = some (.slice R5 m5 d5) := q4.cell 1
  have r10 : ((((w7).setCell ⟨w.heap.size + 1 + 1, 0, none⟩ (.slice A5 n5 c5)).setCell ⟨w.heap.size + 1 + 1, 1, none⟩ (.slice R5 m5 d5)).setCell ⟨w.heap.size + 1 + 1, 2, none⟩ (.slice K5 p5 q5)).cell? ⟨w.heap.size + 1 + 1, 2, none⟩ = some (.slice K5 p5 q5) := q4.cell 2
  have D := Lib.hid (OwnC.out (w := w) (g := w.heap.size + 1 + 1) (OC) (by omega) (b9) (by omega))
  clear S7 OC b9 Q7 q4 o7 q1 q3 k2 b6 x2
  go_wp2_with fail
  exact bodyPost_ret (v := .tuple #[.agg #[.slice A5 n5 c5, .slice R5 m5 d5, .slice K5 p5 q5], .bool true]) (by simp [results, Tryd.results16, go_sem, *]) rfl ⟨_, _, _, by rw [HF.out], by rw [HF.out]; exact D.out.1, D.out.2⟩
end Go.Proofs.YtfgdenmlfloloaaDoor

namespace Go.Proofs.YtfgdenmlfloloaaDoor
open Go.RowKit
set_option maxRecDepth 100000
section
variable {w w' : World} {bs : Nat} {vc vr vk : Value} {h : Hp} {l : List Int}
theorem OwnC.new (ho : OwnH w bs vc vr h) (hb : bs ≤ w.heap.size) : OwnC (w.alloc (.cells #[] 3)) bs vc vr (.slice (some ⟨w.heap.size, 0, none⟩) 0 0) h [] :=
  OwnC.of ho ((Below.refl _ _).alloc (Nat.le_refl _) _) (own_noneI w w.heap.size (Nat.le_refl _)) hb
/-- a heap that is made behind the counts -/
theorem OwnC.of2 (k : OwnI w bs vk l) (hb : bs ≤ w.heap.size) (hB : Below w.heap.size w w') (ho : OwnH w' w.heap.size vc vr h) : OwnC w' bs vc vr vk h l := by
  obtain ⟨rvs, o⟩ := ho
  refine ⟨rvs, o.base hb, k.below hB (Nat.le_refl _), fun u hu => ?_⟩
  cases e : u.ownBlock with
  | none => exact .inl rfl
  | some j =>
    right
    intro e'
    have h1 := (o.blocks hu e).1
    have h2 := (World.ownsRow.lt k j e'.symm).2
    omega
/-- the counts become longer -/
theorem OwnC.app {v' : Value} {l' : List Int} (ho : OwnC w bs vc vr vk h l) (o1 : OwnI w' bs v' l') (g1 : w.grownBy w' vk.ownBlock) (s1 : v'.ownBlock = vk.ownBlock ∨ v'.ownBlock = some w.heap.size) : OwnC w' bs vc vr v' h l' := by
  obtain ⟨rvs, o⟩ := ho
  refine ⟨rvs, o.heap.far g1 (fun u hu => o.sep u hu), o1, fun u hu => ?_⟩
  rcases s1 with e | e
  · rw [e]; exact o.sep u hu
  · cases e2 : u.ownBlock with
    | none => exact .inl rfl
    | some j =>
      right
      rw [e]
      intro e3
      have h1 := (o.heap.blocks hu e2).2
      have := Option.some.inj e3
      omega
end
set_option maxHeartbeats 8000000 in
theorem mStepCounted_any (A R K : Option Addr) (n c m d p q : Nat) (h : Hp) (l : List Int) (o : Cm) (w : World) (hs : HS w w.heap.size A n R m h) (hk : IS w w.heap.size K p l) (hn : n ≤ 1099511627776) (hm : m ≤ 1099511627776) (hp : p ≤ 1099511627776) :
    Calls Tryd.prog 17 #[ctV A n c R m d K p q, cmV o] w (GaveCt2 w (Hps.stepCt h l o).1.1 (Hps.stepCt h l o).1.2 (Hps.stepCt h l o).2) := by
  have b2 : Below w.heap.size w (((w.alloc (.cells #[.slice A n c, .slice R m d, .slice K p q] 34)).alloc (.cells #[.int .i64 o.op, .int .i64 o.a, .int .i64 o.b, .int .i64 o.c] 36)).alloc (.cells #[.slice none 0 0, .slice none 0 0, .slice none 0 0] 34)) := (((Below.refl w.heap.size w).alloc (Nat.le_refl _) _).alloc (by simp) _).alloc (by simp; omega) _
  have s2 := hs.up b2
  have k2 := hk.up b2
  have q1 := ((Rw.new w 34 #[.slice A n c, .slice R m d, .slice K p q]).alloc (.cells #[.int .i64 o.op, .int .i64 o.a, .int .i64 o.b, .int .i64 o.c] 36)).alloc (.cells #[.slice none 0 0, .slice none 0 0, .slice none 0 0] 34)
  have q2 := (Rw.new (w.alloc (.cells #[.slice A n c, .slice R m d, .slice K p q] 34)) 36 #[.int .i64 o.op, .int .i64 o.a, .int .i64 o.b, .int .i64 o.c]).alloc (.cells #[.slice none 0 0, .slice none 0 0, .slice none 0 0] 34)
  have q3 := Rw.new ((w.alloc (.cells #[.slice A n c, .slice R m d, .slice K p q] 34)).alloc (.cells #[.int .i64 o.op, .int .i64 o.a, .int .i64 o.b, .int .i64 o.c] 36)) 34 #[.slice none 0 0, .slice none 0 0, .slice none 0 0]
  simp only [World.size_alloc] at q2 q3
  go_enter Tryd.func17, Tryd.ntmps17
  go_upto_region 1 with fail
  generalize ((w.alloc (.cells #[.slice A n c, .slice R m d, .slice K p q] 34)).alloc (.cells #[.int .i64 o.op, .int .i64 o.a, .int .i64 o.b, .int .i64 o.c] 36)).alloc (.cells #[.slice none 0 0, .slice none 0 0, .slice none 0 0] 34) = w0 at b2 s2 k2 q1 q2 q3 ⊢
  have x0 : w0.cell? ⟨w.heap.size, 0, none⟩ = some (.slice A n c) := q1.cell 0
  have x1 : w0.cell? ⟨w.heap.size, 1, none⟩ = some (.slice R m d) := q1.cell 1
  have x2 : w0.cell? ⟨w.heap.size, 2, none⟩ = some (.slice K p q) := q1.cell 2
  go_wp2_with fail
  refine (mCountedValid_any _ _ _ _ _ _ _ _ _ h l _ s2 k2 hn hm hp).mono ?_
  rintro e w1 ⟨rfl, b1⟩
  replace q1 := q1.keep b1 q1.lt
  replace q2 := q2.keep b1 q2.lt
  replace q3 := q3.keep b1 q3.lt
  replace b2 := b2.trans (b1.mono b2.size)
  clear b1
  clear s2 k2 x0 x1 x2
  cases hv : Hps.okCt h l
  · have HF := Lib.hid (Hps.stepCt_no (o := o) (.inl hv))
    have r2 : (w1).frozen? ⟨w.heap.size + 1 + 1, 0, none⟩ = false := q3.frozen 0
    have r3 : (w1).frozen? ⟨w.heap.size + 1 + 1, 1, none⟩ = false := q3.frozen 1
    have r4 : (w1).frozen? ⟨w.heap.size + 1 + 1, 2, none⟩ = false := q3.frozen 2
    have r5 : (w1).cell? ⟨w.heap.size + 1 + 1, 0, none⟩ = some (.slice none 0 0) := q3.cell 0
    have r6 : (w1).cell? ⟨w.heap.size + 1 + 1, 1, none⟩ = some (.slice none 0 0) := q3.cell 1
    have r7 : (w1).cell? ⟨w.heap.size + 1 + 1, 2, none⟩ = some (.slice none 0 0) := q3.cell 2
    have q4 := ((q3.put 0 (.slice none 0 0)).put 1 (.slice none 0 0)).put 2 (.slice none 0 0)
    have r8 : (((w1.setCell ⟨w.heap.size + 1 + 1, 0, none⟩ (.slice none 0 0)).setCell ⟨w.heap.size + 1 + 1, 1, none⟩ (.slice none 0 0)).setCell ⟨w.heap.size + 1 + 1, 2, none⟩ (.slice none 0 0)).cell? ⟨w.heap.size + 1 + 1, 0, none⟩ = some (.slice none 0 0) := q4.cell 0
    have r9 : (((w1.setCell ⟨w.heap.size + 1 + 1, 0, none⟩ (.slice none 0 0)).setCell ⟨w.heap.size + 1 + 1, 1, none⟩ (.slice none 0 0)).setCell ⟨w.heap.size + 1 + 1, 2, none⟩ (.slice none 0 0)).cell? ⟨w.heap.size + 1 + 1, 1, none⟩ = some (.slice none 0 0) := q4.cell 1
    have r10 : (((w1.setCell ⟨w.heap.size + 1 + 1, 0, none⟩ (.slice none 0 0)).setCell ⟨w.heap.size + 1 + 1, 1, none⟩ (.slice none 0 0)).setCell ⟨w.heap.size + 1 + 1, 2, none⟩ (.slice none 0 0)).cell? ⟨w.heap.size + 1 + 1, 2, none⟩ = some (.slice none 0 0) := q4.cell 2
    have D := Lib.hid (OwnC.out (w := w) (own_zeroC w1 w1.heap.size (Nat.le_refl _)) q3.lt b2 (Nat.le_trans (Nat.le_succ _) (Nat.le_succ _)))
    clear q1 q2 q3 q4 b2
    go_wp2_with fail
    exact bodyPost_ret (v := .tuple #[.agg #[.slice none 0 0, .slice none 0 0, .slice none 0 0], .bool false]) (by simp [results, Tryd.results17, go_sem, *]) rfl ⟨_, _, _, by rw [HF.out], by rw [HF.out]; exact D.out.1, D.out.2⟩
  have z0 : w1.cell? ⟨w.heap.size + 1, 0, none⟩ = some (.int .i64 o.op) := q2.cell 0
  have z1 : w1.cell? ⟨w.heap.size + 1, 1, none⟩ = some (.int .i64 o.a) := q2.cell 1
  have z2 : w1.cell? ⟨w.heap.size + 1, 2, none⟩ = some (.int .i64 o.b) := q2.cell 2
  have z3 : w1.cell? ⟨w.heap.size + 1, 3, none⟩ = some (.int .i64 o.c) := q2.cell 3
  go_wp2_with fail
  refine (mCommandValid_any o _).mono ?_
  rintro e w3 ⟨rfl, b1⟩
  replace q1 := q1.keep b1 q1.lt
  replace q2 := q2.keep b1 q2.lt
  replace q3 := q3.keep b1 q3.lt
  replace b2 := b2.trans (b1.mono b2.size)
  clear b1
  clear z0 z1 z2 z3
  cases ho : Hps.okCm o
  · have HF := Lib.hid (Hps.stepCt_no (h := h) (l := l) (.inr ho))
    have r2 : (w3).frozen? ⟨w.heap.size + 1 + 1, 0, none⟩ = false := q3.frozen 0
    have r3 : (w3).frozen? ⟨w.heap.size + 1 + 1, 1, none⟩ = false := q3.frozen 1
    have r4 : (w3).frozen? ⟨w.heap.size + 1 + 1, 2, none⟩ = false := q3.frozen 2
    have r5 : (w3).cell? ⟨w.heap.size + 1 + 1, 0, none⟩ = some (.slice none 0 0) := q3.cell 0
    have r6 : (w3).cell? ⟨w.heap.size + 1 + 1, 1, none⟩ = some (.slice none 0 0) := q3.cell 1
    have r7 : (w3).cell? ⟨w.heap.size + 1 + 1, 2, none⟩ = some (.slice none 0 0) := q3.cell 2
    have q4 := ((q3.put 0 (.slice none 0 0)).put 1 (.slice none 0 0)).put 2 (.slice none 0 0)
    have r8 : (((w3.setCell ⟨w.heap.size + 1 + 1, 0, none⟩ (.slice none 0 0)).setCell ⟨w.heap.size + 1 + 1, 1, none⟩ (.slice none 0 0)).setCell ⟨w.heap.size + 1 + 1, 2, none⟩ (.slice none 0 0)).cell? ⟨w.heap.size + 1 + 1, 0, none⟩ = some (.slice none 0 0) := q4.cell 0
    have r9 : (((w3.setCell ⟨w.heap.size + 1 + 1, 0, none⟩ (.slice none 0 0)).setCell ⟨w.heap.size + 1 + 1, 1, none⟩ (.slice none 0 0)).setCell ⟨w.heap.size + 1 + 1, 2, none⟩ (.slice none 0 0)).cell? ⟨w.heap.size + 1 + 1, 1, none⟩ = some (.slice none 0 0) := q4.cell 1
    have r10 : (((w3.setCell ⟨w.heap.size + 1 + 1, 0, none⟩ (.slice none 0 0)).setCell ⟨w.heap.size + 1 + 1, 1, none⟩ (.slice none 0 0)).setCell ⟨w.heap.size + 1 + 1, 2, none⟩ (.slice none 0 0)).cell? ⟨w.heap.size + 1 + 1, 2, none⟩ = some (.slice none 0 0) := q4.cell 2
    have D := Lib.hid (OwnC.out (w := w) (own_zeroC w3 w3.heap.size (Nat.le_refl _)) q3.lt b2 (Nat.le_trans (Nat.le_succ _) (Nat.le_succ _)))
    clear q1 q2 q3 q4 b2
    go_wp2_with fail
    exact bodyPost_ret (v := .tuple #[.agg #[.slice none 0 0, .slice none 0 0, .slice none 0 0], .bool false]) (by simp [results, Tryd.results17, go_sem, *]) rfl ⟨_, _, _, by rw [HF.out], by rw [HF.out]; exact D.out.1, D.out.2⟩
  have s2 := hs.up b2
  have x0 : w3.cell? ⟨w.heap.size, 0, none⟩ = some (.slice A n c) := q1.cell 0
  have x1 : w3.cell? ⟨w.heap.size, 1, none⟩ = some (.slice R m d) := q1.cell 1
  have x2 : w3.cell? ⟨w.heap.size, 2, none⟩ = some (.slice K p q) := q1.cell 2
  go_wp2_with fail
  refine (mPlace_any _ _ _ _ _ _ h _ s2 hn).mono ?_
  rintro e w4 ⟨rfl, b1⟩
  replace q1 := q1.keep b1 q1.lt
  replace q2 := q2.keep b1 q2.lt
  replace q3 := q3.keep b1 q3.lt
  replace b2 := b2.trans (b1.mono b2.size)
  clear b1
  clear s2 x0 x1 x2
  obtain ⟨hvh, hll⟩ := Hps.okCt_iff.1 hv
  have HVC := Lib.hid hv
  have HOK := Lib.hid ho
  have HVH := Lib.hid hvh
  obtain ⟨nb, hnb⟩ : ∃ nb, (!Hps.canH h o || (decide (o.op = 1) && decide (Hps.gapH h = 40))) = nb := ⟨_, rfl⟩
  have HNB := Lib.hid hnb
  obtain ⟨gp, hgp⟩ : ∃ gp, Hps.gapH h = gp := ⟨_, rfl⟩
  have HGP := Lib.hid hgp
  rw [hgp]
  clear hv ho hvh hll hnb hgp
  have s2 := hs.up b2
  have x0 : w4.cell? ⟨w.heap.size, 0, none⟩ = some (.slice A n c) := q1.cell 0
  have x1 : w4.cell? ⟨w.heap.size, 1, none⟩ = some (.slice R m d) := q1.cell 1
  have x2 : w4.cell? ⟨w.heap.size, 2, none⟩ = some (.slice K p q) := q1.cell 2
  have z0 : w4.cell? ⟨w.heap.size + 1, 0, none⟩ = some (.int .i64 o.op) := q2.cell 0
  have z1 : w4.cell? ⟨w.heap.size + 1, 1, none⟩ = some (.int .i64 o.a) := q2.cell 1
  have z2 : w4.cell? ⟨w.heap.size + 1, 2, none⟩ = some (.int .i64 o.b) := q2.cell 2
  have z3 : w4.cell? ⟨w.heap.size + 1, 3, none⟩ = some (.int .i64 o.c) := q2.cell 3
  go_upto_region 4 with fail
  go_cut [32] from 7 (fun v wc => v = .bool nb ∧ Below w4.heap.size w4 wc)
  case first =>
    go_wp2_with fail
    refine (mCommandPossible_any _ _ _ _ _ _ h o _ s2 hn hm).mono ?_
    rintro e w5 ⟨rfl, b1⟩
    have z0 : w5.cell? ⟨w.heap.size + 1, 0, none⟩ = some (.int .i64 o.op) := (q2.keep b1 q2.lt).cell 0
    cases hc : Hps.canH h o
    · have HN := Lib.hid (show true = nb by rw [← HNB.out, hc]; rfl)
      clear hc
      go_wp2_with fail
      go_meet
      case rel => exact ⟨by rw [← HN.out], by first | exact b1 | exact below_drewN b1 _⟩
    · by_cases h1 : o.op = 1
      · have ht : (o.op == (1 : Int)) = true := by rw [h1]; rfl
        have HN := Lib.hid (show decide (gp = 40) = nb by rw [← HNB.out, hc, HGP.out, h1]; simp)
        clear hc h1
        by_cases hf : gp = 40
        · subst hf
          go_wp2_with fail
          go_meet
          case rel => exact ⟨by rw [← HN.out]; rfl, by first | exact b1 | exact below_drewN b1 _⟩
        · have hf' : ¬ (gp : Int) = 40 := by omega
          have hf2 : ((gp : Int) == 40) = false := by rw [beq_eq_false_iff_ne]; exact hf'
          have HF2 := Lib.hid (decide_eq_false hf)
          clear hf
          go_wp2_with fail
          go_meet
          case rel => exact ⟨by rw [← HN.out, HF2.out], by first | exact b1 | exact below_drewN b1 _⟩
      · have ht : (o.op == (1 : Int)) = false := by rw [beq_eq_false_iff_ne]; exact h1
        have HN := Lib.hid (show false = nb by rw [← HNB.out, hc, decide_eq_false h1]; simp)
        clear hc h1
        go_wp2_with fail
        go_meet
        case rel => exact ⟨by rw [← HN.out], by first | exact b1 | exact below_drewN b1 _⟩
  case rest =>
  obtain ⟨rfl, b1⟩ := hcut
  replace q1 := q1.keep b1 q1.lt
  replace q2 := q2.keep b1 q2.lt
  replace q3 := q3.keep b1 q3.lt
  replace b2 := b2.trans (b1.mono b2.size)
  clear b1
  clear s2 x0 x1 x2 z0 z1 z2 z3 w1 w3
  have s2 := hs.up b2
  have k2 := hk.up b2
  have x0 : wc.cell? ⟨w.heap.size, 0, none⟩ = some (.slice A n c) := q1.cell 0
  have x1 : wc.cell? ⟨w.heap.size, 1, none⟩ = some (.slice R m d) := q1.cell 1
  have x2 : wc.cell? ⟨w.heap.size, 2, none⟩ = some (.slice K p q) := q1.cell 2
  have z0 : wc.cell? ⟨w.heap.size + 1, 0, none⟩ = some (.int .i64 o.op) := q2.cell 0
  have z1 : wc.cell? ⟨w.heap.size + 1, 1, none⟩ = some (.int .i64 o.a) := q2.cell 1
  have z2 : wc.cell? ⟨w.heap.size + 1, 2, none⟩ = some (.int .i64 o.b) := q2.cell 2
  have z3 : wc.cell? ⟨w.heap.size + 1, 3, none⟩ = some (.int .i64 o.c) := q2.cell 3
  have hsz : w.heap.size + 1 + 1 < wc.heap.size := q3.lt
  cases nb
  · have hcan : Hps.canH h o = true := by
      have := HNB.out
      rw [Bool.or_eq_false_iff] at this
      simpa using this.1
    have hgo : ¬ (o.op = 1 ∧ Hps.gapH h = 40) := by
      have := HNB.out
      rw [Bool.or_eq_false_iff] at this
      have h2 := this.2
      rintro ⟨e1, e2⟩
      rw [decide_eq_true e1, decide_eq_true e2] at h2
      cases h2
    have HF := Lib.hid (Hps.stepCt_does HVC.out HOK.out hcan hgo)
    have hgl := Hps.gapH_le h
    have DO := Lib.hid (l8Do_any A R n c m d h o gp wc s2 hcan (fun _ => by have := hs.cells.1; have := HGP.out; omega))
    have HDV := Lib.hid (Hps.doH_valid hcan (Hps.gap_room HVH.out hgo))
    rw [HGP.out] at HF HDV
    clear hcan hgo hgl s2 k2
    go_wp2_with fail
    refine DO.out.mono ?_
    rintro e w5 ⟨vc, vr, rfl, oh, b1⟩
    obtain ⟨A5, c5, R5, d5, rfl, rfl, hs5⟩ := oh.form
    obtain ⟨h5, hh5⟩ : ∃ h5, Hps.doH h o gp = h5 := ⟨_, rfl⟩
    rw [hh5] at hs5 HF HDV ⊢
    obtain ⟨n5, hn5⟩ : ∃ n5, h5.cs.length = n5 := ⟨_, rfl⟩
    obtain ⟨m5, hm5⟩ : ∃ m5, h5.rt.length = m5 := ⟨_, rfl⟩
    rw [hn5, hm5] at hs5 ⊢
    clear oh hh5 hn5 hm5
    replace q3 := q3.keep b1 q3.lt
    have b3 := b2.trans (b1.mono b2.size)
    clear DO x0 x1 x2 z0 z1 z2 z3 q1 q2
    go_wp2_with fail
    refine (l10Free_any _ _ _ _ _ _ _ _ hs5 HDV.out).mono ?_
    rintro e w6 ⟨vc, vr, vk, rfl, oc, b4⟩
    obtain ⟨A6, n6, c6, R6, m6, d6, K6, p6, q6, rfl, rfl, rfl⟩ := oc.slices
    replace q3 := q3.keep b4 q3.lt
    have b5 := b3.trans (b4.mono b3.size)
    replace oc := oc.base (bs' := wc.heap.size) b1.size
    have r2 : (w6).frozen? ⟨w.heap.size + 1 + 1, 0, none⟩ = false := q3.frozen 0
    have r3 : (w6).frozen? ⟨w.heap.size + 1 + 1, 1, none⟩ = false := q3.frozen 1
    have r4 : (w6).frozen? ⟨w.heap.size + 1 + 1, 2, none⟩ = false := q3.frozen 2
    have r5 : (w6).cell? ⟨w.heap.size + 1 + 1, 0, none⟩ = some (.slice none 0 0) := q3.cell 0
    have r6 : (w6).cell? ⟨w.heap.size + 1 + 1, 1, none⟩ = some (.slice none 0 0) := q3.cell 1
    have r7 : (w6).cell? ⟨w.heap.size + 1 + 1, 2, none⟩ = some (.slice none 0 0) := q3.cell 2
    have q4 := ((q3.put 0 (.slice A6 n6 c6)).put 1 (.slice R6 m6 d6)).put 2 (.slice K6 p6 q6)
    have r8 : (((w6.setCell ⟨w.heap.size + 1 + 1, 0, none⟩ (.slice A6 n6 c6)).setCell ⟨w.heap.size + 1 + 1, 1, none⟩ (.slice R6 m6 d6)).setCell ⟨w.heap.size + 1 + 1, 2, none⟩ (.slice K6 p6 q6)).cell? ⟨w.heap.size + 1 + 1, 0, none⟩ = some (.slice A6 n6 c6) := q4.cell 0
    have r9 : (((w6.setCell ⟨w.heap.size + 1 + 1, 0, none⟩ (.slice A6 n6 c6)).setCell ⟨w.heap.size + 1 + 1, 1, none⟩ (.slice R6 m6 d6)).setCell ⟨w.heap.size + 1 + 1, 2, none⟩ (.slice K6 p6 q6)).cell? ⟨w.heap.size + 1 + 1, 1, none⟩ = some (.slice R6 m6 d6) := q4.cell 1
    have r10 : (((w6.setCell ⟨w.heap.size + 1 + 1, 0, none⟩ (.slice A6 n6 c6)).setCell ⟨w.heap.size + 1 + 1, 1, none⟩ (.slice R6 m6 d6)).setCell ⟨w.heap.size + 1 + 1, 2, none⟩ (.slice K6 p6 q6)).cell? ⟨w.heap.size + 1 + 1, 2, none⟩ = some (.slice K6 p6 q6) := q4.cell 2
    have D := Lib.hid (OwnC.out (w := w) oc hsz b5 (Nat.le_trans (Nat.le_succ _) (Nat.le_succ _)))
    clear oc hs5 b1 b2 b3 b4 b5 q3 q4
    go_wp2_with fail
    exact bodyPost_ret (v := .tuple #[.agg #[.slice A6 n6 c6, .slice R6 m6 d6, .slice K6 p6 q6], .bool true]) (by simp [results, Tryd.results17, go_sem, *]) rfl ⟨_, _, _, by rw [HF.out], by rw [HF.out]; exact D.out.1, D.out.2⟩
  · have hcan : Hps.canH h o = false ∨ (o.op = 1 ∧ Hps.gapH h = 40) := by
      have := HNB.out
      rw [Bool.or_eq_true, Bool.and_eq_true, decide_eq_true_iff, decide_eq_true_iff] at this
      rcases this with e | e
      · exact .inl (by simpa using e)
      · exact .inr e
    have HF := Lib.hid (Hps.stepCt_cannot HVC.out HOK.out hcan)
    have hlc := hs.cells.1
    have hlr := hs.roots.1
    obtain ⟨V1, V2, V3, V4⟩ := Hps.valid_iff.1 HVH.out
    have H3 := Lib.hid (fun cl (hcl : cl ∈ h.cs) => show cl.r.length ≤ 1000000 by have := (Hps.okCell_iff.1 (V1 cl hcl)).2.2.1; omega)
    have CALL := Lib.hid (fun (ww : World) (hB : Below wc.heap.size wc ww) => l7Copy_any A R n c m d h ww (s2.up hB) (by omega) (by omega) H3.out)
    have KS := Lib.hid (fun (ww : World) (hB : Below wc.heap.size wc ww) => k2.up hB)
    have hll := hk.1
    have HLL := Lib.hid hll
    have HQ := Lib.hid q3
    have HB2 := Lib.hid b2
    clear hcan hlc hlr V1 V2 V3 V4 s2 k2 hll z0 z1 z2 z3
    go_upto_region 5 with fail
    refine wp_region_inv (by kernel_rfl) (by kernel_rfl) (fun L ac ww => ∃ t5 t33 t34 t35 t36 t37 t38 t39 t40 : Value, ac = { tmps := #[ctV A n c R m d K p q, cmV o, Value.pointer (some { block := w.heap.size, off := 0 }), Value.pointer (some { block := w.heap.size + 1, off := 0 }), Value.pointer (some { block := w.heap.size + 1 + 1, off := 0 }), t5, Value.int IntKind.i64 ↑gp, u7, u8, u9, u10, u11, u12, u13, u14, u15, u16, u17, u18, u19, u20, u21, u22, u23, u24, u25, u26, u27, u28, u29, u30, u31, Value.bool true, t33, t34, t35, t36, t37, t38, t39, t40, u41, u42, u43, u44, u45, u46], defers := [] } ∧ (L 8 = false → Below wc.heap.size wc ww) ∧ (L 6 = true → L 2 = true) ∧ (L 6 = true → L 3 = true) ∧ (L 7 = true → L 6 = true) ∧ (L 8 = true → L 7 = true) ∧ (L 9 = true → L 8 = true) ∧ (L 2 = true → L 1 = true) ∧ (L 6 = true → L 5 = true) ∧ (L 5 = true → L 4 = true) ∧ (L 1 = true → L 0 = true) ∧ (L 0 = true → t33 = .pointer (some ⟨w.heap.size, 0, none⟩)) ∧ (L 1 = true → t34 = .agg #[.slice A n c, .slice R m d]) ∧ (L 2 = true → ∃ (A5 : Option Addr) (n5 c5 : Nat) (R5 : Option Addr) (m5 d5 : Nat), t35 = .agg #[.slice A5 n5 c5, .slice R5 m5 d5] ∧ (L 6 = false → (L 3 = false → OwnH ww wc.heap.size (.slice A5 n5 c5) (.slice R5 m5 d5) h) ∧ (L 3 = true → OwnC ww wc.heap.size (.slice A5 n5 c5) (.slice R5 m5 d5) t36 h []))) ∧ (L 3 = true → ∃ gs, t36 = .slice (some ⟨gs, 0, none⟩) 0 0 ∧ (L 6 = false → OwnI ww wc.heap.size t36 [])) ∧ (L 4 = true → t37 = .pointer (some ⟨w.heap.size, 2, none⟩)) ∧ (L 5 = true → t38 = .slice K p q) ∧ (L 6 = true → ∃ (A5 : Option Addr) (n5 c5 : Nat) (R5 : Option Addr) (m5 d5 : Nat) (A9 : Option Addr) (c9 : Nat), t35 = .agg #[.slice A5 n5 c5, .slice R5 m5 d5] ∧ t39 = .slice A9 p c9 ∧ (L 8 = false → OwnC ww wc.heap.size (.slice A5 n5 c5) (.slice R5 m5 d5) t39 h l)) ∧ (L 7 = true → ∃ (A5 : Option Addr) (n5 c5 : Nat) (R5 : Option Addr) (m5 d5 : Nat) (A9 : Option Addr) (c9 : Nat), t35 = .agg #[.slice A5 n5 c5, .slice R5 m5 d5] ∧ t39 = .slice A9 p c9 ∧ t40 = .agg #[.slice A5 n5 c5, .slice R5 m5 d5, .slice A9 p c9]) ∧ (L 8 = true → ∃ (A5 : Option Addr) (n5 c5 : Nat) (R5 : Option Addr) (m5 d5 : Nat) (A9 : Option Addr) (c9 : Nat) (w1 : World), ww = ((w1.setCell ⟨w.heap.size + 1 + 1, 0, none⟩ (.slice A5 n5 c5)).setCell ⟨w.heap.size + 1 + 1, 1, none⟩ (.slice R5 m5 d5)).setCell ⟨w.heap.size + 1 + 1, 2, none⟩ (.slice A9 p c9) ∧ OwnC w1 wc.heap.size (.slice A5 n5 c5) (.slice R5 m5 d5) (.slice A9 p c9) h l ∧ Below wc.heap.size wc w1) ∧ (L 9 = true → t5 = .bool false)) ?h0 ?hstep ?hdone
    case h0 => exact ⟨_, _, _, _, _, _, _, _, _, rfl, fun _ => (Below.refl _ _).drew, fun h => absurd h Bool.false_ne_true, fun h => absurd h Bool.false_ne_true, fun h => absurd h Bool.false_ne_true, fun h => absurd h Bool.false_ne_true, fun h => absurd h Bool.false_ne_true, fun h => absurd h Bool.false_ne_true, fun h => absurd h Bool.false_ne_true, fun h => absurd h Bool.false_ne_true, fun h => absurd h Bool.false_ne_true, (fun h => absurd h Bool.false_ne_true), (fun h => absurd h Bool.false_ne_true), (fun h => absurd h Bool.false_ne_true), (fun h => absurd h Bool.false_ne_true), (fun h => absurd h Bool.false_ne_true), (fun h => absurd h Bool.false_ne_true), (fun h => absurd h Bool.false_ne_true), (fun h => absurd h Bool.false_ne_true), (fun h => absurd h Bool.false_ne_true), (fun h => absurd h Bool.false_ne_true)⟩
    case hstep =>
      rintro L ac ww i o ho hL hd ⟨t5, t33, t34, t35, t36, t37, t38, t39, t40, rfl, I0, I1, I2, I3, I4, I5, I6, I7, I8, I9, f0, f1, f2, f3, f4, f5, f6, f7, f8, f9⟩
      have hi : i < 10 := (Array.getElem?_eq_some_iff.1 ho).1
      obtain rfl | rfl | rfl | rfl | rfl | rfl | rfl | rfl | rfl | rfl : i = 0 ∨ i = 1 ∨ i = 2 ∨ i = 3 ∨ i = 4 ∨ i = 5 ∨ i = 6 ∨ i = 7 ∨ i = 8 ∨ i = 9 := by omega
      · obtain rfl := Option.some.inj ho
        have h8 : L 8 = false := by
          cases hh : L 8
          · rfl
          · exact absurd (I9 (I6 (I1 (I3 (I4 hh))))) (by rw [hL]; decide)
        have hB := I0 h8
        refine wpOp_step rfl (fun K' hK => ?_)
        go_simp
        refine hK _ _ ?_
        exact ⟨_, _, _, _, _, _, _, _, _, rfl, (fun h => I0 (by rw [upd_other (by decide)] at h; exact h)), (fun h => upd_mono (I1 (upd_ne h (by decide)))), (fun h => upd_mono (I2 (upd_ne h (by decide)))), (fun h => upd_mono (I3 (upd_ne h (by decide)))), (fun h => upd_mono (I4 (upd_ne h (by decide)))), (fun h => upd_mono (I5 (upd_ne h (by decide)))), (fun h => upd_mono (I6 (upd_ne h (by decide)))), (fun h => upd_mono (I7 (upd_ne h (by decide)))), (fun h => upd_mono (I8 (upd_ne h (by decide)))), (fun h => upd_mono (I9 (upd_ne h (by decide)))), (fun _ => rfl), (kp f1), (fun h => by
          obtain ⟨A5, n5, c5, R5, m5, d5, e, oo⟩ := f2 (upd_ne h (by decide))
          exact ⟨A5, n5, c5, R5, m5, d5, e, fun h6 => by
            rw [upd_other (by decide)] at h6
            rw [upd_other (by decide)]
            exact oo h6⟩), (fun h => by
          obtain ⟨gs, e, oo⟩ := f3 (upd_ne h (by decide))
          exact ⟨gs, e, fun h6 => by
            rw [upd_other (by decide)] at h6
            exact oo h6⟩), (kp f4), (kp f5), (fun h => by
          obtain ⟨A5, n5, c5, R5, m5, d5, A9, c9, e, e2, oo⟩ := f6 (upd_ne h (by decide))
          exact ⟨A5, n5, c5, R5, m5, d5, A9, c9, e, e2, fun h8 => by
            rw [upd_other (by decide)] at h8
            exact oo h8⟩), (kp f7), (fun h => absurd ((upd_ne h (by decide)).symm.trans h8) (by decide)), (kp f9)⟩
      · obtain rfl := Option.some.inj ho
        have g0 := f0 (hd ⟨0, .data⟩ (by simp) rfl)
        subst g0
        have h8 : L 8 = false := by
          cases hh : L 8
          · rfl
          · exact absurd (I6 (I1 (I3 (I4 hh)))) (by rw [hL]; decide)
        have hB := I0 h8
        have y0 : ww.cell? ⟨w.heap.size, 0, none⟩ = some (.slice A n c) := (hB.cell (p := ⟨w.heap.size, 0, none⟩) (by show w.heap.size < wc.heap.size; omega)).trans x0
        have y1 : ww.cell? ⟨w.heap.size, 1, none⟩ = some (.slice R m d) := (hB.cell (p := ⟨w.heap.size, 1, none⟩) (by show w.heap.size < wc.heap.size; omega)).trans x1
        refine wpOp_step rfl (fun K' hK => ?_)
        go_simp
        refine hK _ _ ?_
        exact ⟨_, _, _, _, _, _, _, _, _, rfl, (fun h => I0 (by rw [upd_other (by decide)] at h; exact h)), (fun h => upd_mono (I1 (upd_ne h (by decide)))), (fun h => upd_mono (I2 (upd_ne h (by decide)))), (fun h => upd_mono (I3 (upd_ne h (by decide)))), (fun h => upd_mono (I4 (upd_ne h (by decide)))), (fun h => upd_mono (I5 (upd_ne h (by decide)))), (fun h => upd_mono (I6 (upd_ne h (by decide)))), (fun h => upd_mono (I7 (upd_ne h (by decide)))), (fun h => upd_mono (I8 (upd_ne h (by decide)))), (fun _ => upd_mono (hd ⟨0, .data⟩ (by simp) rfl)), (kp f0), (fun _ => rfl), (fun h => by
          obtain ⟨A5, n5, c5, R5, m5, d5, e, oo⟩ := f2 (upd_ne h (by decide))
          exact ⟨A5, n5, c5, R5, m5, d5, e, fun h6 => by
            rw [upd_other (by decide)] at h6
            rw [upd_other (by decide)]
            exact oo h6⟩), (fun h => by
          obtain ⟨gs, e, oo⟩ := f3 (upd_ne h (by decide))
          exact ⟨gs, e, fun h6 => by
            rw [upd_other (by decide)] at h6
            exact oo h6⟩), (kp f4), (kp f5), (fun h => by
          obtain ⟨A5, n5, c5, R5, m5, d5, A9, c9, e, e2, oo⟩ := f6 (upd_ne h (by decide))
          exact ⟨A5, n5, c5, R5, m5, d5, A9, c9, e, e2, fun h8 => by
            rw [upd_other (by decide)] at h8
            exact oo h8⟩), (kp f7), (fun h => absurd ((upd_ne h (by decide)).symm.trans h8) (by decide)), (kp f9)⟩
      · obtain rfl := Option.some.inj ho
        have g1 := f1 (hd ⟨1, .data⟩ (by simp) rfl)
        subst g1
        have h8 : L 8 = false := by
          cases hh : L 8
          · rfl
          · exact absurd (I1 (I3 (I4 hh))) (by rw [hL]; decide)
        have hB := I0 h8
        have h6 : L 6 = false := by
          cases hh : L 6
          · rfl
          · exact absurd (I1 hh) (by rw [hL]; decide)
        refine wpOp_step rfl (fun K' hK => ?_)
        go_simp
        refine (CALL.out ww hB).mono ?_
        rintro e w' ⟨v1, v2, rfl, oh, b5⟩
        obtain ⟨A5, n5, c5, R5, m5, d5, rfl, rfl⟩ := oh.slices
        refine hK _ _ ?_
        exact ⟨_, _, _, _, _, _, _, _, _, rfl, (fun _ => hB.trans (b5.mono hB.size)), (fun h => upd_mono (I1 (upd_ne h (by decide)))), (fun h => upd_mono (I2 (upd_ne h (by decide)))), (fun h => upd_mono (I3 (upd_ne h (by decide)))), (fun h => upd_mono (I4 (upd_ne h (by decide)))), (fun h => upd_mono (I5 (upd_ne h (by decide)))), (fun _ => upd_mono (hd ⟨1, .data⟩ (by simp) rfl)), (fun h => upd_mono (I7 (upd_ne h (by decide)))), (fun h => upd_mono (I8 (upd_ne h (by decide)))), (fun h => upd_mono (I9 (upd_ne h (by decide)))), (kp f0), (kp f1), (fun _ => ⟨A5, n5, c5, R5, m5, d5, rfl, fun _ => ⟨fun _ => oh.base hB.size, fun hl3 => by
          obtain ⟨gs, e, o3⟩ := f3 (by rw [upd_other (by decide)] at hl3; exact hl3)
          exact OwnC.of2 (o3 h6) hB.size b5 oh⟩⟩), (fun h => by
          obtain ⟨gs, e, oo⟩ := f3 (upd_ne h (by decide))
          exact ⟨gs, e, fun _ => (oo h6).below b5 (Nat.le_refl _)⟩), (kp f4), (kp f5), (fun h => absurd ((upd_ne h (by decide)).symm.trans h6) (by decide)), (fun h => absurd (I3 (upd_ne h (by decide))) (by rw [h6]; decide)), (fun h => absurd ((upd_ne h (by decide)).symm.trans h8) (by decide)), (kp f9)⟩
      · obtain rfl := Option.some.inj ho
        have h8 : L 8 = false := by
          cases hh : L 8
          · rfl
          · exact absurd (I2 (I3 (I4 hh))) (by rw [hL]; decide)
        have hB := I0 h8
        have h6 : L 6 = false := by
          cases hh : L 6
          · rfl
          · exact absurd (I2 hh) (by rw [hL]; decide)
        refine wpOp_step rfl (fun K' hK => ?_)
        go_simp
        refine hK _ _ ?_
        exact ⟨_, _, _, _, _, _, _, _, _, rfl, (fun _ => hB.alloc hB.size _), (fun h => upd_mono (I1 (upd_ne h (by decide)))), (fun h => upd_mono (I2 (upd_ne h (by decide)))), (fun h => upd_mono (I3 (upd_ne h (by decide)))), (fun h => upd_mono (I4 (upd_ne h (by decide)))), (fun h => upd_mono (I5 (upd_ne h (by decide)))), (fun h => upd_mono (I6 (upd_ne h (by decide)))), (fun h => upd_mono (I7 (upd_ne h (by decide)))), (fun h => upd_mono (I8 (upd_ne h (by decide)))), (fun h => upd_mono (I9 (upd_ne h (by decide)))), (kp f0), (kp f1), (fun h => by
          obtain ⟨A5, n5, c5, R5, m5, d5, e, oo⟩ := f2 (upd_ne h (by decide))
          exact ⟨A5, n5, c5, R5, m5, d5, e, fun _ => ⟨fun h3 => absurd (upd_self.symm.trans h3) (by decide), fun _ => OwnC.new ((oo h6).1 hL) hB.size⟩⟩), (fun _ => ⟨_, rfl, fun _ => own_noneI ww wc.heap.size hB.size⟩), (kp f4), (kp f5), (fun h => absurd ((upd_ne h (by decide)).symm.trans h6) (by decide)), (fun h => absurd (I3 (upd_ne h (by decide))) (by rw [h6]; decide)), (fun h => absurd ((upd_ne h (by decide)).symm.trans h8) (by decide)), (kp f9)⟩
      · obtain rfl := Option.some.inj ho
        have h8 : L 8 = false := by
          cases hh : L 8
          · rfl
          · exact absurd (I8 (I7 (I3 (I4 hh)))) (by rw [hL]; decide)
        have hB := I0 h8
        refine wpOp_step rfl (fun K' hK => ?_)
        go_simp
        refine hK _ _ ?_
        exact ⟨_, _, _, _, _, _, _, _, _, rfl, (fun h => I0 (by rw [upd_other (by decide)] at h; exact h)), (fun h => upd_mono (I1 (upd_ne h (by decide)))), (fun h => upd_mono (I2 (upd_ne h (by decide)))), (fun h => upd_mono (I3 (upd_ne h (by decide)))), (fun h => upd_mono (I4 (upd_ne h (by decide)))), (fun h => upd_mono (I5 (upd_ne h (by decide)))), (fun h => upd_mono (I6 (upd_ne h (by decide)))), (fun h => upd_mono (I7 (upd_ne h (by decide)))), (fun h => upd_mono (I8 (upd_ne h (by decide)))), (fun h => upd_mono (I9 (upd_ne h (by decide)))), (kp f0), (kp f1), (fun h => by
          obtain ⟨A5, n5, c5, R5, m5, d5, e, oo⟩ := f2 (upd_ne h (by decide))
          exact ⟨A5, n5, c5, R5, m5, d5, e, fun h6 => by
            rw [upd_other (by decide)] at h6
            rw [upd_other (by decide)]
            exact oo h6⟩), (fun h => by
          obtain ⟨gs, e, oo⟩ := f3 (upd_ne h (by decide))
          exact ⟨gs, e, fun h6 => by
            rw [upd_other (by decide)] at h6
            exact oo h6⟩), (fun _ => rfl), (kp f5), (fun h => by
          obtain ⟨A5, n5, c5, R5, m5, d5, A9, c9, e, e2, oo⟩ := f6 (upd_ne h (by decide))
          exact ⟨A5, n5, c5, R5, m5, d5, A9, c9, e, e2, fun h8 => by
            rw [upd_other (by decide)] at h8
            exact oo h8⟩), (kp f7), (fun h => absurd ((upd_ne h (by decide)).symm.trans h8) (by decide)), (kp f9)⟩
      · obtain rfl := Option.some.inj ho
        have g4 := f4 (hd ⟨4, .data⟩ (by simp) rfl)
        subst g4
        have h8 : L 8 = false := by
          cases hh : L 8
          · rfl
          · exact absurd (I7 (I3 (I4 hh))) (by rw [hL]; decide)
        have hB := I0 h8
        have y2 : ww.cell? ⟨w.heap.size, 2, none⟩ = some (.slice K p q) := (hB.cell (p := ⟨w.heap.size, 2, none⟩) (by show w.heap.size < wc.heap.size; omega)).trans x2
        refine wpOp_step rfl (fun K' hK => ?_)
        go_simp
        refine hK _ _ ?_
        exact ⟨_, _, _, _, _, _, _, _, _, rfl, (fun h => I0 (by rw [upd_other (by decide)] at h; exact h)), (fun h => upd_mono (I1 (upd_ne h (by decide)))), (fun h => upd_mono (I2 (upd_ne h (by decide)))), (fun h => upd_mono (I3 (upd_ne h (by decide)))), (fun h => upd_mono (I4 (upd_ne h (by decide)))), (fun h => upd_mono (I5 (upd_ne h (by decide)))), (fun h => upd_mono (I6 (upd_ne h (by decide)))), (fun h => upd_mono (I7 (upd_ne h (by decide)))), (fun _ => upd_mono (hd ⟨4, .data⟩ (by simp) rfl)), (fun h => upd_mono (I9 (upd_ne h (by decide)))), (kp f0), (kp f1), (fun h => by
          obtain ⟨A5, n5, c5, R5, m5, d5, e, oo⟩ := f2 (upd_ne h (by decide))
          exact ⟨A5, n5, c5, R5, m5, d5, e, fun h6 => by
            rw [upd_other (by decide)] at h6
            rw [upd_other (by decide)]
            exact oo h6⟩), (fun h => by
          obtain ⟨gs, e, oo⟩ := f3 (upd_ne h (by decide))
          exact ⟨gs, e, fun h6 => by
            rw [upd_other (by decide)] at h6
            exact oo h6⟩), (kp f4), (fun _ => rfl), (fun h => by
          obtain ⟨A5, n5, c5, R5, m5, d5, A9, c9, e, e2, oo⟩ := f6 (upd_ne h (by decide))
          exact ⟨A5, n5, c5, R5, m5, d5, A9, c9, e, e2, fun h8 => by
            rw [upd_other (by decide)] at h8
            exact oo h8⟩), (kp f7), (fun h => absurd ((upd_ne h (by decide)).symm.trans h8) (by decide)), (kp f9)⟩
      · obtain rfl := Option.some.inj ho
        have g3 := f3 (hd ⟨3, .data⟩ (by simp) rfl)
        have g5 := f5 (hd ⟨5, .data⟩ (by simp) rfl)
        subst g5
        have h8 : L 8 = false := by
          cases hh : L 8
          · rfl
          · exact absurd (I3 (I4 hh)) (by rw [hL]; decide)
        have hB := I0 h8
        have h3 := hd ⟨3, .data⟩ (by simp) rfl
        have h2 := hd ⟨2, .chain⟩ (by simp) rfl
        obtain ⟨gs, rfl, o3⟩ := g3
        obtain ⟨A5, n5, c5, R5, m5, d5, rfl, o2⟩ := f2 h2
        have oc := (o2 hL).2 h3
        have o3i := o3 hL
        refine wpOp_step rfl (fun K' hK => ?_)
        refine app_stepI rfl (.tmp 36) (.tmp 38) rfl wc.heap.size _ [] rfl o3i K p q ww.heap.size l rfl (KS.out ww hB) (by simp <;> omega) hB.size ?_
        intro v' w' o1 g1 s1
        rw [List.nil_append] at o1
        have hrow := fun kk hk => (World.ownsRow.lt o3i kk hk).1
        have hB2 := hB.grown g1 hB.size hrow
        have oc2 := oc.app o1 g1 s1
        obtain ⟨A9, c9, e9, x9⟩ := o1.form
        rw [HLL.out] at e9
        subst e9
        refine hK _ _ ?_
        exact ⟨_, _, _, _, _, _, _, _, _, rfl, (fun _ => hB2), (fun _ => upd_mono h2), (fun _ => upd_mono h3), (fun h => upd_mono (I3 (upd_ne h (by decide)))), (fun h => upd_mono (I4 (upd_ne h (by decide)))), (fun h => upd_mono (I5 (upd_ne h (by decide)))), (fun h => upd_mono (I6 (upd_ne h (by decide)))), (fun _ => upd_mono (hd ⟨5, .data⟩ (by simp) rfl)), (fun h => upd_mono (I8 (upd_ne h (by decide)))), (fun h => upd_mono (I9 (upd_ne h (by decide)))), (kp f0), (kp f1), (fun _ => ⟨_, _, _, _, _, _, rfl, fun h6 => absurd (upd_self.symm.trans h6) (by decide)⟩), (fun _ => ⟨gs, rfl, fun h6 => absurd (upd_self.symm.trans h6) (by decide)⟩), (kp f4), (kp f5), (fun _ => ⟨_, _, _, _, _, _, A9, c9, rfl, rfl, fun _ => oc2⟩), (fun h => absurd (I3 (upd_ne h (by decide))) (by rw [hL]; decide)), (fun h => absurd ((upd_ne h (by decide)).symm.trans h8) (by decide)), (kp f9)⟩
      · obtain rfl := Option.some.inj ho
        have g2 := f2 (hd ⟨2, .data⟩ (by simp) rfl)
        have g6 := f6 (hd ⟨6, .data⟩ (by simp) rfl)
        have h8 : L 8 = false := by
          cases hh : L 8
          · rfl
          · exact absurd (I4 hh) (by rw [hL]; decide)
        have hB := I0 h8
        obtain ⟨A5, n5, c5, R5, m5, d5, A9, c9, rfl, rfl, o6⟩ := g6
        refine wpOp_step rfl (fun K' hK => ?_)
        go_simp
        refine hK _ _ ?_
        exact ⟨_, _, _, _, _, _, _, _, _, rfl, (fun h => I0 (by rw [upd_other (by decide)] at h; exact h)), (fun h => upd_mono (I1 (upd_ne h (by decide)))), (fun h => upd_mono (I2 (upd_ne h (by decide)))), (fun _ => upd_mono (hd ⟨6, .data⟩ (by simp) rfl)), (fun h => upd_mono (I4 (upd_ne h (by decide)))), (fun h => upd_mono (I5 (upd_ne h (by decide)))), (fun h => upd_mono (I6 (upd_ne h (by decide)))), (fun h => upd_mono (I7 (upd_ne h (by decide)))), (fun h => upd_mono (I8 (upd_ne h (by decide)))), (fun h => upd_mono (I9 (upd_ne h (by decide)))), (kp f0), (kp f1), (fun h => by
          obtain ⟨A5, n5, c5, R5, m5, d5, e, oo⟩ := f2 (upd_ne h (by decide))
          exact ⟨A5, n5, c5, R5, m5, d5, e, fun h6 => by
            rw [upd_other (by decide)] at h6
            rw [upd_other (by decide)]
            exact oo h6⟩), (fun h => by
          obtain ⟨gs, e, oo⟩ := f3 (upd_ne h (by decide))
          exact ⟨gs, e, fun h6 => by
            rw [upd_other (by decide)] at h6
            exact oo h6⟩), (kp f4), (kp f5), (fun _ => ⟨_, _, _, _, _, _, A9, c9, rfl, rfl, fun h8 => by
            rw [upd_other (by decide)] at h8
            exact o6 h8⟩), (fun _ => ⟨_, _, _, _, _, _, _, _, rfl, rfl, rfl⟩), (fun h => absurd ((upd_ne h (by decide)).symm.trans h8) (by decide)), (kp f9)⟩
      · obtain rfl := Option.some.inj ho
        have g7 := f7 (hd ⟨7, .data⟩ (by simp) rfl)
        have H6 := Lib.hid (I3 (hd ⟨7, .data⟩ (by simp) rfl))
        have H7 := Lib.hid (hd ⟨7, .data⟩ (by simp) rfl)
        obtain ⟨A5, n5, c5, R5, m5, d5, A9, c9, rfl, rfl, rfl⟩ := g7
        obtain ⟨A6, n6, c6, R6, m6, d6, A8, c8, e6, e7, o6⟩ := f6 H6.out
        simp at e6 e7
        obtain ⟨⟨rfl, rfl, rfl⟩, rfl, rfl, rfl⟩ := e6
        obtain ⟨rfl, rfl⟩ := e7
        have oc := o6 hL
        have hB := I0 hL
        have q5 := HQ.out.keep hB HQ.out.lt
        have u0 := q5.cell 0
        have v0 := q5.frozen 0
        have u1 := q5.cell 1
        have v1 := q5.frozen 1
        have u2 := q5.cell 2
        have v2 := q5.frozen 2
        simp at u0 u1 u2
        refine wpOp_step rfl (fun K' hK => ?_)
        go_simp
        refine hK _ _ ?_
        exact ⟨_, _, _, _, _, _, _, _, _, rfl, (fun h => absurd (upd_self.symm.trans h) (by decide)), (fun h => upd_mono (I1 (upd_ne h (by decide)))), (fun h => upd_mono (I2 (upd_ne h (by decide)))), (fun h => upd_mono (I3 (upd_ne h (by decide)))), (fun _ => upd_mono H7.out), (fun h => upd_mono (I5 (upd_ne h (by decide)))), (fun h => upd_mono (I6 (upd_ne h (by decide)))), (fun h => upd_mono (I7 (upd_ne h (by decide)))), (fun h => upd_mono (I8 (upd_ne h (by decide)))), (fun h => upd_mono (I9 (upd_ne h (by decide)))), (kp f0), (kp f1), (fun h => ⟨_, _, _, _, _, _, rfl, fun hh => absurd (H6.out.symm.trans ((upd_other (by decide)).symm.trans hh)) (by decide)⟩), (fun h => by
          obtain ⟨gs, e, oo⟩ := f3 (upd_ne h (by decide))
          exact ⟨gs, e, fun hh => absurd (H6.out.symm.trans ((upd_other (by decide)).symm.trans hh)) (by decide)⟩), (kp f4), (kp f5), (fun _ => ⟨_, _, _, _, _, _, _, _, rfl, rfl, fun hh => absurd (upd_self.symm.trans hh) (by decide)⟩), (kp f7), (fun _ => ⟨_, _, _, _, _, _, _, _, ww, rfl, oc, hB⟩), (kp f9)⟩
      · obtain rfl := Option.some.inj ho
        have h8 := hd ⟨8, .chain⟩ (by simp) rfl
        refine wpOp_step rfl (fun K' hK => ?_)
        go_simp
        refine hK _ _ ?_
        exact ⟨_, _, _, _, _, _, _, _, _, rfl, (fun h => absurd (h8.symm.trans ((upd_other (by decide)).symm.trans h)) (by decide)), (fun h => upd_mono (I1 (upd_ne h (by decide)))), (fun h => upd_mono (I2 (upd_ne h (by decide)))), (fun h => upd_mono (I3 (upd_ne h (by decide)))), (fun h => upd_mono (I4 (upd_ne h (by decide)))), (fun _ => upd_mono h8), (fun h => upd_mono (I6 (upd_ne h (by decide)))), (fun h => upd_mono (I7 (upd_ne h (by decide)))), (fun h => upd_mono (I8 (upd_ne h (by decide)))), (fun h => upd_mono (I9 (upd_ne h (by decide)))), (kp f0), (kp f1), (fun h => by
          obtain ⟨A5, n5, c5, R5, m5, d5, e, oo⟩ := f2 (upd_ne h (by decide))
          exact ⟨A5, n5, c5, R5, m5, d5, e, fun h6 => by
            rw [upd_other (by decide)] at h6
            rw [upd_other (by decide)]
            exact oo h6⟩), (fun h => by
          obtain ⟨gs, e, oo⟩ := f3 (upd_ne h (by decide))
          exact ⟨gs, e, fun h6 => by
            rw [upd_other (by decide)] at h6
            exact oo h6⟩), (kp f4), (kp f5), (fun h => by
          obtain ⟨A5, n5, c5, R5, m5, d5, A9, c9, e, e2, oo⟩ := f6 (upd_ne h (by decide))
          exact ⟨A5, n5, c5, R5, m5, d5, A9, c9, e, e2, fun h8 => by
            rw [upd_other (by decide)] at h8
            exact oo h8⟩), (kp f7), (kp f8), (fun _ => rfl)⟩
    case hdone =>
      rintro L ac ww hall ⟨t5, t33, t34, t35, t36, t37, t38, t39, t40, rfl, I0, I1, I2, I3, I4, I5, I6, I7, I8, I9, f0, f1, f2, f3, f4, f5, f6, f7, f8, f9⟩
      have e0 := f0 (hall 0 (by decide))
      have e1 := f1 (hall 1 (by decide))
      have e2 := f2 (hall 2 (by decide))
      have e3 := f3 (hall 3 (by decide))
      have e4 := f4 (hall 4 (by decide))
      have e5 := f5 (hall 5 (by decide))
      have e6 := f6 (hall 6 (by decide))
      have e7 := f7 (hall 7 (by decide))
      have e8 := f8 (hall 8 (by decide))
      have e9 := f9 (hall 9 (by decide))
      clear f0 f1 f2 f3 f4 f5 f6 f7 f8 f9
      obtain ⟨A5, n5, c5, R5, m5, d5, A9, c9, w1, rfl, oc, hB⟩ := e8
      have q3 := HQ.out.keep hB HQ.out.lt
      have bw := HB2.out.trans (hB.mono HB2.out.size)
      have r2 : (w1).frozen? ⟨w.heap.size + 1 + 1, 0, none⟩ = false := q3.frozen 0
      have r3 : (w1).frozen? ⟨w.heap.size + 1 + 1, 1, none⟩ = false := q3.frozen 1
      have r4 : (w1).frozen? ⟨w.heap.size + 1 + 1, 2, none⟩ = false := q3.frozen 2
      have r5 : (w1).cell? ⟨w.heap.size + 1 + 1, 0, none⟩ = some (.slice none 0 0) := q3.cell 0
      have r6 : (w1).cell? ⟨w.heap.size + 1 + 1, 1, none⟩ = some (.slice none 0 0) := q3.cell 1
      have r7 : (w1).cell? ⟨w.heap.size + 1 + 1, 2, none⟩ = some (.slice none 0 0) := q3.cell 2
      have q4 := ((q3.put 0 (.slice A5 n5 c5)).put 1 (.slice R5 m5 d5)).put 2 (.slice A9 p c9)
      have r8 : (((w1.setCell ⟨w.heap.size + 1 + 1, 0, none⟩ (.slice A5 n5 c5)).setCell ⟨w.heap.size + 1 + 1, 1, none⟩ (.slice R5 m5 d5)).setCell ⟨w.heap.size + 1 + 1, 2, none⟩ (.slice A9 p c9)).cell? ⟨w.heap.size + 1 + 1, 0, none⟩ = some (.slice A5 n5 c5) := q4.cell 0
      have r9 : (((w1.setCell ⟨w.heap.size + 1 + 1, 0, none⟩ (.slice A5 n5 c5)).setCell ⟨w.heap.size + 1 + 1, 1, none⟩ (.slice R5 m5 d5)).setCell ⟨w.heap.size + 1 + 1, 2, none⟩ (.slice A9 p c9)).cell? ⟨w.heap.size + 1 + 1, 1, none⟩ = some (.slice R5 m5 d5) := q4.cell 1
      have r10 : (((w1.setCell ⟨w.heap.size + 1 + 1, 0, none⟩ (.slice A5 n5 c5)).setCell ⟨w.heap.size + 1 + 1, 1, none⟩ (.slice R5 m5 d5)).setCell ⟨w.heap.size + 1 + 1, 2, none⟩ (.slice A9 p c9)).cell? ⟨w.heap.size + 1 + 1, 2, none⟩ = some (.slice A9 p c9) := q4.cell 2
      have D := Lib.hid (OwnC.out (w := w) oc hsz bw (Nat.le_trans (Nat.le_succ _) (Nat.le_succ _)))
      clear e0 e1 e2 e3 e4 e5 e6 e7 I0 I1 I2 I3 I4 I5 I6 I7 I8 I9 oc hB q3 q4 bw q1 q2 b2 x0 x1 x2
      subst e9
      go_wp2_with fail
      exact bodyPost_ret (v := .tuple #[.agg #[.slice A5 n5 c5, .slice R5 m5 d5, .slice A9 p c9], .bool false]) (by simp [results, Tryd.results17, go_sem, *]) rfl ⟨_, _, _, by rw [HF.out], by rw [HF.out]; exact D.out.1, D.out.2⟩
end Go.Proofs.YtfgdenmlfloloaaDoor

namespace Go.Proofs.YtfgdenmlfloloaaDoor
open Go.RowKit
set_option maxRecDepth 100000
/-- a heap with counts of the call's own, and what a pointer v leads to lies apart, once l -/
def OwnFC (w : World) (base : Nat) (v : Value) (l : Bool) (vc vr vk : Value) (h : Hp) (ct : List Int) : Prop := ∃ rvs, OwnCt w base vc vr vk rvs h ct ∧ ∀ g, l = true → v = .pointer (some ⟨g, 0, none⟩) → Apart (some g) (vc :: vr :: vk :: rvs)
section
variable {w w' : World} {base : Nat} {v vc vr vk : Value} {l l' : Bool} {h : Hp} {ct : List Int}
theorem OwnFC.own (ho : OwnFC w base v l vc vr vk h ct) : OwnC w base vc vr vk h ct := by
  obtain ⟨rvs, o, _⟩ := ho
  exact ⟨rvs, o⟩
theorem OwnFC.eq (ho : OwnFC w base v l vc vr vk h ct) (e : l' = l) : OwnFC w base v l' vc vr vk h ct := e ▸ ho
theorem OwnFC.below (ho : OwnFC w base v l vc vr vk h ct) (hb : Below w.heap.size w w') : OwnFC w' base v l vc vr vk h ct := by
  obtain ⟨rvs, o, a⟩ := ho
  exact ⟨rvs, o.below hb (Nat.le_refl _), a⟩
theorem OwnFC.alloc (ho : OwnFC w base v l vc vr vk h ct) (ob : Obj) : OwnFC (w.alloc ob) base (.pointer (some ⟨w.heap.size, 0, none⟩)) l' vc vr vk h ct := by
  obtain ⟨rvs, o, a⟩ := ho
  refine ⟨rvs, o.below ((Below.refl _ _).alloc (Nat.le_refl _) _) (Nat.le_refl _), fun g _ e => ?_⟩
  injection e with e
  injection e with e
  injection e with e
  subst e
  exact o.apart_new (Nat.le_refl _)
theorem OwnFC.baseC {base' : Nat} (hb : base' ≤ base) (ho : OwnC w base vc vr vk h ct) (hv : ∀ g, l = true → v = .pointer (some ⟨g, 0, none⟩) → g < base) : OwnFC w base' v l vc vr vk h ct := by
  obtain ⟨rvs, o⟩ := ho
  exact ⟨rvs, o.base hb, fun g hl e => o.apart_below (hv g hl e)⟩
theorem OwnFC.put {g : Nat} (ho : OwnFC w base (.pointer (some ⟨g, 0, none⟩)) l vc vr vk h ct) (hl : l = true) (u u' u2 : Value) : OwnFC (((w.setCell ⟨g, 0, none⟩ u).setCell ⟨g, 1, none⟩ u').setCell ⟨g, 2, none⟩ u2) base (.pointer (some ⟨g, 0, none⟩)) l vc vr vk h ct := by
  obtain ⟨rvs, o, a⟩ := ho
  exact ⟨rvs, ((o.put (a g hl rfl) 0 u).put (a g hl rfl) 1 u').put (a g hl rfl) 2 u2, a⟩
end
namespace Hps
theorem runCtFrom_snoc (x : Hp × List Int) (l : List Cm) (o : Cm) : runCtFrom x (l ++ [o]) = (stepCt (runCtFrom x l).1 (runCtFrom x l).2 o).1 := by simp [runCtFrom]
end Hps
/-- while a program runs: the heap with counts so far in the box b -/
structure RunStC (w wr : World) (b : Nat) (vc vr vk : Value) (h : Hp) (ct : List Int) : Prop where
  own : ∃ rvs, OwnCt wr (w.heap.size + 1) vc vr vk rvs h ct ∧ Apart (some b) (vc :: vr :: vk :: rvs)
  box : Rw wr b 34 #[vc, vr, vk]
  res : Rw wr w.heap.size 34 #[.slice none 0 0, .slice none 0 0, .slice none 0 0]
  bel : Below w.heap.size w wr
  lo : w.heap.size + 1 ≤ b
theorem RunStC.next {w wr w5 : World} {b : Nat} {vc vr vk vc' vr' vk' : Value} {h h' : Hp} {ct ct' : List Int} (S : RunStC w wr b vc vr vk h ct) (B : Below wr.heap.size wr w5) (o : OwnC w5 wr.heap.size vc' vr' vk' h' ct') :
    RunStC w (((w5.setCell ⟨b, 0, none⟩ vc').setCell ⟨b, 1, none⟩ vr').setCell ⟨b, 2, none⟩ vk') b vc' vr' vk' h' ct' := by
  have hb := S.box.lt
  have hlo := S.lo
  obtain ⟨rvs, own⟩ := o
  have ap : Apart (some b) (vc' :: vr' :: vk' :: rvs) := own.apart_below hb
  have x1 := S.box.keep B hb
  have x2 := S.res.keep B S.res.lt
  refine ⟨⟨rvs, (((own.put ap 0 vc').put ap 1 vr').put ap 2 vk').base (by omega), ap⟩, ((x1.put 0 vc').put 1 vr').put 2 vk', ((x2.other (by omega) _).other (by omega) _).other (by omega) _, ?_, hlo⟩
  exact (((S.bel.trans (B.mono S.bel.size)).setCell (p := ⟨b, 0, none⟩) (by show w.heap.size ≤ b; omega) _).setCell (p := ⟨b, 1, none⟩) (by show w.heap.size ≤ b; omega) _).setCell (p := ⟨b, 2, none⟩) (by show w.heap.size ≤ b; omega) _
set_option maxRecDepth 100000 in
set_option maxHeartbeats 4000000 in
theorem mRunCounted_any (A : Option Addr) (n c : Nat) (l : List Cm) (w : World) (h : MS w w.heap.size A n l) (hn : n ≤ 1099511627776) :
    Calls Tryd.prog 24 #[.slice A n c] w (GaveCt w (Hps.runCt l).1 (Hps.runCt l).2) := by
  have b1 : Below w.heap.size w (w.alloc (.cells #[.slice none 0 0, .slice none 0 0, .slice none 0 0] 34)) := (Below.refl _ _).alloc (Nat.le_refl _) _
  have m1 := h.up b1
  have q3 := Rw.new w 34 #[.slice none 0 0, .slice none 0 0, .slice none 0 0]
  go_enter Tryd.func24, Tryd.ntmps24
  go_wp2_with fail
  refine (mCommandsValid_any _ _ _ l _ m1 hn).mono ?_
  rintro e w1 ⟨rfl, b2⟩
  replace q3 := q3.keep b2 q3.lt
  replace b1 := b1.trans (b2.mono b1.size)
  clear m1 b2
  cases hv : Hps.okCms l
  · have HF := Lib.hid (show Hps.runCt l = (Hps.zeroH, []) by rw [Hps.runCt, if_neg (by rw [hv]; simp)])
    have r2 : w1.frozen? ⟨w.heap.size, 0, none⟩ = false := q3.frozen 0
    have r3 : w1.frozen? ⟨w.heap.size, 1, none⟩ = false := q3.frozen 1
    have r4 : w1.frozen? ⟨w.heap.size, 2, none⟩ = false := q3.frozen 2
    have r5 : w1.cell? ⟨w.heap.size, 0, none⟩ = some (.slice none 0 0) := q3.cell 0
    have r6 : w1.cell? ⟨w.heap.size, 1, none⟩ = some (.slice none 0 0) := q3.cell 1
    have r7 : w1.cell? ⟨w.heap.size, 2, none⟩ = some (.slice none 0 0) := q3.cell 2
    have q4 := ((q3.put 0 (.slice none 0 0)).put 1 (.slice none 0 0)).put 2 (.slice none 0 0)
    have r8 : (((w1.setCell ⟨w.heap.size, 0, none⟩ (.slice none 0 0)).setCell ⟨w.heap.size, 1, none⟩ (.slice none 0 0)).setCell ⟨w.heap.size, 2, none⟩ (.slice none 0 0)).cell? ⟨w.heap.size, 0, none⟩ = some (.slice none 0 0) := q4.cell 0
    have r9 : (((w1.setCell ⟨w.heap.size, 0, none⟩ (.slice none 0 0)).setCell ⟨w.heap.size, 1, none⟩ (.slice none 0 0)).setCell ⟨w.heap.size, 2, none⟩ (.slice none 0 0)).cell? ⟨w.heap.size, 1, none⟩ = some (.slice none 0 0) := q4.cell 1
    have r10 : (((w1.setCell ⟨w.heap.size, 0, none⟩ (.slice none 0 0)).setCell ⟨w.heap.size, 1, none⟩ (.slice none 0 0)).setCell ⟨w.heap.size, 2, none⟩ (.slice none 0 0)).cell? ⟨w.heap.size, 2, none⟩ = some (.slice none 0 0) := q4.cell 2
    have D := Lib.hid (OwnC.out (own_zeroC w1 w1.heap.size (Nat.le_refl _)) q3.lt b1 (Nat.le_refl _))
    clear q3 q4 b1 hv
    go_wp2_with fail
    exact bodyPost_ret (v := .agg #[.slice none 0 0, .slice none 0 0, .slice none 0 0]) (by simp [results, Tryd.results24, go_sem, *]) rfl ⟨_, _, _, rfl, by rw [HF.out]; exact D.out.1, D.out.2⟩
  have HF := Lib.hid (show Hps.runCt l = Hps.runCtFrom (Hps.emptyH, []) l by rw [Hps.runCt, if_pos hv])
  have HV := Lib.hid ((Hps.okCms_iff.1 hv).1)
  clear hv
  go_wp2_with fail
  refine (mEmptyHeap_any _).mono ?_
  rintro e w2 ⟨vc, vr, rfl, own, b2⟩
  have hsz : w.heap.size + 1 ≤ w1.heap.size := q3.lt
  replace q3 := q3.keep b2 q3.lt
  have hsz2 := b2.size
  obtain ⟨Ac, cc, Rc, dc, rfl, rfl, -⟩ := own.form
  have b3 := b1.trans (b2.mono b1.size)
  obtain ⟨rvs, own3⟩ := OwnC.new own b2.size
  have hq := Rw.new (w2.alloc (.cells #[] 3)) 34 #[.slice Ac Hps.emptyH.cs.length cc, .slice Rc Hps.emptyH.rt.length dc, .slice (some ⟨w2.heap.size, 0, none⟩) 0 0]
  have S0 : RunStC w ((w2.alloc (.cells #[] 3)).alloc (.cells #[.slice Ac Hps.emptyH.cs.length cc, .slice Rc Hps.emptyH.rt.length dc, .slice (some ⟨w2.heap.size, 0, none⟩) 0 0] 34)) (w2.alloc (.cells #[] 3)).heap.size (.slice Ac Hps.emptyH.cs.length cc) (.slice Rc Hps.emptyH.rt.length dc) (.slice (some ⟨w2.heap.size, 0, none⟩) 0 0) Hps.emptyH [] :=
    ⟨⟨rvs, (own3.base (bs' := w.heap.size + 1) hsz).below ((Below.refl _ _).alloc (Nat.le_refl _) _) (Nat.le_refl _), own3.apart_new (Nat.le_refl _)⟩, hq, (q3.alloc _).alloc _, (b3.alloc b3.size _).alloc (by simp; omega) _, by simp; omega⟩
  clear hq own3 own q3 b2 b3 rvs
  go_upto_region 4 with fail
  have hw2 : (w2.alloc (.cells #[] 3)).heap.size = w2.heap.size + 1 := by simp
  rw [hw2] at S0
  generalize hw3 : (w2.alloc (.cells #[] 3)).alloc (.cells #[.slice Ac Hps.emptyH.cs.length cc, .slice Rc Hps.emptyH.rt.length dc, .slice (some ⟨w2.heap.size, 0, none⟩) 0 0] 34) = w3 at S0 ⊢
  clear hw3 hw2
  obtain ⟨k0, hk0⟩ : ∃ k0, (Value.slice (some ⟨w2.heap.size, 0, none⟩) 0 0) = .slice k0 0 0 := ⟨_, rfl⟩
  rw [hk0] at S0
  clear hk0
  obtain ⟨b, hb⟩ : ∃ b, w2.heap.size + 1 = b := ⟨_, rfl⟩
  rw [hb] at S0 ⊢
  clear hb hsz hsz2 b1 w1
  go_wp2_with fail
  go_loopw [4] (fun i wr => ∃ (k : Nat) (A1 : Option Addr) (c1 : Nat) (R1 : Option Addr) (d1 : Nat) (K1 : Option Addr) (q1 : Nat) (hh : Hp) (ct : List Int), k ≤ n ∧ i = .int .i64 k ∧ (hh, ct) = Hps.runCtFrom (Hps.emptyH, []) (l.take k) ∧ Hps.okCt hh ct = true ∧ RunStC w wr b (.slice A1 hh.cs.length c1) (.slice R1 hh.rt.length d1) (.slice K1 ct.length q1) hh ct) (fun i _ => n - (intOf i).toNat)
  case atStart => exact ⟨0, Ac, cc, Rc, dc, k0, 0, Hps.emptyH, [], by omega, rfl, by simp [Hps.runCtFrom], Hps.empty_ok, S0⟩
  case round =>
    clear S0
    obtain ⟨k, A1, c1, R1, d1, K1, q1, hh, ct, hk, rfl, hhe, hhv, S⟩ := hrel
    have hlo := S.lo
    have x0 : wr.cell? ⟨b, 0, none⟩ = some (.slice A1 hh.cs.length c1) := S.box.cell 0
    have x1 : wr.cell? ⟨b, 1, none⟩ = some (.slice R1 hh.rt.length d1) := S.box.cell 1
    have x2 : wr.cell? ⟨b, 2, none⟩ = some (.slice K1 ct.length q1) := S.box.cell 2
    have hml := h.1
    by_cases hlt : k < n
    · obtain ⟨g, o, x, rfl, hg, hx, c0, c1', c2, c3⟩ := (h.below S.bel).at_ hlt
      have hlt' : (k : Int) < n := by omega
      obtain ⟨h2, hh2⟩ : ∃ h2, (Hps.stepCt hh ct x).1.1 = h2 := ⟨_, rfl⟩
      obtain ⟨l2, hl2⟩ : ∃ l2, (Hps.stepCt hh ct x).1.2 = l2 := ⟨_, rfl⟩
      obtain ⟨ok, hok⟩ : ∃ ok, (Hps.stepCt hh ct x).2 = ok := ⟨_, rfl⟩
      have HX := Lib.hid hx
      have HNX := Lib.hid (show (h2, l2) = Hps.runCtFrom (Hps.emptyH, []) (l.take (k + 1)) by
        rw [List.take_add_one, HX.out, Option.toList, Hps.runCtFrom_snoc, ← hhe, ← hh2, ← hl2])
      have HVX := Lib.hid (show Hps.okCt h2 l2 = true by rw [← hh2, ← hl2]; exact Hps.stepCt_ok hhv (HV.out x (List.mem_of_getElem? HX.out)))
      have hn40 := (Hps.valid_iff.1 (Hps.okCt_iff.1 hhv).1).2.1
      have hm4 := (Hps.valid_iff.1 (Hps.okCt_iff.1 hhv).1).2.2.1
      have hp40 : ct.length ≤ 40 := by rw [(Hps.okCt_iff.1 hhv).2, Hps.counts_len]; exact hn40
      have CALL := Lib.hid (fun (ww : World) (hB : Below wr.heap.size wr ww) => by
        obtain ⟨rvs, own, _⟩ := S.own
        have own2 := own.below hB (Nat.le_refl _)
        have := mStepCounted_any A1 R1 K1 hh.cs.length c1 hh.rt.length d1 ct.length q1 hh ct x ww own2.heap.reads own2.cnts.reads (by omega) (by omega) (by omega)
        rw [hh2, hl2, hok] at this
        exact this)
      have SS := Lib.hid S
      clear S hx hhe hhv hh2 hl2 hok hn40 hm4 hp40 hml
      go_wp2_with fail
      refine wp_region_inv (by kernel_rfl) (by kernel_rfl) (fun L ac ww => ∃ t5 t6 t20 t21 t22 t23 t24 t25 t26 t27 t28 : Value, ac = { tmps := #[Value.slice (some { block := g, off := o }) n c, undef, Value.pointer (some { block := w.heap.size, off := 0 }), Value.pointer (some { block := b, off := 0 }), Value.int IntKind.i64 ↑k, t5, t6, Value.slice (some { block := g, off := o }) n c, Value.bool true, Value.bool false, undef, Value.agg #[Value.slice Ac Hps.emptyH.cs.length cc, Value.slice Rc Hps.emptyH.rt.length dc], Value.slice (some { block := w2.heap.size, off := 0 }) 0 0, Value.agg #[Value.slice Ac Hps.emptyH.cs.length cc, Value.slice Rc Hps.emptyH.rt.length dc, Value.slice (some { block := w2.heap.size, off := 0 }) 0 0], Value.int IntKind.i64 ↑k, Value.slice (some { block := g, off := o }) n c, Value.int IntKind.i64 ↑n, Value.bool true, u18, u19, t20, t21, t22, t23, t24, t25, t26, t27, t28, u29, undef], defers := [] } ∧ (Below wr.heap.size wr ww) ∧ (L 10 = true → L 9 = true) ∧ (L 6 = true → L 5 = true) ∧ (L 7 = true → L 5 = true) ∧ (L 0 = true → t21 = .agg #[(.slice A1 hh.cs.length c1), (.slice R1 hh.rt.length d1), (.slice K1 ct.length q1)]) ∧ (L 1 = true → t22 = .slice (some ⟨g, o, none⟩) n c) ∧ (L 2 = true → t23 = .int .i64 k) ∧ (L 3 = true → t24 = .pointer (some ⟨g, o + k * 4, none⟩)) ∧ (L 4 = true → t25 = .agg #[.int .i64 x.op, .int .i64 x.a, .int .i64 x.b, .int .i64 x.c]) ∧ (L 5 = true → ∃ (A5 : Option Addr) (n5 c5 : Nat) (R5 : Option Addr) (m5 d5 : Nat) (K5 : Option Addr) (p5 y5 : Nat), t26 = .tuple #[.agg #[.slice A5 n5 c5, .slice R5 m5 d5, .slice K5 p5 y5], .bool ok] ∧ OwnFC ww wr.heap.size t5 (L 9) (.slice A5 n5 c5) (.slice R5 m5 d5) (.slice K5 p5 y5) h2 l2) ∧ (L 6 = true → ∃ (A5 : Option Addr) (n5 c5 : Nat) (R5 : Option Addr) (m5 d5 : Nat) (K5 : Option Addr) (p5 y5 : Nat), t26 = .tuple #[.agg #[.slice A5 n5 c5, .slice R5 m5 d5, .slice K5 p5 y5], .bool ok] ∧ t20 = .tuple #[.agg #[.slice A5 n5 c5, .slice R5 m5 d5, .slice K5 p5 y5], .bool ok]) ∧ (L 7 = true → ∃ (A5 : Option Addr) (n5 c5 : Nat) (R5 : Option Addr) (m5 d5 : Nat) (K5 : Option Addr) (p5 y5 : Nat), t26 = .tuple #[.agg #[.slice A5 n5 c5, .slice R5 m5 d5, .slice K5 p5 y5], .bool ok] ∧ t27 = .agg #[.slice A5 n5 c5, .slice R5 m5 d5, .slice K5 p5 y5]) ∧ (L 8 = true → t28 = .bool ok) ∧ (L 9 = true → ∃ (g5 : Nat) (z0 z1 z2 : Value), t5 = .pointer (some ⟨g5, 0, none⟩) ∧ wr.heap.size ≤ g5 ∧ Rw ww g5 34 #[z0, z1, z2]) ∧ (L 10 = true → ∃ (g5 : Nat) (A5 : Option Addr) (n5 c5 : Nat) (R5 : Option Addr) (m5 d5 : Nat) (K5 : Option Addr) (p5 y5 : Nat), t5 = .pointer (some ⟨g5, 0, none⟩) ∧ wr.heap.size ≤ g5 ∧ Rw ww g5 34 #[.slice A5 n5 c5, .slice R5 m5 d5, .slice K5 p5 y5] ∧ OwnC ww wr.heap.size (.slice A5 n5 c5) (.slice R5 m5 d5) (.slice K5 p5 y5) h2 l2) ∧ (L 11 = true → t6 = .bool ok)) ?h0 ?hstep ?hdone
      case h0 => exact ⟨_, _, _, _, _, _, _, _, _, _, _, rfl, (Below.refl _ _).drew, fun h => absurd h Bool.false_ne_true, fun h => absurd h Bool.false_ne_true, fun h => absurd h Bool.false_ne_true, (fun h => absurd h Bool.false_ne_true), (fun h => absurd h Bool.false_ne_true), (fun h => absurd h Bool.false_ne_true), (fun h => absurd h Bool.false_ne_true), (fun h => absurd h Bool.false_ne_true), (fun h => absurd h Bool.false_ne_true), (fun h => absurd h Bool.false_ne_true), (fun h => absurd h Bool.false_ne_true), (fun h => absurd h Bool.false_ne_true), (fun h => absurd h Bool.false_ne_true), (fun h => absurd h Bool.false_ne_true), (fun h => absurd h Bool.false_ne_true)⟩
      case hstep =>
        rintro L ac ww i o ho hL hd ⟨t5, t6, t20, t21, t22, t23, t24, t25, t26, t27, t28, rfl, I0, I1, I2, I3, f0, f1, f2, f3, f4, f5, f6, f7, f8, f9, f10, f11⟩
        have hi : i < 12 := (Array.getElem?_eq_some_iff.1 ho).1
        obtain rfl | rfl | rfl | rfl | rfl | rfl | rfl | rfl | rfl | rfl | rfl | rfl : i = 0 ∨ i = 1 ∨ i = 2 ∨ i = 3 ∨ i = 4 ∨ i = 5 ∨ i = 6 ∨ i = 7 ∨ i = 8 ∨ i = 9 ∨ i = 10 ∨ i = 11 := by omega
        · obtain rfl := Option.some.inj ho
          have y0 : ww.cell? ⟨b, 0, none⟩ = some (.slice A1 hh.cs.length c1) := (I0.cell (p := ⟨b, 0, none⟩) SS.out.box.lt).trans x0
          have y1 : ww.cell? ⟨b, 1, none⟩ = some (.slice R1 hh.rt.length d1) := (I0.cell (p := ⟨b, 1, none⟩) SS.out.box.lt).trans x1
          have y2 : ww.cell? ⟨b, 2, none⟩ = some (.slice K1 ct.length q1) := (I0.cell (p := ⟨b, 2, none⟩) SS.out.box.lt).trans x2
          refine wpOp_step rfl (fun K' hK => ?_)
          go_simp
          refine hK _ _ ?_
          exact ⟨_, _, _, _, _, _, _, _, _, _, _, rfl, (I0), (fun h => by rw [upd_other (by decide)]; exact I1 (upd_ne h (by decide))), (fun h => upd_mono (I2 (upd_ne h (by decide)))), (fun h => upd_mono (I3 (upd_ne h (by decide)))), (fun _ => rfl), (kp f1), (kp f2), (kp f3), (kp f4), (fun h => by
            obtain ⟨A5, n5, c5, R5, m5, d5, K5, p5, y5, e, oo⟩ := f5 (upd_ne h (by decide))
            exact ⟨A5, n5, c5, R5, m5, d5, K5, p5, y5, e, oo.eq (upd_other (by decide))⟩), (kp f6), (kp f7), (kp f8), (kp f9), (kp f10), (kp f11)⟩
        · obtain rfl := Option.some.inj ho
          refine wpOp_step rfl (fun K' hK => ?_)
          go_simp
          refine hK _ _ ?_
          exact ⟨_, _, _, _, _, _, _, _, _, _, _, rfl, (I0), (fun h => by rw [upd_other (by decide)]; exact I1 (upd_ne h (by decide))), (fun h => upd_mono (I2 (upd_ne h (by decide)))), (fun h => upd_mono (I3 (upd_ne h (by decide)))), (kp f0), (fun _ => rfl), (kp f2), (kp f3), (kp f4), (fun h => by
            obtain ⟨A5, n5, c5, R5, m5, d5, K5, p5, y5, e, oo⟩ := f5 (upd_ne h (by decide))
            exact ⟨A5, n5, c5, R5, m5, d5, K5, p5, y5, e, oo.eq (upd_other (by decide))⟩), (kp f6), (kp f7), (kp f8), (kp f9), (kp f10), (kp f11)⟩
        · obtain rfl := Option.some.inj ho
          refine wpOp_step rfl (fun K' hK => ?_)
          go_simp
          refine hK _ _ ?_
          exact ⟨_, _, _, _, _, _, _, _, _, _, _, rfl, (I0), (fun h => by rw [upd_other (by decide)]; exact I1 (upd_ne h (by decide))), (fun h => upd_mono (I2 (upd_ne h (by decide)))), (fun h => upd_mono (I3 (upd_ne h (by decide)))), (kp f0), (kp f1), (fun _ => rfl), (kp f3), (kp f4), (fun h => by
            obtain ⟨A5, n5, c5, R5, m5, d5, K5, p5, y5, e, oo⟩ := f5 (upd_ne h (by decide))
            exact ⟨A5, n5, c5, R5, m5, d5, K5, p5, y5, e, oo.eq (upd_other (by decide))⟩), (kp f6), (kp f7), (kp f8), (kp f9), (kp f10), (kp f11)⟩
        · obtain rfl := Option.some.inj ho
          have g1 := f1 (hd ⟨1, .data⟩ (by simp) rfl)
          have g2 := f2 (hd ⟨2, .data⟩ (by simp) rfl)
          subst g1
          subst g2
          refine wpOp_step rfl (fun K' hK => ?_)
          go_simp
          refine hK _ _ ?_
          exact ⟨_, _, _, _, _, _, _, _, _, _, _, rfl, (I0), (fun h => by rw [upd_other (by decide)]; exact I1 (upd_ne h (by decide))), (fun h => upd_mono (I2 (upd_ne h (by decide)))), (fun h => upd_mono (I3 (upd_ne h (by decide)))), (kp f0), (kp f1), (kp f2), (fun _ => rfl), (kp f4), (fun h => by
            obtain ⟨A5, n5, c5, R5, m5, d5, K5, p5, y5, e, oo⟩ := f5 (upd_ne h (by decide))
            exact ⟨A5, n5, c5, R5, m5, d5, K5, p5, y5, e, oo.eq (upd_other (by decide))⟩), (kp f6), (kp f7), (kp f8), (kp f9), (kp f10), (kp f11)⟩
        · obtain rfl := Option.some.inj ho
          have g3 := f3 (hd ⟨3, .data⟩ (by simp) rfl)
          subst g3
          have y0 : ww.cell? ⟨g, o + k * 4, none⟩ = some (.int .i64 x.op) := (I0.cell (p := ⟨g, o + k * 4, none⟩) (Nat.lt_of_lt_of_le hg SS.out.bel.size)).trans c0
          have y1 : ww.cell? ⟨g, o + k * 4 + 1, none⟩ = some (.int .i64 x.a) := (I0.cell (p := ⟨g, o + k * 4 + 1, none⟩) (Nat.lt_of_lt_of_le hg SS.out.bel.size)).trans c1'
          have y2 : ww.cell? ⟨g, o + k * 4 + 2, none⟩ = some (.int .i64 x.b) := (I0.cell (p := ⟨g, o + k * 4 + 2, none⟩) (Nat.lt_of_lt_of_le hg SS.out.bel.size)).trans c2
          have y3 : ww.cell? ⟨g, o + k * 4 + 3, none⟩ = some (.int .i64 x.c) := (I0.cell (p := ⟨g, o + k * 4 + 3, none⟩) (Nat.lt_of_lt_of_le hg SS.out.bel.size)).trans c3
          refine wpOp_step rfl (fun K' hK => ?_)
          go_simp
          refine hK _ _ ?_
          exact ⟨_, _, _, _, _, _, _, _, _, _, _, rfl, (I0), (fun h => by rw [upd_other (by decide)]; exact I1 (upd_ne h (by decide))), (fun h => upd_mono (I2 (upd_ne h (by decide)))), (fun h => upd_mono (I3 (upd_ne h (by decide)))), (kp f0), (kp f1), (kp f2), (kp f3), (fun _ => rfl), (fun h => by
            obtain ⟨A5, n5, c5, R5, m5, d5, K5, p5, y5, e, oo⟩ := f5 (upd_ne h (by decide))
            exact ⟨A5, n5, c5, R5, m5, d5, K5, p5, y5, e, oo.eq (upd_other (by decide))⟩), (kp f6), (kp f7), (kp f8), (kp f9), (kp f10), (kp f11)⟩
        · obtain rfl := Option.some.inj ho
          have g0 := f0 (hd ⟨0, .data⟩ (by simp) rfl)
          have g4 := f4 (hd ⟨4, .data⟩ (by simp) rfl)
          subst g0
          subst g4
          refine wpOp_step rfl (fun K' hK => ?_)
          go_simp
          refine (CALL.out ww I0).mono ?_
          rintro e w' ⟨v1, v2, v3, rfl, oh, b5⟩
          obtain ⟨A5, n5, c5, R5, m5, d5, K5, p5, y5, rfl, rfl, rfl⟩ := oh.slices
          have hsz := I0.size
          refine hK _ _ ?_
          exact ⟨_, _, _, _, _, _, _, _, _, _, _, rfl, (I0.trans (b5.mono I0.size)), (fun h => by rw [upd_other (by decide)]; exact I1 (upd_ne h (by decide))), (fun h => upd_mono (I2 (upd_ne h (by decide)))), (fun h => upd_mono (I3 (upd_ne h (by decide)))), (kp f0), (kp f1), (kp f2), (kp f3), (kp f4), (fun _ => ⟨A5, n5, c5, R5, m5, d5, K5, p5, y5, rfl, OwnFC.baseC hsz oh (fun g5 hl e => by
            obtain ⟨g6, z0, z1, z2, e', hg5, hz⟩ := f9 (by rw [upd_other (by decide)] at hl; exact hl)
            rw [e'] at e
            injection e with e
            injection e with e
            injection e with e
            rw [← e]
            exact hz.lt) ⟩), (fun h => absurd (I2 (upd_ne h (by decide))) (by rw [hL]; simp)), (fun h => absurd (I3 (upd_ne h (by decide))) (by rw [hL]; simp)), (kp f8), (fun h => by
            obtain ⟨g5, z0, z1, z2, e, hg5, hz⟩ := f9 (upd_ne h (by decide))
            exact ⟨g5, z0, z1, z2, e, hg5, hz.keep b5 hz.lt⟩), (fun h => by
            obtain ⟨g5, A5, n5, c5, R5, m5, d5, K5, p5, y5, e, hg5, hz, oo⟩ := f10 (upd_ne h (by decide))
            exact ⟨g5, A5, n5, c5, R5, m5, d5, K5, p5, y5, e, hg5, hz.keep b5 hz.lt, oo.below b5 (Nat.le_refl _)⟩), (kp f11)⟩
        · obtain rfl := Option.some.inj ho
          have g5 := f5 (hd ⟨5, .data⟩ (by simp) rfl)
          obtain ⟨A5, n5, c5, R5, m5, d5, K5, p5, y5, rfl, o5⟩ := g5
          refine wpOp_step rfl (fun K' hK => ?_)
          go_simp
          refine hK _ _ ?_
          exact ⟨_, _, _, _, _, _, _, _, _, _, _, rfl, (I0), (fun h => by rw [upd_other (by decide)]; exact I1 (upd_ne h (by decide))), (fun _ => upd_mono (hd ⟨5, .data⟩ (by simp) rfl)), (fun h => upd_mono (I3 (upd_ne h (by decide)))), (kp f0), (kp f1), (kp f2), (kp f3), (kp f4), (fun h => by
            obtain ⟨A5, n5, c5, R5, m5, d5, K5, p5, y5, e, oo⟩ := f5 (upd_ne h (by decide))
            exact ⟨A5, n5, c5, R5, m5, d5, K5, p5, y5, e, oo.eq (upd_other (by decide))⟩), (fun _ => ⟨_, _, _, _, _, _, _, _, _, rfl, rfl⟩), (kp f7), (kp f8), (kp f9), (kp f10), (kp f11)⟩
        · obtain rfl := Option.some.inj ho
          have g6 := f6 (hd ⟨6, .data⟩ (by simp) rfl)
          obtain ⟨A5, n5, c5, R5, m5, d5, K5, p5, y5, rfl, rfl⟩ := g6
          refine wpOp_step rfl (fun K' hK => ?_)
          go_simp
          refine hK _ _ ?_
          exact ⟨_, _, _, _, _, _, _, _, _, _, _, rfl, (I0), (fun h => by rw [upd_other (by decide)]; exact I1 (upd_ne h (by decide))), (fun h => upd_mono (I2 (upd_ne h (by decide)))), (fun _ => upd_mono (I2 (hd ⟨6, .data⟩ (by simp) rfl))), (kp f0), (kp f1), (kp f2), (kp f3), (kp f4), (fun h => by
            obtain ⟨A5, n5, c5, R5, m5, d5, K5, p5, y5, e, oo⟩ := f5 (upd_ne h (by decide))
            exact ⟨A5, n5, c5, R5, m5, d5, K5, p5, y5, e, oo.eq (upd_other (by decide))⟩), (kp f6), (fun _ => ⟨_, _, _, _, _, _, _, _, _, rfl, rfl⟩), (kp f8), (kp f9), (kp f10), (kp f11)⟩
        · obtain rfl := Option.some.inj ho
          have g6 := f6 (hd ⟨6, .data⟩ (by simp) rfl)
          obtain ⟨A5, n5, c5, R5, m5, d5, K5, p5, y5, rfl, rfl⟩ := g6
          refine wpOp_step rfl (fun K' hK => ?_)
          go_simp
          refine hK _ _ ?_
          exact ⟨_, _, _, _, _, _, _, _, _, _, _, rfl, (I0), (fun h => by rw [upd_other (by decide)]; exact I1 (upd_ne h (by decide))), (fun h => upd_mono (I2 (upd_ne h (by decide)))), (fun h => upd_mono (I3 (upd_ne h (by decide)))), (kp f0), (kp f1), (kp f2), (kp f3), (kp f4), (fun h => by
            obtain ⟨A5, n5, c5, R5, m5, d5, K5, p5, y5, e, oo⟩ := f5 (upd_ne h (by decide))
            exact ⟨A5, n5, c5, R5, m5, d5, K5, p5, y5, e, oo.eq (upd_other (by decide))⟩), (kp f6), (kp f7), (fun _ => rfl), (kp f9), (kp f10), (kp f11)⟩
        · obtain rfl := Option.some.inj ho
          refine wpOp_step rfl (fun K' hK => ?_)
          go_simp
          refine hK _ _ ?_
          exact ⟨_, _, _, _, _, _, _, _, _, _, _, rfl, (I0.alloc I0.size _), (fun _ => upd_self), (fun h => upd_mono (I2 (upd_ne h (by decide)))), (fun h => upd_mono (I3 (upd_ne h (by decide)))), (kp f0), (kp f1), (kp f2), (kp f3), (kp f4), (fun h => by
            obtain ⟨A5, n5, c5, R5, m5, d5, K5, p5, y5, e, oo⟩ := f5 (upd_ne h (by decide))
            exact ⟨A5, n5, c5, R5, m5, d5, K5, p5, y5, e, oo.alloc _⟩), (kp f6), (kp f7), (kp f8), (fun _ => ⟨ww.heap.size, _, _, _, rfl, I0.size, Rw.new _ _ _⟩), (fun h => absurd (I1 (upd_ne h (by decide))) (by rw [hL]; simp)), (kp f11)⟩
        · obtain rfl := Option.some.inj ho
          have g7 := f7 (hd ⟨7, .data⟩ (by simp) rfl)
          have g9 := f9 (hd ⟨9, .data⟩ (by simp) rfl)
          have g5 := f5 (hd ⟨5, .chain⟩ (by simp) rfl)
          have hL9 := hd ⟨9, .data⟩ (by simp) rfl
          obtain ⟨q5, z0, z1, z2, rfl, hq5, hz⟩ := g9
          obtain ⟨A5, n5, c5, R5, m5, d5, K5, p5, y5, rfl, rfl⟩ := g7
          obtain ⟨A6, n6, c6, R6, m6, d6, K6, p6, y6, e6, oo⟩ := g5
          injection e6 with e6
          simp at e6
          obtain ⟨⟨rfl, rfl, rfl⟩, ⟨rfl, rfl, rfl⟩, rfl, rfl, rfl⟩ := e6
          have u0 := hz.cell 0
          have u1 := hz.cell 1
          have u2 := hz.frozen 0
          have u3 := hz.frozen 1
          have u4 := hz.cell 2
          have u5 := hz.frozen 2
          simp at u0 u1 u4
          refine wpOp_step rfl (fun K' hK => ?_)
          go_simp
          refine hK _ _ ?_
          exact ⟨_, _, _, _, _, _, _, _, _, _, _, rfl, (((I0.setCell (p := ⟨q5, 0, none⟩) hq5 _).setCell (p := ⟨q5, 1, none⟩) hq5 _).setCell (p := ⟨q5, 2, none⟩) hq5 _), (fun _ => by rw [upd_other (by decide)]; exact hL9), (fun h => upd_mono (I2 (upd_ne h (by decide)))), (fun h => upd_mono (I3 (upd_ne h (by decide)))), (kp f0), (kp f1), (kp f2), (kp f3), (kp f4), (fun h => ⟨_, _, _, _, _, _, _, _, _, rfl, (oo.put hL9 _ _ _).eq (upd_other (by decide))⟩), (kp f6), (kp f7), (kp f8), (fun h => ⟨_, _, _, _, rfl, hq5, ((hz.put 0 _).put 1 _).put 2 _⟩), (fun _ => ⟨_, _, _, _, _, _, _, _, _, _, rfl, hq5, ((hz.put 0 _).put 1 _).put 2 _, (oo.put hL9 _ _ _).own⟩), (kp f11)⟩
        · obtain rfl := Option.some.inj ho
          have g8 := f8 (hd ⟨8, .data⟩ (by simp) rfl)
          subst g8
          refine wpOp_step rfl (fun K' hK => ?_)
          go_simp
          refine hK _ _ ?_
          exact ⟨_, _, _, _, _, _, _, _, _, _, _, rfl, (I0), (fun h => by rw [upd_other (by decide)]; exact I1 (upd_ne h (by decide))), (fun h => upd_mono (I2 (upd_ne h (by decide)))), (fun h => upd_mono (I3 (upd_ne h (by decide)))), (kp f0), (kp f1), (kp f2), (kp f3), (kp f4), (fun h => by
            obtain ⟨A5, n5, c5, R5, m5, d5, K5, p5, y5, e, oo⟩ := f5 (upd_ne h (by decide))
            exact ⟨A5, n5, c5, R5, m5, d5, K5, p5, y5, e, oo.eq (upd_other (by decide))⟩), (kp f6), (kp f7), (kp f8), (kp f9), (kp f10), (fun _ => rfl)⟩
      case hdone =>
        rintro L ac ww hall ⟨t5, t6, t20, t21, t22, t23, t24, t25, t26, t27, t28, rfl, I0, I1, I2, I3, f0, f1, f2, f3, f4, f5, f6, f7, f8, f9, f10, f11⟩
        have e0 := f0 (hall 0 (by decide))
        have e1 := f1 (hall 1 (by decide))
        have e2 := f2 (hall 2 (by decide))
        have e3 := f3 (hall 3 (by decide))
        have e4 := f4 (hall 4 (by decide))
        have e5 := f5 (hall 5 (by decide))
        have e6 := f6 (hall 6 (by decide))
        have e7 := f7 (hall 7 (by decide))
        have e8 := f8 (hall 8 (by decide))
        have e9 := f9 (hall 9 (by decide))
        have e10 := f10 (hall 10 (by decide))
        have e11 := f11 (hall 11 (by decide))
        clear f0 f1 f2 f3 f4 f5 f6 f7 f8 f9 f10 f11
        obtain ⟨g5, A5, n5, c5, R5, m5, d5, K5, p5, y5, rfl, hg5, hz, oo⟩ := e10
        obtain ⟨nn, hnn⟩ : ∃ nn, h2.cs.length = nn := ⟨_, rfl⟩
        obtain ⟨mm, hmm⟩ : ∃ mm, h2.rt.length = mm := ⟨_, rfl⟩
        obtain ⟨pp, hpp⟩ : ∃ pp, l2.length = pp := ⟨_, rfl⟩
        obtain ⟨Ax, cx, Rx, dx, Kx, yx, ex1, ex2, ex3⟩ := oo.choose_spec.slices
        injection ex1 with ea1 ea2 ea3
        injection ex2 with eb1 eb2 eb3
        injection ex3 with ec1 ec2 ec3
        subst ea1 ea2 ea3 eb1 eb2 eb3 ec1 ec2 ec3
        have NX := SS.out.next I0 oo
        have z0 := hz.cell 0
        have z1 := hz.cell 1
        have z2 := hz.cell 2
        simp at z0 z1 z2
        have f0 : ww.frozen? ⟨b, 0, none⟩ = false := (SS.out.box.keep I0 SS.out.box.lt).frozen 0
        have f1 : ww.frozen? ⟨b, 1, none⟩ = false := (SS.out.box.keep I0 SS.out.box.lt).frozen 1
        have f2 : ww.frozen? ⟨b, 2, none⟩ = false := (SS.out.box.keep I0 SS.out.box.lt).frozen 2
        have x0' : ww.cell? ⟨b, 0, none⟩ = some (.slice A1 hh.cs.length c1) := (SS.out.box.keep I0 SS.out.box.lt).cell 0
        have x1' : ww.cell? ⟨b, 1, none⟩ = some (.slice R1 hh.rt.length d1) := (SS.out.box.keep I0 SS.out.box.lt).cell 1
        have x2' : ww.cell? ⟨b, 2, none⟩ = some (.slice K1 ct.length q1) := (SS.out.box.keep I0 SS.out.box.lt).cell 2
        clear e0 e1 e2 e3 e4 e5 e6 e7 e8 e9 e11 I1 I2 I3 hz oo hnn hmm hpp x0 x1 x2 c0 c1' c2 c3
        go_wp2_with fail
        go_roundw
        case rel => exact ⟨k + 1, A5, c5, R5, d5, K5, y5, h2, l2, by omega, by go_num, HNX.out, HVX.out, NX⟩
        case measure => simp [intOf]; omega
    · obtain rfl : k = n := by omega
      have HE := Lib.hid (show Hps.runCt l = (hh, ct) by rw [HF.out, hhe, List.take_of_length_le (by omega)])
      obtain ⟨nn, hnn⟩ : ∃ nn, hh.cs.length = nn := ⟨_, rfl⟩
      obtain ⟨mm, hmm⟩ : ∃ mm, hh.rt.length = mm := ⟨_, rfl⟩
      obtain ⟨pp, hpp⟩ : ∃ pp, ct.length = pp := ⟨_, rfl⟩
      rw [hnn, hmm, hpp] at S
      rw [hnn] at x0
      rw [hmm] at x1
      rw [hpp] at x2
      have r2 : wr.frozen? ⟨w.heap.size, 0, none⟩ = false := S.res.frozen 0
      have r3 : wr.frozen? ⟨w.heap.size, 1, none⟩ = false := S.res.frozen 1
      have r4 : wr.frozen? ⟨w.heap.size, 2, none⟩ = false := S.res.frozen 2
      have r5 : wr.cell? ⟨w.heap.size, 0, none⟩ = some (.slice none 0 0) := S.res.cell 0
      have r6 : wr.cell? ⟨w.heap.size, 1, none⟩ = some (.slice none 0 0) := S.res.cell 1
      have r7 : wr.cell? ⟨w.heap.size, 2, none⟩ = some (.slice none 0 0) := S.res.cell 2
      have q4 := ((S.res.put 0 (.slice A1 nn c1)).put 1 (.slice R1 mm d1)).put 2 (.slice K1 pp q1)
      have r8 : (((wr.setCell ⟨w.heap.size, 0, none⟩ (.slice A1 nn c1)).setCell ⟨w.heap.size, 1, none⟩ (.slice R1 mm d1)).setCell ⟨w.heap.size, 2, none⟩ (.slice K1 pp q1)).cell? ⟨w.heap.size, 0, none⟩ = some (.slice A1 nn c1) := q4.cell 0
      have r9 : (((wr.setCell ⟨w.heap.size, 0, none⟩ (.slice A1 nn c1)).setCell ⟨w.heap.size, 1, none⟩ (.slice R1 mm d1)).setCell ⟨w.heap.size, 2, none⟩ (.slice K1 pp q1)).cell? ⟨w.heap.size, 1, none⟩ = some (.slice R1 mm d1) := q4.cell 1
      have r10 : (((wr.setCell ⟨w.heap.size, 0, none⟩ (.slice A1 nn c1)).setCell ⟨w.heap.size, 1, none⟩ (.slice R1 mm d1)).setCell ⟨w.heap.size, 2, none⟩ (.slice K1 pp q1)).cell? ⟨w.heap.size, 2, none⟩ = some (.slice K1 pp q1) := q4.cell 2
      have D := Lib.hid (by
        obtain ⟨rvs, own, _⟩ := S.own
        exact OwnC.out (w := w) (g := w.heap.size) ⟨rvs, own⟩ (by omega) S.bel (Nat.le_refl _))
      clear S hhe hhv hnn hmm hpp hml q4
      go_wp2_with fail
      exact bodyPost_ret (v := .agg #[.slice A1 nn c1, .slice R1 mm d1, .slice K1 pp q1]) (by simp [results, Tryd.results24, go_sem, *]) rfl ⟨_, _, _, rfl, by rw [HE.out]; exact D.out.1, D.out.2⟩
end Go.Proofs.YtfgdenmlfloloaaDoor

namespace Go.Proofs.YtfgdenmlfloloaaDoor
open Go.RowKit
set_option maxRecDepth 100000
set_option maxHeartbeats 4000000 in
theorem runCounted_any (A : Option Addr) (n c : Nat) (l : List Cm) (w : World) (hT : TzT w) (h : MS w w.heap.size A n l) (hn : n ≤ 1099511627776) (hc : n ≤ c) :
    Calls Tryd.prog 23 #[.slice A n c] w (GaveCt w (Hps.runCt l).1 (Hps.runCt l).2) := by
  have b1 : Below w.heap.size w (w.alloc (.cells #[.slice none 0 0, .slice none 0 0, .slice none 0 0] 34)) := (Below.refl _ _).alloc (Nat.le_refl _) _
  have m1 := h.up b1
  have q3 := Rw.new w 34 #[.slice none 0 0, .slice none 0 0, .slice none 0 0]
  go_enter Tryd.func23, Tryd.ntmps23
  go_wp2_with fail
  refine (commandsValid_any _ _ _ l _ m1 hn hc).mono ?_
  rintro e w1 ⟨rfl, b2⟩
  replace q3 := q3.keep b2 q3.lt
  replace b1 := b1.trans (b2.mono b1.size)
  clear m1 b2
  cases hv : Hps.okCms l
  · have HF := Lib.hid (show Hps.runCt l = (Hps.zeroH, []) by rw [Hps.runCt, if_neg (by rw [hv]; simp)])
    have r2 : w1.frozen? ⟨w.heap.size, 0, none⟩ = false := q3.frozen 0
    have r3 : w1.frozen? ⟨w.heap.size, 1, none⟩ = false := q3.frozen 1
    have r4 : w1.frozen? ⟨w.heap.size, 2, none⟩ = false := q3.frozen 2
    have r5 : w1.cell? ⟨w.heap.size, 0, none⟩ = some (.slice none 0 0) := q3.cell 0
    have r6 : w1.cell? ⟨w.heap.size, 1, none⟩ = some (.slice none 0 0) := q3.cell 1
    have r7 : w1.cell? ⟨w.heap.size, 2, none⟩ = some (.slice none 0 0) := q3.cell 2
    have q4 := ((q3.put 0 (.slice none 0 0)).put 1 (.slice none 0 0)).put 2 (.slice none 0 0)
    have r8 : (((w1.setCell ⟨w.heap.size, 0, none⟩ (.slice none 0 0)).setCell ⟨w.heap.size, 1, none⟩ (.slice none 0 0)).setCell ⟨w.heap.size, 2, none⟩ (.slice none 0 0)).cell? ⟨w.heap.size, 0, none⟩ = some (.slice none 0 0) := q4.cell 0
    have r9 : (((w1.setCell ⟨w.heap.size, 0, none⟩ (.slice none 0 0)).setCell ⟨w.heap.size, 1, none⟩ (.slice none 0 0)).setCell ⟨w.heap.size, 2, none⟩ (.slice none 0 0)).cell? ⟨w.heap.size, 1, none⟩ = some (.slice none 0 0) := q4.cell 1
    have r10 : (((w1.setCell ⟨w.heap.size, 0, none⟩ (.slice none 0 0)).setCell ⟨w.heap.size, 1, none⟩ (.slice none 0 0)).setCell ⟨w.heap.size, 2, none⟩ (.slice none 0 0)).cell? ⟨w.heap.size, 2, none⟩ = some (.slice none 0 0) := q4.cell 2
    have D := Lib.hid ((own_zeroC w1 w1.heap.size (Nat.le_refl _)).out q3.lt b1 (Nat.le_refl _))
    clear q3 q4 b1 hv
    go_wp2_with fail
    exact bodyPost_ret (v := .agg #[.slice none 0 0, .slice none 0 0, .slice none 0 0]) (by simp [results, Tryd.results23, go_sem, *]) rfl ⟨_, _, _, rfl, by rw [HF.out]; exact D.out.1, D.out.2⟩
  have HF := Lib.hid (show Hps.runCt l = Hps.runCtFrom (Hps.emptyH, []) l by rw [Hps.runCt, if_pos hv])
  have HV := Lib.hid ((Hps.okCms_iff.1 hv).1)
  have hT1 := hT.below b1
  clear hv
  go_wp2_with fail
  refine (emptyHeap_any _).mono ?_
  rintro e w2 ⟨vc, vr, rfl, ⟨rvs, own⟩, b2⟩
  have hsz : w.heap.size + 1 ≤ w1.heap.size := q3.lt
  replace q3 := q3.keep b2 q3.lt
  have hsz2 := b2.size
  have hq := Rw.new w2 34 #[vc, vr, .slice none 0 0]
  have S0 : RunStC w (w2.alloc (.cells #[vc, vr, .slice none 0 0] 34)) w2.heap.size vc vr (.slice none 0 0) Hps.emptyH [] := by
    have bA := (Below.refl w2.heap.size w2).alloc (Nat.le_refl _) (.cells #[vc, vr, .slice none 0 0] 34)
    have oH := (OwnHx.base (base' := w.heap.size + 1) own hsz).below bA (Nat.le_refl _)
    refine ⟨⟨rvs, ⟨oH, World.ownsRow_nil _ _ _ _, fun u hu => ?_⟩, fun v hv => ?_⟩, hq, q3.alloc _, (b1.trans (b2.mono b1.size)).alloc (by omega) _, by omega⟩
    · cases e : u.ownBlock with
      | none => exact .inl rfl
      | some k => exact .inr (by simp [Value.ownBlock])
    · simp only [List.mem_cons] at hv
      rcases hv with rfl | rfl | rfl | hv
      · exact own.apart_new (Nat.le_refl _) _ (by simp)
      · exact own.apart_new (Nat.le_refl _) _ (by simp)
      · exact .inl rfl
      · exact own.apart_new (Nat.le_refl _) _ (by simp [hv])
  obtain ⟨Ac, cc, Rc, dc, rfl, rfl, -⟩ := own.form
  clear hq own q3 b2
  go_upto_region 4 with fail
  generalize w2.alloc (.cells #[.slice Ac Hps.emptyH.cs.length cc, .slice Rc Hps.emptyH.rt.length dc, .slice none 0 0] 34) = w3 at S0 ⊢
  generalize w2.heap.size = b at S0 ⊢
  clear hsz hsz2 w2 b1 hT1 w1
  go_wp2_with fail
  go_loopw [14] (fun i wr => ∃ (k : Nat) (A1 : Option Addr) (n1 c1 : Nat) (R1 : Option Addr) (m1 d1 : Nat) (K1 : Option Addr) (p1 q1 : Nat) (hh : Hp) (ct : List Int), k ≤ n ∧ i = .int .i64 k ∧ Hid ((hh, ct) = Hps.runCtFrom (Hps.emptyH, []) (l.take k)) ∧ Hid (Hps.okCt hh ct = true) ∧ RunStC w wr b (.slice A1 n1 c1) (.slice R1 m1 d1) (.slice K1 p1 q1) hh ct) (fun i _ => n - (intOf i).toNat)
  case atStart => exact ⟨0, Ac, _, cc, Rc, _, dc, none, 0, 0, Hps.emptyH, [], by omega, rfl, Lib.hid (by simp [Hps.runCtFrom]), Lib.hid Hps.empty_ok, S0⟩
  case round =>
    clear S0
    obtain ⟨k, A1, n1, c1, R1, m1, d1, K1, p1, q1, hh, ct, hk, rfl, HE, HOK, S⟩ := hrel
    have hlo := S.lo
    have hml := h.1
    by_cases hlt : k < n
    · obtain ⟨g, o, x, rfl, hg, hx, c0, c1', c2, c3⟩ := (h.below S.bel).at_ hlt
      have hlt' : (k : Int) < n := by omega
      have HNX := Lib.hid (show (Hps.stepCt hh ct x).1 = Hps.runCtFrom (Hps.emptyH, []) (l.take (k + 1)) by
        rw [List.take_add_one, hx, Option.toList, Hps.runCtFrom_snoc, ← HE.out])
      have HVX := Lib.hid (Hps.stepCt_ok HOK.out (HV.out x (List.mem_of_getElem? hx)))
      have BC : Below wr.heap.size wr (wr.alloc (.cells #[.int .i64 x.op, .int .i64 x.a, .int .i64 x.b, .int .i64 x.c] 36)) := (Below.refl _ _).alloc (Nat.le_refl _) _
      have QC := Rw.new wr 36 #[.int .i64 x.op, .int .i64 x.a, .int .i64 x.b, .int .i64 x.c]
      have CALL := Lib.hid (show ∀ (ww : World), Below wr.heap.size wr ww → Calls Tryd.prog 16 #[ctV A1 n1 c1 R1 m1 d1 K1 p1 q1, cmV x] ww (GaveCt2 ww (Hps.stepCt hh ct x).1.1 (Hps.stepCt hh ct x).1.2 (Hps.stepCt hh ct x).2) from fun ww hB => by
        obtain ⟨rvs, own, _⟩ := S.own
        obtain ⟨hvv, hcc⟩ := Hps.okCt_iff.1 HOK.out
        obtain ⟨_, h40, h4, _⟩ := Hps.valid_iff.1 hvv
        obtain ⟨A', c', R', d', e1, e2, hc', hd', _⟩ := own.heap.form
        obtain ⟨K', q', e3, _⟩ := own.cnts.form
        have hcl := Hps.counts_len hh
        rw [← hcc] at hcl
        injection e1 with e1a e1b e1c
        injection e2 with e2a e2b e2c
        injection e3 with e3a e3b e3c
        subst e1a e1b e1c e2a e2b e2c e3a e3b e3c
        have o2 := own.below hB (Nat.le_refl _)
        exact stepCounted_any A1 R1 K1 _ c1 _ d1 _ q1 hh ct x ww (hT.below (S.bel.trans (hB.mono S.bel.size))) o2.heap.reads o2.cnts.reads (by omega) (by omega) (by omega) hc' hd')
      have SS := Lib.hid S
      have hbx := S.box.lt
      have hbel := S.bel.size
      have q0 := S.box.keep BC hbx
      generalize (Hps.stepCt hh ct x).2 = okk at CALL
      obtain ⟨h2, hh2⟩ : ∃ h2, (Hps.stepCt hh ct x).1.1 = h2 := ⟨_, rfl⟩
      obtain ⟨ct2, hct2⟩ : ∃ ct2, (Hps.stepCt hh ct x).1.2 = ct2 := ⟨_, rfl⟩
      rw [hh2, hct2] at HVX CALL
      have HN2 := Lib.hid (show (h2, ct2) = Hps.runCtFrom (Hps.emptyH, []) (l.take (k + 1)) by rw [← HNX.out, ← hh2, ← hct2])
      clear S hx hml hh2 hct2 HNX
      go_upto_region 7 with fail
      generalize wr.alloc (.cells #[.int .i64 x.op, .int .i64 x.a, .int .i64 x.b, .int .i64 x.c] 36) = w4 at BC QC q0 ⊢
      generalize wr.heap.size = q5 at QC ⊢
      have x0 : w4.cell? ⟨b, 0, none⟩ = some (.slice A1 n1 c1) := q0.cell 0
      have x1 : w4.cell? ⟨b, 1, none⟩ = some (.slice R1 m1 d1) := q0.cell 1
      have x2 : w4.cell? ⟨b, 2, none⟩ = some (.slice K1 p1 q1) := q0.cell 2
      have y0 : w4.cell? ⟨q5, 0, none⟩ = some (.int .i64 x.op) := QC.cell 0
      have y1 : w4.cell? ⟨q5, 1, none⟩ = some (.int .i64 x.a) := QC.cell 1
      have y2 : w4.cell? ⟨q5, 2, none⟩ = some (.int .i64 x.b) := QC.cell 2
      have y3 : w4.cell? ⟨q5, 3, none⟩ = some (.int .i64 x.c) := QC.cell 3
      have q0k := Lib.hid q0
      have BK := Lib.hid BC
      clear c0 c1' c2 c3 QC q0
      go_wp2_with fail
      refine (CALL.out _ BK.out).mono ?_
      rintro e w5 ⟨v1, v2, v3, rfl, oh, b5⟩
      obtain ⟨Ax, nx, cx, Rx, mx, dx, Kx, px, qx, rfl, rfl, rfl⟩ := oh.slices
      have q6 := q0k.out.keep b5 q0k.out.lt
      have B6 := BK.out.trans (b5.mono BK.out.size)
      have NX := Lib.hid (SS.out.next B6 (oh.base BK.out.size))
      have z2 : w5.frozen? ⟨b, 0, none⟩ = false := q6.frozen 0
      have z3 : w5.frozen? ⟨b, 1, none⟩ = false := q6.frozen 1
      have z4 : w5.frozen? ⟨b, 2, none⟩ = false := q6.frozen 2
      have z5 : w5.cell? ⟨b, 0, none⟩ = some (.slice A1 n1 c1) := q6.cell 0
      have z6 : w5.cell? ⟨b, 1, none⟩ = some (.slice R1 m1 d1) := q6.cell 1
      have z7 : w5.cell? ⟨b, 2, none⟩ = some (.slice K1 p1 q1) := q6.cell 2
      clear x0 x1 x2 y0 y1 y2 y3 q6 oh b5 B6 BC
      go_wp2_with fail
      go_roundw
      case rel => exact ⟨k + 1, Ax, nx, cx, Rx, mx, dx, Kx, px, qx, h2, ct2, by omega, by go_num, HN2, HVX, NX.out⟩
      case measure => simp [intOf]; omega
    · obtain rfl : k = n := by omega
      have x0 : wr.cell? ⟨b, 0, none⟩ = some (.slice A1 n1 c1) := S.box.cell 0
      have x1 : wr.cell? ⟨b, 1, none⟩ = some (.slice R1 m1 d1) := S.box.cell 1
      have x2 : wr.cell? ⟨b, 2, none⟩ = some (.slice K1 p1 q1) := S.box.cell 2
      have HE2 := Lib.hid (show Hps.runCt l = (hh, ct) by rw [HF.out, HE.out, List.take_of_length_le (by omega)])
      have r2 : wr.frozen? ⟨w.heap.size, 0, none⟩ = false := S.res.frozen 0
      have r3 : wr.frozen? ⟨w.heap.size, 1, none⟩ = false := S.res.frozen 1
      have r4 : wr.frozen? ⟨w.heap.size, 2, none⟩ = false := S.res.frozen 2
      have r5 : wr.cell? ⟨w.heap.size, 0, none⟩ = some (.slice none 0 0) := S.res.cell 0
      have r6 : wr.cell? ⟨w.heap.size, 1, none⟩ = some (.slice none 0 0) := S.res.cell 1
      have r7 : wr.cell? ⟨w.heap.size, 2, none⟩ = some (.slice none 0 0) := S.res.cell 2
      have q4 := ((S.res.put 0 (.slice A1 n1 c1)).put 1 (.slice R1 m1 d1)).put 2 (.slice K1 p1 q1)
      have r8 : (((wr.setCell ⟨w.heap.size, 0, none⟩ (.slice A1 n1 c1)).setCell ⟨w.heap.size, 1, none⟩ (.slice R1 m1 d1)).setCell ⟨w.heap.size, 2, none⟩ (.slice K1 p1 q1)).cell? ⟨w.heap.size, 0, none⟩ = some (.slice A1 n1 c1) := q4.cell 0
      have r9 : (((wr.setCell ⟨w.heap.size, 0, none⟩ (.slice A1 n1 c1)).setCell ⟨w.heap.size, 1, none⟩ (.slice R1 m1 d1)).setCell ⟨w.heap.size, 2, none⟩ (.slice K1 p1 q1)).cell? ⟨w.heap.size, 1, none⟩ = some (.slice R1 m1 d1) := q4.cell 1
      have r10 : (((wr.setCell ⟨w.heap.size, 0, none⟩ (.slice A1 n1 c1)).setCell ⟨w.heap.size, 1, none⟩ (.slice R1 m1 d1)).setCell ⟨w.heap.size, 2, none⟩ (.slice K1 p1 q1)).cell? ⟨w.heap.size, 2, none⟩ = some (.slice K1 p1 q1) := q4.cell 2
      have D := Lib.hid (by
        obtain ⟨rvs, own, _⟩ := S.own
        exact OwnC.out (w := w) (g := w.heap.size) ⟨rvs, own⟩ (by omega) S.bel (Nat.le_refl _))
      clear S q4 hml
      go_wp2_with fail
      exact bodyPost_ret (v := .agg #[.slice A1 n1 c1, .slice R1 m1 d1, .slice K1 p1 q1]) (by simp [results, Tryd.results23, go_sem, *]) rfl ⟨_, _, _, rfl, by rw [HE2.out]; exact D.out.1, D.out.2⟩
end Go.Proofs.YtfgdenmlfloloaaDoor

namespace Go.Proofs.YtfgdenmlfloloaaDoor
open Go.RowKit
set_option maxRecDepth 100000
theorem OwnCt.touched' {w w' : World} {base : Nat} {vc vr vk : Value} {rvs : List Value} {h : Hp} {ct : List Int} {l : List Value} (o : OwnCt w base vc vr vk rvs h ct) (ht : Touched w w' l) (ha : ∀ v ∈ vc :: vr :: vk :: rvs, ∀ u ∈ l, v.ownBlock = none ∨ v.ownBlock ≠ u.ownBlock) : OwnCt w' base vc vr vk rvs h ct :=
  ⟨o.heap.touched' ht (fun v hv => ha v (by simp only [List.mem_cons] at hv ⊢; rcases hv with e | e | e <;> simp [e])), row_touched o.cnts ht (ha vk (by simp)), o.sep⟩
theorem tiny_runCt (l : List Cm) : Tiny (Hps.runCt l).1 ∧ (Hps.runCt l).2.length ≤ 40 := by
  cases h : Hps.okCms l
  · rw [Hps.runCt, if_neg (by rw [h]; simp)]
    exact ⟨tiny_zero, by simp⟩
  · obtain ⟨h1, _, _⟩ := Hps.run_same h
    obtain ⟨hv, hl⟩ := Hps.okCt_iff.1 h1
    refine ⟨tiny_valid hv, ?_⟩
    rw [hl, Hps.counts_len]
    exact (Hps.valid_iff.1 hv).2.1
set_option maxHeartbeats 4000000 in
theorem exactRunCounted_walk (A : Option Addr) (n c : Nat) (l : List Cm) (w : World) (h : MS w w.heap.size A n l) (hn : n ≤ 9223372036854775807) (hT : TzT w) :
    Calls Tryd.prog 7 #[.slice A n c] w fun e w' => e = .returned (.bool true) ∧ Below w.heap.size w w' := by
  by_cases hz : n ≤ 1048576
  case neg =>
    have hl0 : (if (1048576 : Int) - n < 0 then -1 else (1048576 : Int) - n) = -1 := if_pos (by omega)
    have HL := Lib.hid hl0
    clear hl0
    go_enter Tryd.func7, Tryd.ntmps7
    go_wp2_with fail
    refine (szCommandS_any _ _ _ _ _ (by omega) (by omega) hn).mono ?_
    rw [HL.out]
    rintro e w0 ⟨rfl, rfl⟩
    go_wp2_with fail
    go_ret
    exact ⟨rfl, Below.refl _ _⟩
  obtain ⟨lz, hlz⟩ : ∃ lz : Int, (if (1048576 : Int) - n < 0 then -1 else (1048576 : Int) - n) = lz := ⟨_, rfl⟩
  have hl0 : decide (lz < 0) = false := by rw [← hlz, if_neg (by omega)]; exact decide_eq_false (by omega)
  have HL := Lib.hid hlz
  have T := tiny_runCt l
  have HM := Lib.hid (fun (A : Option Addr) (c : Nat) (w : World) (h : MS w w.heap.size A n l) => mRunCounted_any A n c l w h (by omega))
  have HP := Lib.hid (fun (A : Option Addr) (c : Nat) (w : World) (h : MS w w.heap.size A n l) (hc : n ≤ c) (hT : TzT w) => runCounted_any A n c l w hT h (by omega) hc)
  have hll := h.1
  obtain ⟨hh, hhe⟩ : ∃ hh, (Hps.runCt l).1 = hh := ⟨_, rfl⟩
  obtain ⟨ct, hce⟩ : ∃ ct, (Hps.runCt l).2 = ct := ⟨_, rfl⟩
  rw [hhe, hce] at T HM HP
  obtain ⟨T, TC⟩ := T
  obtain ⟨nn, hnn⟩ : ∃ nn, hh.cs.length = nn := ⟨_, rfl⟩
  obtain ⟨mm, hmm⟩ : ∃ mm, hh.rt.length = mm := ⟨_, rfl⟩
  obtain ⟨pp, hpp⟩ : ∃ pp, ct.length = pp := ⟨_, rfl⟩
  have hp40 : pp ≤ 40 := by omega
  have E5 := Lib.hid hpp
  have hn40 : nn ≤ 40 := by have := T.1; omega
  have hm4 : mm ≤ 4 := by have := T.2.1; omega
  have H3 := Lib.hid (fun cl (hcl : cl ∈ hh.cs) => show cl.r.length ≤ 1099511627776 by have := T.2.2 cl hcl; omega)
  have HSZ := Lib.hid T.size
  have E0 := Lib.hid hnn
  have E4 := Lib.hid hmm
  obtain ⟨kv, hkv⟩ : ∃ kv, markKH 1 hh + (pp : Int) = kv := ⟨_, rfl⟩
  have hk0 : decide (kv < 0) = false := by
    rw [← hkv]
    refine decide_eq_false ?_
    simp only [markKH, mkK]
    omega
  have hkk : (kv != kv) = false := by simp
  have HKV := Lib.hid hkv
  have hkc : decide ((1 : Int) + 4 * (l.length : Int) < 0) = false := decide_eq_false (by omega)
  clear hlz T TC hhe hce hnn hmm hpp hkv
  go_enter Tryd.func7, Tryd.ntmps7
  go_wp2_with fail
  refine (szCommandS_any _ _ _ _ _ (by omega) (by omega) hn).mono ?_
  rw [HL.out]
  rintro e w0 ⟨rfl, rfl⟩
  go_wp2_with fail
  refine (toCommandS_any _ _ _ l _ h (by omega)).mono ?_
  rintro e w1 ⟨rfl, o1, b1⟩
  have r1 := o1.reads
  clear o1
  go_wp2_with fail
  refine (HM.out _ _ _ r1).mono ?_
  rintro e w2 ⟨vc0, vr0, vk0, rfl, ⟨rvs0, own0⟩, b2⟩
  obtain ⟨A0, c0, R0, d0, K0, q0, rfl, rfl, rfl⟩ := own0.slices
  rw [E0.out, E4.out, E5.out] at own0 ⊢
  have bA : Below w2.heap.size w2 (w2.alloc (.cells #[.slice A0 nn c0, .slice R0 mm d0, .slice K0 pp q0] 34)) := (Below.refl _ _).alloc (Nat.le_refl _) _
  have SA := Lib.hid (fun u (hu : u ∈ (Value.slice A0 nn c0) :: (Value.slice R0 mm d0) :: (Value.slice K0 pp q0) :: rvs0) k (hk : u.ownBlock = some k) => own0.blocks hu hk)
  have o0 := own0.below bA (Nat.le_refl _)
  have x0 := Rw.new w2 34 #[.slice A0 nn c0, .slice R0 mm d0, .slice K0 pp q0]
  have bb := (b1.trans (b2.mono b1.size)).trans (bA.mono (b1.trans (b2.mono b1.size)).size)
  have z2 := bA.size
  clear own0 r1 b2 b1
  go_upto_region 6 with fail
  generalize w2.alloc (.cells #[.slice A0 nn c0, .slice R0 mm d0, .slice K0 pp q0] 34) = w3 at o0 x0 bb bA z2 ⊢
  obtain ⟨s2, hs2⟩ : ∃ s2, w2.heap.size = s2 := ⟨_, rfl⟩
  rw [hs2] at x0 SA z2 bA ⊢
  have hx0 := x0.lt
  have hw3 := bb.size
  have h3 := h.up bb
  clear hs2 bA
  go_wp2_with fail
  refine (toCommandS_any _ _ _ l _ h3 (by omega)).mono ?_
  rintro e w4 ⟨rfl, om, b4⟩
  have z3 := om.reads
  replace o0 := o0.below b4 (Nat.le_refl _)
  replace x0 := x0.keep b4 x0.lt
  replace bb := bb.trans (b4.mono bb.size)
  have hg5 := (World.ownsRow.lt om _ rfl).2
  obtain ⟨g4, hg⟩ : ∃ g4, w3.heap.size = g4 := ⟨_, rfl⟩
  rw [hg] at om z3 hx0 z2 hw3 hg5 ⊢
  clear b4 h3 hg
  go_wp2_with fail
  refine (HP.out _ _ _ z3 (Nat.le_refl _) (hT.below bb)).mono ?_
  rintro e w5 ⟨vc1, vr1, vk1, rfl, ⟨rvs1, own1⟩, b5⟩
  obtain ⟨A1, c1, R1, d1, K1, q1, rfl, rfl, rfl⟩ := own1.slices
  rw [E0.out, E4.out, E5.out] at own1 ⊢
  have bA : Below w5.heap.size w5 (w5.alloc (.cells #[.slice A1 nn c1, .slice R1 mm d1, .slice K1 pp q1] 34)) := (Below.refl _ _).alloc (Nat.le_refl _) _
  have SB := Lib.hid (fun u (hu : u ∈ (Value.slice A1 nn c1) :: (Value.slice R1 mm d1) :: (Value.slice K1 pp q1) :: rvs1) k (hk : u.ownBlock = some k) => own1.blocks hu hk)
  have S01 := Lib.hid (fun v (hv : v ∈ (Value.slice A0 nn c0) :: (Value.slice R0 mm d0) :: (Value.slice K0 pp q0) :: rvs0) u (hu : u ∈ (Value.slice A1 nn c1) :: (Value.slice R1 mm d1) :: (Value.slice K1 pp q1) :: rvs1) => show v.ownBlock = none ∨ v.ownBlock ≠ u.ownBlock by
    cases e : v.ownBlock with
    | none => exact .inl rfl
    | some k =>
      right
      intro e'
      have h1 := (SA.out v hv k e).2
      have h2 := (SB.out u hu k e'.symm).1
      omega)
  have APA : Hid (Apart (some g4) ((Value.slice A0 nn c0) :: (Value.slice R0 mm d0) :: (Value.slice K0 pp q0) :: rvs0)) := Lib.hid fun v hv => by
    cases e : v.ownBlock with
    | none => exact .inl rfl
    | some k =>
      right
      intro e'
      have h1 := (SA.out v hv k e).2
      have h2 := Option.some.inj e'
      omega
  have APB : Hid (Apart (some g4) ((Value.slice A1 nn c1) :: (Value.slice R1 mm d1) :: (Value.slice K1 pp q1) :: rvs1)) := Lib.hid fun v hv => by
    cases e : v.ownBlock with
    | none => exact .inl rfl
    | some k =>
      right
      intro e'
      have h1 := (SB.out v hv k e).1
      have h2 := Option.some.inj e'
      omega
  have z5 := b5.size
  have o1 := own1.below bA (Nat.le_refl _)
  replace o0 := (o0.below b5 (Nat.le_refl _)).below bA (Nat.le_refl _)
  replace x0 := (x0.keep b5 x0.lt).alloc (.cells #[.slice A1 nn c1, .slice R1 mm d1, .slice K1 pp q1] 34)
  replace om := (om.below b5 (Nat.le_refl _)).below bA (Nat.le_refl _)
  have x1 := Rw.new w5 34 #[.slice A1 nn c1, .slice R1 mm d1, .slice K1 pp q1]
  replace bb := (bb.trans (b5.mono bb.size)).trans (bA.mono (bb.trans (b5.mono bb.size)).size)
  clear own1 bA b5 z3
  go_upto_region 8 with fail
  generalize w5.alloc (.cells #[.slice A1 nn c1, .slice R1 mm d1, .slice K1 pp q1] 34) = w6 at o0 o1 om x0 x1 bb ⊢
  obtain ⟨s5, hs5⟩ : ∃ s5, w5.heap.size = s5 := ⟨_, rfl⟩
  rw [hs5] at x1 SB z5 ⊢
  clear hs5
  have y0 : w6.cell? ⟨s2, 0, none⟩ = some (.slice A0 nn c0) := x0.cell 0
  have y1 : w6.cell? ⟨s2, 1, none⟩ = some (.slice R0 mm d0) := x0.cell 1
  have y1k : w6.cell? ⟨s2, 2, none⟩ = some (.slice K0 pp q0) := x0.cell 2
  have y2 : w6.cell? ⟨s5, 0, none⟩ = some (.slice A1 nn c1) := x1.cell 0
  have y3 : w6.cell? ⟨s5, 1, none⟩ = some (.slice R1 mm d1) := x1.cell 1
  have y3k : w6.cell? ⟨s5, 2, none⟩ = some (.slice K1 pp q1) := x1.cell 2
  go_wp2_with fail
  refine (eqCounted_any _ _ _ _ _ _ _ _ _ _ _ _ _ _ _ _ _ _ hh hh ct ct _ o1.heap.reads o1.cnts.reads o0.heap.reads o0.cnts.reads (by omega) (by omega) (by omega) (by omega) (by omega) (by omega) H3.out H3.out).mono ?_
  rw [decide_eq_true (show hh = hh ∧ ct = ct from ⟨rfl, rfl⟩)]
  rintro e w7 ⟨rfl, b7⟩
  replace o0 := o0.below b7 (Nat.le_refl _)
  replace o1 := o1.below b7 (Nat.le_refl _)
  replace om := om.below b7 (Nat.le_refl _)
  replace x0 := x0.keep b7 x0.lt
  replace x1 := x1.keep b7 x1.lt
  replace bb := bb.trans (b7.mono bb.size)
  have h7 := h.up bb
  clear b7 y0 y1 y1k y2 y3 y3k
  go_wp2_with fail
  refine (toCommandS_any _ _ _ l _ h7 (by omega)).mono ?_
  rintro e w8 ⟨rfl, o8, b8⟩
  have r8 := o8.reads
  replace o0 := o0.below b8 (Nat.le_refl _)
  replace o1 := o1.below b8 (Nat.le_refl _)
  replace om := om.below b8 (Nat.le_refl _)
  replace x0 := x0.keep b8 x0.lt
  replace x1 := x1.keep b8 x1.lt
  replace bb := bb.trans (b8.mono bb.size)
  generalize w7.heap.size = g7 at r8 ⊢
  clear b8 h7 o8
  go_wp2_with fail
  refine (eqCommandS_same _ _ _ _ _ l _ om.reads r8 (by omega)).mono ?_
  rintro e w9 ⟨rfl, b9⟩
  replace o0 := o0.below b9 (Nat.le_refl _)
  replace o1 := o1.below b9 (Nat.le_refl _)
  replace om := om.below b9 (Nat.le_refl _)
  replace x0 := x0.keep b9 x0.lt
  replace x1 := x1.keep b9 x1.lt
  replace bb := bb.trans (b9.mono bb.size)
  clear b9 r8
  go_wp2_with fail
  refine (markCommandS_any _ l _ _ _ om (by omega) (by omega) (by omega)).mono ?_
  rintro e w10 ⟨rfl, -, g10⟩
  replace o0 := o0.far g10 APA.out
  replace o1 := o1.far g10 APB.out
  replace x0 := x0.far g10 (fun e => by have : s2 = g4 := Option.some.inj e; omega)
  replace x1 := x1.far g10 (fun e => by have : s5 = g4 := Option.some.inj e; omega)
  replace bb := bb.grown g10 bb.size (fun k hk => by have : g4 = k := Option.some.inj hk; omega)
  clear om g10
  have y0 : w10.cell? ⟨s2, 0, none⟩ = some (.slice A0 nn c0) := x0.cell 0
  have y1 : w10.cell? ⟨s2, 1, none⟩ = some (.slice R0 mm d0) := x0.cell 1
  have y1k : w10.cell? ⟨s2, 2, none⟩ = some (.slice K0 pp q0) := x0.cell 2
  have y2 : w10.cell? ⟨s5, 0, none⟩ = some (.slice A1 nn c1) := x1.cell 0
  have y3 : w10.cell? ⟨s5, 1, none⟩ = some (.slice R1 mm d1) := x1.cell 1
  have y3k : w10.cell? ⟨s5, 2, none⟩ = some (.slice K1 pp q1) := x1.cell 2
  go_wp2_with fail
  refine (eqCounted_any _ _ _ _ _ _ _ _ _ _ _ _ _ _ _ _ _ _ hh hh ct ct _ o1.heap.reads o1.cnts.reads o0.heap.reads o0.cnts.reads (by omega) (by omega) (by omega) (by omega) (by omega) (by omega) H3.out H3.out).mono ?_
  rw [decide_eq_true (show hh = hh ∧ ct = ct from ⟨rfl, rfl⟩)]
  rintro e w11 ⟨rfl, b11⟩
  replace o0 := o0.below b11 (Nat.le_refl _)
  replace o1 := o1.below b11 (Nat.le_refl _)
  replace x0 := x0.keep b11 x0.lt
  replace x1 := x1.keep b11 x1.lt
  replace bb := bb.trans (b11.mono bb.size)
  clear b11 y0 y1 y1k y2 y3 y3k
  have y2 : w11.cell? ⟨s5, 0, none⟩ = some (.slice A1 nn c1) := x1.cell 0
  have y3 : w11.cell? ⟨s5, 1, none⟩ = some (.slice R1 mm d1) := x1.cell 1
  have y3k : w11.cell? ⟨s5, 2, none⟩ = some (.slice K1 pp q1) := x1.cell 2
  go_wp2_with fail
  refine (markCounted_any _ _ _ rvs1 hh ct _ _ _ o1 (by omega) (by omega) HSZ.out (by have := E5.out; omega)).mono ?_
  rw [E5.out, HKV.out]
  rintro e w12 ⟨rfl, m6, t6⟩
  replace o0 := o0.touched' t6 S01.out
  replace x0 := x0.touched t6 (fun u hu e => by have := (SB.out u hu _ e).1; omega)
  replace x1 := x1.touched t6 (fun u hu e => by have := (SB.out u hu _ e).2; omega)
  replace bb : Below w.heap.size w w12 := t6.below bb bb.size (fun u hu k hk => by have := (SB.out u hu k hk).1; omega)
  have r6 := m6.heap.reads
  have k6 := m6.cnts.reads
  clear o1 t6 m6 y2 y3 y3k
  have y2 : w12.cell? ⟨s5, 0, none⟩ = some (.slice A1 nn c1) := x1.cell 0
  have y3 : w12.cell? ⟨s5, 1, none⟩ = some (.slice R1 mm d1) := x1.cell 1
  have y3k : w12.cell? ⟨s5, 2, none⟩ = some (.slice K1 pp q1) := x1.cell 2
  go_wp2_with fail
  refine (heldCounted_any _ _ _ _ _ _ _ _ _ hh _ _ r6 k6 E0.out E4.out (by omega) (by omega) HSZ.out (by omega)).mono ?_
  rw [HKV.out]
  rintro e w13 ⟨rfl, b13⟩
  replace o0 := o0.below b13 (Nat.le_refl _)
  replace x0 := x0.keep b13 x0.lt
  replace x1 := x1.keep b13 x1.lt
  replace r6 := r6.up b13
  replace k6 := k6.up b13
  replace bb := bb.trans (b13.mono bb.size)
  have h13 := h.up bb
  clear b13 y2 y3 y3k
  go_wp2_with fail
  refine (toCommandS_any _ _ _ l _ h13 (by omega)).mono ?_
  rintro e w14 ⟨rfl, o14, b14⟩
  have r14 := o14.reads
  replace o0 := o0.below b14 (Nat.le_refl _)
  replace x0 := x0.keep b14 x0.lt
  replace x1 := x1.keep b14 x1.lt
  replace r6 := r6.up b14
  replace k6 := k6.up b14
  replace bb := bb.trans (b14.mono bb.size)
  generalize w13.heap.size = g13 at r14 ⊢
  clear b14 h13 o14
  go_wp2_with fail
  refine (HP.out _ _ _ r14 (Nat.le_refl _) (hT.below bb)).mono ?_
  rintro e w15 ⟨vc2, vr2, vk2, rfl, ⟨rvs2, own2⟩, b15⟩
  obtain ⟨A2, c2, R2, d2, K2, q2, rfl, rfl, rfl⟩ := own2.slices
  rw [E0.out, E4.out, E5.out] at own2 ⊢
  have bA : Below w15.heap.size w15 (w15.alloc (.cells #[.slice A2 nn c2, .slice R2 mm d2, .slice K2 pp q2] 34)) := (Below.refl _ _).alloc (Nat.le_refl _) _
  have r9 := own2.heap.reads.up bA
  have k9 := own2.cnts.reads.up bA
  replace o0 := (o0.below b15 (Nat.le_refl _)).below bA (Nat.le_refl _)
  replace x0 := (x0.keep b15 x0.lt).alloc (.cells #[.slice A2 nn c2, .slice R2 mm d2, .slice K2 pp q2] 34)
  replace x1 := (x1.keep b15 x1.lt).alloc (.cells #[.slice A2 nn c2, .slice R2 mm d2, .slice K2 pp q2] 34)
  replace r6 := (r6.up b15).up bA
  replace k6 := (k6.up b15).up bA
  replace bb := (bb.trans (b15.mono bb.size)).trans (bA.mono (bb.trans (b15.mono bb.size)).size)
  have x2 := Rw.new w15 34 #[.slice A2 nn c2, .slice R2 mm d2, .slice K2 pp q2]
  clear own2 bA b15 r14
  go_upto_region 25 with fail
  generalize w15.alloc (.cells #[.slice A2 nn c2, .slice R2 mm d2, .slice K2 pp q2] 34) = w16 at o0 x0 x1 x2 r6 k6 r9 k9 bb ⊢
  generalize w15.heap.size = s15 at x2 ⊢
  have y0 : w16.cell? ⟨s2, 0, none⟩ = some (.slice A0 nn c0) := x0.cell 0
  have y1 : w16.cell? ⟨s2, 1, none⟩ = some (.slice R0 mm d0) := x0.cell 1
  have y1k : w16.cell? ⟨s2, 2, none⟩ = some (.slice K0 pp q0) := x0.cell 2
  have y4 : w16.cell? ⟨s15, 0, none⟩ = some (.slice A2 nn c2) := x2.cell 0
  have y5 : w16.cell? ⟨s15, 1, none⟩ = some (.slice R2 mm d2) := x2.cell 1
  have y5k : w16.cell? ⟨s15, 2, none⟩ = some (.slice K2 pp q2) := x2.cell 2
  go_wp2_with fail
  refine (eqCounted_any _ _ _ _ _ _ _ _ _ _ _ _ _ _ _ _ _ _ hh hh ct ct _ r9 k9 o0.heap.reads o0.cnts.reads (by omega) (by omega) (by omega) (by omega) (by omega) (by omega) H3.out H3.out).mono ?_
  rw [decide_eq_true (show hh = hh ∧ ct = ct from ⟨rfl, rfl⟩)]
  rintro e w17 ⟨rfl, b17⟩
  replace x1 := x1.keep b17 x1.lt
  replace r6 := r6.up b17
  replace k6 := k6.up b17
  replace bb := bb.trans (b17.mono bb.size)
  clear b17 y0 y1 y1k y4 y5 y5k o0 x0 x2 r9 k9
  have y2 : w17.cell? ⟨s5, 0, none⟩ = some (.slice A1 nn c1) := x1.cell 0
  have y3 : w17.cell? ⟨s5, 1, none⟩ = some (.slice R1 mm d1) := x1.cell 1
  have y3k : w17.cell? ⟨s5, 2, none⟩ = some (.slice K1 pp q1) := x1.cell 2
  go_wp2_with fail
  refine (heldCounted_any _ _ _ _ _ _ _ _ _ hh _ _ r6 k6 E0.out E4.out (by omega) (by omega) HSZ.out (by omega)).mono ?_
  rw [HKV.out]
  rintro e w18 ⟨rfl, b18⟩
  have bbf := bb.trans (b18.mono bb.size)
  go_wp2_with fail
  go_ret
  exact ⟨rfl, bbf⟩
end Go.Proofs.YtfgdenmlfloloaaDoor

namespace Go.Proofs.YtfgdenmlfloloaaDoor
open Go.ChangeShapes Go.WideShapes Go.ChangeAt Go.RowKit Go.Deep
set_option maxRecDepth 100000
section
variable {H : Type} {enc : TypeId × Value → H} {P : Program} {W : World}
/-- a slice of structs of four numbers that came in -/
theorem open_fours {t e ti : TypeId} {f0 f1 f2 f3 : Field} {r : Reach} {b0 : Nat} {v : Value} {d : DataW H} {ps : List MemPlace}
    (ht : P.underlying t = some (.slice e)) (he : P.underlying e = some (.struct #[f0, f1, f2, f3])) (ce : P.cellsOf e = 4)
    (t0 : f0.type = ti) (t1 : f1.type = ti) (t2 : f2.type = ti) (t3 : f3.type = ti) (o0 : f0.offset = 0) (o1 : f1.offset = 1) (o2 : f2.offset = 2) (o3 : f3.offset = 3)
    (hti : P.underlying ti = some (.int .i64)) (ci : P.cellsOf ti = 1)
    (hval : Value.okWide P W r b0 t v) (h : DataW.Trod enc P W 0 (fun _ => true) true t v d ps) (hlt : ∀ x ∈ ps, x.block < W.heap.size) :
    ∃ (A : Option Addr) (n c : Nat) (l : List Cm), v = .slice A n c ∧ n ≤ 9223372036854775807 ∧ MS W W.heap.size A n l := by
  obtain ⟨A, n, c, rfl⟩ := okWide_slice ht hval
  obtain ⟨fuel, hf⟩ := h
  rcases open_slice ht hf with ⟨h0, _⟩ | ⟨a, len, cap, m, n', D, Pl, hcs, hb, hl, hm, hmm, hx, hi⟩
  · simp [Value.cells] at h0
    obtain ⟨rfl, rfl, rfl⟩ := h0
    exact ⟨none, 0, 0, [], rfl, by omega, MS.none_ _ _ _⟩
  · simp [Value.cells] at hcs
    obtain ⟨rfl, rfl, rfl⟩ := hcs
    simp only [if_true] at hmm
    subst hmm
    have each : ∀ i, i < n → ∃ x : Cm, W.cell? (a.add (i * 4)) = some (.int .i64 x.op) ∧ W.cell? (a.add (i * 4 + 1)) = some (.int .i64 x.a) ∧ W.cell? (a.add (i * 4 + 2)) = some (.int .i64 x.b) ∧ W.cell? (a.add (i * 4 + 3)) = some (.int .i64 x.c) := by
      intro i hin
      obtain ⟨cs', h1, h2⟩ := hi i (by omega)
      rw [ce] at h1
      obtain ⟨_, hlen, hcell⟩ := World.cells?_some h1
      obtain ⟨ys, k, _, _, _, hyl, hfd⟩ := DataW.trod_struct he h2
      match cs', hlen with
      | [v0, v1, v2, v3], _ =>
        have g0 := hfd 0 f0 rfl
        have g1 := hfd 1 f1 rfl
        have g2 := hfd 2 f2 rfl
        have g3 := hfd 3 f3 rfl
        rw [t0, o0, ci] at g0
        rw [t1, o1, ci] at g1
        rw [t2, o2, ci] at g2
        rw [t3, o3, ci] at g3
        rw [List.getElem?_eq_getElem (by rw [hyl]; simp)] at g0 g1 g2 g3
        obtain ⟨n0, e0, _, _⟩ := DataW.trod_int hti g0
        obtain ⟨n1, e1, _, _⟩ := DataW.trod_int hti g1
        obtain ⟨n2, e2, _, _⟩ := DataW.trod_int hti g2
        obtain ⟨n3, e3, _, _⟩ := DataW.trod_int hti g3
        simp at e0 e1 e2 e3
        subst e0 e1 e2 e3
        have q0 := hcell 0 (by omega)
        have q1 := hcell 1 (by omega)
        have q2 := hcell 2 (by omega)
        have q3 := hcell 3 (by omega)
        rw [add_add] at q0 q1 q2 q3
        exact ⟨⟨n0, n1, n2, n3⟩, by simpa using q0, by simpa using q1, by simpa using q2, by simpa using q3⟩
    obtain ⟨F, hF⟩ := choose_lt each
    refine ⟨some a, n, _, (List.range n).map F, rfl, by unfold maxLen at hm; omega, by simp, fun hn => ?_⟩
    have h0 := (hF 0 hn).1
    simp [Addr.add] at h0
    have ha := addr_of_cell h0
    have hblt : a.block < W.heap.size := by
      apply hlt (.cell a.block a.off)
      have hps := congrArg Prod.snd hx
      simp only [] at hps
      rw [hps, ce]
      apply List.mem_append_left
      rw [ha]
      simp [MemPlace.row]
      omega
    refine ⟨a.block, a.off, by rw [← ha], hblt, fun j u hj => ?_⟩
    have hjl := (List.getElem?_eq_some_iff.1 hj).1
    rw [flatM_length] at hjl
    simp only [List.length_map, List.length_range] at hjl
    have hk : j / 4 < n := by omega
    have hx : ((List.range n).map F)[j / 4]? = some (F (j / 4)) := by
      rw [List.getElem?_map, List.getElem?_range hk]
      rfl
    obtain ⟨f0, f1, f2, f3⟩ := flatM_at _ _ _ hx
    obtain ⟨q0, q1, q2, q3⟩ := hF (j / 4) hk
    rw [ha, add_none] at q0 q1 q2 q3
    rcases (show j = j / 4 * 4 ∨ j = j / 4 * 4 + 1 ∨ j = j / 4 * 4 + 2 ∨ j = j / 4 * 4 + 3 by omega) with e | e | e | e
    · rw [← e] at f0 q0
      rw [f0] at hj
      rw [← Option.some.inj hj]
      exact q0
    · rw [← e] at f1 q1
      rw [f1] at hj
      rw [← Option.some.inj hj]
      exact q1
    · rw [← e] at f2 q2
      rw [f2] at hj
      rw [← Option.some.inj hj]
      exact q2
    · rw [← e] at f3 q3
      rw [f3] at hj
      rw [← Option.some.inj hj]
      exact q3
end
theorem open_lawsCommands {H : Type} {enc : TypeId × Value → H} {W : World} {r : Reach} {base : Nat} {v : Value} {d : DataW H} {ps : List MemPlace} (hval : Value.okWide Tryd.prog W r base 64 v) (h : DataW.Trod enc Tryd.prog W 0 (fun _ => true) true 64 v d ps) (hlt : ∀ x ∈ ps, x.block < W.heap.size) :
    ∃ (A : Option Addr) (n c : Nat) (l : List Cm), v = .slice A n c ∧ n ≤ 9223372036854775807 ∧ MS W W.heap.size A n l :=
  open_fours (e := 58) (ti := 3) Tryd.underlying64 Tryd.underlying58 (by kernel_rfl) rfl rfl rfl rfl rfl rfl rfl rfl Tryd.underlying3 (by kernel_rfl) hval h hlt
end Go.Proofs.YtfgdenmlfloloaaDoor

namespace Go.Proofs.YtfgdenmlfloloaaDoor
open Go.ChangeShapes Go.WideShapes Go.ChangeAt Go.RowKit Go.Deep
theorem var_ltU {P : Program} {W : World} {n : String} {g : Nat} {cs : Array Value} (hg : P.globalNamed n = some g) (h : W.var? P n = some cs) : g < W.heap.size := by
  unfold World.var? at h
  simp only [hg, Option.bind_some] at h
  split at h
  · next h2 => exact (Array.getElem?_eq_some_iff.1 h2).1
  · cases h
theorem gTz : Tryd.prog.globalNamed "math/bits.deBruijn64tab" = some 0 := by kernel_rfl
theorem tab_cast : ∀ i : Nat, i < 64 → ([0, 1, 56, 2, 57, 49, 28, 3, 61, 58, 42, 50, 38, 29, 17, 4, 62, 47, 59, 36, 45, 43, 51, 22, 53, 39, 33, 30, 24, 18, 12, 5, 63, 55, 48, 27, 60, 41, 37, 16, 46, 35, 44, 21, 52, 32, 23, 11, 54, 26, 40, 15, 34, 20, 31, 10, 25, 14, 19, 9, 13, 8, 7, 6] : List Int).getD i 0 = (Lib.deBruijn64tab.getD i 0 : Nat) := by decide +kernel
theorem tzT_of_laid {W : World} (h : laidMetH Tryd.prog [("math/bits.deBruijn64tab", Rows.laid_math_bits_deBruijn64tab)] W) : TzT W := by
  rw [MakeChecks.laidMetH_plain _ _ _ (by kernel_rfl)] at h
  have hT : Lib.TabIs Tryd.prog W "math/bits.deBruijn64tab" .u8 [0, 1, 56, 2, 57, 49, 28, 3, 61, 58, 42, 50, 38, 29, 17, 4, 62, 47, 59, 36, 45, 43, 51, 22, 53, 39, 33, 30, 24, 18, 12, 5, 63, 55, 48, 27, 60, 41, 37, 16, 46, 35, 44, 21, 52, 32, 23, 11, 54, 26, 40, 15, 34, 20, 31, 10, 25, 14, 19, 9, 13, 8, 7, 6] :=
    Lib.tabIs_of_head (k := .u8) (zs := [0, 1, 56, 2, 57, 49, 28, 3, 61, 58, 42, 50, 38, 29, 17, 4, 62, 47, 59, 36, 45, 43, 51, 22, 53, 39, 33, 30, 24, 18, 12, 5, 63, 55, 48, 27, 60, 41, 37, 16, 46, 35, 44, 21, 52, 32, 23, 11, 54, 26, 40, 15, 34, 20, 31, 10, 25, 14, 19, 9, 13, 8, 7, 6]) (rest := []) (n := 64) (t := 156) (e := 5) gTz (by kernel_rfl) Tryd.underlying156 Tryd.underlying5 (by kernel_rfl) (by kernel_rfl) h
  exact ⟨var_ltU gTz hT, fun i hi => by
    rw [← tab_cast i hi]
    exact hT.cell gTz i (by simpa using hi)⟩
/-- the door's own heap meets the condition -/
theorem door_tz (os : Os) (args : Array Value) : laidMetH Tryd.prog [("math/bits.deBruijn64tab", Rows.laid_math_bits_deBruijn64tab)] ((World.doorLaid Tryd.prog 14 os).forCall (fun _ _ => 0) ⟨#[], args, []⟩).memory :=
  laidMetH_of_parts3 (fuel := 8) (laidMet_of_run' 8 (by kernel_rfl) (by kernel_rfl)) (by kernel_rfl) (by kernel_rfl)
end Go.Proofs.YtfgdenmlfloloaaDoor

