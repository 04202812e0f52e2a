/- For every list of bytes the law FnTrialCounts returns true (P59), over the program's contracts. No conditions. -/
import Derived.Test.YtiojoailjiojjaaRh
import Derived.Test.YtiojoailjiojjaaRq
import Derived.Test.YtiojoailjiojjaaRd
import Derived.Deep.Cut
namespace Go.Proofs.Ytiojoailjiojjaa
open Go.RowKit
set_option maxRecDepth 100000

namespace Hps
/-- which of the first k cells are used -/
def usedB (cs : List Cl) (k : Nat) : List Bool := (List.range k).map (usedAt cs)
theorem usedB_len (cs : List Cl) (k : Nat) : (usedB cs k).length = k := by simp [usedB]
theorem usedB_succ (cs : List Cl) (k : Nat) : usedB cs (k + 1) = usedB cs k ++ [usedAt cs k] := by simp [usedB, List.range_succ]
theorem usedB_at {cs : List Cl} {k n : Nat} (h : k < n) : (usedB cs n)[k]? = some (usedAt cs k) := by simp [usedB, h]
theorem usedB_ok {h : Hp} : okSet h (usedB h.cs h.cs.length) = true := by
  refine okSet_iff.2 ⟨usedB_len _ _, fun k hk => ?_⟩
  have hl := (List.getElem?_eq_some_iff.1 hk).1
  rw [usedB_len] at hl
  rw [usedB_at hl] at hk
  exact Option.some.inj hk
theorem trialH_cases (h : Hp) (s : List Bool) : trialH h s = [] ∨ (validH h = true ∧ okSet h s = true ∧ trialH h s = trialL h s) := by
  unfold trialH
  by_cases q : (validH h && okSet h s) = true
  · rw [if_pos q]
    rw [Bool.and_eq_true] at q
    exact .inr ⟨q.1, q.2, rfl⟩
  · rw [if_neg q]
    exact .inl rfl
end Hps

set_option maxHeartbeats 8000000 in
theorem trialCountsLaw_walk (A0 : Option Addr) (n0 c0 : Nat) (w : World) (hby : Bytes w w.heap.size A0 n0) (hc0 : n0 ≤ c0) (hn0 : n0 ≤ 9223372036854775807) :
    Calls Try.prog 3 #[.slice A0 n0 c0] w fun e w' => e = .returned (.bool true) ∧ Below w.heap.size w w' := by
  by_cases hs : n0 ≤ 1048576
  case neg =>
    have hs' : (1048576 : Int) < (n0 : Int) := by omega
    go_enter Try.func3, Try.ntmps3
    go_wp2
    go_ret
    exact ⟨rfl, Below.refl _ _⟩
  have hs' : decide ((1048576 : Int) < (n0 : Int)) = false := by simp; omega
  go_enter Try.func3, Try.ntmps3
  go_wp2_with fail
  refine (drawTrialCounts_any _ _ _ _ hby hc0 hn0).mono ?_
  rintro e w1 ⟨A, nn, c, R, m, d, F, q, qe, h, bs, rfl, hnc, hmd, hq, hsr, hos, hsm, b1⟩
  have hlc := hsr.cells.1
  have hn41 : nn ≤ 41 := by have := hsm.1; omega
  have hm4 : m ≤ 4 := by have := hsm.2.1; have := hsr.roots.1; omega
  have bA : Below w1.heap.size w1 (w1.alloc (.cells #[.slice A nn c, .slice R m d] 26)) := (Below.refl _ _).alloc (Nat.le_refl _) _
  have bx := Rw.new w1 26 #[.slice A nn c, .slice R m d]
  replace hsr := hsr.up bA
  replace hos := hos.up bA
  have bb := b1.trans (bA.mono b1.size)
  have HLC := Lib.hid hlc
  clear bA b1 hsm hlc hby
  go_upto_region 4 with fail
  generalize w1.alloc (.cells #[.slice A nn c, .slice R m d] 26) = w2 at bx hsr hos bb ⊢
  generalize w1.heap.size = b at bx ⊢
  have x0 : w2.cell? ⟨b, 0, none⟩ = some (.slice A nn c) := bx.cell 0
  have x1 : w2.cell? ⟨b, 1, none⟩ = some (.slice R m d) := bx.cell 1
  go_wp2_with fail
  refine (trialCounts_any _ _ _ _ _ _ _ _ _ h bs _ hsr hos (by omega) (by omega) (by omega) hnc hmd).mono ?_
  rintro e w3 ⟨v1, rfl, o1, b3⟩
  obtain ⟨A1, c1, rfl, -⟩ := o1.form
  replace bx := bx.keep b3 bx.lt
  replace hsr := hsr.up b3
  replace hos := hos.up b3
  replace bb := bb.trans (b3.mono bb.size)
  clear x0 x1 b3
  have x0 : w3.cell? ⟨b, 0, none⟩ = some (.slice A nn c) := bx.cell 0
  have x1 : w3.cell? ⟨b, 1, none⟩ = some (.slice R m d) := bx.cell 1
  go_wp2_with fail
  refine (mTrialCounts_any _ _ _ _ _ _ _ _ _ h bs _ hsr hos (by omega) (by omega) (by omega)).mono ?_
  rintro e w4 ⟨v2, rfl, o2, b3⟩
  obtain ⟨A2, c2, rfl, -⟩ := o2.form
  replace o1 := o1.below b3 (Nat.le_refl _)
  replace bx := bx.keep b3 bx.lt
  replace hsr := hsr.up b3
  replace hos := hos.up b3
  replace bb := bb.trans (b3.mono bb.size)
  clear x0 x1 b3
  have hdl : (Hps.trialH h bs).length ≤ 41 := by
    rcases Hps.trialH_cases h bs with e | ⟨_, _, e⟩
    · rw [e]; simp
    · rw [e, Hps.trialL_len, HLC.out]; exact hn41
  have SF := Lib.hid ((sameInts_any A1 A2 (Hps.trialH h bs).length (Hps.trialH h bs).length c1 c2 (Hps.trialH h bs) (Hps.trialH h bs) w4 o1.reads o2.reads (by omega) (by omega)).mono fun e w' he => (⟨by rw [he.1, decide_eq_true rfl], he.2⟩ : e = .returned (.bool true) ∧ Below w4.heap.size w4 w'))
  by_cases hne : Hps.trialH h bs = []
  · rw [hne] at SF o1 o2
    rw [hne]
    rw [show ([] : List Int).length = 0 from rfl] at SF ⊢
    clear hne
    go_wp2_with fail
    refine SF.out.mono ?_
    rintro e w5 ⟨rfl, b3⟩
    replace bb := bb.trans (b3.mono bb.size)
    clear SF o1 o2
    go_wp2_with fail
    refine (alive_any _).mono ?_
    rintro e w6 ⟨rfl, b6⟩
    go_wp2_with fail
    go_ret
    exact ⟨rfl, bb.trans (b6.mono bb.size)⟩
  · obtain ⟨hv, hok, hE⟩ : Hps.validH h = true ∧ Hps.okSet h bs = true ∧ Hps.trialH h bs = Hps.trialL h bs := by
      rcases Hps.trialH_cases h bs with e | e
      · exact absurd e hne
      · exact e
    have hqn : q = nn := by have := (Hps.okSet_iff.1 hok).1; have := hos.1; have := HLC.out; omega
    have hnn0 : 0 < nn := by
      rcases Nat.eq_zero_or_pos nn with e | e
      · exfalso
        apply hne
        rw [hE]
        apply List.eq_nil_of_length_eq_zero
        rw [Hps.trialL_len, HLC.out]
        exact e
      · exact e
    subst hqn
    have hTl : (Hps.trialL h bs).length = q := by rw [Hps.trialL_len, HLC.out]
    have HCNT := Lib.hid (show Hps.countsH h = Hps.countsL h by rw [Hps.countsH, hv]; rfl)
    have HCL := Lib.hid (show (Hps.countsL h).length = q by rw [Hps.countsL_eq, Hps.cntN_len, HLC.out])
    have HU := Lib.hid (show Hps.trialH h (Hps.usedB h.cs q) = Hps.trialL h (Hps.usedB h.cs q) by
      have := Hps.usedB_ok (h := h)
      rw [HLC.out] at this
      rw [Hps.trialH, hv, this]
      rfl)
    have HUL := Lib.hid (show (Hps.trialL h (Hps.usedB h.cs q)).length = q by rw [Hps.trialL_len, HLC.out])
    have HTA : Hid (∀ (k : Nat) (z cv : Int), k < q → (Hps.trialL h bs)[k]? = some z → (Hps.countsL h)[k]? = some cv → (bs[k]? = some true → 0 ≤ z ∧ z ≤ cv) ∧ (bs[k]? = some false → z = -1)) := Lib.hid fun k z cv hk hz hc => by
      rw [Hps.trialL_at (by rw [HLC.out]; exact hk)] at hz
      have hz := Option.some.inj hz
      rw [Hps.countsL_eq, ← Hps.refsTo_all, Hps.cntN_at _ (by rw [HLC.out]; exact hk), Hps.refsTo_all] at hc
      have hc := Option.some.inj hc
      refine ⟨fun hb => ?_, fun hb => ?_⟩
      · have := Hps.trial_le (h := h) hb
        omega
      · have := Hps.trial_not (h := h) (s := bs) (k := k) (by rw [hb]; simp)
        omega
    have HTU : Hid (∀ (k : Nat) (z : Int), k < q → (Hps.trialL h (Hps.usedB h.cs q))[k]? = some z → Hps.usedAt h.cs k = true → z = ((h.rt.count (k : Int) : Nat) : Int)) := Lib.hid fun k z hk hz hu => by
      rw [Hps.trialL_at (by rw [HLC.out]; exact hk)] at hz
      rw [← Option.some.inj hz]
      refine Hps.trial_all hv (fun j hj => ?_) ?_
      · have := Hps.usedAt_lt hj
        rw [Hps.usedB_at (by have := HLC.out; omega), hj]
      · rw [Hps.usedB_at hk, hu]
    have hm4' : m = 4 := by have := (Hps.valid_small hv).2.1; have := hsr.roots.1; omega
    have HM4 := Lib.hid hm4'
    rw [hE, hTl] at SF o1
    rw [hE, hTl]
    have HOL := Lib.hid hos.1
    have hnz : ((q : Int) == 0) = false := by rw [beq_eq_false_iff_ne]; omega
    clear hne hv hok hE hTl hm4' o2 hdl hm4
    have x0 : w4.cell? ⟨b, 0, none⟩ = some (.slice A q c) := bx.cell 0
    have x1 : w4.cell? ⟨b, 1, none⟩ = some (.slice R m d) := bx.cell 1
    go_wp2_with fail
    refine SF.out.mono ?_
    rintro e w5 ⟨rfl, b3⟩
    replace o1 := o1.below b3 (Nat.le_refl _)
    replace bx := bx.keep b3 bx.lt
    replace hsr := hsr.up b3
    replace hos := hos.up b3
    replace bb := bb.trans (b3.mono bb.size)
    clear x0 x1 b3 SF
    have x0 : w5.cell? ⟨b, 0, none⟩ = some (.slice A q c) := bx.cell 0
    have x1 : w5.cell? ⟨b, 1, none⟩ = some (.slice R m d) := bx.cell 1
    go_wp2_with fail
    refine (refCounts_any _ _ _ _ _ _ h _ hsr (by omega) (by have := HM4.out; omega) hnc hmd).mono ?_
    rw [HCNT.out]
    rintro e w6 ⟨v6, rfl, o6, b3⟩
    obtain ⟨A6, c6, e6, -⟩ := o6.form
    rw [HCL.out] at e6
    subst e6
    replace o1 := o1.below b3 (Nat.le_refl _)
    replace bx := bx.keep b3 bx.lt
    replace hsr := hsr.up b3
    replace hos := hos.up b3
    replace bb := bb.trans (b3.mono bb.size)
    clear x0 x1 b3
    have q1 := o1.reads
    have q6 := o6.reads
    have x0 : w6.cell? ⟨b, 0, none⟩ = some (.slice A q c) := bx.cell 0
    have oz := own_noneO w6 w6.heap.size (Nat.le_refl _)
    have HZ0 := Lib.hid (show ([] : List Bool) = Hps.usedB h.cs 0 from rfl)
    rw [HZ0.out] at oz
    have bz : Below w6.heap.size w6 (w6.alloc (.cells #[] 4)) := (Below.refl _ _).alloc (Nat.le_refl _) _
    clear o1 o6
    go_wp2_with fail
    go_loopw [7, 8] (fun av i wr => ∃ k : Nat, k ≤ q ∧ i = .int .i64 k ∧ OwnO wr w6.heap.size av (Hps.usedB h.cs k) ∧ Below w6.heap.size w6 wr) (fun _ i _ => q - (intOf i).toNat)
    case atStart => exact ⟨0, Nat.zero_le _, rfl, oz, bz⟩
    case round =>
      clear oz bz x0
      obtain ⟨k, hk, rfl, oo, bbl⟩ := hrel
      obtain ⟨Ao, co, eo, _⟩ := oo.form
      rw [Hps.usedB_len] at eo
      subst eo
      have bxr := bx.keep bbl bx.lt
      have x0 : wr.cell? ⟨b, 0, none⟩ = some (.slice A q c) := bxr.cell 0
      have x1 : wr.cell? ⟨b, 1, none⟩ = some (.slice R m d) := bxr.cell 1
      by_cases hlt : k < q
      · obtain ⟨gc, oc, cl, A', m', cc, rfl, hgc, hcl, d1, d2, d3, hmc, hi⟩ := (hsr.cells.below bbl).at_ hlt
        have HUB := Lib.hid (show Hps.usedB h.cs (k + 1) = Hps.usedB h.cs k ++ [cl.u] by rw [Hps.usedB_succ]; congr 2; rw [Hps.usedAt, hcl])
        obtain ⟨bu, hbu⟩ : ∃ bu, cl.u = bu := ⟨_, rfl⟩
        rw [hbu] at d1 HUB
        have hlt' : (k : Int) < q := by omega
        have oa := World.ownsRow.alloc oo (.cells #[.bool bu] 4)
        have rr : OS (wr.alloc (.cells #[.bool bu] 4)) (wr.alloc (.cells #[.bool bu] 4)).heap.size (some ⟨wr.heap.size, 0, none⟩) 1 [bu] := (own_oneO wr bu 0 (Nat.zero_le _)).reads
        have hsz : w6.heap.size ≤ (wr.alloc (.cells #[.bool bu] 4)).heap.size := by have := bbl.size; simp; omega
        have ba := bbl.alloc bbl.size (.cells #[.bool bu] 4)
        have hul : (Hps.usedB h.cs k).length + 1 ≤ 1099511627776 := by rw [Hps.usedB_len]; omega
        clear hcl hbu
        go_wp2_with (at_builtin; refine wpList_appendO rfl (.tmp 44) (.tmp 51) rfl w6.heap.size _ (Hps.usedB h.cs k) rfl oa (some ⟨wr.heap.size, 0, none⟩) 1 1 _ [bu] rfl rr hul hsz ?_; intro v7 w7 o7 g7 _s7)
        have g8 := ba.grown g7 ba.size (fun kk hk => by have := (World.ownsRow.lt oa kk hk).1; omega)
        rw [← HUB.out] at o7
        obtain ⟨A7, c7, e7, _⟩ := o7.form
        rw [Hps.usedB_len] at e7
        subst e7
        have O7 := Lib.hid o7
        obtain ⟨gf, of_, b1, rfl, hgf, hb1, f1⟩ := (hos.below g8).at_ hlt
        obtain ⟨gz, oz, z, rfl, hgz, hz, f2⟩ := (q1.below g8).at_ hlt
        obtain ⟨gv, ov, cv, rfl, hgv, hcv, f3⟩ := (q6.below g8).at_ hlt
        obtain ⟨hT, hF⟩ := HTA.out k z cv hlt hz hcv
        have G8 := Lib.hid g8
        have j1 : decide ((k : Int) ≥ (q : Int)) = false := decide_eq_false (by omega)
        have j2 : decide ((q : Int) ≤ (k : Int)) = false := decide_eq_false (by omega)
        have j3 : decide (q ≤ k) = false := decide_eq_false (by omega)
        have j4 : decide ((k : Int) < 0) = false := decide_eq_false (by omega)
        cases b1
        · have hz1 := hF hb1
          subst hz1
          clear hT hF hb1 hz hcv oo bbl bxr oa rr ba g8 o7 hmc hi d3 d2 d1 g7
          go_wp2_with fail
          go_big_quiet (fail)
          go_wp2_with fail
          go_roundw
          case rel => exact ⟨k + 1, by omega, by go_num, O7.out.below (below_drewN (Below.refl _ _) _) (Nat.le_refl _), below_drewN G8.out _⟩
          case measure => simp [intOf]; omega
        · obtain ⟨hz1, hz2⟩ := hT hb1
          have k1 : decide (z < 0) = false := decide_eq_false (by omega)
          have k2 : decide (z > cv) = false := decide_eq_false (by omega)
          have k3 : decide (cv < z) = false := decide_eq_false (by omega)
          clear hT hF hb1 hz hcv oo bbl bxr oa rr ba g8 o7 hmc hi d3 d2 d1 g7 hz1 hz2
          go_wp2_with fail
          go_big_quiet (fail)
          go_wp2_with fail
          go_roundw
          case rel => exact ⟨k + 1, by omega, by go_num, O7.out.below (below_drewN (Below.refl _ _) _) (Nat.le_refl _), below_drewN G8.out _⟩
          case measure => simp [intOf]; omega
      · obtain rfl : k = q := by omega
        replace hsr := hsr.up bbl
        replace bb := bb.trans (bbl.mono bb.size)
        have hol := oo.reads
        clear bx bbl oo q1 q6 hos
        generalize wr = w7 at *
        go_wp2_with fail
        refine (trialCounts_any _ _ _ _ _ _ _ _ _ h (Hps.usedB h.cs k) _ hsr hol (by omega) (by have := HM4.out; omega) (by omega) hnc hmd).mono ?_
        rw [HU.out]
        rintro e w8 ⟨v9, rfl, o9, b3⟩
        obtain ⟨A9, c9, e9, -⟩ := o9.form
        rw [HUL.out] at e9
        subst e9
        have q9 := o9.reads
        replace bxr := bxr.keep b3 bxr.lt
        replace hsr := hsr.up b3
        replace hol := hol.up b3
        replace bb := bb.trans (b3.mono bb.size)
        clear x0 x1 b3 o9
        go_wp2_with fail
        go_loopw [10] (fun i wr => ∃ k' : Nat, k' ≤ k ∧ i = .int .i64 k' ∧ Below w8.heap.size w8 wr) (fun i _ => k - (intOf i).toNat)
        case atStart => exact ⟨0, Nat.zero_le _, rfl, Below.refl _ _⟩
        case round =>
          obtain ⟨i, hi, rfl, hb⟩ := hrel
          have bx2 := bxr.keep hb bxr.lt
          have x0 : wr.cell? ⟨b, 0, none⟩ = some (.slice A k c) := bx2.cell 0
          have x1 : wr.cell? ⟨b, 1, none⟩ = some (.slice R m d) := bx2.cell 1
          by_cases hlt : i < k
          · have hlt' : (i : Int) < k := by omega
            obtain ⟨gf, of_, u, rfl, hgf, hu, f1⟩ := (hol.below hb).at_ hlt
            obtain ⟨gz, oz, z, rfl, hgz, hz, f2⟩ := (q9.below hb).at_ hlt
            have hu2 : Hps.usedAt h.cs i = u := by rw [Hps.usedB_at hlt] at hu; exact Option.some.inj hu
            have HZT := Lib.hid (HTU.out i z hlt hz)
            have hro := hsr.roots.below hb
            have HB := Lib.hid hb
            rw [hu2] at HZT
            have hm4 := HM4.out
            clear hu hz hu2 hb
            go_wp2_with fail
            go_loopw [11, 12] (fun nn jv w9 => ∃ j : Nat, j ≤ m ∧ jv = .int .i64 j ∧ nn = .int .i64 (((h.rt.take j).count (i : Int) : Nat) : Int) ∧ wr = w9) (fun _ jv _ => m - (intOf jv).toNat)
            case atStart => exact ⟨0, Nat.zero_le _, rfl, by simp, rfl⟩
            case round =>
              obtain ⟨j, hj, rfl, rfl, rfl⟩ := hrel
              have hcl := Hps.count_le_len (h.rt.take j) (i : Int)
              rw [List.length_take] at hcl
              by_cases hlj : j < m
              · obtain ⟨gr, or, x, e2, hgr, hx, e0⟩ := hro.at_ hlj
                subst e2
                have hlj' : (j : Int) < m := by omega
                have HN := Lib.hid (Hps.cnt_take hx [] i)
                simp only [List.nil_append] at HN
                obtain ⟨ct, hct⟩ : ∃ ct, (h.rt.take j).count (i : Int) = ct := ⟨_, rfl⟩
                have HCT := Lib.hid hct
                rw [hct] at HN hcl
                rw [HCT.out]
                have hwr : IntKind.i64.wrap ((ct : Int) + 1) = (ct : Int) + 1 := IntWalk.i64_in _ (by omega)
                clear hx hct
                by_cases hxk : x = (i : Int)
                · have HN2 := HN.out
                  rw [if_pos hxk] at HN2
                  have HN3 := Lib.hid HN2
                  have hxk' : (x == (i : Int)) = true := by rw [beq_iff_eq]; exact hxk
                  clear HN HN2 hxk
                  go_wp2_with fail
                  go_roundw
                  case rel => exact ⟨j + 1, by omega, by go_num, by rw [HN3.out, show ((ct + 1 : Nat) : Int) = (ct : Int) + 1 by omega], trivial⟩
                  case measure => simp [intOf]; omega
                · have HN2 := HN.out
                  rw [if_neg hxk, Nat.add_zero] at HN2
                  have HN3 := Lib.hid HN2
                  have hxk' : (x == (i : Int)) = false := by rw [beq_eq_false_iff_ne]; exact hxk
                  clear HN HN2 hxk
                  go_wp2_with fail
                  go_roundw
                  case rel => exact ⟨j + 1, by omega, by go_num, by rw [HN3.out] <;> simp, trivial⟩
                  case measure => simp [intOf]; omega
              · obtain rfl : j = m := by omega
                have hlr := hsr.roots.1
                have HJ := Lib.hid (show h.rt.take j = h.rt by rw [List.take_of_length_le (by omega)])
                rw [HJ.out] at hcl ⊢
                obtain ⟨ct, hct⟩ : ∃ ct, h.rt.count (i : Int) = ct := ⟨_, rfl⟩
                have HZT2 := HZT.out
                rw [hct] at HZT2 ⊢
                clear hcl HZT HJ hct hlr
                cases u
                · clear HZT2
                  go_wp2_with fail
                  go_roundw
                  case rel => exact ⟨i + 1, by omega, by go_num, HB.out⟩
                  case measure => simp [intOf]; omega
                · have hz := HZT2 rfl
                  subst hz
                  clear HZT2
                  go_wp2_with fail
                  go_roundw
                  case rel => exact ⟨i + 1, by omega, by go_num, HB.out⟩
                  case measure => simp [intOf]; omega
          · obtain rfl : i = k := by omega
            replace bb := bb.trans (hb.mono bb.size)
            clear hb
            go_wp2_with fail
            go_ret
            exact ⟨rfl, bb⟩
end Go.Proofs.Ytiojoailjiojjaa
