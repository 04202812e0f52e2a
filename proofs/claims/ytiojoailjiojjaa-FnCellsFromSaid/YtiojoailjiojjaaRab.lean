/- For every list of bytes the law FnCellsFrom returns true (P60), over the program's contracts. No conditions. -/
import Derived.Test.YtiojoailjiojjaaRi
import Derived.Test.YtiojoailjiojjaaRo
import Derived.Test.YtiojoailjiojjaaRe
namespace Go.Proofs.Ytiojoailjiojjaa
open Go.RowKit
set_option maxRecDepth 100000

set_option maxHeartbeats 8000000 in
theorem cellsFromLaw_walk (A0 : Option Addr) (n0 c0 : Nat) (w : World) (hby : Bytes w w.heap.size A0 n0) (hc0 : n0 ≤ c0) (hn0 : n0 ≤ 9223372036854775807) :
    Calls Try.prog 4 #[.slice A0 n0 c0] w fun e w' => e = .returned (.bool true) ∧ Below w.heap.size w w' := by
  by_cases hs : n0 ≤ 1048576
  case neg =>
    have hs' : (1048576 : Int) < (n0 : Int) := by omega
    go_enter Try.func4, Try.ntmps4
    go_wp2
    go_ret
    exact ⟨rfl, Below.refl _ _⟩
  have hs' : decide ((1048576 : Int) < (n0 : Int)) = false := by simp; omega
  go_enter Try.func4, Try.ntmps4
  go_wp2_with fail
  refine (drawCellsFrom_any _ _ _ _ hby hc0 hn0).mono ?_
  rintro e w1 ⟨A, nn, c, R, m, d, h, x, rfl, hnc, hmd, hsr, hsm, b1⟩
  have hlc := hsr.cells.1
  have hlr := hsr.roots.1
  have hn41 : nn ≤ 41 := by have := hsm.1; omega
  have hm4 : m ≤ 4 := by have := hsm.2.1; omega
  have bA : Below w1.heap.size w1 (w1.alloc (.cells #[.slice A nn c, .slice R m d] 26)) := (Below.refl _ _).alloc (Nat.le_refl _) _
  have bx := Rw.new w1 26 #[.slice A nn c, .slice R m d]
  replace hsr := hsr.up bA
  have bb := b1.trans (bA.mono b1.size)
  have HLC := Lib.hid hlc
  clear bA b1 hsm hlc hlr hby
  go_upto_region 4 with fail
  generalize w1.alloc (.cells #[.slice A nn c, .slice R m d] 26) = w2 at bx hsr bb ⊢
  generalize w1.heap.size = b at bx ⊢
  have x0 : w2.cell? ⟨b, 0, none⟩ = some (.slice A nn c) := bx.cell 0
  have x1 : w2.cell? ⟨b, 1, none⟩ = some (.slice R m d) := bx.cell 1
  go_wp2_with fail
  refine (cellsFrom_any _ _ _ _ _ _ x h _ hsr (by omega) (by omega) hnc hmd).mono ?_
  rintro e w3 ⟨v1, rfl, o1, b3⟩
  obtain ⟨A1, c1, rfl, -⟩ := o1.form
  replace bx := bx.keep b3 bx.lt
  replace hsr := hsr.up b3
  replace bb := bb.trans (b3.mono bb.size)
  clear x0 x1 b3
  have x0 : w3.cell? ⟨b, 0, none⟩ = some (.slice A nn c) := bx.cell 0
  have x1 : w3.cell? ⟨b, 1, none⟩ = some (.slice R m d) := bx.cell 1
  go_wp2_with fail
  refine (mCellsFrom_any _ _ _ _ _ _ x h _ hsr (by omega) (by omega)).mono ?_
  rintro e w4 ⟨v2, rfl, o2, b3⟩
  obtain ⟨A2, c2, rfl, -⟩ := o2.form
  replace o1 := o1.below b3 (Nat.le_refl _)
  replace bx := bx.keep b3 bx.lt
  replace hsr := hsr.up b3
  replace bb := bb.trans (b3.mono bb.size)
  clear x0 x1 b3
  have hdl : (Hps.fromH h x).length ≤ 41 := by
    rw [Hps.fromH]
    split
    · rw [Hps.reachL_len, HLC.out]; exact hn41
    · simp
  have SF := Lib.hid ((sameFlags_any A1 A2 (Hps.fromH h x).length (Hps.fromH h x).length c1 c2 (Hps.fromH h x) (Hps.fromH h x) w4 o1.reads o2.reads (by omega) (by omega)).mono fun e w' he => (⟨by rw [he.1, decide_eq_true rfl], he.2⟩ : e = .returned (.bool true) ∧ Below w4.heap.size w4 w'))
  by_cases hok : Hps.validH h = true ∧ 0 ≤ x ∧ Hps.usedAt h.cs x.toNat = true
  · obtain ⟨hv, hx0, hu⟩ := hok
    obtain ⟨v, rfl⟩ := Int.eq_ofNat_of_zero_le hx0
    rw [Int.toNat_natCast] at hu
    have hF := Hps.fromH_yes hv hu
    have hR : Hps.reachH h = Hps.reachL h.cs h.rt := by rw [Hps.reachH, hv]; rfl
    have hvn : v < nn := by have := Hps.usedAt_lt hu; have := HLC.out; omega
    have hSl : (Hps.reachL h.cs [(v : Int)]).length = nn := by rw [Hps.reachL_len]; exact HLC.out
    have hRl : (Hps.reachL h.cs h.rt).length = nn := by rw [Hps.reachL_len]; exact HLC.out
    have HSV : Hid ((Hps.reachL h.cs [(v : Int)])[v]? = some true) := Lib.hid ((Hps.reachL_true (by have := HLC.out; omega)).2 (Hps.Rch.self _ _))
    have HCL : Hid (∀ (k j y : Nat) (cl : Cl), h.cs[k]? = some cl → cl.r[j]? = some (y : Int) → y < nn → (Hps.reachL h.cs [(v : Int)])[k]? = some true → (Hps.reachL h.cs [(v : Int)])[y]? = some true) := Lib.hid fun k j y cl h1 h2 h3 h4 => by
      have h5 := (Hps.reachL_some.1 h4).2
      exact Hps.reachL_some.2 ⟨by have := HLC.out; omega, .step h5 h1 (List.mem_of_getElem? h2)⟩
    have HRE : Hid (∀ k : Nat, (Hps.reachL h.cs [(v : Int)])[k]? = some true → (Hps.reachL h.cs h.rt)[v]? = some true → (Hps.reachL h.cs h.rt)[k]? = some true) := Lib.hid fun k h1 h2 => by
      obtain ⟨h3, h4⟩ := Hps.reachL_some.1 h1
      exact Hps.reachL_some.2 ⟨h3, Hps.Rch.then (Hps.reachL_some.1 h2).2 h4⟩
    have HREF : Hid (∀ (k j : Nat) (cl : Cl) (z : Int), h.cs[k]? = some cl → cl.r[j]? = some z → z < nn) := Lib.hid fun k j cl z h1 h2 => by
      have := Hps.okRef_lo (Hps.valid_ref hv h1 h2)
      have := HLC.out
      omega
    have HR3 : Hid (∀ cl ∈ h.cs, cl.r.length ≤ 3) := Lib.hid (Hps.valid_small hv).2.2
    obtain ⟨S, hS⟩ : ∃ S, Hps.reachL h.cs [(v : Int)] = S := ⟨_, rfl⟩
    obtain ⟨T, hT⟩ : ∃ T, Hps.reachL h.cs h.rt = T := ⟨_, rfl⟩
    rw [hS] at hF hSl HSV HCL HRE
    rw [hT] at hR hRl HRE
    rw [hF, hSl] at SF o1 o2
    rw [hF, hSl]
    have HR := Lib.hid hR
    have HRL := Lib.hid hRl
    have hnz : ((nn : Int) == 0) = false := by rw [beq_eq_false_iff_ne]; omega
    have hvn' : (v : Int) < nn := by omega
    clear hv hx0 hu hF hR hSl hRl hS hT o2 hdl
    have x0 : w4.cell? ⟨b, 0, none⟩ = some (.slice A nn c) := bx.cell 0
    have x1 : w4.cell? ⟨b, 1, none⟩ = some (.slice R m d) := bx.cell 1
    go_wp2_with fail
    refine SF.out.mono ?_
    rintro e w5 ⟨rfl, b3⟩
    replace o1 := o1.below b3 (Nat.le_refl _)
    replace bx := bx.keep b3 bx.lt
    replace hsr := hsr.up b3
    replace bb := bb.trans (b3.mono bb.size)
    clear x0 x1 b3 SF
    have x0 : w5.cell? ⟨b, 0, none⟩ = some (.slice A nn c) := bx.cell 0
    have x1 : w5.cell? ⟨b, 1, none⟩ = some (.slice R m d) := bx.cell 1
    go_wp2_with fail
    refine (reachable_any _ _ _ _ _ _ h _ hsr (by omega) (by omega) hnc hmd).mono ?_
    rw [HR.out]
    rintro e w6 ⟨v6, rfl, o6, b3⟩
    obtain ⟨A6, c6, e6, -⟩ := o6.form
    rw [HRL.out] at e6
    subst e6
    replace o1 := o1.below b3 (Nat.le_refl _)
    replace bx := bx.keep b3 bx.lt
    replace hsr := hsr.up b3
    replace bb := bb.trans (b3.mono bb.size)
    clear x0 x1 b3
    have x0 : w6.cell? ⟨b, 0, none⟩ = some (.slice A nn c) := bx.cell 0
    have q1 := o1.reads
    have q6 := o6.reads
    have hcs := hsr.cells
    clear o1 o6 bx
    obtain ⟨gs, os, sv, e1, _, hsv, dsv⟩ := q1.at_ hvn
    subst e1
    rw [HSV.out] at hsv
    obtain rfl := Option.some.inj hsv
    obtain ⟨gt, ot, tv, e1, _, htv, dtv⟩ := q6.at_ hvn
    subst e1
    have HTV := Lib.hid htv
    clear hsv htv
    go_wp2_with fail
    go_loopw [7] (fun i wr => ∃ k : Nat, k ≤ nn ∧ i = .int .i64 k ∧ w6 = wr) (fun i _ => nn - (intOf i).toNat)
    case atStart => exact ⟨0, Nat.zero_le _, rfl, rfl⟩
    case round =>
      obtain ⟨k, hk, rfl, rfl⟩ := hrel
      by_cases hlt : k < nn
      · obtain ⟨g1, o1, dv, e1, _, hdv, d1⟩ := q1.at_ hlt
        injection e1 with e1
        injection e1 with e1a e1b
        subst e1a e1b
        obtain ⟨g6, o6, rv, e1, _, hrv, d6⟩ := q6.at_ hlt
        injection e1 with e1
        injection e1 with e1a e1b
        subst e1a e1b
        obtain ⟨gc, oc, cl, A', m', cc, e1, hgc, hcl, _, _, d3, hmc, hi⟩ := hcs.at_ hlt
        subst e1
        have hlt' : (k : Int) < nn := by omega
        have hge : decide ((k : Int) ≥ (nn : Int)) = false := decide_eq_false (by omega)
        have hm3 : m' ≤ 3 := by have := HR3.out cl (List.mem_of_getElem? hcl); have := hi.1; omega
        cases dv
        · clear hdv hrv hcl
          go_wp2_with fail
          go_loopw [8] (fun i wr => i = .int .i64 0 ∧ w6 = wr) (fun _ _ => 0)
          case atStart => exact ⟨rfl, rfl⟩
          case round =>
            obtain ⟨rfl, rfl⟩ := hrel
            by_cases hm0 : m' = 0
            · subst hm0
              go_wp2_with fail
              go_roundw
              case rel => exact ⟨k + 1, by omega, by go_num, trivial⟩
              case measure => simp [intOf]; omega
            · have hm0' : (0 : Int) < m' := by omega
              go_wp2_with fail
              go_roundw
              case rel => exact ⟨k + 1, by omega, by go_num, trivial⟩
              case measure => simp [intOf]; omega
        · have HND := Lib.hid hdv
          have HCC := Lib.hid hcl
          have HRV := Lib.hid hrv
          clear hdv hrv hcl
          go_wp2_with fail
          go_loopw [8] (fun i wr => ∃ j : Nat, j ≤ m' ∧ i = .int .i64 j ∧ w6 = wr) (fun i _ => m' - (intOf i).toNat)
          case atStart => exact ⟨0, Nat.zero_le _, rfl, rfl⟩
          case round =>
            obtain ⟨j, hj, rfl, rfl⟩ := hrel
            by_cases hlj : j < m'
            · obtain ⟨gr, or, z, e2, hgr, hz, d0⟩ := hi.at_ hlj
              subst e2
              have hlj' : (j : Int) < m' := by omega
              have hzn := HREF.out k j cl z HCC.out hz
              by_cases hz0 : 0 ≤ z
              · obtain ⟨y, rfl⟩ := Int.eq_ofNat_of_zero_le hz0
                obtain ⟨g9, o9, bv, e9, _, hbv, d9⟩ := q1.at_ (k := y) (by omega)
                injection e9 with e9
                injection e9 with e9a e9b
                subst e9a e9b
                rw [HCL.out k j y cl HCC.out hz (by omega) HND.out] at hbv
                obtain rfl := Option.some.inj hbv
                have hyge : decide ((y : Int) ≥ 0) = true := decide_eq_true (by omega)
                clear hz hbv hz0
                go_wp2_with fail
                go_roundw
                case rel => exact ⟨j + 1, by omega, by go_num, trivial⟩
                case measure => simp [intOf]; omega
              · have hz1 : decide (z ≥ 0) = false := decide_eq_false (by omega)
                clear hz hz0
                go_wp2_with fail
                go_roundw
                case rel => exact ⟨j + 1, by omega, by go_num, trivial⟩
                case measure => simp [intOf]; omega
            · obtain rfl : j = m' := by omega
              cases tv
              · go_wp2_with fail
                go_roundw
                case rel => exact ⟨k + 1, by omega, by go_num, trivial⟩
                case measure => simp [intOf]; omega
              · have hrt := HRE.out k HND.out HTV.out
                rw [HRV.out] at hrt
                obtain rfl := Option.some.inj hrt
                clear hrt
                go_wp2_with fail
                go_roundw
                case rel => exact ⟨k + 1, by omega, by go_num, trivial⟩
                case measure => simp [intOf]; omega
      · obtain rfl : k = nn := by omega
        go_wp2_with fail
        go_ret
        exact ⟨rfl, bb⟩
  · have hD := Hps.fromH_no hok
    rw [hD] at SF o1 o2
    rw [hD]
    rw [show ([] : List Bool).length = 0 from rfl] at SF ⊢
    clear hok hD
    go_wp2_with fail
    refine SF.out.mono ?_
    rintro e w5 ⟨rfl, b3⟩
    replace bb := bb.trans (b3.mono bb.size)
    clear SF o1 o2
    go_wp2_with fail
    refine (alive_any _).mono ?_
    rintro e w6 ⟨rfl, b6⟩
    go_wp2_with fail
    go_ret
    exact ⟨rfl, bb.trans (b6.mono bb.size)⟩
end Go.Proofs.Ytiojoailjiojjaa
