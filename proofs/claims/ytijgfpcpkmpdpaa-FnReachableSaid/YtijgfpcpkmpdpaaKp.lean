/- For every list of bytes the law FnReachable returns true (P44), over the program's contracts. No conditions. -/
import Derived.Test.YtijgfpcpkmpdpaaKo
import Derived.Test.YtijgfpcpkmpdpaaHs
namespace Go.Proofs.Ytijgfpcpkmpdpaa
open Go.RowKit
set_option maxRecDepth 100000

namespace Hps
theorem reach_root {h : Hp} (hv : validH h = true) {k : Nat} {y : Nat} (hk : h.rt[k]? = some (y : Int)) : (reachH h)[y]? = some true := by
  obtain ⟨n, e, hlt, _⟩ := okRef_nat (valid_root hv hk) (by omega)
  have : y = n := by omega
  subst this
  rw [reachH, if_pos hv, reachL_true hlt]
  exact .root (List.mem_of_getElem? hk)
theorem reach_ref {h : Hp} (hv : validH h = true) {k j y : Nat} {c : Cl} (hm : (reachH h)[k]? = some true) (hc : h.cs[k]? = some c) (hj : c.r[j]? = some (y : Int)) : (reachH h)[y]? = some true := by
  obtain ⟨n, e, hlt, _⟩ := okRef_nat (valid_ref hv hc hj) (by omega)
  have : y = n := by omega
  subst this
  rw [reachH, if_pos hv] at hm ⊢
  rw [reachL_true hlt]
  rw [reachL_true (List.getElem?_eq_some_iff.1 hc).1] at hm
  exact .step hm hc (List.mem_of_getElem? hj)
theorem reach_used {h : Hp} (hv : validH h = true) {k : Nat} {c : Cl} (hm : (reachH h)[k]? = some true) (hc : h.cs[k]? = some c) : c.u = true := by
  rw [reachH, if_pos hv, reachL_true (List.getElem?_eq_some_iff.1 hc).1] at hm
  have := hm.live hv
  simpa [usedAt, hc] using this
end Hps

set_option maxRecDepth 100000 in
set_option maxHeartbeats 4000000 in
theorem reachableLaw_walk (A : Option Addr) (n c : Nat) (w : World) (h : Bytes w w.heap.size A n) (hc : n ≤ c) (hn : n ≤ 9223372036854775807) :
    Calls Try.prog 4 #[.slice A n c] w fun e w' => e = .returned (.bool true) ∧ Below w.heap.size w w' := by
  by_cases hs : n ≤ 1048576
  · have hs' : decide ((1048576 : Int) < (n : Int)) = false := by simp; omega
    go_enter Try.func4, Try.ntmps4
    go_wp2_with fail
    refine (drawReachable_any _ _ _ _ h hc hn).mono ?_
    rintro e w1 ⟨A1, nn, c1, R1, m, d1, hh, rfl, hc1, hd1, hsH, hsm, b1⟩
    have hn41 : nn ≤ 41 := by rw [← hsH.cells.1]; exact hsm.1
    have hm4 : m ≤ 4 := by rw [← hsH.roots.1]; exact hsm.2.1
    have bA : Below w1.heap.size w1 (w1.alloc (.cells #[.slice A1 nn c1, .slice R1 m d1] 26)) := (Below.refl _ _).alloc (Nat.le_refl _) _
    have hs2 := hsH.up bA
    have bx := Rw.new w1 26 #[.slice A1 nn c1, .slice R1 m d1]
    have bb := b1.trans (bA.mono b1.size)
    have HSM := Lib.hid hsm
    clear hsH bA hsm b1
    go_upto_region 4 with fail
    generalize w1.alloc (.cells #[.slice A1 nn c1, .slice R1 m d1] 26) = w2 at hs2 bx bb ⊢
    generalize w1.heap.size = b at bx ⊢
    have x0 : w2.cell? ⟨b, 0, none⟩ = some (.slice A1 nn c1) := bx.cell 0
    have x1 : w2.cell? ⟨b, 1, none⟩ = some (.slice R1 m d1) := bx.cell 1
    obtain ⟨xs, hxs⟩ : ∃ xs, Hps.reachH hh = xs := ⟨_, rfl⟩
    have HX := Lib.hid hxs
    clear hxs
    go_wp2_with fail
    refine (reachable_any _ _ _ _ _ _ hh _ hs2 (by omega) (by omega) hc1 hd1).mono ?_
    rw [HX.out]
    rintro e w3 ⟨v, rfl, ov, b3⟩
    obtain ⟨Av, cv, rfl, -⟩ := ov.form
    have bx3 := bx.keep b3 bx.lt
    have hs3 := hs2.up b3
    have bb3 := bb.trans (b3.mono bb.size)
    have y0 : w3.cell? ⟨b, 0, none⟩ = some (.slice A1 nn c1) := bx3.cell 0
    have y1 : w3.cell? ⟨b, 1, none⟩ = some (.slice R1 m d1) := bx3.cell 1
    have hlx : xs.length ≤ 41 := by
      rw [← HX.out, Hps.reachH]
      split
      · rw [Hps.reachL_len]; exact HSM.out.1
      · simp
    have hr3 := ov.reads
    clear hs2 bx x0 x1 ov b3 bb
    go_wp2_with fail
    refine (mReachable_any _ _ _ _ _ _ hh _ hs3 (by omega) (by omega)).mono ?_
    rw [HX.out]
    rintro e w4 ⟨v, rfl, ov4, b4⟩
    obtain ⟨Aw, cw, rfl, -⟩ := ov4.form
    have bx4 := bx3.keep b4 bx3.lt
    have hs4 := hs3.up b4
    have bb4 := bb3.trans (b4.mono bb3.size)
    have hr4 := hr3.up b4
    have hr4' := ov4.reads
    clear hs3 bx3 y0 y1 ov4 b4 bb3 hr3
    go_wp2_with fail
    refine (sameFlags_any _ _ _ _ _ _ xs xs _ hr4 hr4' (by omega) (by omega)).mono ?_
    rw [decide_eq_true rfl]
    rintro e w5 ⟨rfl, b5⟩
    have bx5 := bx4.keep b5 bx4.lt
    have hs5 := hs4.up b5
    have bb5 := bb4.trans (b5.mono bb4.size)
    have hr5 := hr4.up b5
    have y0 : w5.cell? ⟨b, 0, none⟩ = some (.slice A1 nn c1) := bx5.cell 0
    have y1 : w5.cell? ⟨b, 1, none⟩ = some (.slice R1 m d1) := bx5.cell 1
    clear hs4 bx4 hr4' b5 bb4 hr4
    go_wp2_with fail
    refine (mHeapValid_any _ _ _ _ _ _ hh _ hs5 (by omega) (by omega)).mono ?_
    cases hv : Hps.validH hh
    · rintro e w6 ⟨rfl, b6⟩
      have bb6 := bb5.trans (b6.mono bb5.size)
      have hx0 : xs = [] := by rw [← HX.out, Hps.reachH, if_neg (by rw [hv]; simp)]
      subst hx0
      clear HX hv hr5
      go_wp2_with fail
      refine (alive_any _).mono ?_
      rintro e w7 ⟨rfl, b7⟩
      have bb7 := bb6.trans (b7.mono bb6.size)
      go_wp2_with fail
      go_ret
      exact ⟨rfl, bb7⟩
    rintro e w6 ⟨rfl, b6⟩
    have bx6 := bx5.keep b6 bx5.lt
    have hs6 := hs5.up b6
    have bb6 := bb5.trans (b6.mono bb5.size)
    have hr6 := hr5.up b6
    have hxl : xs.length = nn := by rw [← HX.out, Hps.reachH_len hv]; exact hs6.cells.1
    have P1 := Lib.hid (fun (k y : Nat) (hk : hh.rt[k]? = some (y : Int)) => show xs[y]? = some true by rw [← HX.out]; exact Hps.reach_root hv hk)
    have P2 := Lib.hid (fun (k j y : Nat) (cl : Cl) (hm : xs[k]? = some true) (hcl : hh.cs[k]? = some cl) (hj : cl.r[j]? = some (y : Int)) => show xs[y]? = some true by rw [← HX.out] at hm ⊢; exact Hps.reach_ref hv hm hcl hj)
    have P3 := Lib.hid (fun (k : Nat) (cl : Cl) (hm : xs[k]? = some true) (hcl : hh.cs[k]? = some cl) => show cl.u = true by rw [← HX.out] at hm; exact Hps.reach_used hv hm hcl)
    have PR := Lib.hid (fun (k : Nat) (x : Int) (hk : hh.rt[k]? = some x) => show x < nn by have := Hps.okRef_lo (Hps.valid_root hv hk); rw [hs6.cells.1] at this; omega)
    have PC := Lib.hid (fun (k j : Nat) (cl : Cl) (x : Int) (hcl : hh.cs[k]? = some cl) (hk : cl.r[j]? = some x) => show x < nn by have := Hps.okRef_lo (Hps.valid_ref hv hcl hk); rw [hs6.cells.1] at this; omega)
    rw [hxl] at hr6 ⊢
    have HS6 := Lib.hid hs6
    have HR6 := Lib.hid hr6
    have BX := Lib.hid bx6
    clear hv hs5 bx5 b6 bb5 hr5 y0 y1 HX hs6 hr6 bx6 hlx hxl
    go_wp2_with fail
    go_loopw [5] (fun i wr => ∃ k : Nat, k ≤ m ∧ i = .int .i64 k ∧ Below w6.heap.size w6 wr) (fun i _ => m - (intOf i).toNat)
    case atStart => exact ⟨0, Nat.zero_le _, rfl, Below.refl _ _⟩
    case round =>
      obtain ⟨k, hk, rfl, bw⟩ := hrel
      have z0 : wr.cell? ⟨b, 0, none⟩ = some (.slice A1 nn c1) := (BX.out.keep bw BX.out.lt).cell 0
      have z1 : wr.cell? ⟨b, 1, none⟩ = some (.slice R1 m d1) := (BX.out.keep bw BX.out.lt).cell 1
      by_cases hlt : k < m
      · obtain ⟨g, o, x, rfl, hg, hx, e1⟩ := (HS6.out.up bw).roots.at_ hlt
        have hlt' : (k : Int) < m := by omega
        by_cases hx0 : 0 ≤ x
        · obtain ⟨y, rfl⟩ := Int.eq_ofNat_of_zero_le hx0
          have hyn := PR.out k _ hx
          obtain ⟨gx, ox, bl, rfl, hgx, hbl, e2⟩ := (HR6.out.up bw).at_ (k := y) (by omega)
          have hbt := P1.out k y hx
          rw [hbl] at hbt
          injection hbt with hbt
          subst hbt
          have hyn' : (y : Int) < nn := by omega
          clear hx hbl
          go_wp2_with fail
          go_roundw
          case rel => exact ⟨k + 1, by omega, by go_num, bw⟩
          case measure => simp [intOf]; omega
        · have hx0' : decide ((0 : Int) ≤ x) = false := decide_eq_false hx0
          clear hx
          go_wp2_with fail
          go_roundw
          case rel => exact ⟨k + 1, by omega, by go_num, bw⟩
          case measure => simp [intOf]; omega
      · obtain rfl : k = m := by omega
        go_wp2_with fail
        go_loopw [6, 7, 8] (fun i _ _ wr => ∃ k : Nat, k ≤ nn ∧ i = .int .i64 k ∧ Below w6.heap.size w6 wr) (fun i _ _ _ => nn - (intOf i).toNat)
        case atStart => exact ⟨0, Nat.zero_le _, rfl, bw⟩
        case round =>
          clear bw hk hlt z0 z1
          obtain ⟨q, hq, rfl, bw⟩ := hrel
          have z0 : wr.cell? ⟨b, 0, none⟩ = some (.slice A1 nn c1) := (BX.out.keep bw BX.out.lt).cell 0
          have z1 : wr.cell? ⟨b, 1, none⟩ = some (.slice R1 k d1) := (BX.out.keep bw BX.out.lt).cell 1
          by_cases hlt : q < nn
          · obtain ⟨g, o, cl, A', m', cc, rfl, hg, hcl, d1', d2, d3, hmc, hi⟩ := (HS6.out.up bw).cells.at_ hlt
            obtain ⟨gx, ox, bl, rfl, hgx, hbl, e2⟩ := (HR6.out.up bw).at_ hlt
            have hlt' : (q : Int) < nn := by omega
            have hm3 : m' ≤ 3 := by rw [← hi.1]; exact (HSM.out.2.2.1 cl (List.mem_of_getElem? hcl)).1
            have HCL := Lib.hid hcl
            have HBL := Lib.hid hbl
            have HI := Lib.hid hi
            clear hcl hbl hi
            cases bl
            · go_wp2_with fail
              go_loopw [7, 8] (fun i _ wx => i = .int .i64 0 ∧ wx = wr) (fun _ _ _ => 0)
              case atStart => exact ⟨rfl, rfl⟩
              case round =>
                obtain ⟨rfl, rfl⟩ := hrel
                by_cases hz : (0 : Int) < m'
                · go_wp2_with fail
                  go_roundw
                  case rel => exact ⟨q + 1, by omega, by go_num, bw⟩
                  case measure => simp [intOf]; omega
                · have hz' : decide ((0 : Int) < m') = false := decide_eq_false hz
                  go_wp2_with fail
                  go_roundw
                  case rel => exact ⟨q + 1, by omega, by go_num, bw⟩
                  case measure => simp [intOf]; omega
            · have hu := P3.out q cl HBL.out HCL.out
              rw [hu] at d1'
              clear hu
              go_wp2_with fail
              go_loopw [7, 8] (fun i _ wx => ∃ j : Nat, j ≤ m' ∧ i = .int .i64 j ∧ Below wr.heap.size wr wx) (fun i _ _ => m' - (intOf i).toNat)
              case atStart => exact ⟨0, Nat.zero_le _, rfl, Below.refl _ _⟩
              case round =>
                obtain ⟨j, hj, rfl, bx⟩ := hrel
                have hbw := bw.trans (bx.mono bw.size)
                have u0 : wr.cell? ⟨b, 0, none⟩ = some (.slice (some ⟨g, o, none⟩) nn c1) := (BX.out.keep hbw BX.out.lt).cell 0
                have v1 := (bx.cell (p := ⟨g, o + q * 3, none⟩) hg).trans d1'
                have v3 := (bx.cell (p := ⟨g, o + q * 3 + 2, none⟩) hg).trans d3
                have v4 := (bx.cell (p := ⟨gx, ox + q, none⟩) hgx).trans e2
                by_cases hlj : j < m'
                · obtain ⟨gr, or, x, rfl, hgr, hx, f1⟩ := (HI.out.below bx).at_ hlj
                  have hlj' : (j : Int) < m' := by omega
                  have hljd : decide ((j : Int) < m') = true := decide_eq_true hlj'
                  by_cases hx0 : 0 ≤ x
                  · obtain ⟨y, rfl⟩ := Int.eq_ofNat_of_zero_le hx0
                    have hyn := PC.out q j cl _ HCL.out hx
                    obtain ⟨gy, oy, by_, ey, hgy, hby, f2⟩ := (HR6.out.up hbw).at_ (k := y) (by omega)
                    injection ey with ey
                    injection ey with ey1 ey2
                    subst ey1 ey2
                    have hbt := P2.out q j y cl HBL.out HCL.out hx
                    rw [hby] at hbt
                    injection hbt with hbt
                    subst hbt
                    have hyn' : (y : Int) < nn := by omega
                    clear hx hby
                    go_wp2_with fail
                    go_roundw
                    case rel => exact ⟨j + 1, by omega, by go_num, bx⟩
                    case measure => simp [intOf]; omega
                  · have hx0' : decide ((0 : Int) ≤ x) = false := decide_eq_false hx0
                    clear hx
                    go_wp2_with fail
                    go_roundw
                    case rel => exact ⟨j + 1, by omega, by go_num, bx⟩
                    case measure => simp [intOf]; omega
                · obtain rfl : j = m' := by omega
                  have hz' : decide ((j : Int) < j) = false := decide_eq_false (by omega)
                  go_wp2_with fail
                  go_roundw
                  case rel => exact ⟨q + 1, by omega, by go_num, hbw⟩
                  case measure => simp [intOf]; omega
          · obtain rfl : q = nn := by omega
            go_wp2_with fail
            go_ret
            exact ⟨rfl, bb6.trans (bw.mono bb6.size)⟩
  · have hs' : (1048576 : Int) < (n : Int) := by omega
    go_enter Try.func4, Try.ntmps4
    go_wp2
    go_ret
    exact ⟨rfl, Below.refl _ _⟩
end Go.Proofs.Ytijgfpcpkmpdpaa
