/- For every list of bytes the law FnRefCounts returns true (P46), over the program's contracts. No conditions. -/
import Derived.Test.YtijgfpcpkmpdpaaKo
import Derived.Test.YtijgfpcpkmpdpaaHs
namespace Go.Proofs.Ytijgfpcpkmpdpaa
open Go.RowKit
set_option maxRecDepth 100000

namespace Hps
/-- how many numbers are at least 0 -/
def posN (xs : List Int) : Nat := xs.countP fun x => decide (0 ≤ x)
theorem posN_append (xs ys : List Int) : posN (xs ++ ys) = posN xs + posN ys := by simp [posN]
theorem posN_le (xs : List Int) : posN xs ≤ xs.length := List.countP_le_length
/-- how often 0 .. k - 1 are among the numbers -/
def cntTo (xs : List Int) : Nat → Nat
  | 0 => 0
  | k + 1 => cntTo xs k + xs.count (k : Int)
theorem cntTo_cons (x : Int) (xs : List Int) : ∀ k, cntTo (x :: xs) k = cntTo xs k + (if 0 ≤ x ∧ x < k then 1 else 0)
  | 0 => by simp [cntTo]
  | k + 1 => by
    simp only [cntTo, cntTo_cons x xs k, List.count_cons]
    by_cases h : x = (k : Int)
    · subst h
      have e1 : ((k : Int) == (k : Int)) = true := by simp
      simp only [e1, if_true]
      rw [if_neg (by omega), if_pos ⟨by omega, by omega⟩]
      omega
    · have hb : (x == (k : Int)) = false := by rw [beq_eq_false_iff_ne]; exact h
      simp only [hb]
      have : (0 ≤ x ∧ x < ((k + 1 : Nat) : Int)) ↔ (0 ≤ x ∧ x < (k : Int)) := by omega
      simp only [this]
      simp
      omega
theorem cntTo_all {n : Nat} : ∀ {xs : List Int}, (∀ x ∈ xs, x < n) → cntTo xs n = posN xs
  | [], _ => by
    have : ∀ k, cntTo [] k = 0 := by
      intro k
      induction k with
      | zero => rfl
      | succ k ih => simp [cntTo, ih]
    simp [this, posN]
  | x :: xs, h => by
    rw [cntTo_cons, cntTo_all fun y hy => h y (by simp [hy])]
    have hx := h x (by simp)
    by_cases h0 : 0 ≤ x
    · rw [if_pos ⟨h0, hx⟩]; simp [posN, h0]
    · rw [if_neg (by omega)]; simp [posN, h0]
theorem cntTo_mono (xs : List Int) : ∀ {j k : Nat}, j ≤ k → cntTo xs j ≤ cntTo xs k := by
  intro j k h
  induction h with
  | refl => exact Nat.le_refl _
  | step _ ih => exact Nat.le_trans ih (by simp [cntTo])
theorem refs_ok {h : Hp} (hv : validH h = true) {x : Int} (hx : x ∈ refsOf h) : okRef h.cs x = true := by
  unfold refsOf at hx
  rcases List.mem_append.1 hx with hx | hx
  · exact okRefs_iff.1 (valid_iff.1 hv).2.2.2 x hx
  · obtain ⟨l, hl, hxl⟩ := List.mem_flatten.1 hx
    obtain ⟨c, hc, rfl⟩ := List.mem_map.1 hl
    exact okRefs_iff.1 (valid_refs hv c hc) x hxl
theorem refs_lt {h : Hp} (hv : validH h = true) : ∀ x ∈ refsOf h, x < h.cs.length := fun _ hx => (okRef_lo (refs_ok hv hx)).2
theorem count_unused {h : Hp} (hv : validH h = true) {k : Nat} {c : Cl} (hc : h.cs[k]? = some c) (hu : c.u = false) : (refsOf h).count (k : Int) = 0 := by
  rw [List.count_eq_zero]
  intro hx
  rcases okRef_iff.1 (refs_ok hv hx) with e | ⟨_, e⟩
  · omega
  · simp [usedAt, hc, hu] at e
end Hps

set_option maxRecDepth 100000 in
set_option maxHeartbeats 4000000 in
theorem refCountsLaw_walk (A : Option Addr) (n c : Nat) (w : World) (h : Bytes w w.heap.size A n) (hc : n ≤ c) (hn : n ≤ 9223372036854775807) :
    Calls Try.prog 5 #[.slice A n c] w fun e w' => e = .returned (.bool true) ∧ Below w.heap.size w w' := by
  by_cases hs : n ≤ 1048576
  · have hs' : decide ((1048576 : Int) < (n : Int)) = false := by simp; omega
    go_enter Try.func5, Try.ntmps5
    go_wp2_with fail
    refine (drawRefCounts_any _ _ _ _ h hc hn).mono ?_
    rintro e w1 ⟨A1, nn, c1, R1, m, d1, hh, rfl, hc1, hd1, hsH, hsm, b1⟩
    have hn41 : nn ≤ 41 := by rw [← hsH.cells.1]; exact hsm.1
    have hm4 : m ≤ 4 := by rw [← hsH.roots.1]; exact hsm.2.1
    have bA : Below w1.heap.size w1 (w1.alloc (.cells #[.slice A1 nn c1, .slice R1 m d1] 26)) := (Below.refl _ _).alloc (Nat.le_refl _) _
    have hs2 := hsH.up bA
    have bx := Rw.new w1 26 #[.slice A1 nn c1, .slice R1 m d1]
    have bb := b1.trans (bA.mono b1.size)
    have HSM := Lib.hid hsm
    clear hsH bA hsm b1
    go_upto_region 4 with fail
    generalize w1.alloc (.cells #[.slice A1 nn c1, .slice R1 m d1] 26) = w2 at hs2 bx bb ⊢
    generalize w1.heap.size = b at bx ⊢
    have x0 : w2.cell? ⟨b, 0, none⟩ = some (.slice A1 nn c1) := bx.cell 0
    have x1 : w2.cell? ⟨b, 1, none⟩ = some (.slice R1 m d1) := bx.cell 1
    obtain ⟨xs, hxs⟩ : ∃ xs, Hps.countsH hh = xs := ⟨_, rfl⟩
    have HX := Lib.hid hxs
    clear hxs
    go_wp2_with fail
    refine (refCounts_any _ _ _ _ _ _ hh _ hs2 (by omega) (by omega) hc1 hd1).mono ?_
    rw [HX.out]
    rintro e w3 ⟨v, rfl, ov, b3⟩
    obtain ⟨Av, cv, rfl, -⟩ := ov.form
    have bx3 := bx.keep b3 bx.lt
    have hs3 := hs2.up b3
    have bb3 := bb.trans (b3.mono bb.size)
    have y0 : w3.cell? ⟨b, 0, none⟩ = some (.slice A1 nn c1) := bx3.cell 0
    have y1 : w3.cell? ⟨b, 1, none⟩ = some (.slice R1 m d1) := bx3.cell 1
    have hlx : xs.length ≤ 41 := by
      rw [← HX.out, Hps.countsH]
      split
      · rw [Hps.countsL_eq, Hps.cntN_len]; exact HSM.out.1
      · simp
    have hr3 := ov.reads
    clear hs2 bx x0 x1 ov b3 bb
    go_wp2_with fail
    refine (mRefCounts_any _ _ _ _ _ _ hh _ hs3 (by omega) (by omega)).mono ?_
    rw [HX.out]
    rintro e w4 ⟨v, rfl, ov4, b4⟩
    obtain ⟨Aw, cw, rfl, -⟩ := ov4.form
    have bx4 := bx3.keep b4 bx3.lt
    have hs4 := hs3.up b4
    have bb4 := bb3.trans (b4.mono bb3.size)
    have hr4 := hr3.up b4
    have hr4' := ov4.reads
    clear hs3 bx3 y0 y1 ov4 b4 bb3 hr3
    go_wp2_with fail
    refine (sameInts_any _ _ _ _ _ _ xs xs _ hr4 hr4' (by omega) (by omega)).mono ?_
    rw [decide_eq_true rfl]
    rintro e w5 ⟨rfl, b5⟩
    have bx5 := bx4.keep b5 bx4.lt
    have hs5 := hs4.up b5
    have bb5 := bb4.trans (b5.mono bb4.size)
    have hr5 := hr4.up b5
    have y0 : w5.cell? ⟨b, 0, none⟩ = some (.slice A1 nn c1) := bx5.cell 0
    have y1 : w5.cell? ⟨b, 1, none⟩ = some (.slice R1 m d1) := bx5.cell 1
    clear hs4 bx4 hr4' b5 bb4 hr4
    go_wp2_with fail
    refine (mHeapValid_any _ _ _ _ _ _ hh _ hs5 (by omega) (by omega)).mono ?_
    cases hv : Hps.validH hh
    · rintro e w6 ⟨rfl, b6⟩
      have bb6 := bb5.trans (b6.mono bb5.size)
      have hx0 : xs = [] := by rw [← HX.out, Hps.countsH, if_neg (by rw [hv]; simp)]
      subst hx0
      clear HX hv hr5
      go_wp2_with fail
      refine (alive_any _).mono ?_
      rintro e w7 ⟨rfl, b7⟩
      have bb7 := bb6.trans (b7.mono bb6.size)
      go_wp2_with fail
      go_ret
      exact ⟨rfl, bb7⟩
    rintro e w6 ⟨rfl, b6⟩
    have bx6 := bx5.keep b6 bx5.lt
    have hs6 := hs5.up b6
    have bb6 := bb5.trans (b6.mono bb5.size)
    have hr6 := hr5.up b6
    have hcl := hs6.cells.1
    have hrl := hs6.roots.1
    have hxe : xs = Hps.cntN nn (Hps.refsOf hh) := by rw [← HX.out, Hps.countsH, if_pos hv, Hps.countsL_eq, hcl]
    have hxl : xs.length = nn := by rw [hxe, Hps.cntN_len]
    have PX := Lib.hid (fun (k : Nat) (x : Int) (hx : xs[k]? = some x) (hk : k < nn) => show x = ((Hps.refsOf hh).count (k : Int) : Nat) by rw [hxe, Hps.cntN_at _ hk] at hx; injection hx with hx; exact hx.symm)
    have PU := Lib.hid (fun (k : Nat) (cl : Cl) (hk : hh.cs[k]? = some cl) (hu : cl.u = false) => Hps.count_unused hv hk hu)
    have PE := Lib.hid (show Hps.cntTo (Hps.refsOf hh) nn = Hps.posN (Hps.refsOf hh) by rw [← hcl]; exact Hps.cntTo_all (Hps.refs_lt hv))
    have h3 : ∀ cl ∈ hh.cs, cl.r.length ≤ 3 := fun cl hcl => (HSM.out.2.2.1 cl hcl).1
    have PL : ∀ k, k ≤ nn → (Hps.refsTo hh k).length ≤ 4 + k * 3 := by
      intro k
      induction k with
      | zero => intro _; rw [Hps.refsTo_zero, hrl]; omega
      | succ k ih =>
        intro hk
        have hc := List.getElem?_eq_getElem (show k < hh.cs.length by omega)
        rw [Hps.refsTo_succ hc, List.length_append]
        have := h3 _ (List.mem_of_getElem? hc)
        have := ih (by omega)
        omega
    have PLH := Lib.hid PL
    have PQ := Lib.hid (fun (k : Nat) (hk : k ≤ nn) => show Hps.cntTo (Hps.refsOf hh) k ≤ 200 by
      have h1 := Hps.cntTo_mono (Hps.refsOf hh) hk
      rw [PE.out] at h1
      have h2 := Hps.posN_le (Hps.refsOf hh)
      have h4 : (Hps.refsOf hh).length ≤ 4 + nn * 3 := by
        rw [← Hps.refsTo_all, hcl]
        exact PL nn (Nat.le_refl _)
      omega)
    rw [hxl] at hr6 ⊢
    have HS6 := Lib.hid hs6
    have HR6 := Lib.hid hr6
    have BX := Lib.hid bx6
    have HCL := Lib.hid hcl
    have HRL := Lib.hid hrl
    clear hv hs5 bx5 b6 bb5 hr5 y0 y1 HX hs6 hr6 bx6 hlx hxl hxe hcl hrl PL h3
    go_wp2_with fail
    go_loopw [5, 6] (fun v i wr => ∃ k : Nat, k ≤ m ∧ i = .int .i64 k ∧ v = .int .i64 (Hps.posN (hh.rt.take k)) ∧ Below w6.heap.size w6 wr) (fun _ i _ => m - (intOf i).toNat)
    case atStart => exact ⟨0, Nat.zero_le _, rfl, rfl, Below.refl _ _⟩
    case round =>
      obtain ⟨k, hk, rfl, rfl, bw⟩ := hrel
      have z0 : wr.cell? ⟨b, 0, none⟩ = some (.slice A1 nn c1) := (BX.out.keep bw BX.out.lt).cell 0
      have z1 : wr.cell? ⟨b, 1, none⟩ = some (.slice R1 m d1) := (BX.out.keep bw BX.out.lt).cell 1
      by_cases hlt : k < m
      · obtain ⟨g, o, x, rfl, hg, hx, e1⟩ := (HS6.out.up bw).roots.at_ hlt
        have hlt' : (k : Int) < m := by omega
        have hpl := Hps.posN_le (hh.rt.take k)
        rw [List.length_take] at hpl
        have HT := Lib.hid (show Hps.posN (hh.rt.take (k + 1)) = Hps.posN (hh.rt.take k) + (if 0 ≤ x then 1 else 0) by
          rw [take_snocI hx, Hps.posN_append]
          by_cases h0 : 0 ≤ x <;> simp [Hps.posN, h0])
        clear hx
        by_cases hx0 : 0 ≤ x
        · have HT' := HT.out
          rw [if_pos hx0] at HT'
          have HT2 := Lib.hid HT'
          clear HT HT'
          go_wp2_with fail
          go_roundw
          case rel => exact ⟨k + 1, by omega, by go_num, by rw [HT2.out]; go_num, bw⟩
          case measure => simp [intOf]; omega
        · have hx0' : decide ((0 : Int) ≤ x) = false := decide_eq_false hx0
          have HT' := HT.out
          rw [if_neg hx0, Nat.add_zero] at HT'
          have HT2 := Lib.hid HT'
          clear HT HT'
          go_wp2_with fail
          go_roundw
          case rel => exact ⟨k + 1, by omega, by go_num, int_eq (by rw [HT2.out]; omega), bw⟩
          case measure => simp [intOf]; omega
      · obtain rfl : k = m := by omega
        have hrt : hh.rt.take k = Hps.refsTo hh 0 := by rw [Hps.refsTo_zero, List.take_of_length_le (by rw [HRL.out]; omega)]
        rw [hrt]
        clear hrt
        go_wp2_with fail
        go_loopw [5, 7, 8] (fun v i _ wr => ∃ q : Nat, q ≤ nn ∧ i = .int .i64 q ∧ v = .int .i64 ((Hps.posN (Hps.refsTo hh q) : Int) - (Hps.cntTo (Hps.refsOf hh) q : Nat)) ∧ Below w6.heap.size w6 wr) (fun _ i _ _ => nn - (intOf i).toNat)
        case atStart => exact ⟨0, Nat.zero_le _, rfl, by simp [Hps.cntTo], bw⟩
        case round =>
          clear bw hk hlt z0 z1
          obtain ⟨q, hq, rfl, rfl, bw⟩ := hrel
          have z0 : wr.cell? ⟨b, 0, none⟩ = some (.slice A1 nn c1) := (BX.out.keep bw BX.out.lt).cell 0
          have z1 : wr.cell? ⟨b, 1, none⟩ = some (.slice R1 k d1) := (BX.out.keep bw BX.out.lt).cell 1
          by_cases hlt : q < nn
          · obtain ⟨g, o, cl, A', m', cc, rfl, hg, hcl, d1', d2, d3, hmc, hi⟩ := (HS6.out.up bw).cells.at_ hlt
            obtain ⟨gx, ox, xv, rfl, hgx, hxv, e2⟩ := (HR6.out.up bw).at_ hlt
            have hlt' : (q : Int) < nn := by omega
            have hm3 : m' ≤ 3 := by rw [← hi.1]; exact (HSM.out.2.2.1 cl (List.mem_of_getElem? hcl)).1
            have hxe := PX.out q xv hxv hlt
            have HUN := Lib.hid (fun hu => PU.out q cl hcl hu)
            have HSU := Lib.hid (Hps.refsTo_succ hcl)
            have HI := Lib.hid hi
            have hml := hi.1
            have HML := Lib.hid hml
            have q1 := PLH.out q hq
            have q2 := Hps.posN_le (Hps.refsTo hh q)
            have q3 := PQ.out q hq
            obtain ⟨pn, hpn⟩ : ∃ pn, Hps.posN (Hps.refsTo hh q) = pn := ⟨_, rfl⟩
            obtain ⟨cn, hcn⟩ : ∃ cn, Hps.cntTo (Hps.refsOf hh) q = cn := ⟨_, rfl⟩
            rw [hpn] at q2 ⊢
            rw [hcn] at q3 ⊢
            have HPN := Lib.hid hpn
            have HCN := Lib.hid hcn
            clear hcl hxv hi hpn hcn hml
            go_wp2_with fail
            go_loopw [5, 8] (fun v i wx => ∃ j : Nat, j ≤ m' ∧ i = .int .i64 j ∧ v = .int .i64 ((pn : Int) - cn + (Hps.posN (cl.r.take j) : Nat)) ∧ Below wr.heap.size wr wx) (fun _ i _ => m' - (intOf i).toNat)
            case atStart => exact ⟨0, Nat.zero_le _, rfl, by simp [Hps.posN], Below.refl _ _⟩
            case round =>
              obtain ⟨j, hj, rfl, rfl, bx⟩ := hrel
              have hbw := bw.trans (bx.mono bw.size)
              have u0 : wr.cell? ⟨b, 0, none⟩ = some (.slice (some ⟨g, o, none⟩) nn c1) := (BX.out.keep hbw BX.out.lt).cell 0
              have v1 := (bx.cell (p := ⟨g, o + q * 3, none⟩) hg).trans d1'
              have v3 := (bx.cell (p := ⟨g, o + q * 3 + 2, none⟩) hg).trans d3
              have v4 := (bx.cell (p := ⟨gx, ox + q, none⟩) hgx).trans e2
              have hpl := Hps.posN_le (cl.r.take j)
              rw [List.length_take] at hpl
              by_cases hlj : j < m'
              · obtain ⟨gr, or, x, rfl, hgr, hx, f1⟩ := (HI.out.below bx).at_ hlj
                have hlj' : (j : Int) < m' := by omega
                have HT := Lib.hid (show Hps.posN (cl.r.take (j + 1)) = Hps.posN (cl.r.take j) + (if 0 ≤ x then 1 else 0) by
                  rw [take_snocI hx, Hps.posN_append]
                  by_cases h0 : 0 ≤ x <;> simp [Hps.posN, h0])
                clear hx
                by_cases hx0 : 0 ≤ x
                · have HT' := HT.out
                  rw [if_pos hx0] at HT'
                  have HT2 := Lib.hid HT'
                  clear HT HT'
                  go_wp2_with fail
                  go_roundw
                  case rel => exact ⟨j + 1, by omega, by go_num, int_eq (by rw [HT2.out]; omega), bx⟩
                  case measure => simp [intOf]; omega
                · have hx0' : decide ((0 : Int) ≤ x) = false := decide_eq_false hx0
                  have HT' := HT.out
                  rw [if_neg hx0, Nat.add_zero] at HT'
                  have HT2 := Lib.hid HT'
                  clear HT HT'
                  go_wp2_with fail
                  go_roundw
                  case rel => exact ⟨j + 1, by omega, by go_num, int_eq (by rw [HT2.out]; omega), bx⟩
                  case measure => simp [intOf]; omega
              · obtain rfl : j = m' := by omega
                have hzz : decide ((j : Int) < j) = false := decide_eq_false (by omega)
                have HW : Hid ((pn : Int) - cn + (Hps.posN (cl.r.take j) : Nat) - xv = (Hps.posN (Hps.refsTo hh (q + 1)) : Int) - (Hps.cntTo (Hps.refsOf hh) (q + 1) : Nat)) := Lib.hid (by
                  rw [HSU.out, Hps.posN_append, List.take_of_length_le (by rw [HML.out]; omega), hxe, HPN.out]
                  simp only [Hps.cntTo, HCN.out]
                  omega)
                have hx0 : 0 ≤ xv := by omega
                have hx1 : xv ≤ 1000 := by
                  have := PQ.out (q + 1) (by omega)
                  simp only [Hps.cntTo] at this
                  omega
                have HXE := Lib.hid hxe
                clear hxe
                cases hu : cl.u
                · have hz0 : xv = 0 := by rw [HXE.out, HUN.out hu]; rfl
                  subst hz0
                  rw [hu] at v1
                  go_wp2_with fail
                  go_roundw
                  case rel => exact ⟨q + 1, by omega, by go_num, int_eq (by rw [← HW.out]; omega), hbw⟩
                  case measure => simp [intOf]; omega
                · rw [hu] at v1
                  go_wp2_with fail
                  go_roundw
                  case rel => exact ⟨q + 1, by omega, by go_num, int_eq (by rw [← HW.out]), hbw⟩
                  case measure => simp [intOf]; omega
          · obtain rfl : q = nn := by omega
            have HZ : ((Hps.posN (Hps.refsTo hh q) : Int) - (Hps.cntTo (Hps.refsOf hh) q : Nat)) = 0 := by
              rw [PE.out, ← Hps.refsTo_all, HCL.out]
              omega
            rw [HZ]
            clear HZ
            go_wp2_with fail
            go_ret
            exact ⟨rfl, bb6.trans (bw.mono bb6.size)⟩
  · have hs' : (1048576 : Int) < (n : Int) := by omega
    go_enter Try.func5, Try.ntmps5
    go_wp2
    go_ret
    exact ⟨rfl, Below.refl _ _⟩
end Go.Proofs.Ytijgfpcpkmpdpaa
