/- What the program's sets of cells (words of bits) answer, and HeapValid: for every heap. No conditions. -/
import Derived.Test.YtkdoolilggkjpaaHc
import Derived.Test.YtkdoolilggkjpaaBw
import Derived.Test.YtkdoolilggkjpaaOc
import Derived.BigQuiet
namespace Go.Proofs.Ytkdoolilggkjpaa
open Go.RowKit

namespace Hps
theorem pow_in {k : Nat} (h : k < 64) : IntKind.u64.wrap (2 ^ k) = 2 ^ k ∧ (0 : Int) < 2 ^ k ∧ (2 : Int) ^ k < 18446744073709551616 := by
  have h1 : (2 : Nat) ^ k < 2 ^ 64 := Nat.pow_lt_pow_right (by omega) h
  have h2 : (0 : Nat) < 2 ^ k := Nat.pow_pos (by omega)
  have e : ((2 ^ k : Nat) : Int) = (2 : Int) ^ k := by rw [Int.natCast_pow]; rfl
  refine ⟨?_, by omega, by omega⟩
  rw [IntKind.wrap_u64]
  omega
theorem pow_out {k : Nat} (h : 64 ≤ k) : IntKind.u64.wrap (2 ^ k) = 0 := by
  have e : ((2 ^ k : Nat) : Int) = (2 : Int) ^ k := by rw [Int.natCast_pow]; rfl
  obtain ⟨j, rfl⟩ : ∃ j, k = 64 + j := ⟨k - 64, by omega⟩
  rw [IntKind.wrap_u64, ← e, Nat.pow_add, show (2 : Nat) ^ 64 = 18446744073709551616 by decide]
  omega
theorem or_in {V k : Nat} (hV : V < 18446744073709551616) (h : k < 64) : bits .or .u64 (V : Int) (2 ^ k) = ((V ||| 2 ^ k : Nat) : Int) := by
  have h1 : (2 : Nat) ^ k < 2 ^ 64 := Nat.pow_lt_pow_right (by omega) h
  have := u64_or_nat V (2 ^ k) hV (by omega)
  rw [← this, Int.natCast_pow]
  rfl
theorem and_in {V k : Nat} (hV : V < 18446744073709551616) (h : k < 64) : bits .and .u64 (V : Int) (2 ^ k) = if V.testBit k = true then 2 ^ k else 0 := by
  have h1 : (2 : Nat) ^ k < 2 ^ 64 := Nat.pow_lt_pow_right (by omega) h
  have := u64_and_nat V (2 ^ k) hV (by omega)
  rw [Int.natCast_pow] at this
  rw [show (2 : Int) ^ k = ((2 : Nat) : Int) ^ k from rfl, this, Bm.and_pow]
  split
  · rw [Int.natCast_pow]
  · rfl
/-- the number is that of a cell of the set -/
def hasB (V : Nat) (x : Int) : Bool := decide (0 ≤ x) && V.testBit x.toNat
def okV (V : Nat) (x : Int) : Bool := x == -1 || hasB V x
def okVs (V : Nat) (rs : List Int) : Bool := rs.all (okV V)
theorem okVs_iff {V : Nat} {rs : List Int} : okVs V rs = true ↔ ∀ n ∈ rs, okV V n = true := by simp [okVs]
theorem okVs_no {V : Nat} {rs : List Int} {k : Nat} {n : Int} (hn : rs[k]? = some n) (h : okV V n = false) : okVs V rs = false := by
  cases hh : okVs V rs
  · rfl
  · rw [okVs_iff.1 hh n (List.mem_of_getElem? hn)] at h
    cases h
/-- the set of the used cells -/
def usedW (cs : List Cl) : Nat := Bm.wordN (cs.map (·.u)) true
theorem usedW_lt {cs : List Cl} (h : cs.length ≤ 64) : usedW cs < 18446744073709551616 := Bm.wordN_lt _ _ (by simpa using h)
theorem usedW_bit (cs : List Cl) (i : Nat) : (usedW cs).testBit i = usedAt cs i := by
  unfold usedW
  rw [Bm.wordN_bit, List.getElem?_map]
  unfold usedAt
  cases cs[i]? with
  | none => simp
  | some c => cases h : c.u <;> simp [h]
theorem okV_used (cs : List Cl) (x : Int) : okV (usedW cs) x = okRef cs x := by
  unfold okV okRef hasB
  rw [usedW_bit]
theorem okVs_used (cs : List Cl) (rs : List Int) : okVs (usedW cs) rs = okRefs cs rs := by
  unfold okVs okRefs
  congr 1
  funext x
  exact okV_used cs x
/-- a cell is valid beside these used ones -/
def okCl (V : Nat) (c : Cl) : Bool := if c.u = true then (decide (0 ≤ c.d) && decide (c.d ≤ 99)) && (decide (c.r.length ≤ 3) && okVs V c.r) else c.d == 0 && decide (c.r.length = 0)
theorem okCl_used (cs : List Cl) (c : Cl) : okCl (usedW cs) c = okCell cs c := by
  unfold okCl okCell
  rw [okVs_used]
  cases hu : c.u
  · rw [if_neg (by decide), Bool.false_or]
    by_cases h : c.d = 0 ∧ c.r.length = 0
    · obtain ⟨h1, h2⟩ := h
      have : c.r = [] := List.eq_nil_of_length_eq_zero h2
      rw [h1, this]
      simp [okRefs]
    · have : (c.d == 0 && decide (c.r.length = 0)) = false := by
        rw [Bool.and_eq_false_iff, beq_eq_false_iff_ne, decide_eq_false_iff_not]
        omega
      rw [this]
      simp
  · rw [if_pos rfl, Bool.true_or, Bool.true_and]
    simp only [Bool.and_assoc]
end Hps

theorem has_any (V : Nat) (x : Int) (w : World) (hV : V < 18446744073709551616) :
    Calls Try.prog 67 #[.int .u64 V, .int .i64 x] w fun e w' => e = .returned (.bool (Hps.hasB V x)) ∧ w = w' := by
  by_cases h0 : 0 ≤ x
  · obtain ⟨k, rfl⟩ := Int.eq_ofNat_of_zero_le h0
    have h0' : (k : Int) ≥ 0 := h0
    have hkneg : ¬ ((k : Int) < 0) := by omega
    have HB := Lib.hid (show Hps.hasB V (k : Int) = V.testBit k by simp [Hps.hasB])
    by_cases h : k < 64
    · obtain ⟨p1, p2, p3⟩ := Hps.pow_in h
      have hand := Hps.and_in hV h
      cases ht : V.testBit k
      · rw [ht] at hand HB
        rw [if_neg (by decide)] at hand
        clear ht
        go_enter Try.func67, Try.ntmps67
        go_wp2_with fail
        go_ret
        exact ⟨by rw [HB.out]; rfl, rfl⟩
      · rw [ht] at hand HB
        rw [if_pos rfl] at hand
        have hz : ((2 : Int) ^ k != 0) = true := by rw [bne_iff_ne]; omega
        clear ht
        go_enter Try.func67, Try.ntmps67
        go_wp2_with fail
        go_ret
        exact ⟨by rw [HB.out]; rfl, rfl⟩
    · have HF := Lib.hid (show V.testBit k = false from Nat.testBit_lt_two_pow (Nat.lt_of_lt_of_le hV (by rw [show (18446744073709551616 : Nat) = 2 ^ 64 by decide]; exact Nat.pow_le_pow_right (by omega) (by omega))))
      have p1 : IntKind.u64.wrap (2 ^ min k 64) = 0 := by rw [show min k 64 = 64 by omega]; exact Hps.pow_out (Nat.le_refl _)
      have hand : bits .and .u64 (V : Int) 0 = 0 := by
        have := u64_and_nat V 0 hV (by omega)
        rw [Nat.and_zero] at this
        exact this
      go_enter Try.func67, Try.ntmps67
      go_wp2_with fail
      go_ret
      exact ⟨by rw [HB.out, HF.out]; first | rfl | (simp only [p1, hand]; rfl), rfl⟩
  · have h0' : decide (x ≥ 0) = false := decide_eq_false h0
    have HB := Lib.hid (show Hps.hasB V x = false by simp [Hps.hasB, h0])
    go_enter Try.func67, Try.ntmps67
    go_wp2_with fail
    go_ret
    exact ⟨by rw [HB.out]; rfl, rfl⟩

set_option maxHeartbeats 1000000 in
theorem hasTargets_any (F : Option Addr) (q e V : Nat) (rs : List Int) (w : World) (hf : IS w w.heap.size F q rs) (hV : V < 18446744073709551616) (hq : q ≤ 1099511627776) :
    Calls Try.prog 44 #[.int .u64 V, .slice F q e] w fun e w' => e = .returned (.bool (Hps.okVs V rs)) ∧ w = w' := by
  have hlr := hf.1
  go_enter Try.func44, Try.ntmps44
  go_wp2_with fail
  go_loopw [9] (fun i wr => ∃ k : Nat, k ≤ q ∧ i = .int .i64 k ∧ Hid (∀ j x, j < k → rs[j]? = some x → Hps.okV V x = true) ∧ wr = w) (fun i _ => q - (intOf i).toNat)
  case atStart => exact ⟨0, Nat.zero_le _, rfl, Lib.hid (fun j x hj => by omega), rfl⟩
  case round =>
    obtain ⟨k, hk, rfl, HP, rfl⟩ := hrel
    by_cases hlt : k < q
    · obtain ⟨g, o, x, rfl, hg, hx, c1⟩ := hf.at_ hlt
      have hlt' : (k : Int) < q := by omega
      have HN : Hps.okV V x = true → Hid (∀ j y, j < k + 1 → rs[j]? = some y → Hps.okV V y = true) := fun hok => Lib.hid fun j y hj hy => by
        rcases Nat.lt_or_ge j k with h1 | h1
        · exact HP.out j y h1 hy
        · obtain rfl : j = k := by omega
          rw [hx] at hy
          injection hy with hy
          rw [← hy]
          exact hok
      have HX := Lib.hid hx
      clear hx
      by_cases hm1 : x = -1
      · subst hm1
        have HN2 := HN (by simp [Hps.okV])
        clear HN
        go_wp2_with fail
        go_roundw
        case rel => exact ⟨k + 1, by omega, by go_num, HN2, trivial⟩
        case measure => simp [intOf]; omega
      · have hne : (x != -1) = true := by rw [bne_iff_ne]; exact hm1
        have HEQ := Lib.hid (show Hps.okV V x = Hps.hasB V x by simp [Hps.okV, hm1])
        cases hb : Hps.hasB V x
        · have HR := Lib.hid (Hps.okVs_no HX.out (HEQ.out.trans hb))
          have HB := Lib.hid hb
          clear hb HN
          go_wp2_with fail
          refine (has_any V x _ hV).mono ?_
          rw [HB.out]
          rintro e w1 ⟨rfl, rfl⟩
          go_wp2_with fail
          go_ret
          exact ⟨by rw [HR.out]; rfl, rfl⟩
        · have HN2 := HN (HEQ.out.trans hb)
          have HB := Lib.hid hb
          clear hb HN
          go_wp2_with fail
          refine (has_any V x _ hV).mono ?_
          rw [HB.out]
          rintro e w1 ⟨rfl, rfl⟩
          go_wp2_with fail
          go_roundw
          case rel => exact ⟨k + 1, by omega, by go_num, HN2, trivial⟩
          case measure => simp [intOf]; omega
    · obtain rfl : k = q := by omega
      have HR := Lib.hid (show Hps.okVs V rs = true by
        rw [Hps.okVs_iff]
        intro x hx
        obtain ⟨j, hj⟩ := List.mem_iff_getElem?.1 hx
        exact HP.out j x (by rw [← hlr]; exact (List.getElem?_eq_some_iff.1 hj).1) hj)
      go_wp2_with fail
      go_ret
      exact ⟨by rw [HR.out]; rfl, rfl⟩

set_option maxHeartbeats 1000000 in
theorem usedSet_any (A : Option Addr) (n c : Nat) (cs : List Cl) (w : World) (h : CS w w.heap.size A n cs) (hn : n ≤ 64) :
    Calls Try.prog 42 #[.slice A n c] w fun e w' => e = .returned (.int .u64 (Hps.usedW cs : Nat)) ∧ Below w.heap.size w w' := by
  have hlc := h.1
  obtain ⟨us, hus⟩ : ∃ us, cs.map (·.u) = us := ⟨_, rfl⟩
  have HW := Lib.hid (show Hps.usedW cs = Bm.setN us true n by rw [Hps.usedW, Bm.wordN, hus, ← hus, List.length_map, hlc])
  have HUS := Lib.hid hus
  clear hus
  go_enter Try.func42, Try.ntmps42
  go_wp2_with fail
  go_loopw [3, 8] (fun v i wr => ∃ k : Nat, k ≤ n ∧ i = .int .i64 k ∧ v = .int .u64 (Bm.setN us true k : Nat) ∧ Below w.heap.size w wr) (fun _ i _ => n - (intOf i).toNat)
  case atStart => exact ⟨0, Nat.zero_le _, rfl, rfl, Below.refl _ _⟩
  case round =>
    obtain ⟨k, hk, rfl, rfl, bb⟩ := hrel
    by_cases hlt : k < n
    · obtain ⟨g, o, cl, A', m', cc, rfl, hg, hcl, d1, d2, d3, hmc, hi⟩ := (h.below bb).at_ hlt
      have hlt' : (k : Int) < n := by omega
      have hV := Bm.setN_64 us true (k := k) (by omega)
      obtain ⟨p1, p2, p3⟩ := Hps.pow_in (k := k) (by omega)
      have hor := Hps.or_in (V := Bm.setN us true k) (k := k) hV (by omega)
      have hkneg : ¬ ((k : Int) < 0) := by omega
      have hux : us[k]? = some cl.u := by rw [← HUS.out, List.getElem?_map, hcl]; rfl
      clear hcl
      cases hu : cl.u
      · rw [hu] at d1 hux
        have HN := Lib.hid (show Bm.setN us true (k + 1) = Bm.setN us true k by rw [Bm.setN, if_neg (by rw [hux]; decide)])
        have bW := bb.alloc bb.size (.cells #[.bool false, .int .i64 cl.d, .slice A' m' cc] 31)
        clear hu hux
        go_wp2_with fail
        go_roundw
        case rel => exact ⟨k + 1, by omega, by go_num, by rw [HN.out], bW⟩
        case measure => simp [intOf]; omega
      · rw [hu] at d1 hux
        have HN := Lib.hid (show Bm.setN us true (k + 1) = Bm.setN us true k ||| 2 ^ k by rw [Bm.setN, if_pos hux])
        have bW := bb.alloc bb.size (.cells #[.bool true, .int .i64 cl.d, .slice A' m' cc] 31)
        clear hu hux
        go_wp2_with fail
        go_roundw
        case rel => exact ⟨k + 1, by omega, by go_num, by rw [HN.out], bW⟩
        case measure => simp [intOf]; omega
    · obtain rfl : k = n := by omega
      go_wp2_with fail
      go_ret
      exact ⟨by rw [HW.out]; rfl, bb⟩

set_option maxHeartbeats 1000000 in
theorem cellValid_any (cl : Cl) (A : Option Addr) (m cc V : Nat) (w : World) (hi : IS w w.heap.size A m cl.r) (hV : V < 18446744073709551616) :
    Calls Try.prog 43 #[.agg #[.bool cl.u, .int .i64 cl.d, .slice A m cc], .int .u64 V] w fun e w' => e = .returned (.bool (Hps.okCl V cl)) ∧ Below w.heap.size w w' := by
  have hlr := hi.1
  cases hu : cl.u
  · have bW := (Below.refl w.heap.size w).alloc (Nat.le_refl _) (.cells #[.bool false, .int .i64 cl.d, .slice A m cc] 31)
    have HC := Lib.hid (show Hps.okCl V cl = (cl.d == 0 && decide (m = 0)) by unfold Hps.okCl; rw [if_neg (by rw [hu]; decide), hlr])
    clear hu
    by_cases hd : cl.d = 0
    · have hd' : (cl.d == 0) = true := by rw [beq_iff_eq]; exact hd
      have HD := Lib.hid hd'
      clear hd
      by_cases hm0 : m = 0
      · subst hm0
        go_enter Try.func43, Try.ntmps43
        go_wp2_with fail
        go_ret
        exact ⟨by rw [HC.out, HD.out]; rfl, bW⟩
      · have hm0' : ((m : Int) == 0) = false := by rw [beq_eq_false_iff_ne]; omega
        have HM := Lib.hid (decide_eq_false hm0)
        go_enter Try.func43, Try.ntmps43
        go_wp2_with fail
        go_ret
        exact ⟨by rw [HC.out, HD.out, HM.out]; rfl, bW⟩
    · have hd' : (cl.d == 0) = false := by rw [beq_eq_false_iff_ne]; exact hd
      have HD := Lib.hid hd'
      go_enter Try.func43, Try.ntmps43
      go_wp2_with fail
      go_ret
      exact ⟨by rw [HC.out, HD.out]; rfl, bW⟩
  · have bW := (Below.refl w.heap.size w).alloc (Nat.le_refl _) (.cells #[.bool true, .int .i64 cl.d, .slice A m cc] 31)
    have hiW := (hi.below bW).more bW.size
    have HC := Lib.hid (show Hps.okCl V cl = ((decide (0 ≤ cl.d) && decide (cl.d ≤ 99)) && (decide (m ≤ 3) && Hps.okVs V cl.r)) by unfold Hps.okCl; rw [if_pos hu, hlr])
    clear hu
    by_cases h1 : 0 ≤ cl.d
    · by_cases h2 : cl.d ≤ 99
      · by_cases h3 : m ≤ 3
        · have h3' : (m : Int) ≤ 3 := by omega
          have H := Lib.hid (And.intro (decide_eq_true h1) (And.intro (decide_eq_true h2) (decide_eq_true h3)))
          go_enter Try.func43, Try.ntmps43
          go_wp2_with fail
          refine (hasTargets_any _ _ _ V cl.r _ hiW hV (by omega)).mono ?_
          rintro e w1 ⟨rfl, rfl⟩
          go_wp2_with fail
          go_ret
          exact ⟨by rw [HC.out, H.out.1, H.out.2.1, H.out.2.2]; simp, bW⟩
        · have h3' : ¬ (m : Int) ≤ 3 := by omega
          have H := Lib.hid (decide_eq_false h3)
          go_enter Try.func43, Try.ntmps43
          go_wp2_with fail
          go_ret
          exact ⟨by rw [HC.out, H.out]; simp, bW⟩
      · have H := Lib.hid (decide_eq_false h2)
        go_enter Try.func43, Try.ntmps43
        go_wp2_with fail
        go_ret
        exact ⟨by rw [HC.out, H.out]; simp, bW⟩
    · have H := Lib.hid (decide_eq_false h1)
      go_enter Try.func43, Try.ntmps43
      go_wp2_with fail
      go_ret
      exact ⟨by rw [HC.out, H.out]; simp, bW⟩
end Go.Proofs.Ytkdoolilggkjpaa
