/- What math/bits.TrailingZeros64 and the program's BitsFind return: for every slice of bools and all numbers, in every memory in which the table of math/bits lies as laid. -/
import Derived.Test.YtphcbjoafnffnaaDoorBf
namespace Go.Proofs.YtphcbjoafnffnaaDoor
open Go.RowKit

/-- the table of math/bits lies as laid -/
def TzT (w : World) : Prop := 0 < w.heap.size ∧ ∀ i : Nat, i < 64 → w.cell? ⟨0, i, none⟩ = some (.int .u8 (Lib.deBruijn64tab.getD i 0 : Nat))
theorem TzT.below {w w' : World} (h : TzT w) (hb : Below w.heap.size w w') : TzT w' := ⟨Nat.lt_of_lt_of_le h.1 hb.size, fun i hi => (hb.cell (p := ⟨0, i, none⟩) h.1).trans (h.2 i hi)⟩

namespace Bm
theorem tz_key (x : Nat) (hx : x < 18446744073709551616) (hx0 : x ≠ 0) : ∃ idx : Nat, idx < 64 ∧ IntKind.u64.wrap (bits BinOp.and IntKind.u64 (x : Int) (IntKind.u64.wrap (-(x : Int))) * 285870213051353865) / 288230376151711744 = (idx : Int) ∧ Lib.deBruijn64tab.getD idx 0 = Lib.ctz 64 x ∧ Lib.ctz 64 x < 64 := by
  obtain ⟨hlow, hk⟩ := Lib.lowest_bit 64 x hx0 hx
  obtain ⟨hi, htab⟩ := Lib.deBruijn64_at _ hk
  refine ⟨_, hi, ?_, htab, hk⟩
  have e1 : IntKind.u64.wrap (-(x : Int)) = ((18446744073709551616 - x : Nat) : Int) := by rw [IntKind.wrap_u64]; omega
  have hl2 : x &&& (18446744073709551616 - x) = 2 ^ Lib.ctz 64 x := hlow
  rw [e1, u64_and_nat x _ hx (by omega), hl2, IntKind.wrap_u64]
  generalize 2 ^ Lib.ctz 64 x = a
  omega
end Bm

set_option maxHeartbeats 1000000 in
theorem tz64_any (x : Nat) (w : World) (hT : TzT w) (h0 : x ≠ 0) (h1 : x < 18446744073709551616) :
    Calls Tryd.prog 33 #[.int .u64 x] w fun e w' => e = .returned (.int .i64 (Lib.ctz 64 x)) ∧ w = w' := by
  obtain ⟨idx, hi, key, htab, hk⟩ := Bm.tz_key x h1 h0
  have hcell := hT.2 idx hi
  rw [htab] at hcell
  have hx0 : ((x : Int) == 0) = false := by rw [beq_eq_false_iff_ne]; omega
  obtain ⟨k, hkk⟩ : ∃ k, Lib.ctz 64 x = k := ⟨_, rfl⟩
  rw [hkk] at hcell hk ⊢
  clear htab hkk
  go_enter Tryd.func33, Tryd.ntmps33
  go_wp2_with (simp only [key])
  go_ret
  exact ⟨rfl, rfl⟩

set_option maxHeartbeats 1000000 in
theorem first_any (V : Nat) (w : World) (hT : TzT w) (hV : V < 18446744073709551616) :
    Calls Tryd.prog 23 #[.int .u64 V] w fun e w' => e = .returned (.int .i64 (if V = 0 then -1 else (Lib.ctz 64 V : Int))) ∧ w = w' := by
  by_cases h0 : V = 0
  · subst h0
    go_enter Tryd.func23, Tryd.ntmps23
    go_wp2_with fail
    go_ret
    exact ⟨rfl, rfl⟩
  · have hx0 : ((V : Int) == 0) = false := by rw [beq_eq_false_iff_ne]; omega
    rw [if_neg h0]
    go_enter Tryd.func23, Tryd.ntmps23
    go_wp2_with fail
    refine (tz64_any V w hT h0 hV).mono ?_
    rintro e w' ⟨rfl, rfl⟩
    go_wp2_with fail
    go_ret
    exact ⟨rfl, rfl⟩

set_option maxHeartbeats 1000000 in
theorem runStarts_any (W M : Nat) (w : World) (hW : W < 18446744073709551616) (h1 : 1 ≤ M) (h2 : M ≤ 64) :
    Calls Tryd.prog 22 #[.int .u64 W, .int .i64 M] w fun e w' => ∃ V : Nat, e = .returned (.int .u64 V) ∧ V < 18446744073709551616 ∧ Bm.runsN W M V ∧ w = w' := by
  have HR := Lib.hid (Bm.runs_one W)
  go_enter Tryd.func22, Tryd.ntmps22
  go_wp2_with fail
  go_loopw [5, 6] (fun v l wr => ∃ V L : Nat, v = .int .u64 V ∧ l = .int .i64 L ∧ V < 18446744073709551616 ∧ 1 ≤ L ∧ L ≤ M ∧ Hid (Bm.runsN W L V) ∧ wr = w) (fun _ l _ => M - (intOf l).toNat)
  case atStart => exact ⟨W, 1, rfl, rfl, hW, by omega, h1, HR, rfl⟩
  case round =>
    obtain ⟨V, L, rfl, rfl, hV, hL1, hLM, R, rfl⟩ := hrel
    by_cases hlt : L < M
    · have hlt' : (L : Int) < M := by omega
      obtain ⟨k, hk1, hk2, hk3, hmin⟩ : ∃ k : Nat, 1 ≤ k ∧ k ≤ L ∧ L + k ≤ M ∧ (if (M : Int) - L < L then (M : Int) - L else L) = k := ⟨min L (M - L), by omega, by omega, by omega, by split <;> omega⟩
      have R2 : Hid (Bm.runsN W (L + k) (V &&& V / 2 ^ k)) := Lib.hid (Bm.runs_step (k := k) R.out hk2)
      have hand := Bm.and_shr k hV
      have hV2 := Bm.runs_lt (k := k) hV
      go_wp2_with fail
      go_roundw
      case rel => exact ⟨V &&& V / 2 ^ k, L + k, rfl, by go_num, hV2, by omega, hk3, R2, trivial⟩
      case measure => simp [intOf]; omega
    · obtain rfl : L = M := by omega
      go_wp2_with fail
      go_ret
      exact ⟨V, rfl, hV, R.out, rfl⟩

set_option maxHeartbeats 1000000 in
theorem bitsFind_any (A : Option Addr) (n c : Nat) (xs : List Bool) (m : Int) (w : World) (hT : TzT w) (h : OS w w.heap.size A n xs) (hn : n ≤ 1099511627776) (_hc : n ≤ c) :
    Calls Tryd.prog 7 #[.slice A n c, .int .i64 m] w fun e w' => e = .returned (.int .i64 (Bm.findW xs m)) ∧ Below w.heap.size w w' := by
  have hl := h.1
  by_cases h64 : n ≤ 64
  · have HD := Lib.hid (decide_eq_true h64)
    cases hm : (decide ((1 : Int) ≤ m) && decide (m ≤ 64))
    · have HF := Lib.hid (Bm.findW_bad (xs := xs) (m := m) (by rw [Bm.okM, hm]; rfl))
      have HM := Lib.hid hm
      clear hm
      go_enter Tryd.func7, Tryd.ntmps7
      go_wp2_with fail
      refine (bitmapValid_any _ _ _ _ hn).mono ?_
      rw [HD.out]
      rintro e w1 ⟨rfl, rfl⟩
      go_wp2_with fail
      refine (manyValid_any _ _).mono ?_
      rw [HM.out]
      rintro e w1 ⟨rfl, rfl⟩
      go_wp2_with fail
      go_ret
      exact ⟨by rw [HF.out]; rfl, Below.refl _ _⟩
    · have ho : Bm.okM xs m = true := by rw [Bm.okM, hm, hl]; simpa using h64
      obtain ⟨⟨m1, m2⟩, _⟩ := Bm.okM_iff.1 ho
      obtain ⟨M, rfl⟩ := Int.eq_ofNat_of_zero_le (show 0 ≤ m by omega)
      have HM := Lib.hid hm
      have HO := Lib.hid ho
      have hW := Bm.wordN_lt xs false (by omega)
      clear hm ho
      go_enter Tryd.func7, Tryd.ntmps7
      go_wp2_with fail
      refine (bitmapValid_any _ _ _ _ hn).mono ?_
      rw [HD.out]
      rintro e w1 ⟨rfl, rfl⟩
      go_wp2_with fail
      refine (manyValid_any _ _).mono ?_
      rw [HM.out]
      rintro e w1 ⟨rfl, rfl⟩
      go_wp2_with fail
      refine (bitsThatAre_any _ _ _ xs _ _ h h64).mono ?_
      rintro e w2 ⟨rfl, b2⟩
      have hT2 := hT.below b2
      go_wp2_with fail
      refine (runStarts_any _ M _ hW (by omega) (by omega)).mono ?_
      rintro e w3 ⟨V, rfl, hV, R, rfl⟩
      have HF := Lib.hid (show Bm.findW xs (M : Int) = if V = 0 then -1 else (Lib.ctz 64 V : Int) by
        split
        · next h0 => subst h0; exact Bm.findW_none (Bm.find_zero R)
        · next h0 => exact Bm.findW_some HO.out (Bm.find_ctz (by omega) R h0 hV))
      clear R
      go_wp2_with fail
      refine (first_any V _ hT2 hV).mono ?_
      rw [← HF.out]
      rintro e w4 ⟨rfl, rfl⟩
      go_wp2_with fail
      go_ret
      exact ⟨rfl, b2⟩
  · have HD := Lib.hid (decide_eq_false h64)
    have HF := Lib.hid (Bm.findW_bad (xs := xs) (m := m) (by rw [Bm.okM, hl, decide_eq_false h64, Bool.and_false]))
    go_enter Tryd.func7, Tryd.ntmps7
    go_wp2_with fail
    refine (bitmapValid_any _ _ _ _ hn).mono ?_
    rw [HD.out]
    rintro e w1 ⟨rfl, rfl⟩
    go_wp2_with fail
    go_ret
    exact ⟨by rw [HF.out]; rfl, Below.refl _ _⟩
end Go.Proofs.YtphcbjoafnffnaaDoor
