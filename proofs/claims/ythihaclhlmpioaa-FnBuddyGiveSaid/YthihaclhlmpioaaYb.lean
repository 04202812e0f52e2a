/- What the model's PowerFor and l3Mate return: for every number. -/
import Derived.Test.YthihaclhlmpioaaYa
import Derived.Laws.ShiftsVarLaws
namespace Go.Proofs.Ythihaclhlmpioaa
open Go.RowKit

/-- the least order that has room for s words, s at most 256 -/
def powN (s : Int) : Nat := if s ≤ 1 then 0 else if s ≤ 2 then 1 else if s ≤ 4 then 2 else if s ≤ 8 then 3 else if s ≤ 16 then 4 else if s ≤ 32 then 5 else if s ≤ 64 then 6 else if s ≤ 128 then 7 else 8
def powW (s : Int) : Int := if 1 ≤ s ∧ s ≤ 256 then powN s else -1

theorem powN_ge {s : Int} (h : s ≤ 256) (k : Nat) (hk : k < powN s) : (2 : Int) ^ k < s := by
  unfold powN at hk
  have : k = 0 ∨ k = 1 ∨ k = 2 ∨ k = 3 ∨ k = 4 ∨ k = 5 ∨ k = 6 ∨ k = 7 := by
    repeat' split at hk
    all_goals omega
  rcases this with rfl | rfl | rfl | rfl | rfl | rfl | rfl | rfl
  all_goals
    repeat' split at hk
    all_goals omega
theorem powN_le {s : Int} (h : s ≤ 256) : s ≤ (2 : Int) ^ powN s ∧ powN s ≤ 8 := by
  unfold powN
  repeat' split
  all_goals (constructor <;> omega)

set_option maxRecDepth 100000 in
set_option maxHeartbeats 1000000 in
theorem mPowerFor_any (s : Int) (w : World) : Calls Try.prog 17 #[.int .i64 s] w fun e w' => e = .returned (.int .i64 (powW s)) ∧ w = w' := by
  by_cases hs : 1 ≤ s ∧ s ≤ 256
  · have hd : (decide ((1 : Int) ≤ s) && decide (s ≤ 256)) = true := by simpa using hs
    have HR := Lib.hid (show powW s = powN s by rw [powW, if_pos hs])
    have h8 := powN_le hs.2
    have HG := Lib.hid (powN_ge hs.2)
    obtain ⟨m, hm⟩ : ∃ m, powN s = m := ⟨_, rfl⟩
    rw [hm] at h8 HG HR
    obtain ⟨h8a, h8b⟩ := h8
    have HLE := Lib.hid h8a
    clear hm h8a
    go_enter Try.func17, Try.ntmps17
    go_wp2_with fail
    refine (l1In_any _ _ _ _).mono ?_
    rw [hd]
    rintro e w' ⟨rfl, rfl⟩
    clear hd
    obtain ⟨s1, s2⟩ := hs
    go_wp2_with fail
    go_loop [3] (fun i => ∃ k : Nat, k ≤ m ∧ i = .int .i64 k) (fun i => m - (intOf i).toNat)
    case atStart => exact ⟨0, Nat.zero_le _, rfl⟩
    case round =>
      obtain ⟨k, hk, rfl⟩ := hrel
      by_cases hlt : k < m
      · have hg := HG.out k hlt
        obtain rfl | rfl | rfl | rfl | rfl | rfl | rfl | rfl : k = 0 ∨ k = 1 ∨ k = 2 ∨ k = 3 ∨ k = 4 ∨ k = 5 ∨ k = 6 ∨ k = 7 := by omega
        all_goals
          simp at hg
          go_wp2
          go_round
          case rel => exact ⟨_, hlt, by go_num⟩
          case measure => simp [intOf]; omega
      · obtain rfl : k = m := by omega
        have hl := HLE.out
        obtain rfl | rfl | rfl | rfl | rfl | rfl | rfl | rfl | rfl : k = 0 ∨ k = 1 ∨ k = 2 ∨ k = 3 ∨ k = 4 ∨ k = 5 ∨ k = 6 ∨ k = 7 ∨ k = 8 := by omega
        all_goals
          simp at hl
          go_wp2
          go_ret
          exact ⟨by rw [HR.out]; rfl, rfl⟩
  · have hd : (decide ((1 : Int) ≤ s) && decide (s ≤ 256)) = false := by simpa using hs
    have HR := Lib.hid (show powW s = -1 by rw [powW, if_neg hs])
    go_enter Try.func17, Try.ntmps17
    go_wp2_with fail
    refine (l1In_any _ _ _ _).mono ?_
    rw [hd]
    rintro e w' ⟨rfl, rfl⟩
    go_wp2_with fail
    go_ret
    exact ⟨by rw [HR.out]; rfl, rfl⟩

def mateV (a : Int) (j : Nat) : Int := if (a / 2 ^ j) % 2 = 0 then a + 2 ^ j else a - 2 ^ j

set_option maxRecDepth 100000 in
set_option maxHeartbeats 4000000 in
theorem mMate_any (a : Int) (j : Nat) (u : Bool) (w : World) (h0 : 0 ≤ a) (h1 : a ≤ 1125899906842624) (hj : j ≤ 8) :
    Calls Try.prog 46 #[.agg #[.int .i64 a, .int .i64 j, .bool u]] w fun e w' => e = .returned (.int .i64 (mateV a j)) ∧ Below w.heap.size w w' := by
  obtain rfl | rfl | rfl | rfl | rfl | rfl | rfl | rfl | rfl : j = 0 ∨ j = 1 ∨ j = 2 ∨ j = 3 ∨ j = 4 ∨ j = 5 ∨ j = 6 ∨ j = 7 ∨ j = 8 := by omega
  · by_cases ht : a % 2 = 0
    · have hb : (a % 2 == 0) = true := by rw [beq_iff_eq]; exact ht
      have HM := Lib.hid (show mateV a 0 = a + 1 by simp [mateV]; omega)
      have u1 : IntKind.i64.wrap (a + 1) = a + 1 := IntWalk.i64_in _ (by omega)
      clear ht
      go_enter Try.func46, Try.ntmps46
      go_wp2_with fail
      go_quiet (fail)
      go_wp2
      go_ret
      exact ⟨by rw [HM.out]; rfl, below_drewN ((Below.refl _ _).alloc (Nat.le_refl _) _) _⟩
    · have hb : (a % 2 == 0) = false := by rw [beq_eq_false_iff_ne]; exact ht
      have HM := Lib.hid (show mateV a 0 = a - 1 by simp [mateV]; omega)
      have u1 : IntKind.i64.wrap (a - 1) = a - 1 := IntWalk.i64_in _ (by omega)
      clear ht
      go_enter Try.func46, Try.ntmps46
      go_wp2_with fail
      go_quiet (fail)
      go_wp2
      go_ret
      exact ⟨by rw [HM.out]; rfl, below_drewN ((Below.refl _ _).alloc (Nat.le_refl _) _) _⟩
  · by_cases ht : (a / 2) % 2 = 0
    · have hb : (a / 2 % 2 == 0) = true := by rw [beq_iff_eq]; exact ht
      have HM := Lib.hid (show mateV a 1 = a + 2 by simp [mateV]; omega)
      have u1 : IntKind.i64.wrap (a + 2) = a + 2 := IntWalk.i64_in _ (by omega)
      clear ht
      go_enter Try.func46, Try.ntmps46
      go_wp2_with fail
      go_quiet (fail)
      go_wp2
      go_ret
      exact ⟨by rw [HM.out]; rfl, below_drewN ((Below.refl _ _).alloc (Nat.le_refl _) _) _⟩
    · have hb : (a / 2 % 2 == 0) = false := by rw [beq_eq_false_iff_ne]; exact ht
      have HM := Lib.hid (show mateV a 1 = a - 2 by simp [mateV]; omega)
      have u1 : IntKind.i64.wrap (a - 2) = a - 2 := IntWalk.i64_in _ (by omega)
      clear ht
      go_enter Try.func46, Try.ntmps46
      go_wp2_with fail
      go_quiet (fail)
      go_wp2
      go_ret
      exact ⟨by rw [HM.out]; rfl, below_drewN ((Below.refl _ _).alloc (Nat.le_refl _) _) _⟩
  · by_cases ht : (a / 4) % 2 = 0
    · have hb : (a / 4 % 2 == 0) = true := by rw [beq_iff_eq]; exact ht
      have HM := Lib.hid (show mateV a 2 = a + 4 by simp [mateV]; omega)
      have u1 : IntKind.i64.wrap (a + 4) = a + 4 := IntWalk.i64_in _ (by omega)
      clear ht
      go_enter Try.func46, Try.ntmps46
      go_wp2_with fail
      go_quiet (fail)
      go_wp2
      go_ret
      exact ⟨by rw [HM.out]; rfl, below_drewN ((Below.refl _ _).alloc (Nat.le_refl _) _) _⟩
    · have hb : (a / 4 % 2 == 0) = false := by rw [beq_eq_false_iff_ne]; exact ht
      have HM := Lib.hid (show mateV a 2 = a - 4 by simp [mateV]; omega)
      have u1 : IntKind.i64.wrap (a - 4) = a - 4 := IntWalk.i64_in _ (by omega)
      clear ht
      go_enter Try.func46, Try.ntmps46
      go_wp2_with fail
      go_quiet (fail)
      go_wp2
      go_ret
      exact ⟨by rw [HM.out]; rfl, below_drewN ((Below.refl _ _).alloc (Nat.le_refl _) _) _⟩
  · by_cases ht : (a / 8) % 2 = 0
    · have hb : (a / 8 % 2 == 0) = true := by rw [beq_iff_eq]; exact ht
      have HM := Lib.hid (show mateV a 3 = a + 8 by simp [mateV]; omega)
      have u1 : IntKind.i64.wrap (a + 8) = a + 8 := IntWalk.i64_in _ (by omega)
      clear ht
      go_enter Try.func46, Try.ntmps46
      go_wp2_with fail
      go_quiet (fail)
      go_wp2
      go_ret
      exact ⟨by rw [HM.out]; rfl, below_drewN ((Below.refl _ _).alloc (Nat.le_refl _) _) _⟩
    · have hb : (a / 8 % 2 == 0) = false := by rw [beq_eq_false_iff_ne]; exact ht
      have HM := Lib.hid (show mateV a 3 = a - 8 by simp [mateV]; omega)
      have u1 : IntKind.i64.wrap (a - 8) = a - 8 := IntWalk.i64_in _ (by omega)
      clear ht
      go_enter Try.func46, Try.ntmps46
      go_wp2_with fail
      go_quiet (fail)
      go_wp2
      go_ret
      exact ⟨by rw [HM.out]; rfl, below_drewN ((Below.refl _ _).alloc (Nat.le_refl _) _) _⟩
  · by_cases ht : (a / 16) % 2 = 0
    · have hb : (a / 16 % 2 == 0) = true := by rw [beq_iff_eq]; exact ht
      have HM := Lib.hid (show mateV a 4 = a + 16 by simp [mateV]; omega)
      have u1 : IntKind.i64.wrap (a + 16) = a + 16 := IntWalk.i64_in _ (by omega)
      clear ht
      go_enter Try.func46, Try.ntmps46
      go_wp2_with fail
      go_quiet (fail)
      go_wp2
      go_ret
      exact ⟨by rw [HM.out]; rfl, below_drewN ((Below.refl _ _).alloc (Nat.le_refl _) _) _⟩
    · have hb : (a / 16 % 2 == 0) = false := by rw [beq_eq_false_iff_ne]; exact ht
      have HM := Lib.hid (show mateV a 4 = a - 16 by simp [mateV]; omega)
      have u1 : IntKind.i64.wrap (a - 16) = a - 16 := IntWalk.i64_in _ (by omega)
      clear ht
      go_enter Try.func46, Try.ntmps46
      go_wp2_with fail
      go_quiet (fail)
      go_wp2
      go_ret
      exact ⟨by rw [HM.out]; rfl, below_drewN ((Below.refl _ _).alloc (Nat.le_refl _) _) _⟩
  · by_cases ht : (a / 32) % 2 = 0
    · have hb : (a / 32 % 2 == 0) = true := by rw [beq_iff_eq]; exact ht
      have HM := Lib.hid (show mateV a 5 = a + 32 by simp [mateV]; omega)
      have u1 : IntKind.i64.wrap (a + 32) = a + 32 := IntWalk.i64_in _ (by omega)
      clear ht
      go_enter Try.func46, Try.ntmps46
      go_wp2_with fail
      go_quiet (fail)
      go_wp2
      go_ret
      exact ⟨by rw [HM.out]; rfl, below_drewN ((Below.refl _ _).alloc (Nat.le_refl _) _) _⟩
    · have hb : (a / 32 % 2 == 0) = false := by rw [beq_eq_false_iff_ne]; exact ht
      have HM := Lib.hid (show mateV a 5 = a - 32 by simp [mateV]; omega)
      have u1 : IntKind.i64.wrap (a - 32) = a - 32 := IntWalk.i64_in _ (by omega)
      clear ht
      go_enter Try.func46, Try.ntmps46
      go_wp2_with fail
      go_quiet (fail)
      go_wp2
      go_ret
      exact ⟨by rw [HM.out]; rfl, below_drewN ((Below.refl _ _).alloc (Nat.le_refl _) _) _⟩
  · by_cases ht : (a / 64) % 2 = 0
    · have hb : (a / 64 % 2 == 0) = true := by rw [beq_iff_eq]; exact ht
      have HM := Lib.hid (show mateV a 6 = a + 64 by simp [mateV]; omega)
      have u1 : IntKind.i64.wrap (a + 64) = a + 64 := IntWalk.i64_in _ (by omega)
      clear ht
      go_enter Try.func46, Try.ntmps46
      go_wp2_with fail
      go_quiet (fail)
      go_wp2
      go_ret
      exact ⟨by rw [HM.out]; rfl, below_drewN ((Below.refl _ _).alloc (Nat.le_refl _) _) _⟩
    · have hb : (a / 64 % 2 == 0) = false := by rw [beq_eq_false_iff_ne]; exact ht
      have HM := Lib.hid (show mateV a 6 = a - 64 by simp [mateV]; omega)
      have u1 : IntKind.i64.wrap (a - 64) = a - 64 := IntWalk.i64_in _ (by omega)
      clear ht
      go_enter Try.func46, Try.ntmps46
      go_wp2_with fail
      go_quiet (fail)
      go_wp2
      go_ret
      exact ⟨by rw [HM.out]; rfl, below_drewN ((Below.refl _ _).alloc (Nat.le_refl _) _) _⟩
  · by_cases ht : (a / 128) % 2 = 0
    · have hb : (a / 128 % 2 == 0) = true := by rw [beq_iff_eq]; exact ht
      have HM := Lib.hid (show mateV a 7 = a + 128 by simp [mateV]; omega)
      have u1 : IntKind.i64.wrap (a + 128) = a + 128 := IntWalk.i64_in _ (by omega)
      clear ht
      go_enter Try.func46, Try.ntmps46
      go_wp2_with fail
      go_quiet (fail)
      go_wp2
      go_ret
      exact ⟨by rw [HM.out]; rfl, below_drewN ((Below.refl _ _).alloc (Nat.le_refl _) _) _⟩
    · have hb : (a / 128 % 2 == 0) = false := by rw [beq_eq_false_iff_ne]; exact ht
      have HM := Lib.hid (show mateV a 7 = a - 128 by simp [mateV]; omega)
      have u1 : IntKind.i64.wrap (a - 128) = a - 128 := IntWalk.i64_in _ (by omega)
      clear ht
      go_enter Try.func46, Try.ntmps46
      go_wp2_with fail
      go_quiet (fail)
      go_wp2
      go_ret
      exact ⟨by rw [HM.out]; rfl, below_drewN ((Below.refl _ _).alloc (Nat.le_refl _) _) _⟩
  · by_cases ht : (a / 256) % 2 = 0
    · have hb : (a / 256 % 2 == 0) = true := by rw [beq_iff_eq]; exact ht
      have HM := Lib.hid (show mateV a 8 = a + 256 by simp [mateV]; omega)
      have u1 : IntKind.i64.wrap (a + 256) = a + 256 := IntWalk.i64_in _ (by omega)
      clear ht
      go_enter Try.func46, Try.ntmps46
      go_wp2_with fail
      go_quiet (fail)
      go_wp2
      go_ret
      exact ⟨by rw [HM.out]; rfl, below_drewN ((Below.refl _ _).alloc (Nat.le_refl _) _) _⟩
    · have hb : (a / 256 % 2 == 0) = false := by rw [beq_eq_false_iff_ne]; exact ht
      have HM := Lib.hid (show mateV a 8 = a - 256 by simp [mateV]; omega)
      have u1 : IntKind.i64.wrap (a - 256) = a - 256 := IntWalk.i64_in _ (by omega)
      clear ht
      go_enter Try.func46, Try.ntmps46
      go_wp2_with fail
      go_quiet (fail)
      go_wp2
      go_ret
      exact ⟨by rw [HM.out]; rfl, below_drewN ((Below.refl _ _).alloc (Nat.le_refl _) _) _⟩
end Go.Proofs.Ythihaclhlmpioaa
