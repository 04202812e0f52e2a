/- Slabs in plain mathematics, and what the model's functions of chapter 4 return: for all numbers. -/
import Derived.Test.YtaacoedmlfcdbaaDoorWg
import Derived.Lib.BitFns
namespace Go.Proofs.YtaacoedmlfcdbaaDoor
open Go.RowKit
namespace Sl

/-- the words of a place of class k -/
def clsN (k : Nat) : Int := [1, 2, 3, 4, 6, 8, 12, 16].getD k 0
def clsW (c : Int) : Int := if 0 ≤ c ∧ c ≤ 7 then clsN c.toNat else -1
def forW (s : Int) : Int := if s < 1 then -1 else if s ≤ 1 then 0 else if s ≤ 2 then 1 else if s ≤ 3 then 2 else if s ≤ 4 then 3 else if s ≤ 6 then 4 else if s ≤ 8 then 5 else if s ≤ 12 then 6 else if s ≤ 16 then 7 else -1
def wasteW (s : Int) : Int := if forW s < 0 then -1 else clsW (forW s) - s
theorem clsW_nat {k : Nat} (h : k ≤ 7) : clsW k = clsN k := by
  rw [clsW, if_pos (by omega), Int.toNat_natCast]
theorem clsW_other {c : Int} (h : ¬ (0 ≤ c ∧ c ≤ 7)) : clsW c = -1 := if_neg h
theorem cases8 {k : Nat} (h : k ≤ 7) : k = 0 ∨ k = 1 ∨ k = 2 ∨ k = 3 ∨ k = 4 ∨ k = 5 ∨ k = 6 ∨ k = 7 := by omega
theorem clsN_bd {k : Nat} (h : k ≤ 7) : 1 ≤ clsN k ∧ clsN k ≤ 16 ∧ forW (clsN k) = k := by
  obtain rfl | rfl | rfl | rfl | rfl | rfl | rfl | rfl := cases8 h <;> decide
theorem clsN_succ {k : Nat} (h : k < 7) : clsN k < clsN (k + 1) := by
  obtain rfl | rfl | rfl | rfl | rfl | rfl | rfl | rfl := cases8 (show k ≤ 7 by omega) <;> first | decide | omega
theorem forW_at {s : Int} {k : Nat} (hk : k ≤ 7) (h1 : 1 ≤ s) (h : s ≤ clsN k) (hm : k = 0 ∨ clsN (k - 1) < s) : forW s = k := by
  unfold forW
  obtain rfl | rfl | rfl | rfl | rfl | rfl | rfl | rfl := cases8 hk <;> simp [clsN] at h hm <;> (repeat (first | rw [if_neg (by omega)] | rw [if_pos (by omega)])) <;> rfl
theorem forW_none {s : Int} (h : s < 1 ∨ 16 < s) : forW s = -1 := by
  unfold forW
  rcases h with h | h <;> (repeat (first | rw [if_neg (by omega)] | rw [if_pos (by omega)]))
theorem forW_cases (s : Int) : ((s < 1 ∨ 16 < s) ∧ forW s = -1) ∨ ∃ k : Nat, k ≤ 7 ∧ 1 ≤ s ∧ s ≤ clsN k ∧ (k = 0 ∨ clsN (k - 1) < s) ∧ forW s = k := by
  by_cases h : s < 1 ∨ 16 < s
  · exact .inl ⟨h, forW_none h⟩
  · right
    have key : ∃ k : Nat, k ≤ 7 ∧ s ≤ clsN k ∧ (k = 0 ∨ clsN (k - 1) < s) := by
      by_cases h1 : s ≤ 1
      · exact ⟨0, by omega, by simp [clsN]; omega, .inl rfl⟩
      by_cases h2 : s ≤ 2
      · exact ⟨1, by omega, by simp [clsN]; omega, .inr (by simp [clsN]; omega)⟩
      by_cases h3 : s ≤ 3
      · exact ⟨2, by omega, by simp [clsN]; omega, .inr (by simp [clsN]; omega)⟩
      by_cases h4 : s ≤ 4
      · exact ⟨3, by omega, by simp [clsN]; omega, .inr (by simp [clsN]; omega)⟩
      by_cases h5 : s ≤ 6
      · exact ⟨4, by omega, by simp [clsN]; omega, .inr (by simp [clsN]; omega)⟩
      by_cases h6 : s ≤ 8
      · exact ⟨5, by omega, by simp [clsN]; omega, .inr (by simp [clsN]; omega)⟩
      by_cases h7 : s ≤ 12
      · exact ⟨6, by omega, by simp [clsN]; omega, .inr (by simp [clsN]; omega)⟩
      · exact ⟨7, by omega, by simp [clsN]; omega, .inr (by simp [clsN]; omega)⟩
    obtain ⟨k, k1, k2, k3⟩ := key
    exact ⟨k, k1, by omega, k2, k3, forW_at k1 (by omega) k2 k3⟩

/-- a valid slab -/
def okS (c u : Int) : Bool := (decide (0 ≤ c) && decide (c ≤ 7)) && (decide (0 ≤ u) && decide (u ≤ 255))
theorem okS_iff {c u : Int} : okS c u = true ↔ (0 ≤ c ∧ c ≤ 7) ∧ (0 ≤ u ∧ u ≤ 255) := by simp [okS]
/-- place k is free -/
def freeP (u k : Nat) : Bool := decide (u / 2 ^ k % 2 = 0)
/-- the first of the places from k on (n of them) that is free -/
def firstP (u : Nat) : Nat → Nat → Option Nat
  | _, 0 => none
  | k, n + 1 => if freeP u k = true then some k else firstP u (k + 1) n
def firstS (u : Nat) : Option Nat := firstP u 0 8
theorem firstS_spec : ∀ u : Fin 256, ∀ k : Fin 8, firstS u.val = some k.val → freeP u.val k.val = true ∧ u.val % 2 ^ k.val = 2 ^ k.val - 1 ∧ u.val + 2 ^ k.val ≤ 255 ∧ freeP (u.val + 2 ^ k.val) k.val = false := by decide +kernel
theorem firstS_lt : ∀ u : Fin 256, ∀ k : Nat, firstS u.val = some k → k < 8 := by
  intro u k h
  have : ∀ (n j : Nat), firstP u.val j n = some k → k < j + n := by
    intro n
    induction n with
    | zero => intro j h; cases h
    | succ n ih =>
      intro j h
      unfold firstP at h
      split at h
      · injection h with h
        omega
      · have := ih _ h
        omega
  have := this 8 0 h
  omega
theorem firstS_none : ∀ u : Fin 256, firstS u.val = none → u.val = 255 := by decide +kernel
theorem or_free : ∀ u : Fin 256, ∀ k : Fin 8, freeP u.val k.val = true → bits .or .i64 (u.val : Int) (2 ^ k.val) = (u.val + 2 ^ k.val : Nat) := by decide +kernel
theorem andNot_used : ∀ u : Fin 256, ∀ k : Fin 8, freeP u.val k.val = false → bits .andNot .i64 (u.val : Int) (2 ^ k.val) = (u.val - 2 ^ k.val : Nat) ∧ 2 ^ k.val ≤ u.val ∧ freeP (u.val - 2 ^ k.val) k.val = true := by decide +kernel
end Sl
end Go.Proofs.YtaacoedmlfcdbaaDoor
