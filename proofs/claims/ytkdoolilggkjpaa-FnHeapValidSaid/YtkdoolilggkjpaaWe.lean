/- What BlockAt returns, the program's (by sort.Search) and the model's: for every slice of blocks, every total and every word. -/
import Derived.Test.YtkdoolilggkjpaaWd
import Derived.Deep.QuietTactic
import Derived.BigQuiet
import Derived.IntWalk
namespace Go.Proofs.Ytkdoolilggkjpaa
open Go.RowKit

theorem below_drewN {B : Nat} {a w : World} (h : Below B a w) (n : Nat) : Below B a (w.drewN n) := ⟨h.os, h.tape, h.output, h.size, h.block⟩

theorem atW_not {xs : List Bl} {t v : Int} (h : ¬ (Bks.validB xs t = true ∧ 0 ≤ v ∧ v < t)) : Bks.atW xs t v = -1 := by rw [Bks.atW, if_neg h]
theorem atW_yes {xs : List Bl} {t v : Int} (h : Bks.validB xs t = true ∧ 0 ≤ v ∧ v < t) : Bks.atW xs t v = (Bks.cnt xs v : Int) - 1 := by rw [Bks.atW, if_pos h]

theorem cnt_le (xs : List Bl) (v : Int) : Bks.cnt xs v ≤ xs.length := (List.takeWhile_prefix _).length_le

theorem l1In_quiet (n lo hi : Int) (w : World) (k : Nat) : Calls Try.prog 45 #[.int .i64 n, .int .i64 lo, .int .i64 hi] (w.drewN k) fun e w' => e = .returned (.bool (decide (lo ≤ n) && decide (n ≤ hi))) ∧ ∃ m, w' = w.drewN m :=
  (l1In_any n lo hi _).mono fun _ _ ⟨he, hw⟩ => ⟨he, k, hw.symm⟩

end Go.Proofs.Ytkdoolilggkjpaa
