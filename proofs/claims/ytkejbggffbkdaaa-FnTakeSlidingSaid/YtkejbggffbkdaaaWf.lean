/- What NewBlocks returns, the program's and the model's: for every number. -/
import Derived.Test.YtkejbggffbkdaaaOwn
namespace Go.Proofs.Ytkejbggffbkdaaa
open Go.RowKit

def newB (t : Int) : List Bl := if 1 ≤ t ∧ t ≤ 256 then [⟨0, t, false⟩] else []

/-- the call has made a slice of its own that holds the blocks xs -/
def GaveB (w : World) (xs : List Bl) (e : Ending) (w' : World) : Prop := ∃ v, e = .returned v ∧ OwnB w' w.heap.size v xs ∧ Below w.heap.size w w'

theorem own_one (w : World) (a b : Int) (u : Bool) (base : Nat) (hb : base ≤ w.heap.size) : OwnB (w.alloc (.cells #[.int .i64 a, .int .i64 b, .bool u] 32)) base (.slice (some ⟨w.heap.size, 0, none⟩) 1 1) [⟨a, b, u⟩] := by
  have := World.ownsRow_lit (base := base) (e := 32) (size := 3) w #[.int .i64 a, .int .i64 b, .bool u] 1 hb (by unfold maxLen; omega) rfl
  exact this

theorem mNewBlocks_any (t : Int) (w : World) : Calls Try.prog 46 #[.int .i64 t] w (GaveB w (newB t)) := by
  by_cases ht : 1 ≤ t ∧ t ≤ 256
  · have HN := Lib.hid (show newB t = [⟨0, t, false⟩] by simp [newB, ht])
    have hd : (decide (1 ≤ t) && decide (t ≤ 256)) = true := by simpa using ht
    go_enter Try.func46, Try.ntmps46
    go_wp2_with (go_at_call 41; refine (l1In_any _ _ _ _).mono ?_; rintro e w' ⟨rfl, rfl⟩)
    go_ret
    refine ⟨_, rfl, ?_, (Below.refl _ _).alloc (Nat.le_refl _) _⟩
    rw [HN.out]
    exact own_one w 0 t false _ (Nat.le_refl _)
  · have HN := Lib.hid (show newB t = [] by simp [newB, ht])
    have hd : (decide (1 ≤ t) && decide (t ≤ 256)) = false := by simpa using ht
    go_enter Try.func46, Try.ntmps46
    go_wp2_with (go_at_call 41; refine (l1In_any _ _ _ _).mono ?_; rintro e w' ⟨rfl, rfl⟩)
    go_ret
    refine ⟨_, rfl, ?_, (Below.refl _ _).alloc (Nat.le_refl _) _⟩
    rw [HN.out]
    exact World.ownsRow_lit (base := w.heap.size) (e := 32) (size := 3) w #[] 0 (Nat.le_refl _) (by unfold maxLen; omega) rfl

theorem newB_all (t : Int) : AllI (newB t) := by
  intro k x hx
  unfold newB at hx
  split at hx
  · match k, hx with
    | 0, hx =>
      simp at hx
      subst hx
      unfold I64
      constructor <;> constructor <;> simp <;> omega
    | k + 1, hx => simp at hx
  · simp at hx
theorem newB_len (t : Int) : (newB t).length ≤ 1 := by
  unfold newB
  split <;> simp
end Go.Proofs.Ytkejbggffbkdaaa
