/- What NewBlocks returns, the program's and the model's: for every number. -/
import Derived.Test.YtkdoolilggkjpaaOwn
namespace Go.Proofs.Ytkdoolilggkjpaa
open Go.RowKit

def newB (t : Int) : List Bl := if 1 ≤ t ∧ t ≤ 256 then [⟨0, t, false⟩] else []

/-- the call has made a slice of its own that holds the blocks xs -/
def GaveB (w : World) (xs : List Bl) (e : Ending) (w' : World) : Prop := ∃ v, e = .returned v ∧ OwnB w' w.heap.size v xs ∧ Below w.heap.size w w'

theorem own_one (w : World) (a b : Int) (u : Bool) (base : Nat) (hb : base ≤ w.heap.size) : OwnB (w.alloc (.cells #[.int .i64 a, .int .i64 b, .bool u] 63)) base (.slice (some ⟨w.heap.size, 0, none⟩) 1 1) [⟨a, b, u⟩] := by
  have := World.ownsRow_lit (base := base) (e := 63) (size := 3) w #[.int .i64 a, .int .i64 b, .bool u] 1 hb (by unfold maxLen; omega) rfl
  exact this

theorem newB_all (t : Int) : AllI (newB t) := by
  intro k x hx
  unfold newB at hx
  split at hx
  · match k, hx with
    | 0, hx =>
      simp at hx
      subst hx
      unfold I64
      constructor <;> constructor <;> simp <;> omega
    | k + 1, hx => simp at hx
  · simp at hx
theorem newB_len (t : Int) : (newB t).length ≤ 1 := by
  unfold newB
  split <;> simp
end Go.Proofs.Ytkdoolilggkjpaa
