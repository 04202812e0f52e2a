/- What the helpers of the exact laws return: toBlock, toBlockS, szBlockS, eqBlock, eqBlockS; for every slice of blocks. -/
import Derived.Test.YtkdoolilggkjpaaWa
import Derived.StillTailTactics
namespace Go.Proofs.Ytkdoolilggkjpaa
open Go.RowKit

theorem ret_int {k : IntKind} {a b : Int} (h : a = b) : Ending.returned (.int k a) = .returned (.int k b) := by rw [h]

theorem info_block : (Try.prog.info? 63).map (fun i => (i.zero, i.size, i.bytes)) = some (some (.agg #[.int .i64 0, .int .i64 0, .bool false]), 3, 24) := by kernel_rfl

/-- the blocks have been copied into a row of their own -/
def MadeBS (w : World) (xs : List Bl) (e : Ending) (w' : World) : Prop :=
  ∃ cs : Array Value, e = .returned (.slice (some ⟨w.heap.size, 0, none⟩) xs.length xs.length) ∧ Rw w' w.heap.size 63 cs ∧ Cs cs xs ∧ cs.size = xs.length * 3 ∧ Below w.heap.size w w'

def eqB (x y : Bl) : Bool := decide (x = y)

theorem eqB_eq (x y : Bl) : eqB x y = (x.s == y.s && x.z == y.z && x.u == y.u) := by
  obtain ⟨a, b, c⟩ := x
  obtain ⟨a', b', c'⟩ := y
  rw [Bool.eq_iff_iff]
  simp [eqB, and_assoc]

theorem take_eq_succ {xs ys : List Bl} {k : Nat} {x y : Bl} (h : xs.take k = ys.take k) (hx : xs[k]? = some x) (hy : ys[k]? = some y) (he : eqB x y = true) : xs.take (k + 1) = ys.take (k + 1) := by
  rw [List.take_add_one, List.take_add_one, h, hx, hy]
  have : x = y := by simpa [eqB] using he
  rw [this]
theorem ne_of_at {xs ys : List Bl} {k : Nat} {x y : Bl} (hx : xs[k]? = some x) (hy : ys[k]? = some y) (he : eqB x y = false) : decide (xs = ys) = false := by
  have hne : x ≠ y := by simpa [eqB] using he
  simp
  rintro rfl
  rw [hx] at hy
  injection hy with hy
  exact hne hy

end Go.Proofs.Ytkdoolilggkjpaa
