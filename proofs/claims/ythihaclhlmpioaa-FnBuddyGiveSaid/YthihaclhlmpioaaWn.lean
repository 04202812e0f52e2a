/- What blockIs, and slices.Clone, slices.Grow and slices.Concat at blocks, return: for every slice of blocks. -/
import Derived.Test.YthihaclhlmpioaaWi
import Derived.Lib.SliceRun
import Derived.Lib.AppendZerosOnto
namespace Go.Proofs.Ythihaclhlmpioaa
open Go.RowKit

/-- there is a block with the number, used or free as asked -/
def isB (xs : List Bl) (num : Int) (u : Bool) : Bool :=
  decide (0 ≤ num) && match xs[num.toNat]? with
  | none => false
  | some b => b.u == u

theorem isB_at {xs : List Bl} {k : Nat} {x : Bl} (u : Bool) (hx : xs[k]? = some x) : isB xs k u = (x.u == u) := by simp [isB, hx]
theorem isB_neg {xs : List Bl} {num : Int} (u : Bool) (h : num < 0) : isB xs num u = false := by
  have : ¬ 0 ≤ num := by omega
  simp [isB, this]
theorem isB_out {xs : List Bl} {num : Int} (u : Bool) (h : xs.length ≤ num) : isB xs num u = false := by
  unfold isB
  rw [List.getElem?_eq_none (by omega)]
  simp
theorem canGive_isB (xs : List Bl) (num : Int) : Bks.canGive xs num = isB xs num true := by
  unfold Bks.canGive isB
  cases xs[num.toNat]? <;> simp

theorem grown_row (w : World) (n G : Nat) (h : n ≤ G) (hG : G ≤ maxLen) :
    OwnB (w.alloc (.cells (Builtin.zeroCells #[.int .i64 0, .int .i64 0, .bool false] n ++ Builtin.zeroCells #[.int .i64 0, .int .i64 0, .bool false] (G - n)) 55)).drew w.heap.size (.slice (some ⟨w.heap.size, 0, none⟩) 0 G) [] := by
  refine ⟨by simp [flat], .inr ⟨w.heap.size, G, Builtin.zeroCells #[.int .i64 0, .int .i64 0, .bool false] n ++ Builtin.zeroCells #[.int .i64 0, .int .i64 0, .bool false] (G - n), rfl, Nat.le_refl _, ?_, by simp, hG, ?_, by simp [flat]⟩⟩
  · show (w.heap.push _)[w.heap.size]? = _
    simp
  · simp [Builtin.zeroCells]
    omega

/-- a slice that is a part of what is joined, and its blocks -/
structure Part where
  a : Option Addr
  n : Nat
  c : Nat
  xs : List Bl

def catP : List Part → List Bl
  | [] => []
  | p :: ps => p.xs ++ catP ps

theorem catP_append (ps qs : List Part) : catP (ps ++ qs) = catP ps ++ catP qs := by
  induction ps with
  | nil => rfl
  | cons p ps ih => simp [catP, ih]

theorem catP_succ {ps : List Part} {k : Nat} {p : Part} (h : ps[k]? = some p) : catP (ps.take (k + 1)) = catP (ps.take k) ++ p.xs := by
  rw [List.take_add_one, h, catP_append]
  simp [catP]

theorem catP_le (ps : List Part) (k : Nat) : (catP (ps.take k)).length ≤ (catP ps).length := by
  have := catP_append (ps.take k) (ps.drop k)
  rw [List.take_append_drop] at this
  rw [this]
  simp

def Parts (w : World) (B g : Nat) (ps : List Part) : Prop := ∀ (k : Nat) (p : Part), ps[k]? = some p → w.cell? ⟨g, k, none⟩ = some (.slice p.a p.n p.c) ∧ BS w B p.a p.n p.xs

theorem Parts.at_ {w : World} {B g k : Nat} {ps : List Part} (h : Parts w B g ps) (hk : k < ps.length) : ∃ p, ps[k]? = some p ∧ w.cell? ⟨g, k, none⟩ = some (.slice p.a p.n p.c) ∧ BS w B p.a p.n p.xs :=
  ⟨_, List.getElem?_eq_getElem hk, h k _ (List.getElem?_eq_getElem hk)⟩

end Go.Proofs.Ythihaclhlmpioaa
