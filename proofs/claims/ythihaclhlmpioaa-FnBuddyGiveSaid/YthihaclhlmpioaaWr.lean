/- What indexBySizes returns: for all valid blocks. -/
import Derived.Test.YthihaclhlmpioaaOwn
import Derived.Test.YthihaclhlmpioaaIdx
import Derived.Deep.WholeRow
namespace Go.Proofs.Ythihaclhlmpioaa
open Go.RowKit

/-- the cells of an index -/
def idxCells (F : Nat → Int) : Array Value := ((List.range 257).map fun s => Value.int .i64 (F s)).toArray

theorem idxCells_size (F : Nat → Int) : (idxCells F).size = 257 := by simp [idxCells]
theorem idxCells_at (F : Nat → Int) {s : Nat} (h : s < 257) : (idxCells F)[s]? = some (.int .i64 (F s)) := by simp [idxCells, h]
theorem idxCells_congr {F G : Nat → Int} (h : ∀ s, s < 257 → F s = G s) : idxCells F = idxCells G := by
  unfold idxCells
  congr 1
  apply List.map_congr_left
  intro s hs
  rw [h s (by simpa using hs)]
theorem idxCells_set (F G : Nat → Int) {s : Nat} {v : Int} (hs : s < 257) (h : ∀ j, j < 257 → G j = if j = s then v else F j) : (idxCells F).setIfInBounds s (.int .i64 v) = idxCells G := by
  apply Array.ext_getElem?
  intro j
  rw [Array.getElem?_setIfInBounds]
  rcases Nat.lt_or_ge j 257 with hj | hj
  · rw [idxCells_at G hj, h j hj, idxCells_size]
    by_cases e : s = j
    · subst e
      simp [hs]
    · rw [if_neg e, if_neg (fun e' => e e'.symm), idxCells_at F hj]
  · rw [if_neg (by omega)]
    rw [Array.getElem?_eq_none (by rw [idxCells_size]; omega), Array.getElem?_eq_none (by rw [idxCells_size]; omega)]
theorem idxCells_zero : Array.replicate 257 (Value.int .i64 0) = idxCells (fun _ => 0) := by
  apply Array.ext_getElem?
  intro j
  rcases Nat.lt_or_ge j 257 with hj | hj
  · rw [idxCells_at _ hj]
    simp [hj]
  · rw [Array.getElem?_eq_none (by simp; omega), Array.getElem?_eq_none (by rw [idxCells_size]; omega)]
theorem idxCells_one (F : Nat → Int) : (idxCells F).all (·.oneCell') = true := by
  simp [idxCells, Value.oneCell']

/-- a whole array out of a block, and into one -/
theorem wp_loadRow {P : Program} {w : World} {o : Oper} {a : Act} {K : Act → World → Prop} {Q : Exit → Act → World → Prop} {r : Operand} {t e : TypeId} {g n : Nat} {c : Array Value} (ho : o.op = .load t r) (hr : a.eval r = .pointer (some ⟨g, 0, none⟩))
    (hh : Rw w g t c) (hu : P.underlying t = some (.array n e)) (hi : (P.info? t).map (·.size) = some c.size) (h : K (a.put o.dst (.agg c)) w) : Oper.wp P o a w K Q := by
  have hl := run_loadVar_row (P := P) w g t t c (0, 0) _ hh hu rfl hi
  unfold Oper.wp execOp
  simp only [ho, hr, Instr.loadAt, Instr.sureAddr, Sem.run_bind, Sem.run_pure, Result.andThen_ok, hl]
  exact h
theorem run_storeRow {P : Program} {w : World} {t : TypeId} {g : Nat} {c c' : Array Value} (hh : Rw w g t c) (hs : c.size = c'.size) (h1 : c'.all (·.oneCell') = true) : (storeCells ⟨g, 0, none⟩ c'.toList).run P w = .ok () (w.setRow g c') := by
  have := run_storeCells_from (P := P) g t c'.toList 0 c w hh (by simp; omega) (fun v hv => (Array.all_eq_true_iff_forall_mem.1 h1) v (by simpa using hv))
  simpa [World.setRow] using this
theorem Rw.row {w : World} {g : Nat} {t : TypeId} {c : Array Value} (h : Rw w g t c) (c' : Array Value) : Rw (w.setRow g c') g t c' := by
  unfold Rw at h ⊢
  simp [World.setRow, Array.getElem?_modify, h]
theorem below_row {B : Nat} {a w : World} (h : Below B a w) {g : Nat} (hg : B ≤ g) (c : Array Value) : Below B a (w.setRow g c) :=
  ⟨h.os, h.tape, h.output, by simpa [World.setRow] using h.size, fun i hi => by
    rw [← h.block i hi]
    simp only [World.setRow, Array.getElem?_modify]
    rw [if_neg (by omega)]⟩

end Go.Proofs.Ythihaclhlmpioaa
