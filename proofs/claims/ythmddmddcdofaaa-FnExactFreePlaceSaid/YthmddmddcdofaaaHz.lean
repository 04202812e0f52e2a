/- What the program's EmptyHeap returns. No conditions. -/
import Derived.Test.YthmddmddcdofaaaHd
import Derived.Test.YthmddmddcdofaaaGa
import Derived.Laws.CopyOwn
import Derived.BigRegion
namespace Go.Proofs.Ythmddmddcdofaaa
open Go.RowKit
set_option maxRecDepth 100000

theorem info_intsz : (Try.prog.info? 3).map (·.size) = some 1 := by kernel_rfl
/-- k times -1, then 0 -/
def rep4 (k : Nat) : List Value := List.replicate k (.int .i64 (-1)) ++ List.replicate (4 - k) (.int .i64 0)
def RowK (w : World) (g k : Nat) : Prop := w.heap[g]? = some (.cells (rep4 k).toArray 3 (0, 0))
theorem copy_first {w : World} {g g0 : Nat} (hr : RowK w g0 0) (hc : w.cell? ⟨g, 0, none⟩ = some (.int .i64 (-1))) (ty : TypeId) :
    (Builtin.copy_ #[24, 24] ty #[.slice (some ⟨g0, 0, none⟩) 4 4, .slice (some ⟨g, 0, none⟩) 1 1]).run Try.prog w = .ok (.int .i64 1) (w.setRow g0 (rep4 1).toArray) :=
  run_copy_row (P := Try.prog) w 24 24 ty 3 g0 0 4 4 ⟨g, 0, none⟩ 1 1 (rep4 0).toArray 3 [.int .i64 (-1)] Try.underlying24 info_intsz hr rfl (by
    intro j v hj
    match j, hj with
    | 0, hj => simp at hj; subst hj; exact hc) (by decide) (by intro v hv; simp at hv; subst hv; rfl)
theorem RowK.cell {w : World} {g k j : Nat} (h : RowK w g k) (hj : j < k) : w.cell? ⟨g, j, none⟩ = some (.int .i64 (-1)) := by
  have : (rep4 k)[j]? = some (.int .i64 (-1)) := by
    unfold rep4
    rw [List.getElem?_append_left (by simpa using hj)]
    simp [hj]
  have e : w.cell? ⟨g, j, none⟩ = (rep4 k).toArray[j]? := Rw.cell (cs := (rep4 k).toArray) h j
  rw [e]
  simpa using this
theorem RowK.put {w : World} {g k : Nat} (h : RowK w g k) (j : Nat) : RowK (w.setRow g (rep4 j).toArray) g j := setRow_heap w g _ _ _ _ h
theorem copy_one {w : World} {g : Nat} (h : RowK w g 1) (ty : TypeId) :
    (Builtin.copy_ #[24, 24] ty #[.slice (some ⟨g, 1, none⟩) 3 3, .slice (some ⟨g, 0, none⟩) 1 4]).run Try.prog w = .ok (.int .i64 1) (w.setRow g (rep4 2).toArray) :=
  run_copy_row (P := Try.prog) w 24 24 ty 3 g 1 3 3 ⟨g, 0, none⟩ 1 4 (rep4 1).toArray 3 [.int .i64 (-1)] Try.underlying24 info_intsz h rfl (by
    intro j v hj
    match j, hj with
    | 0, hj => simp at hj; subst hj; exact h.cell (by omega)) (by decide) (by intro v hv; simp at hv; subst hv; rfl)
theorem copy_two {w : World} {g : Nat} (h : RowK w g 2) (ty : TypeId) :
    (Builtin.copy_ #[24, 24] ty #[.slice (some ⟨g, 2, none⟩) 2 2, .slice (some ⟨g, 0, none⟩) 2 4]).run Try.prog w = .ok (.int .i64 2) (w.setRow g (rep4 4).toArray) :=
  run_copy_row (P := Try.prog) w 24 24 ty 3 g 2 2 2 ⟨g, 0, none⟩ 2 4 (rep4 2).toArray 3 [.int .i64 (-1), .int .i64 (-1)] Try.underlying24 info_intsz h rfl (by
    intro j v hj
    match j, hj with
    | 0, hj => simp at hj; subst hj; exact h.cell (j := 0) (by omega)
    | 1, hj => simp at hj; subst hj; exact h.cell (j := 1) (by omega)) (by decide) (by intro v hv; simp at hv; subst hv; rfl)

end Go.Proofs.Ythmddmddcdofaaa
