/- What the program's EmptyHeap returns. No conditions. -/
import Derived.Test.YtakdjiojahlnmaaHd
import Derived.Test.YtakdjiojahlnmaaGa
import Derived.Laws.CopyOwn
import Derived.BigRegion
namespace Go.Proofs.Ytakdjiojahlnmaa
open Go.RowKit
set_option maxRecDepth 100000

theorem mul64_14 (w : World) : Calls Try.prog 111 #[.int .u64 1, .int .u64 4] w fun e w' => e = .returned (.tuple #[.int .u64 0, .int .u64 4]) ∧ w = w' := by
  go_enter Try.func111, Try.ntmps111
  go_wp2_with fail
  go_ret2
  exact ⟨rfl, rfl⟩
theorem mul_14 (w : World) : Calls Try.prog 104 #[.int .u64 1, .int .u64 4] w fun e w' => e = .returned (.tuple #[.int .u64 0, .int .u64 4]) ∧ w = w' := by
  go_enter Try.func104, Try.ntmps104
  go_wp2_with fail
  refine (mul64_14 _).mono ?_
  rintro e w1 ⟨rfl, rfl⟩
  go_wp2_with fail
  go_ret2
  exact ⟨rfl, rfl⟩

theorem info_intsz : (Try.prog.info? 3).map (·.size) = some 1 := by kernel_rfl
/-- k times -1, then 0 -/
def rep4 (k : Nat) : List Value := List.replicate k (.int .i64 (-1)) ++ List.replicate (4 - k) (.int .i64 0)
def RowK (w : World) (g k : Nat) : Prop := w.heap[g]? = some (.cells (rep4 k).toArray 3 (0, 0))
theorem copy_first {w : World} {g g0 : Nat} (hr : RowK w g0 0) (hc : w.cell? ⟨g, 0, none⟩ = some (.int .i64 (-1))) (ty : TypeId) :
    (Builtin.copy_ #[24, 24] ty #[.slice (some ⟨g0, 0, none⟩) 4 4, .slice (some ⟨g, 0, none⟩) 1 1]).run Try.prog w = .ok (.int .i64 1) (w.setRow g0 (rep4 1).toArray) :=
  run_copy_row (P := Try.prog) w 24 24 ty 3 g0 0 4 4 ⟨g, 0, none⟩ 1 1 (rep4 0).toArray 3 [.int .i64 (-1)] Try.underlying24 info_intsz hr rfl (by
    intro j v hj
    match j, hj with
    | 0, hj => simp at hj; subst hj; exact hc) (by decide) (by intro v hv; simp at hv; subst hv; rfl)
theorem RowK.cell {w : World} {g k j : Nat} (h : RowK w g k) (hj : j < k) : w.cell? ⟨g, j, none⟩ = some (.int .i64 (-1)) := by
  have : (rep4 k)[j]? = some (.int .i64 (-1)) := by
    unfold rep4
    rw [List.getElem?_append_left (by simpa using hj)]
    simp [hj]
  have e : w.cell? ⟨g, j, none⟩ = (rep4 k).toArray[j]? := Rw.cell (cs := (rep4 k).toArray) h j
  rw [e]
  simpa using this
theorem RowK.put {w : World} {g k : Nat} (h : RowK w g k) (j : Nat) : RowK (w.setRow g (rep4 j).toArray) g j := setRow_heap w g _ _ _ _ h
theorem copy_one {w : World} {g : Nat} (h : RowK w g 1) (ty : TypeId) :
    (Builtin.copy_ #[24, 24] ty #[.slice (some ⟨g, 1, none⟩) 3 3, .slice (some ⟨g, 0, none⟩) 1 4]).run Try.prog w = .ok (.int .i64 1) (w.setRow g (rep4 2).toArray) :=
  run_copy_row (P := Try.prog) w 24 24 ty 3 g 1 3 3 ⟨g, 0, none⟩ 1 4 (rep4 1).toArray 3 [.int .i64 (-1)] Try.underlying24 info_intsz h rfl (by
    intro j v hj
    match j, hj with
    | 0, hj => simp at hj; subst hj; exact h.cell (by omega)) (by decide) (by intro v hv; simp at hv; subst hv; rfl)
theorem copy_two {w : World} {g : Nat} (h : RowK w g 2) (ty : TypeId) :
    (Builtin.copy_ #[24, 24] ty #[.slice (some ⟨g, 2, none⟩) 2 2, .slice (some ⟨g, 0, none⟩) 2 4]).run Try.prog w = .ok (.int .i64 2) (w.setRow g (rep4 4).toArray) :=
  run_copy_row (P := Try.prog) w 24 24 ty 3 g 2 2 2 ⟨g, 0, none⟩ 2 4 (rep4 2).toArray 3 [.int .i64 (-1), .int .i64 (-1)] Try.underlying24 info_intsz h rfl (by
    intro j v hj
    match j, hj with
    | 0, hj => simp at hj; subst hj; exact h.cell (j := 0) (by omega)
    | 1, hj => simp at hj; subst hj; exact h.cell (j := 1) (by omega)) (by decide) (by intro v hv; simp at hv; subst hv; rfl)

set_option maxHeartbeats 1000000 in
theorem repeat_any (g : Nat) (w : World) (hg : g < w.heap.size) (hc : w.cell? ⟨g, 0, none⟩ = some (.int .i64 (-1))) :
    Calls Try.prog 87 #[.slice (some ⟨g, 0, none⟩) 1 1, .int .i64 4] w (GaveI w (List.replicate 4 (-1))) := by
  have hmk := makeI w 4 (by omega)
  have b2 : Below w.heap.size w (w.alloc (.cells (Array.replicate 4 (.int .i64 0)) 3)) := (Below.refl _ _).alloc (Nat.le_refl _) _
  have k2 : RowK (w.alloc (.cells (Array.replicate 4 (.int .i64 0)) 3)) w.heap.size 0 := Rw.new w 3 (Array.replicate 4 (.int .i64 0))
  have hc2 := (b2.cell (p := ⟨g, 0, none⟩) hg).trans hc
  obtain ⟨w2, hw2⟩ : ∃ w2, w.alloc (.cells (Array.replicate 4 (.int .i64 0)) 3) = w2 := ⟨_, rfl⟩
  rw [hw2] at hmk b2 k2 hc2
  obtain ⟨G, hG⟩ : ∃ G, w.heap.size = G := ⟨_, rfl⟩
  rw [hG] at hmk b2 k2
  simp at hmk
  have hcp := copy_first k2 hc2
  have k3 := k2.put 1
  have b3 : Below G w (w2.setRow G (rep4 1).toArray) := below_setRow b2 (Nat.le_refl _) _
  obtain ⟨w3, hw3⟩ : ∃ w3, w2.setRow G (rep4 1).toArray = w3 := ⟨_, rfl⟩
  rw [hw3] at hcp k3 b3
  clear hw2 hw3
  go_enter Try.func87, Try.ntmps87
  go_wp2_with fail
  refine (mul_14 _).mono ?_
  rintro e w1 ⟨rfl, rfl⟩
  go_wp2_with fail
  clear k2 hc2 hmk hcp b2
  go_loopw [8] (fun v wr => ∃ k : Nat, (k = 1 ∨ k = 2 ∨ k = 4) ∧ v = .int .i64 k ∧ RowK wr G k ∧ Below G w wr) (fun v _ => 4 - (intOf v).toNat)
  case atStart => exact ⟨1, .inl rfl, rfl, k3, b3⟩
  case round =>
    clear k3 b3
    obtain ⟨k, hk, rfl, hr, bb⟩ := hrel
    rcases hk with rfl | rfl | rfl
    · have hcp := copy_one (w := wr.drew) hr
      have kn := RowK.put (w := wr.drew) hr 2
      have bn : Below G w (wr.drew.setRow G (rep4 2).toArray) := below_setRow bb.drew (Nat.le_refl _) _
      obtain ⟨w3, hw3⟩ : ∃ w3, wr.drew.setRow G (rep4 2).toArray = w3 := ⟨_, rfl⟩
      rw [hw3] at hcp kn bn
      clear hw3
      go_wp2_with fail
      go_region
      go_wp2
      go_roundw
      case rel => exact ⟨2, .inr (.inl rfl), rfl, kn, bn⟩
      case measure => simp [intOf]
    · have hcp := copy_two (w := wr.drew) hr
      have kn := RowK.put (w := wr.drew) hr 4
      have bn : Below G w (wr.drew.setRow G (rep4 4).toArray) := below_setRow bb.drew (Nat.le_refl _) _
      obtain ⟨w3, hw3⟩ : ∃ w3, wr.drew.setRow G (rep4 4).toArray = w3 := ⟨_, rfl⟩
      rw [hw3] at hcp kn bn
      clear hw3
      go_wp2_with fail
      go_region
      go_wp2
      go_roundw
      case rel => exact ⟨4, .inr (.inr rfl), rfl, kn, bn⟩
      case measure => simp [intOf]
    · go_wp2_with fail
      go_ret
      refine ⟨_, rfl, ⟨by simp, .inr ⟨G, 4, (rep4 4).toArray, by simp, by omega, hr, by simp, by unfold maxLen; omega, by decide, rfl⟩⟩, by rw [hG]; exact bb⟩

end Go.Proofs.Ytakdjiojahlnmaa
