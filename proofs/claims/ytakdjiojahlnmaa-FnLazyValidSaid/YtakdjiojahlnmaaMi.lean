/- What slices.Repeat returns for one number, 0 to 3 times. No conditions. -/
import Derived.Test.YtakdjiojahlnmaaHd
import Derived.Test.YtakdjiojahlnmaaGa
import Derived.Laws.CopyOwn
import Derived.BigRegion
namespace Go.Proofs.Ytakdjiojahlnmaa
open Go.RowKit
set_option maxRecDepth 100000

theorem info_intsize : (Try.prog.info? 3).map (·.size) = some 1 := by kernel_rfl
/-- k times -1, then 0 up to N -/
def repN (N k : Nat) : List Value := List.replicate k (.int .i64 (-1)) ++ List.replicate (N - k) (.int .i64 0)
def RowN (w : World) (g N k : Nat) : Prop := w.heap[g]? = some (.cells (repN N k).toArray 3 (0, 0))
theorem RowN.cell {w : World} {g N k j : Nat} (h : RowN w g N k) (hj : j < k) : w.cell? ⟨g, j, none⟩ = some (.int .i64 (-1)) := by
  have : (repN N k)[j]? = some (.int .i64 (-1)) := by
    unfold repN
    rw [List.getElem?_append_left (by simpa using hj)]
    simp [hj]
  have e : w.cell? ⟨g, j, none⟩ = (repN N k).toArray[j]? := Rw.cell (cs := (repN N k).toArray) h j
  rw [e]
  simpa using this
theorem RowN.put {w : World} {g N k : Nat} (h : RowN w g N k) (j : Nat) : RowN (w.setRow g (repN N j).toArray) g N j := setRow_heap w g _ _ _ _ h

theorem mulN64_0 (w : World) : Calls Try.prog 111 #[.int .u64 1, .int .u64 0] w fun e w' => e = .returned (.tuple #[.int .u64 0, .int .u64 0]) ∧ w = w' := by
  go_enter Try.func111, Try.ntmps111
  go_wp2_with fail
  go_ret2
  exact ⟨rfl, rfl⟩
theorem mulN_0 (w : World) : Calls Try.prog 104 #[.int .u64 1, .int .u64 0] w fun e w' => e = .returned (.tuple #[.int .u64 0, .int .u64 0]) ∧ w = w' := by
  go_enter Try.func104, Try.ntmps104
  go_wp2_with fail
  refine (mulN64_0 _).mono ?_
  rintro e w1 ⟨rfl, rfl⟩
  go_wp2_with fail
  go_ret2
  exact ⟨rfl, rfl⟩
theorem copyN_first_0 {w : World} {g g0 : Nat} (hr : RowN w g0 0 0) (_hc : w.cell? ⟨g, 0, none⟩ = some (.int .i64 (-1))) (ty : TypeId) :
    (Builtin.copy_ #[24, 24] ty #[.slice (some ⟨g0, 0, none⟩) 0 0, .slice (some ⟨g, 0, none⟩) 1 1]).run Try.prog w = .ok (.int .i64 0) (w.setRow g0 (repN 0 0).toArray) :=
  run_copy_row (P := Try.prog) w 24 24 ty 3 g0 0 0 0 ⟨g, 0, none⟩ 1 1 (repN 0 0).toArray 3 [] Try.underlying24 info_intsize hr rfl (by
    intro j v hj
    simp at hj) (by decide) (by intro v hv; simp at hv)

set_option maxHeartbeats 1000000 in
theorem repeat_0 (g : Nat) (w : World) (hg : g < w.heap.size) (hc : w.cell? ⟨g, 0, none⟩ = some (.int .i64 (-1))) :
    Calls Try.prog 87 #[.slice (some ⟨g, 0, none⟩) 1 1, .int .i64 0] w (GaveI w (List.replicate 0 (-1))) := by
  have hmk := makeI w 0 (by omega)
  have b2 : Below w.heap.size w (w.alloc (.cells (Array.replicate 0 (.int .i64 0)) 3)) := (Below.refl _ _).alloc (Nat.le_refl _) _
  have k2 : RowN (w.alloc (.cells (Array.replicate 0 (.int .i64 0)) 3)) w.heap.size 0 0 := Rw.new w 3 (Array.replicate 0 (.int .i64 0))
  have hc2 := (b2.cell (p := ⟨g, 0, none⟩) hg).trans hc
  obtain ⟨w2, hw2⟩ : ∃ w2, w.alloc (.cells (Array.replicate 0 (.int .i64 0)) 3) = w2 := ⟨_, rfl⟩
  rw [hw2] at hmk b2 k2 hc2
  obtain ⟨G, hG⟩ : ∃ G, w.heap.size = G := ⟨_, rfl⟩
  rw [hG] at hmk b2 k2
  simp at hmk
  have hcp := copyN_first_0 k2 hc2
  have k3 := k2.put 0
  have b3 : Below G w (w2.setRow G (repN 0 0).toArray) := below_setRow b2 (Nat.le_refl _) _
  obtain ⟨w3, hw3⟩ : ∃ w3, w2.setRow G (repN 0 0).toArray = w3 := ⟨_, rfl⟩
  rw [hw3] at hcp k3 b3
  clear hw2 hw3
  go_enter Try.func87, Try.ntmps87
  go_wp2_with fail
  refine (mulN_0 _).mono ?_
  rintro e w1 ⟨rfl, rfl⟩
  go_wp2_with fail
  clear k2 hc2 hmk hcp b2
  go_loopw [8] (fun v wr => ∃ k : Nat, (k = 0) ∧ v = .int .i64 k ∧ RowN wr G 0 k ∧ Below G w wr) (fun v _ => 0 - (intOf v).toNat)
  case atStart => exact ⟨0, rfl, rfl, k3, b3⟩
  case round =>
    clear k3 b3
    obtain ⟨k, hk, rfl, hr, bb⟩ := hrel
    subst hk
    · go_wp2_with fail
      go_ret
      refine ⟨_, rfl, ⟨by simp, .inr ⟨G, 0, (repN 0 0).toArray, by simp, by omega, hr, by simp, by unfold maxLen; omega, by decide, rfl⟩⟩, by rw [hG]; exact bb⟩

theorem mulN64_1 (w : World) : Calls Try.prog 111 #[.int .u64 1, .int .u64 1] w fun e w' => e = .returned (.tuple #[.int .u64 0, .int .u64 1]) ∧ w = w' := by
  go_enter Try.func111, Try.ntmps111
  go_wp2_with fail
  go_ret2
  exact ⟨rfl, rfl⟩
theorem mulN_1 (w : World) : Calls Try.prog 104 #[.int .u64 1, .int .u64 1] w fun e w' => e = .returned (.tuple #[.int .u64 0, .int .u64 1]) ∧ w = w' := by
  go_enter Try.func104, Try.ntmps104
  go_wp2_with fail
  refine (mulN64_1 _).mono ?_
  rintro e w1 ⟨rfl, rfl⟩
  go_wp2_with fail
  go_ret2
  exact ⟨rfl, rfl⟩
theorem copyN_first_1 {w : World} {g g0 : Nat} (hr : RowN w g0 1 0) (hc : w.cell? ⟨g, 0, none⟩ = some (.int .i64 (-1))) (ty : TypeId) :
    (Builtin.copy_ #[24, 24] ty #[.slice (some ⟨g0, 0, none⟩) 1 1, .slice (some ⟨g, 0, none⟩) 1 1]).run Try.prog w = .ok (.int .i64 1) (w.setRow g0 (repN 1 1).toArray) :=
  run_copy_row (P := Try.prog) w 24 24 ty 3 g0 0 1 1 ⟨g, 0, none⟩ 1 1 (repN 1 0).toArray 3 [.int .i64 (-1)] Try.underlying24 info_intsize hr rfl (by
    intro j v hj
    match j, hj with
    | 0, hj => simp at hj; subst hj; exact hc) (by decide) (by intro v hv; simp at hv; subst hv; rfl)

set_option maxHeartbeats 1000000 in
theorem repeat_1 (g : Nat) (w : World) (hg : g < w.heap.size) (hc : w.cell? ⟨g, 0, none⟩ = some (.int .i64 (-1))) :
    Calls Try.prog 87 #[.slice (some ⟨g, 0, none⟩) 1 1, .int .i64 1] w (GaveI w (List.replicate 1 (-1))) := by
  have hmk := makeI w 1 (by omega)
  have b2 : Below w.heap.size w (w.alloc (.cells (Array.replicate 1 (.int .i64 0)) 3)) := (Below.refl _ _).alloc (Nat.le_refl _) _
  have k2 : RowN (w.alloc (.cells (Array.replicate 1 (.int .i64 0)) 3)) w.heap.size 1 0 := Rw.new w 3 (Array.replicate 1 (.int .i64 0))
  have hc2 := (b2.cell (p := ⟨g, 0, none⟩) hg).trans hc
  obtain ⟨w2, hw2⟩ : ∃ w2, w.alloc (.cells (Array.replicate 1 (.int .i64 0)) 3) = w2 := ⟨_, rfl⟩
  rw [hw2] at hmk b2 k2 hc2
  obtain ⟨G, hG⟩ : ∃ G, w.heap.size = G := ⟨_, rfl⟩
  rw [hG] at hmk b2 k2
  simp at hmk
  have hcp := copyN_first_1 k2 hc2
  have k3 := k2.put 1
  have b3 : Below G w (w2.setRow G (repN 1 1).toArray) := below_setRow b2 (Nat.le_refl _) _
  obtain ⟨w3, hw3⟩ : ∃ w3, w2.setRow G (repN 1 1).toArray = w3 := ⟨_, rfl⟩
  rw [hw3] at hcp k3 b3
  clear hw2 hw3
  go_enter Try.func87, Try.ntmps87
  go_wp2_with fail
  refine (mulN_1 _).mono ?_
  rintro e w1 ⟨rfl, rfl⟩
  go_wp2_with fail
  clear k2 hc2 hmk hcp b2
  go_loopw [8] (fun v wr => ∃ k : Nat, (k = 1) ∧ v = .int .i64 k ∧ RowN wr G 1 k ∧ Below G w wr) (fun v _ => 1 - (intOf v).toNat)
  case atStart => exact ⟨1, rfl, rfl, k3, b3⟩
  case round =>
    clear k3 b3
    obtain ⟨k, hk, rfl, hr, bb⟩ := hrel
    subst hk
    · go_wp2_with fail
      go_ret
      refine ⟨_, rfl, ⟨by simp, .inr ⟨G, 1, (repN 1 1).toArray, by simp, by omega, hr, by simp, by unfold maxLen; omega, by decide, rfl⟩⟩, by rw [hG]; exact bb⟩

theorem mulN64_2 (w : World) : Calls Try.prog 111 #[.int .u64 1, .int .u64 2] w fun e w' => e = .returned (.tuple #[.int .u64 0, .int .u64 2]) ∧ w = w' := by
  go_enter Try.func111, Try.ntmps111
  go_wp2_with fail
  go_ret2
  exact ⟨rfl, rfl⟩
theorem mulN_2 (w : World) : Calls Try.prog 104 #[.int .u64 1, .int .u64 2] w fun e w' => e = .returned (.tuple #[.int .u64 0, .int .u64 2]) ∧ w = w' := by
  go_enter Try.func104, Try.ntmps104
  go_wp2_with fail
  refine (mulN64_2 _).mono ?_
  rintro e w1 ⟨rfl, rfl⟩
  go_wp2_with fail
  go_ret2
  exact ⟨rfl, rfl⟩
theorem copyN_first_2 {w : World} {g g0 : Nat} (hr : RowN w g0 2 0) (hc : w.cell? ⟨g, 0, none⟩ = some (.int .i64 (-1))) (ty : TypeId) :
    (Builtin.copy_ #[24, 24] ty #[.slice (some ⟨g0, 0, none⟩) 2 2, .slice (some ⟨g, 0, none⟩) 1 1]).run Try.prog w = .ok (.int .i64 1) (w.setRow g0 (repN 2 1).toArray) :=
  run_copy_row (P := Try.prog) w 24 24 ty 3 g0 0 2 2 ⟨g, 0, none⟩ 1 1 (repN 2 0).toArray 3 [.int .i64 (-1)] Try.underlying24 info_intsize hr rfl (by
    intro j v hj
    match j, hj with
    | 0, hj => simp at hj; subst hj; exact hc) (by decide) (by intro v hv; simp at hv; subst hv; rfl)
theorem copyN_2_1 {w : World} {g : Nat} (h : RowN w g 2 1) (ty : TypeId) :
    (Builtin.copy_ #[24, 24] ty #[.slice (some ⟨g, 1, none⟩) 1 1, .slice (some ⟨g, 0, none⟩) 1 2]).run Try.prog w = .ok (.int .i64 1) (w.setRow g (repN 2 2).toArray) :=
  run_copy_row (P := Try.prog) w 24 24 ty 3 g 1 1 1 ⟨g, 0, none⟩ 1 2 (repN 2 1).toArray 3 [.int .i64 (-1)] Try.underlying24 info_intsize h rfl (by
    intro j v hj
    match j, hj with
    | 0, hj => simp at hj; subst hj; exact h.cell (j := 0) (by omega)) (by decide) (by intro v hv; simp at hv; subst hv; rfl)

set_option maxHeartbeats 1000000 in
theorem repeat_2 (g : Nat) (w : World) (hg : g < w.heap.size) (hc : w.cell? ⟨g, 0, none⟩ = some (.int .i64 (-1))) :
    Calls Try.prog 87 #[.slice (some ⟨g, 0, none⟩) 1 1, .int .i64 2] w (GaveI w (List.replicate 2 (-1))) := by
  have hmk := makeI w 2 (by omega)
  have b2 : Below w.heap.size w (w.alloc (.cells (Array.replicate 2 (.int .i64 0)) 3)) := (Below.refl _ _).alloc (Nat.le_refl _) _
  have k2 : RowN (w.alloc (.cells (Array.replicate 2 (.int .i64 0)) 3)) w.heap.size 2 0 := Rw.new w 3 (Array.replicate 2 (.int .i64 0))
  have hc2 := (b2.cell (p := ⟨g, 0, none⟩) hg).trans hc
  obtain ⟨w2, hw2⟩ : ∃ w2, w.alloc (.cells (Array.replicate 2 (.int .i64 0)) 3) = w2 := ⟨_, rfl⟩
  rw [hw2] at hmk b2 k2 hc2
  obtain ⟨G, hG⟩ : ∃ G, w.heap.size = G := ⟨_, rfl⟩
  rw [hG] at hmk b2 k2
  simp at hmk
  have hcp := copyN_first_2 k2 hc2
  have k3 := k2.put 1
  have b3 : Below G w (w2.setRow G (repN 2 1).toArray) := below_setRow b2 (Nat.le_refl _) _
  obtain ⟨w3, hw3⟩ : ∃ w3, w2.setRow G (repN 2 1).toArray = w3 := ⟨_, rfl⟩
  rw [hw3] at hcp k3 b3
  clear hw2 hw3
  go_enter Try.func87, Try.ntmps87
  go_wp2_with fail
  refine (mulN_2 _).mono ?_
  rintro e w1 ⟨rfl, rfl⟩
  go_wp2_with fail
  clear k2 hc2 hmk hcp b2
  go_loopw [8] (fun v wr => ∃ k : Nat, (k = 1 ∨ k = 2) ∧ v = .int .i64 k ∧ RowN wr G 2 k ∧ Below G w wr) (fun v _ => 2 - (intOf v).toNat)
  case atStart => exact ⟨1, .inl rfl, rfl, k3, b3⟩
  case round =>
    clear k3 b3
    obtain ⟨k, hk, rfl, hr, bb⟩ := hrel
    rcases hk with rfl | rfl
    · have hcp := copyN_2_1 (w := wr.drew) hr
      have kn := RowN.put (w := wr.drew) hr 2
      have bn : Below G w (wr.drew.setRow G (repN 2 2).toArray) := below_setRow bb.drew (Nat.le_refl _) _
      obtain ⟨w3, hw3⟩ : ∃ w3, wr.drew.setRow G (repN 2 2).toArray = w3 := ⟨_, rfl⟩
      rw [hw3] at hcp kn bn
      clear hw3
      go_wp2_with fail
      go_region
      go_wp2
      go_roundw
      case rel => exact ⟨2, .inr rfl, rfl, kn, bn⟩
      case measure => simp [intOf]
    · go_wp2_with fail
      go_ret
      refine ⟨_, rfl, ⟨by simp, .inr ⟨G, 2, (repN 2 2).toArray, by simp, by omega, hr, by simp, by unfold maxLen; omega, by decide, rfl⟩⟩, by rw [hG]; exact bb⟩

theorem mulN64_3 (w : World) : Calls Try.prog 111 #[.int .u64 1, .int .u64 3] w fun e w' => e = .returned (.tuple #[.int .u64 0, .int .u64 3]) ∧ w = w' := by
  go_enter Try.func111, Try.ntmps111
  go_wp2_with fail
  go_ret2
  exact ⟨rfl, rfl⟩
theorem mulN_3 (w : World) : Calls Try.prog 104 #[.int .u64 1, .int .u64 3] w fun e w' => e = .returned (.tuple #[.int .u64 0, .int .u64 3]) ∧ w = w' := by
  go_enter Try.func104, Try.ntmps104
  go_wp2_with fail
  refine (mulN64_3 _).mono ?_
  rintro e w1 ⟨rfl, rfl⟩
  go_wp2_with fail
  go_ret2
  exact ⟨rfl, rfl⟩
theorem copyN_first_3 {w : World} {g g0 : Nat} (hr : RowN w g0 3 0) (hc : w.cell? ⟨g, 0, none⟩ = some (.int .i64 (-1))) (ty : TypeId) :
    (Builtin.copy_ #[24, 24] ty #[.slice (some ⟨g0, 0, none⟩) 3 3, .slice (some ⟨g, 0, none⟩) 1 1]).run Try.prog w = .ok (.int .i64 1) (w.setRow g0 (repN 3 1).toArray) :=
  run_copy_row (P := Try.prog) w 24 24 ty 3 g0 0 3 3 ⟨g, 0, none⟩ 1 1 (repN 3 0).toArray 3 [.int .i64 (-1)] Try.underlying24 info_intsize hr rfl (by
    intro j v hj
    match j, hj with
    | 0, hj => simp at hj; subst hj; exact hc) (by decide) (by intro v hv; simp at hv; subst hv; rfl)
theorem copyN_3_1 {w : World} {g : Nat} (h : RowN w g 3 1) (ty : TypeId) :
    (Builtin.copy_ #[24, 24] ty #[.slice (some ⟨g, 1, none⟩) 2 2, .slice (some ⟨g, 0, none⟩) 1 3]).run Try.prog w = .ok (.int .i64 1) (w.setRow g (repN 3 2).toArray) :=
  run_copy_row (P := Try.prog) w 24 24 ty 3 g 1 2 2 ⟨g, 0, none⟩ 1 3 (repN 3 1).toArray 3 [.int .i64 (-1)] Try.underlying24 info_intsize h rfl (by
    intro j v hj
    match j, hj with
    | 0, hj => simp at hj; subst hj; exact h.cell (j := 0) (by omega)) (by decide) (by intro v hv; simp at hv; subst hv; rfl)
theorem copyN_3_2 {w : World} {g : Nat} (h : RowN w g 3 2) (ty : TypeId) :
    (Builtin.copy_ #[24, 24] ty #[.slice (some ⟨g, 2, none⟩) 1 1, .slice (some ⟨g, 0, none⟩) 2 3]).run Try.prog w = .ok (.int .i64 1) (w.setRow g (repN 3 3).toArray) :=
  run_copy_row (P := Try.prog) w 24 24 ty 3 g 2 1 1 ⟨g, 0, none⟩ 2 3 (repN 3 2).toArray 3 [.int .i64 (-1)] Try.underlying24 info_intsize h rfl (by
    intro j v hj
    match j, hj with
    | 0, hj => simp at hj; subst hj; exact h.cell (j := 0) (by omega)) (by decide) (by intro v hv; simp at hv; subst hv; rfl)

set_option maxHeartbeats 1000000 in
theorem repeat_3 (g : Nat) (w : World) (hg : g < w.heap.size) (hc : w.cell? ⟨g, 0, none⟩ = some (.int .i64 (-1))) :
    Calls Try.prog 87 #[.slice (some ⟨g, 0, none⟩) 1 1, .int .i64 3] w (GaveI w (List.replicate 3 (-1))) := by
  have hmk := makeI w 3 (by omega)
  have b2 : Below w.heap.size w (w.alloc (.cells (Array.replicate 3 (.int .i64 0)) 3)) := (Below.refl _ _).alloc (Nat.le_refl _) _
  have k2 : RowN (w.alloc (.cells (Array.replicate 3 (.int .i64 0)) 3)) w.heap.size 3 0 := Rw.new w 3 (Array.replicate 3 (.int .i64 0))
  have hc2 := (b2.cell (p := ⟨g, 0, none⟩) hg).trans hc
  obtain ⟨w2, hw2⟩ : ∃ w2, w.alloc (.cells (Array.replicate 3 (.int .i64 0)) 3) = w2 := ⟨_, rfl⟩
  rw [hw2] at hmk b2 k2 hc2
  obtain ⟨G, hG⟩ : ∃ G, w.heap.size = G := ⟨_, rfl⟩
  rw [hG] at hmk b2 k2
  simp at hmk
  have hcp := copyN_first_3 k2 hc2
  have k3 := k2.put 1
  have b3 : Below G w (w2.setRow G (repN 3 1).toArray) := below_setRow b2 (Nat.le_refl _) _
  obtain ⟨w3, hw3⟩ : ∃ w3, w2.setRow G (repN 3 1).toArray = w3 := ⟨_, rfl⟩
  rw [hw3] at hcp k3 b3
  clear hw2 hw3
  go_enter Try.func87, Try.ntmps87
  go_wp2_with fail
  refine (mulN_3 _).mono ?_
  rintro e w1 ⟨rfl, rfl⟩
  go_wp2_with fail
  clear k2 hc2 hmk hcp b2
  go_loopw [8] (fun v wr => ∃ k : Nat, (k = 1 ∨ k = 2 ∨ k = 3) ∧ v = .int .i64 k ∧ RowN wr G 3 k ∧ Below G w wr) (fun v _ => 3 - (intOf v).toNat)
  case atStart => exact ⟨1, .inl rfl, rfl, k3, b3⟩
  case round =>
    clear k3 b3
    obtain ⟨k, hk, rfl, hr, bb⟩ := hrel
    rcases hk with rfl | rfl | rfl
    · have hcp := copyN_3_1 (w := wr.drew) hr
      have kn := RowN.put (w := wr.drew) hr 2
      have bn : Below G w (wr.drew.setRow G (repN 3 2).toArray) := below_setRow bb.drew (Nat.le_refl _) _
      obtain ⟨w3, hw3⟩ : ∃ w3, wr.drew.setRow G (repN 3 2).toArray = w3 := ⟨_, rfl⟩
      rw [hw3] at hcp kn bn
      clear hw3
      go_wp2_with fail
      go_region
      go_wp2
      go_roundw
      case rel => exact ⟨2, .inr (.inl rfl), rfl, kn, bn⟩
      case measure => simp [intOf]
    · have hcp := copyN_3_2 (w := wr.drew) hr
      have kn := RowN.put (w := wr.drew) hr 3
      have bn : Below G w (wr.drew.setRow G (repN 3 3).toArray) := below_setRow bb.drew (Nat.le_refl _) _
      obtain ⟨w3, hw3⟩ : ∃ w3, wr.drew.setRow G (repN 3 3).toArray = w3 := ⟨_, rfl⟩
      rw [hw3] at hcp kn bn
      clear hw3
      go_wp2_with fail
      go_region
      go_wp2
      go_roundw
      case rel => exact ⟨3, .inr (.inr rfl), rfl, kn, bn⟩
      case measure => simp [intOf]
    · go_wp2_with fail
      go_ret
      refine ⟨_, rfl, ⟨by simp, .inr ⟨G, 3, (repN 3 3).toArray, by simp, by omega, hr, by simp, by unfold maxLen; omega, by decide, rfl⟩⟩, by rw [hG]; exact bb⟩

theorem repeat_ones (n : Nat) (hn : n ≤ 3) (g : Nat) (w : World) (hg : g < w.heap.size) (hc : w.cell? ⟨g, 0, none⟩ = some (.int .i64 (-1))) :
    Calls Try.prog 87 #[.slice (some ⟨g, 0, none⟩) 1 1, .int .i64 n] w (GaveI w (List.replicate n (-1))) := by
  obtain rfl | rfl | rfl | rfl : n = 0 ∨ n = 1 ∨ n = 2 ∨ n = 3 := by omega
  · exact repeat_0 g w hg hc
  · exact repeat_1 g w hg hc
  · exact repeat_2 g w hg hc
  · exact repeat_3 g w hg hc
end Go.Proofs.Ytakdjiojahlnmaa
