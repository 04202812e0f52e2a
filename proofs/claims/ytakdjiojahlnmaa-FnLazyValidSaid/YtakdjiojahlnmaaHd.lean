/- What the model's EmptyHeap returns. -/
import Derived.Test.YtakdjiojahlnmaaHc
namespace Go.Proofs.Ytakdjiojahlnmaa
open Go.RowKit

/-- a heap of the call's own -/
def GaveH (w : World) (h : Hp) (e : Ending) (w' : World) : Prop := ∃ vc vr, e = .returned (.agg #[vc, vr]) ∧ OwnH w' w.heap.size vc vr h ∧ Below w.heap.size w w'

theorem row_ne {w : World} {base b : Nat} {v : Value} {xs : List Int} (h : OwnI w base v xs) (hb : b < base) : some b ≠ v.ownBlock := fun e => by
  have := (World.ownsRow.lt h b e.symm).1
  omega

set_option maxHeartbeats 1000000 in
theorem mEmptyHeap_any (w : World) : Calls Try.prog 99 #[] w (GaveH w Hps.emptyH) := by
  go_enter Try.func99, Try.ntmps99
  go_wp2_with fail
  go_loopw [2] (fun i wr => ∃ (k : Nat) (vr : Value), k ≤ 4 ∧ i = .int .i64 k ∧ OwnI wr (w.heap.size + 2) vr (List.replicate k (-1)) ∧ Rw wr (w.heap.size + 1) 26 #[.slice none 0 0, vr] ∧ Rw wr w.heap.size 26 #[.slice none 0 0, .slice none 0 0] ∧ Below w.heap.size w wr ∧ w.heap.size + 2 ≤ wr.heap.size) (fun i _ => 4 - (intOf i).toNat)
  case atStart =>
    refine ⟨0, .slice none 0 0, by omega, rfl, World.ownsRow_nil _ _ _ _, ?_, (Rw.new w _ _).alloc _, ((Below.refl w.heap.size w).alloc (Nat.le_refl _) _).alloc (by simp) _, by simp⟩
    have := Rw.new (w.alloc (.cells #[.slice none 0 0, .slice none 0 0] 26)) 26 #[.slice none 0 0, .slice none 0 0]
    rw [World.size_alloc] at this
    exact this
  case round =>
    obtain ⟨k, vr, hk, rfl, ho, hx, hr, bb, hsz⟩ := hrel
    have x0 : wr.cell? ⟨w.heap.size + 1, 0, none⟩ = some (.slice none 0 0) := hx.cell 0
    have x1 : wr.cell? ⟨w.heap.size + 1, 1, none⟩ = some vr := hx.cell 1
    have y0 : wr.cell? ⟨w.heap.size, 0, none⟩ = some (.slice none 0 0) := hr.cell 0
    have y1 : wr.cell? ⟨w.heap.size, 1, none⟩ = some (.slice none 0 0) := hr.cell 1
    obtain ⟨A, c, e, hA⟩ := ho.form
    have hlen : (List.replicate k (-1 : Int)).length = k := by simp
    rw [hlen] at e hA
    subst e
    by_cases hlt : k < 4
    · have hlt' : (k : Int) < 4 := by omega
      have ow := World.ownsRow.alloc ho (.cells #[.int .i64 (-1)] 3)
      have rr : IS (wr.alloc (.cells #[.int .i64 (-1)] 3)) (wr.alloc (.cells #[.int .i64 (-1)] 3)).heap.size (some ⟨wr.heap.size, 0, none⟩) 1 [-1] := (own_oneI wr (-1) 0 (Nat.zero_le _)).reads
      have HS := Lib.hid (show List.replicate k (-1 : Int) ++ [-1] = List.replicate (k + 1) (-1) by rw [List.replicate_succ'])
      clear y0 y1 hlen
      go_wp2_with (at_builtin; refine wpList_appendI rfl (.tmp 9) (.tmp 10) rfl (w.heap.size + 2) _ (List.replicate k (-1)) rfl ow (some ⟨wr.heap.size, 0, none⟩) 1 1 _ [-1] rfl rr (by simp; omega) (by simp; omega) ?_; intro v5 w5 o5 g5 s5; have hx5 := Rw.far (hx.alloc (.cells #[.int .i64 (-1)] 3)) g5 (row_ne ho (by omega)); have hr5 := Rw.far (hr.alloc (.cells #[.int .i64 (-1)] 3)) g5 (row_ne ho (by omega)); have x0 := hx5.cell 0; have x1 := hx5.cell 1; have x2 := hx5.frozen 1; obtain ⟨A5, c5, e5, f5⟩ := o5.form; subst e5; clear f5)
      have o6 : OwnI w5 (w.heap.size + 2) (.slice A5 (k + 1) c5) (List.replicate (k + 1) (-1)) := by
        have := OwnI.cast HS.out o5
        simpa using this
      have b5 : Below w.heap.size w w5 := (bb.alloc bb.size _).grown g5 (by simp; omega) (fun kk hk => by have := (World.ownsRow.lt ho kk hk).1; omega)
      have s5' : w.heap.size + 2 ≤ w5.heap.size := by have := g5.size; simp at this; omega
      go_roundw
      case rel =>
        refine ⟨k + 1, .slice A5 (k + 1) c5, by omega, by go_num, ?_, hx5.put 1 _, Rw.other (w := w5) hr5 (by omega) _, b5.setCell (p := ⟨w.heap.size + 1, 1, none⟩) (by simp) _, by simpa using s5'⟩
        exact o6.far (only_put (World.grownBy.refl _ _) 1 _) (.inr fun e => row_ne o6 (by omega) e.symm)
      case measure => simp [intOf]; omega
    · obtain rfl : k = 4 := by omega
      have y2 := hr.frozen 0
      have y3 := hr.frozen 1
      have bn := (bb.setCell (p := ⟨w.heap.size, 0, none⟩) (Nat.le_refl _) (.slice none 0 0)).setCell (p := ⟨w.heap.size, 1, none⟩) (Nat.le_refl _) (.slice A 4 c)
      have q0 := ((hr.put 0 (.slice none 0 0)).put 1 (.slice A 4 c)).cell 0
      have q1 := ((hr.put 0 (.slice none 0 0)).put 1 (.slice A 4 c)).cell 1
      have oh : OwnH ((wr.setCell ⟨w.heap.size, 0, none⟩ (.slice none 0 0)).setCell ⟨w.heap.size, 1, none⟩ (.slice A 4 c)) w.heap.size (.slice none 0 0) (.slice A 4 c) Hps.emptyH := by
        refine ⟨[], rfl, World.ownsRow_nil _ _ _ _, fun k c v hc => by simp [Hps.emptyH] at hc, ?_, ?_⟩
        · have a1 := ho.far (only_put (g := w.heap.size) (World.grownBy.refl _ _) 0 (.slice none 0 0)) (.inr fun e => row_ne (b := w.heap.size) ho (by omega) e.symm)
          exact (a1.far (only_put (g := w.heap.size) (World.grownBy.refl _ _) 1 (.slice A 4 c)) (.inr fun e => row_ne (b := w.heap.size) ho (by omega) e.symm)).base (by omega)
        · simp [Sep, Value.ownBlock]
      clear hlen
      simp at q0 q1
      go_wp2_with fail
      exact bodyPost_ret (v := .agg #[.slice none 0 0, .slice A 4 c]) (by simp [results, Try.results99, go_sem, *]) rfl ⟨_, _, rfl, oh, bn⟩
end Go.Proofs.Ytakdjiojahlnmaa
