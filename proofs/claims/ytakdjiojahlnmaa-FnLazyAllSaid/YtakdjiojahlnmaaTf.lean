/- What the draws of chapter 14 yield. No conditions. -/
import Derived.Test.YtakdjiojahlnmaaKo
import Derived.Test.YtakdjiojahlnmaaTe
namespace Go.Proofs.Ytakdjiojahlnmaa
open Go.RowKit

set_option maxHeartbeats 1000000 in
theorem drawLazyStart_any (A : Option Addr) (n c : Nat) (w : World) (h : Bytes w w.heap.size A n) (hc : n ≤ c) (hn : n ≤ 9223372036854775807) :
    Calls Try.prog 10 #[.slice A n c] w (DrawnH w) := by
  have b0 : Below w.heap.size w (w.alloc (.cells #[.slice none 0 0, .slice none 0 0] 26)) := (Below.refl _ _).alloc (Nat.le_refl _) _
  have h0 := (h.keep fun p hp => b0.cell hp).more b0.size
  have r0 := Rw.new w 26 #[.slice none 0 0, .slice none 0 0]
  go_enter Try.func10, Try.ntmps10
  go_wp2_with fail
  refine (open_any _ _ _ _ h0 hc hn).mono ?_
  rintro e w1 ⟨rfl, hr1, b1⟩
  have r1 := r0.keep b1 r0.lt
  have hz := r0.lt
  have bb1 := b0.trans (b1.mono b0.size)
  have hs0 := b0.size
  generalize w.alloc (.cells #[.slice none 0 0, .slice none 0 0] 26) = w0 at b0 h0 r0 hr1 b1 r1 hz bb1 hs0 ⊢
  go_wp2_with fail
  refine (l20Heap_any _ _ 12 _ hr1 (by omega) (by omega) (by omega)).mono ?_
  rintro e w2 ⟨A2, nn, c2, R2, m, d2, hh, rfl, hc1, hc2, HFx, -, hsm, -, g2⟩
  have r2 := r1.far g2 (fun e => by injection e with e; omega)
  have bb2 : Below w.heap.size w w2 := bb1.grown g2 bb1.size (fun k hk => by injection hk; omega)
  have x0 : w2.cell? ⟨w.heap.size, 0, none⟩ = some (.slice none 0 0) := r2.cell 0
  have x1 : w2.cell? ⟨w.heap.size, 1, none⟩ = some (.slice none 0 0) := r2.cell 1
  have x2 : w2.frozen? ⟨w.heap.size, 0, none⟩ = false := r2.frozen 0
  have x3 : w2.frozen? ⟨w.heap.size, 1, none⟩ = false := r2.frozen 1
  have y0 : ((w2.setCell ⟨w.heap.size, 0, none⟩ (.slice A2 nn c2)).setCell ⟨w.heap.size, 1, none⟩ (.slice R2 m d2)).cell? ⟨w.heap.size, 0, none⟩ = some (.slice A2 nn c2) := ((r2.put 0 (.slice A2 nn c2)).put 1 (.slice R2 m d2)).cell 0
  have y1 : ((w2.setCell ⟨w.heap.size, 0, none⟩ (.slice A2 nn c2)).setCell ⟨w.heap.size, 1, none⟩ (.slice R2 m d2)).cell? ⟨w.heap.size, 1, none⟩ = some (.slice R2 m d2) := ((r2.put 0 (.slice A2 nn c2)).put 1 (.slice R2 m d2)).cell 1
  have bS : w1.heap.size ≤ w1.heap.size ∧ w.heap.size < w1.heap.size := ⟨Nat.le_refl _, by have := b1.size; omega⟩
  have HSx := Lib.hid (HFx ((w2.setCell ⟨w.heap.size, 0, none⟩ (.slice A2 nn c2)).setCell ⟨w.heap.size, 1, none⟩ (.slice R2 m d2)) (by simp) (fun j hj hk => by
    rw [Below.heap_setCell _ ⟨w.heap.size, 1, none⟩ _ j (by show j ≠ w.heap.size; omega), Below.heap_setCell _ ⟨w.heap.size, 0, none⟩ _ j (by show j ≠ w.heap.size; omega)]))
  have BF := Lib.hid ((bb2.setCell (p := ⟨w.heap.size, 0, none⟩) (Nat.le_refl _) (.slice A2 nn c2)).setCell (p := ⟨w.heap.size, 1, none⟩) (Nat.le_refl _) (.slice R2 m d2))
  clear HFx g2 r2 r1 r0 bb1 bb2 b0 b1 h0 hr1
  go_wp2_with fail
  exact bodyPost_ret (v := .agg #[.slice A2 nn c2, .slice R2 m d2]) (by simp [results, Try.results10, go_sem, *]) rfl ⟨A2, nn, c2, R2, m, d2, hh, rfl, hc1, hc2, HSx.out, hsm, BF.out⟩
end Go.Proofs.Ytakdjiojahlnmaa
