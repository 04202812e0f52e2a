/- What DrawCountedValid and DrawStepCounted return: for every slice of bytes. No conditions. -/
import Derived.Test.YtijgfpcpkmpdpaaCg
import Derived.Test.YtijgfpcpkmpdpaaKk
namespace Go.Proofs.Ytijgfpcpkmpdpaa
open Go.RowKit
set_option maxRecDepth 100000

/-- a heap with counts has been drawn -/
def DrawnCt (w : World) (e : Ending) (w' : World) : Prop :=
  ∃ (A : Option Addr) (nn c : Nat) (R : Option Addr) (m d : Nat) (K : Option Addr) (p q : Nat) (h : Hp) (l : List Int), e = .returned (ctV A nn c R m d K p q) ∧ nn ≤ c ∧ m ≤ d ∧ p ≤ q ∧ HS w' w'.heap.size A nn R m h ∧ IS w' w'.heap.size K p l ∧ SmallH h ∧ l.length ≤ 41 ∧ Below w.heap.size w w'
/-- and an instruction -/
def DrawnCN (w : World) (e : Ending) (w' : World) : Prop :=
  ∃ (A : Option Addr) (nn c : Nat) (R : Option Addr) (m d : Nat) (K : Option Addr) (p q : Nat) (h : Hp) (l : List Int) (o : Cm), e = .returned (.tuple #[ctV A nn c R m d K p q, cmV o]) ∧ nn ≤ c ∧ m ≤ d ∧ p ≤ q ∧ HS w' w'.heap.size A nn R m h ∧ IS w' w'.heap.size K p l ∧ SmallH h ∧ l.length ≤ 41 ∧ SmallCm o ∧ Below w.heap.size w w'
theorem CF.at_ {w w1 : World} {lo nn m p : Nat} {A R K : Option Addr} {h : Hp} {l : List Int} (H : CF w lo A nn R m K p h l) (hs : w.heap.size ≤ w1.heap.size) (hb : ∀ j, lo ≤ j → j < w.heap.size → w1.heap[j]? = w.heap[j]?) : HS w1 w1.heap.size A nn R m h ∧ IS w1 w1.heap.size K p l := H w1 hs hb


set_option maxHeartbeats 4000000 in
theorem drawCountedValid_any (A : Option Addr) (n c : Nat) (w : World) (h : Bytes w w.heap.size A n) (hc : n ≤ c) (hn : n ≤ 9223372036854775807) :
    Calls Try.prog 36 #[.slice A n c] w (DrawnCt w) := by
  have b0 : Below w.heap.size w (w.alloc (.cells #[.slice none 0 0, .slice none 0 0, .slice none 0 0] 50)) := (Below.refl _ _).alloc (Nat.le_refl _) _
  have h0 := (h.keep fun p hp => b0.cell hp).more b0.size
  have r0 := Rw.new w 50 #[.slice none 0 0, .slice none 0 0, .slice none 0 0]
  go_enter Try.func36, Try.ntmps36
  go_wp2_with fail
  refine (open_any _ _ _ _ h0 hc hn).mono ?_
  rintro e w1 ⟨rfl, hr1, b1⟩
  have r1 := r0.keep b1 r0.lt
  have hz := r0.lt
  have bb1 := b0.trans (b1.mono b0.size)
  have hs0 := b0.size
  generalize w.alloc (.cells #[.slice none 0 0, .slice none 0 0, .slice none 0 0] 50) = w0 at b0 h0 r0 hr1 b1 r1 hz bb1 hs0 ⊢
  go_wp2_with fail
  refine (l20Counted_any _ _ 4 _ hr1 (by omega) (by omega) (by omega)).mono ?_
  rintro e w2 ⟨A2, nn, c2, R2, m, d2, K2, p, q, hh, ll, rfl, hc1, hc2, hc3, HFx, hsm, hll, -, g2⟩
  have r2 := r1.far g2 (fun e => by injection e with e; omega)
  have bb2 : Below w.heap.size w w2 := bb1.grown g2 bb1.size (fun k hk => by injection hk; omega)
  have x0 : w2.cell? ⟨w.heap.size, 0, none⟩ = some (.slice none 0 0) := r2.cell 0
  have f0 : w2.frozen? ⟨w.heap.size, 0, none⟩ = false := r2.frozen 0
  have x1 : w2.cell? ⟨w.heap.size, 1, none⟩ = some (.slice none 0 0) := r2.cell 1
  have f1 : w2.frozen? ⟨w.heap.size, 1, none⟩ = false := r2.frozen 1
  have x2 : w2.cell? ⟨w.heap.size, 2, none⟩ = some (.slice none 0 0) := r2.cell 2
  have f2 : w2.frozen? ⟨w.heap.size, 2, none⟩ = false := r2.frozen 2
  have q4 := ((r2.put 0 (.slice A2 nn c2)).put 1 (.slice R2 m d2)).put 2 (.slice K2 p q)
  have y0 : ((((w2).setCell ⟨w.heap.size, 0, none⟩ (.slice A2 nn c2)).setCell ⟨w.heap.size, 1, none⟩ (.slice R2 m d2)).setCell ⟨w.heap.size, 2, none⟩ (.slice K2 p q)).cell? ⟨w.heap.size, 0, none⟩ = some (.slice A2 nn c2) := q4.cell 0
  have y1 : ((((w2).setCell ⟨w.heap.size, 0, none⟩ (.slice A2 nn c2)).setCell ⟨w.heap.size, 1, none⟩ (.slice R2 m d2)).setCell ⟨w.heap.size, 2, none⟩ (.slice K2 p q)).cell? ⟨w.heap.size, 1, none⟩ = some (.slice R2 m d2) := q4.cell 1
  have y2 : ((((w2).setCell ⟨w.heap.size, 0, none⟩ (.slice A2 nn c2)).setCell ⟨w.heap.size, 1, none⟩ (.slice R2 m d2)).setCell ⟨w.heap.size, 2, none⟩ (.slice K2 p q)).cell? ⟨w.heap.size, 2, none⟩ = some (.slice K2 p q) := q4.cell 2
  have bS : w.heap.size < w1.heap.size := by have := b1.size; omega
  have HSx := Lib.hid (HFx.at_ (w1 := ((((w2).setCell ⟨w.heap.size, 0, none⟩ (.slice A2 nn c2)).setCell ⟨w.heap.size, 1, none⟩ (.slice R2 m d2)).setCell ⟨w.heap.size, 2, none⟩ (.slice K2 p q))) (by simp) (fun j hj hk => by
    rw [Below.heap_setCell _ _ _ _ (by show j ≠ w.heap.size; omega), Below.heap_setCell _ _ _ _ (by show j ≠ w.heap.size; omega), Below.heap_setCell _ _ _ _ (by show j ≠ w.heap.size; omega)]))
  have BF := Lib.hid (((bb2.setCell (p := ⟨w.heap.size, 0, none⟩) (Nat.le_refl _) (.slice A2 nn c2)).setCell (p := ⟨w.heap.size, 1, none⟩) (Nat.le_refl _) (.slice R2 m d2)).setCell (p := ⟨w.heap.size, 2, none⟩) (Nat.le_refl _) (.slice K2 p q))
  clear HFx g2 r2 r1 r0 bb1 bb2 b0 b1 h0 hr1 q4
  go_wp2_with fail
  exact bodyPost_ret (v := ctV A2 nn c2 R2 m d2 K2 p q) (by simp [results, Try.results36, go_sem, *]) rfl ⟨A2, nn, c2, R2, m, d2, K2, p, q, hh, ll, rfl, hc1, hc2, hc3, HSx.out.1, HSx.out.2, hsm, hll, BF.out⟩


end Go.Proofs.Ytijgfpcpkmpdpaa
