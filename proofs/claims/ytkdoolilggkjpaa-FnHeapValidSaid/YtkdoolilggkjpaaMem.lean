/- How a slice of blocks lies in memory: 'BS' says that a slice value reads as a list of blocks; and how that is carried from world to world. No conditions. -/
import Derived.Test.YtkdoolilggkjpaaRows
import Derived.Test.YtkdoolilggkjpaaMath
import Derived.WalkKit
import Derived.WalkSpells
import Derived.WalkLawsBesides
import Derived.Lib.Hide
import Derived.Laws.Rows
import Derived.Laws.MakeOwn
namespace Go.Proofs.Ytkdoolilggkjpaa
open Go.RowKit

def I64 (n : Int) : Prop := -9223372036854775808 ≤ n ∧ n ≤ 9223372036854775807

/-- the slice value '.slice A n _' reads as the blocks xs, and lies below block B -/
def BS (w : World) (B : Nat) (A : Option Addr) (n : Nat) (xs : List Bl) : Prop :=
  xs.length = n ∧ (∀ (k : Nat) (x : Bl), xs[k]? = some x → I64 x.s ∧ I64 x.z) ∧
  (0 < n → ∃ g o, A = some ⟨g, o, none⟩ ∧ g < B ∧ ∀ (k : Nat) (x : Bl), xs[k]? = some x →
    w.cell? ⟨g, o + k * 3, none⟩ = some (.int .i64 x.s) ∧ w.cell? ⟨g, o + k * 3 + 1, none⟩ = some (.int .i64 x.z) ∧ w.cell? ⟨g, o + k * 3 + 2, none⟩ = some (.bool x.u))

section
variable {w w' : World} {B B' n : Nat} {A : Option Addr} {xs : List Bl}
theorem BS.keep (h : BS w B A n xs) (hk : ∀ p : Addr, p.block < B → w'.cell? p = w.cell? p) : BS w' B A n xs :=
  ⟨h.1, h.2.1, fun hn => by
    obtain ⟨g, o, e, hb, hc⟩ := h.2.2 hn
    exact ⟨g, o, e, hb, fun k x hx => by
      obtain ⟨h1, h2, h3⟩ := hc k x hx
      exact ⟨(hk _ hb).trans h1, (hk _ hb).trans h2, (hk _ hb).trans h3⟩⟩⟩
theorem BS.more (h : BS w B A n xs) (hB : B ≤ B') : BS w B' A n xs :=
  ⟨h.1, h.2.1, fun hn => by
    obtain ⟨g, o, e, hb, hc⟩ := h.2.2 hn
    exact ⟨g, o, e, by omega, hc⟩⟩
theorem BS.below (h : BS w B A n xs) (hb : Below B w w') : BS w' B A n xs := h.keep fun _ hp => hb.cell hp
theorem BS.at_ {k : Nat} (h : BS w B A n xs) (hk : k < n) : ∃ g o x, A = some ⟨g, o, none⟩ ∧ g < B ∧ xs[k]? = some x ∧ I64 x.s ∧ I64 x.z ∧
    w.cell? ⟨g, o + k * 3, none⟩ = some (.int .i64 x.s) ∧ w.cell? ⟨g, o + k * 3 + 1, none⟩ = some (.int .i64 x.z) ∧ w.cell? ⟨g, o + k * 3 + 2, none⟩ = some (.bool x.u) := by
  obtain ⟨g, o, e, hb, hc⟩ := h.2.2 (by omega)
  have hl : k < xs.length := by have := h.1; omega
  have hx := List.getElem?_eq_getElem hl
  obtain ⟨i1, i2⟩ := h.2.1 k _ hx
  obtain ⟨h1, h2, h3⟩ := hc k _ hx
  exact ⟨g, o, _, e, hb, hx, i1, i2, h1, h2, h3⟩
/-- the block before the k-th one, if there is one -/
theorem BS.prev {k : Nat} {g o : Nat} (h : BS w B (some ⟨g, o, none⟩) n xs) (hk : k < n) : ∃ y : Bl, 0 < k → xs[k-1]? = some y ∧ w.cell? ⟨g, o + (k - 1) * 3 + 2, none⟩ = some (.bool y.u) := by
  by_cases h0 : 0 < k
  · obtain ⟨g', o', y, e, _, hy, _, _, _, _, hc⟩ := h.at_ (k := k - 1) (by omega)
    injection e with e
    injection e with e1 e2
    subst e1 e2
    exact ⟨y, fun _ => ⟨hy, hc⟩⟩
  · exact ⟨⟨0, 0, true⟩, fun h => absurd h h0⟩
end

/-- block g holds just the cells cs, of element type t; none is frozen -/
def Rw (w : World) (g : Nat) (t : TypeId) (cs : Array Value) : Prop := w.heap[g]? = some (.cells cs t (0, 0))

section
variable {w w' : World} {g : Nat} {t : TypeId} {cs : Array Value}
theorem Rw.lt (h : Rw w g t cs) : g < w.heap.size := by
  unfold Rw at h
  exact (Array.getElem?_eq_some_iff.1 h).1
theorem Rw.cell (h : Rw w g t cs) (i : Nat) : w.cell? ⟨g, i, none⟩ = cs[i]? := cell_of_row w g i cs t (0, 0) h
theorem Rw.frozen (h : Rw w g t cs) (i : Nat) : w.frozen? ⟨g, i, none⟩ = false := by
  unfold Rw at h
  simp [World.frozen?, h]
theorem Rw.some_ (h : Rw w g t cs) {i : Nat} (hi : i < cs.size) : ∃ v, w.cell? ⟨g, i, none⟩ = some v := ⟨cs[i], (h.cell i).trans (Array.getElem?_eq_getElem hi)⟩
theorem Rw.new (w : World) (t : TypeId) (cs : Array Value) : Rw (w.alloc (.cells cs t)) w.heap.size t cs := by
  show (w.heap.push _)[w.heap.size]? = _
  simp
theorem Rw.keep (h : Rw w g t cs) {B : Nat} (hb : Below B w w') (hg : g < B) : Rw w' g t cs := (hb.block g hg).trans h
theorem Rw.alloc (h : Rw w g t cs) (o : Obj) : Rw (w.alloc o) g t cs := (Below.heap_alloc w o g h.lt).trans h
theorem Rw.put (h : Rw w g t cs) (i : Nat) (u : Value) : Rw (w.setCell ⟨g, i, none⟩ u) g t (cs.setIfInBounds i u) := by
  unfold Rw at h ⊢
  simp [World.setCell, Array.getElem?_modify, h]
end

/-- the cells cs begin with the blocks xs -/
def Cs (cs : Array Value) (xs : List Bl) : Prop := ∀ (k : Nat) (x : Bl), xs[k]? = some x →
  cs[k * 3]? = some (.int .i64 x.s) ∧ cs[k * 3 + 1]? = some (.int .i64 x.z) ∧ cs[k * 3 + 2]? = some (.bool x.u)

theorem Cs.take_succ {cs : Array Value} {xs : List Bl} {k : Nat} {x : Bl} (h : Cs cs (xs.take k)) (hx : xs[k]? = some x) (hsz : k * 3 + 2 < cs.size) :
    Cs (((cs.setIfInBounds (k * 3) (.int .i64 x.s)).setIfInBounds (k * 3 + 1) (.int .i64 x.z)).setIfInBounds (k * 3 + 2) (.bool x.u)) (xs.take (k + 1)) := by
  intro j y hy
  rw [List.getElem?_take] at hy
  split at hy
  · rcases Nat.lt_or_ge j k with hj | hj
    · have := h j y (by rw [List.getElem?_take, if_pos hj]; exact hy)
      simp only [Array.getElem?_setIfInBounds]
      rw [if_neg (by omega), if_neg (by omega), if_neg (by omega), if_neg (by omega), if_neg (by omega), if_neg (by omega), if_neg (by omega), if_neg (by omega), if_neg (by omega)]
      exact this
    · obtain rfl : j = k := by omega
      rw [hx] at hy
      injection hy with hy
      subst hy
      simp only [Array.getElem?_setIfInBounds, Array.size_setIfInBounds]
      refine ⟨?_, ?_, ?_⟩
      · rw [if_neg (by omega), if_neg (by omega), if_pos True.intro, if_pos (by omega)]
      · rw [if_neg (by omega), if_pos True.intro, if_pos (by omega)]
      · rw [if_pos True.intro, if_pos (by omega)]
  · cases hy

theorem BS.of_row {w : World} {g B : Nat} {t : TypeId} {cs : Array Value} {xs : List Bl} (h : Rw w g t cs) (hc : Cs cs xs) (hg : g < B) (hi : ∀ (k : Nat) (x : Bl), xs[k]? = some x → I64 x.s ∧ I64 x.z) : BS w B (some ⟨g, 0, none⟩) xs.length xs :=
  ⟨rfl, hi, fun _ => ⟨g, 0, rfl, hg, fun k x hx => by
    obtain ⟨h1, h2, h3⟩ := hc k x hx
    refine ⟨?_, ?_, ?_⟩ <;> rw [h.cell] <;> simpa using (by assumption)⟩⟩
end Go.Proofs.Ytkdoolilggkjpaa
