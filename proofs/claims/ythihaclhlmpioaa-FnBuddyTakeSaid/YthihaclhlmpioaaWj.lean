/- What l20Blocks draws: blocks that a call owns and a total; nothing else is known of them. -/
import Derived.Test.YthihaclhlmpioaaWi
import Derived.Test.YthihaclhlmpioaaWg
import Derived.Deep.RegionWith
namespace Go.Proofs.Ythihaclhlmpioaa
open Go.RowKit

theorem only_below {a w : World} (h : Below a.heap.size a w) (row : Option Nat) : a.grownBy w row := ⟨h.os, h.tape, h.output, h.size, fun i hi _ => h.block i hi⟩

theorem valid_all_ {xs : List Bl} {t : Int} (hv : Bks.validB xs t = true) : AllI xs := by
  intro k x hx
  have h := Bks.valid_at hv hx
  unfold I64
  omega

/-- blocks and a total have been drawn -/
def DrewB (w : World) (gr N : Nat) (e : Ending) (w' : World) : Prop :=
  ∃ (v : Value) (xs : List Bl) (T : Int), e = .returned (.tuple #[v, .int .i64 T]) ∧ OwnB w' w.heap.size v xs ∧ AllI xs ∧ 1 ≤ xs.length ∧ xs.length ≤ 300 ∧ 1 ≤ T ∧ T ≤ 65 ∧ Rd w' gr (N + 100) ∧ w.grownBy w' (some gr)

/-- what is known while blocks are drawn -/
structure DrawSt (w : World) (gr N : Nat) (T : Int) (wr : World) (v : Value) (xs : List Bl) : Prop where
  own : OwnB wr w.heap.size v xs
  valid : Bks.validB xs T = true
  rd : Rd wr gr N
  grown : w.grownBy wr (some gr)

theorem DrawSt.size {w wr : World} {gr N : Nat} {T : Int} {v : Value} {xs : List Bl} (h : DrawSt w gr N T wr v xs) : w.heap.size ≤ wr.heap.size := h.grown.size

theorem DrawSt.pick {w wr w' : World} {gr N : Nat} {T : Int} {v : Value} {xs : List Bl} (h : DrawSt w gr N T wr v xs) (hgr : gr < w.heap.size) (hr : Rd w' gr (N + 1)) (hg : wr.grownBy w' (some gr)) : DrawSt w gr (N + 1) T w' v xs := by
  refine ⟨h.own.far hg ?_, h.valid, hr, World.grownBy.trans h.grown hg⟩
  right
  intro e
  have := (World.ownsRow.lt h.own gr e).1
  omega

theorem DrawSt.next {w wr w' : World} {gr N : Nat} {T : Int} {v v' : Value} {xs ys : List Bl} (h : DrawSt w gr N T wr v xs) (ho : OwnB w' wr.heap.size v' ys) (hv : Bks.validB ys T = true) (hb : Below wr.heap.size wr w') : DrawSt w gr N T w' v' ys :=
  ⟨ho.base h.size, hv, h.rd.below hb h.rd.lt, World.grownBy.trans h.grown (only_below hb _)⟩

theorem DrawSt.more {w wr : World} {gr N N' : Nat} {T : Int} {v : Value} {xs : List Bl} (h : DrawSt w gr N T wr v xs) (hN : N ≤ N') : DrawSt w gr N' T wr v xs := ⟨h.own, h.valid, h.rd.more hN, h.grown⟩

theorem flat_set_s : ∀ (xs : List Bl) (k : Nat) (x : Bl) (s : Int), xs[k]? = some x → (flat xs).set (k * 3) (.int .i64 s) = flat (xs.set k ⟨s, x.z, x.u⟩)
  | [], k, x, s, h => by simp at h
  | y :: ys, 0, x, s, h => by
    simp at h
    subst h
    simp [flat]
  | y :: ys, k + 1, x, s, h => by
    have := flat_set_s ys k x s (by simpa using h)
    have e : (k + 1) * 3 = k * 3 + 3 := by omega
    rw [e]
    simpa [flat] using this
theorem flat_set_z : ∀ (xs : List Bl) (k : Nat) (x : Bl) (s : Int), xs[k]? = some x → (flat xs).set (k * 3 + 1) (.int .i64 s) = flat (xs.set k ⟨x.s, s, x.u⟩)
  | [], k, x, s, h => by simp at h
  | y :: ys, 0, x, s, h => by
    simp at h
    subst h
    simp [flat]
  | y :: ys, k + 1, x, s, h => by
    have := flat_set_z ys k x s (by simpa using h)
    have e : (k + 1) * 3 = k * 3 + 3 := by omega
    rw [e]
    simpa [flat] using this

theorem OwnB.put_s {w : World} {base g c j : Nat} {xs : List Bl} {x : Bl} {s : Int} (h : OwnB w base (.slice (some ⟨g, 0, none⟩) xs.length c) xs) (hx : xs[j]? = some x) :
    OwnB (w.setCell ⟨g, j * 3, none⟩ (.int .i64 s)) base (.slice (some ⟨g, 0, none⟩) xs.length c) (xs.set j ⟨s, x.z, x.u⟩) := by
  have := (World.ownsRow.stored h (j * 3) (.int .i64 s)).1
  unfold OwnB
  rw [List.length_set, ← flat_set_s xs j x s hx]
  exact this
theorem OwnB.put_z {w : World} {base g c j : Nat} {xs : List Bl} {x : Bl} {s : Int} (h : OwnB w base (.slice (some ⟨g, 0, none⟩) xs.length c) xs) (hx : xs[j]? = some x) :
    OwnB (w.setCell ⟨g, j * 3 + 1, none⟩ (.int .i64 s)) base (.slice (some ⟨g, 0, none⟩) xs.length c) (xs.set j ⟨x.s, s, x.u⟩) := by
  have := (World.ownsRow.stored h (j * 3 + 1) (.int .i64 s)).1
  unfold OwnB
  rw [List.length_set, ← flat_set_z xs j x s hx]
  exact this

theorem AllI.put {xs : List Bl} {j : Nat} {y : Bl} (h : AllI xs) (h1 : I64 y.s) (h2 : I64 y.z) : AllI (xs.set j y) := by
  intro k x hx
  rw [List.getElem?_set] at hx
  split at hx
  · split at hx
    · injection hx with hx
      subst hx
      exact ⟨h1, h2⟩
    · cases hx
  · exact h k x hx

theorem grown_new {w wr : World} {row : Option Nat} (h : w.grownBy wr row) {p : Addr} (hp : w.heap.size ≤ p.block) (u : Value) : w.grownBy (wr.setCell p u) row :=
  ⟨h.os, h.tape, h.output, by simpa [World.setCell] using h.size, fun i hi hne => (Below.heap_setCell wr p u i (by omega)).trans (h.block i hi hne)⟩

theorem grown_more {w wr w' : World} {row row' : Option Nat} (h : w.grownBy wr row) (h' : wr.grownBy w' row') (hr : ∀ k, row' = some k → w.heap.size ≤ k) : w.grownBy w' row :=
  ⟨h'.os.trans h.os, h'.tape.trans h.tape, h'.output.trans h.output, Nat.le_trans h.size h'.size, fun i hi hne => (h'.block i (Nat.lt_of_lt_of_le hi h.size) (fun e => by have := hr i e.symm; omega)).trans (h.block i hi hne)⟩

theorem rd_grown {wr w' : World} {gr N B : Nat} {row : Option Nat} (h : Rd wr gr N) (hg : wr.grownBy w' row) (hr : ∀ k, row = some k → B ≤ k) (hB : gr < B) (hB2 : B ≤ wr.heap.size) : Rd w' gr N :=
  h.below ((Below.refl B wr).grown hg hB2 hr) hB

theorem pick_cell {w6 W w7 : World} {gr g i : Nat} {v : Value} (hW : Below w6.heap.size w6 W) (g7 : W.grownBy w7 (some gr)) (hne : g ≠ gr) (hlt : g < w6.heap.size) (d : w6.cell? ⟨g, i, none⟩ = some v) : w7.cell? ⟨g, i, none⟩ = some v :=
  (grown_cell g7 g i (Nat.lt_of_lt_of_le hlt hW.size) hne).trans ((hW.cell (p := ⟨g, i, none⟩) hlt).trans d)
theorem pick_frozen {w6 W w7 : World} {gr g i : Nat} (hW : Below w6.heap.size w6 W) (g7 : W.grownBy w7 (some gr)) (hne : g ≠ gr) (hlt : g < w6.heap.size) (d : w6.frozen? ⟨g, i, none⟩ = false) : w7.frozen? ⟨g, i, none⟩ = false :=
  (World.frozen?_of_block (g7.block g (Nat.lt_of_lt_of_le hlt hW.size) (fun e => hne (by injection e)))).trans ((hW.frozen (p := ⟨g, i, none⟩) hlt).trans d)

theorem DrawSt.over {w w6 W w7 : World} {gr N : Nat} {T : Int} {v : Value} {xs : List Bl} {A' : Option Addr} {m' c' p' : Nat} {F : Nat → Int} (h : DrawSt w gr N T w6 v xs) (hW : Below w6.heap.size w6 W) (hgr : gr < w.heap.size) (hX : RdX w7 gr A' m' c' (p' + 1) F) (hp : p' ≤ N) (hg : W.grownBy w7 (some gr)) : DrawSt w gr (N + 1) T w7 v xs := by
  refine ⟨(h.own.below hW (Nat.le_refl _)).far hg ?_, h.valid, hX.rd (by omega), World.grownBy.trans (World.grownBy.trans h.grown (only_below hW _)) hg⟩
  right
  intro e
  have := (World.ownsRow.lt h.own gr e).1
  omega

theorem OwnB.put_zA {w w' : World} {base g c j : Nat} {xs : List Bl} {x : Bl} {s : Int} (h : OwnB w base (.slice (some ⟨g, 0, none⟩) xs.length c) xs) (hx : xs[j]? = some x)
    (hw : w' = w.setCell ⟨g, j * 3 + 1, none⟩ (.int .i64 s) ∨ ∃ o, w' = (w.setCell ⟨g, j * 3 + 1, none⟩ (.int .i64 s)).alloc o) :
    OwnB w' base (.slice (some ⟨g, 0, none⟩) xs.length c) (xs.set j ⟨x.s, s, x.u⟩) := by
  rcases hw with rfl | ⟨o, rfl⟩
  · exact h.put_z hx
  · exact World.ownsRow.alloc (h.put_z hx) o

end Go.Proofs.Ythihaclhlmpioaa
