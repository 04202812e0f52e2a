/- Slices of blocks that a call has made for itself: what it means that a value owns such blocks, and what the two helpers markBlockS and heldBlockS do to them. No conditions. -/
import Derived.Test.YtkdoolilggkjpaaWe
import Derived.Laws.OwnMore
import Derived.OwnWalk
namespace Go.Proofs.Ytkdoolilggkjpaa
open Go.RowKit

/-- the cells of blocks -/
def flat : List Bl → List Value
  | [] => []
  | x :: xs => .int .i64 x.s :: .int .i64 x.z :: .bool x.u :: flat xs

theorem flat_length : ∀ xs : List Bl, (flat xs).length = xs.length * 3
  | [] => rfl
  | x :: xs => by simp [flat, flat_length xs]; omega

theorem flat_at : ∀ (xs : List Bl) (k : Nat) (x : Bl), xs[k]? = some x → (flat xs)[k * 3]? = some (.int .i64 x.s) ∧ (flat xs)[k * 3 + 1]? = some (.int .i64 x.z) ∧ (flat xs)[k * 3 + 2]? = some (.bool x.u)
  | [], k, x, h => by simp at h
  | y :: ys, 0, x, h => by
    simp at h
    subst h
    simp [flat]
  | y :: ys, k + 1, x, h => by
    have := flat_at ys k x (by simpa using h)
    have e : (k + 1) * 3 = k * 3 + 3 := by omega
    rw [e]
    simpa [flat] using this

theorem flat_set : ∀ (xs : List Bl) (k : Nat) (x : Bl), k < xs.length → (((flat xs).set (k * 3) (.int .i64 x.s)).set (k * 3 + 1) (.int .i64 x.z)).set (k * 3 + 2) (.bool x.u) = flat (xs.set k x)
  | [], k, x, h => by simp at h
  | y :: ys, 0, x, h => by simp [flat]
  | y :: ys, k + 1, x, h => by
    have := flat_set ys k x (by simpa using h)
    have e : (k + 1) * 3 = k * 3 + 3 := by omega
    rw [e]
    simpa [flat] using this

theorem flat_inj : ∀ (xs ys : List Bl), flat xs = flat ys → xs = ys
  | [], [], _ => rfl
  | [], _ :: _, h => by simp [flat] at h
  | _ :: _, [], h => by simp [flat] at h
  | x :: xs, y :: ys, h => by
    obtain ⟨a, b, c⟩ := x
    obtain ⟨a', b', c'⟩ := y
    simp [flat] at h
    obtain ⟨rfl, rfl, rfl, h⟩ := h
    rw [flat_inj xs ys h]

theorem flat_append (xs ys : List Bl) : flat (xs ++ ys) = flat xs ++ flat ys := by
  induction xs with
  | nil => rfl
  | cons x xs ih => simp [flat, ih]

theorem flat_oneCell : ∀ (xs : List Bl), ∀ u ∈ flat xs, u.oneCell' = true
  | [], u, h => by simp [flat] at h
  | x :: xs, u, h => by
    simp [flat] at h
    rcases h with rfl | rfl | rfl | h
    · rfl
    · rfl
    · rfl
    · exact flat_oneCell xs u h

/-- the value v owns the blocks xs, in a row of blocks from 'base' on -/
def OwnB (w : World) (base : Nat) (v : Value) (xs : List Bl) : Prop := w.ownsRow base 63 3 v xs.length (flat xs)

def AllI (xs : List Bl) : Prop := ∀ (k : Nat) (x : Bl), xs[k]? = some x → I64 x.s ∧ I64 x.z

theorem OwnB.form {w : World} {base : Nat} {v : Value} {xs : List Bl} (h : OwnB w base v xs) : ∃ A c, v = .slice A xs.length c ∧ (0 < xs.length → ∃ g, A = some ⟨g, 0, none⟩ ∧ base ≤ g ∧ g < w.heap.size) := by
  rcases h.2 with ⟨rfl, h0⟩ | ⟨g, cap, cur, rfl, hb, hh, _⟩
  · exact ⟨none, 0, by rw [h0], fun h => by omega⟩
  · exact ⟨some ⟨g, 0, none⟩, cap, rfl, fun _ => ⟨g, rfl, hb, (Array.getElem?_eq_some_iff.1 hh).1⟩⟩

theorem OwnB.reads {w : World} {base n c : Nat} {A : Option Addr} {xs : List Bl} (h : OwnB w base (.slice A n c) xs) (hi : AllI xs) : BS w w.heap.size A n xs := by
  rcases h.2 with ⟨e, h0⟩ | ⟨g, cap, cur, e, hb, hh, _⟩
  · injection e with e1 e2 e3
    subst e2
    have : xs = [] := List.eq_nil_of_length_eq_zero h0
    subst this
    exact ⟨rfl, hi, fun h => by omega⟩
  · injection e with e1 e2 e3
    subst e1 e2 e3
    refine ⟨rfl, hi, fun hn => ⟨g, 0, rfl, (Array.getElem?_eq_some_iff.1 hh).1, fun k x hx => ?_⟩⟩
    have hk : k < xs.length := (List.getElem?_eq_some_iff.1 hx).1
    obtain ⟨f1, f2, f3⟩ := flat_at xs k x hx
    have c1 := World.ownsRow.cellAt h (k * 3) (by omega)
    have c2 := World.ownsRow.cellAt h (k * 3 + 1) (by omega)
    have c3 := World.ownsRow.cellAt h (k * 3 + 2) (by omega)
    simp only [Nat.zero_add]
    exact ⟨c1.trans f1, c2.trans f2, c3.trans f3⟩

theorem OwnB.below {w w' : World} {base B : Nat} {v : Value} {xs : List Bl} (h : OwnB w base v xs) (hb : Below B w w') (hB : w.heap.size ≤ B) : OwnB w' base v xs := by
  refine ⟨h.1, ?_⟩
  rcases h.2 with h0 | ⟨g, cap, cur, e, hb', hh, hr⟩
  · exact .inl h0
  · exact .inr ⟨g, cap, cur, e, hb', (hb.block g (Nat.lt_of_lt_of_le (Array.getElem?_eq_some_iff.1 hh).1 hB)).trans hh, hr⟩

theorem OwnB.base {w : World} {base base' : Nat} {v : Value} {xs : List Bl} (h : OwnB w base v xs) (hb : base' ≤ base) : OwnB w base' v xs := by
  refine ⟨h.1, ?_⟩
  rcases h.2 with h0 | ⟨g, cap, cur, e, hb', hh, hr⟩
  · exact .inl h0
  · exact .inr ⟨g, cap, cur, e, by omega, hh, hr⟩

theorem OwnB.far {w w' : World} {base : Nat} {v : Value} {xs : List Bl} {row : Option Nat} (h : OwnB w base v xs) (hg : w.grownBy w' row) (hne : v.ownBlock = none ∨ v.ownBlock ≠ row) : OwnB w' base v xs := World.ownsRow.kept h hg hne

/-- two rows, the one made before the other, lie apart -/
theorem sep_of {w1 w2 : World} {b1 b2 : Nat} {v0 v1 : Value} {xs ys : List Bl} (h0 : OwnB w1 b1 v0 xs) (h1 : OwnB w2 b2 v1 ys) (hb : w1.heap.size ≤ b2) : v0.ownBlock = none ∨ v0.ownBlock ≠ v1.ownBlock := by
  cases e0 : v0.ownBlock with
  | none => exact .inl rfl
  | some k =>
    right
    intro e
    have a := (World.ownsRow.lt h0 k e0).2
    have b := (World.ownsRow.lt h1 k e.symm).1
    omega

/-- the k-th mark and all of them -/
def markB (k : Int) (i : Nat) : Bl := ⟨k + 3 * i, k + 3 * i + 1, (k + 3 * i + 1 + 1) % 3 == 0⟩
def marks (k : Int) (n : Nat) : List Bl := (List.range n).map (markB k)

theorem marks_at (k : Int) (n i : Nat) (h : i < n) : (marks k n)[i]? = some (markB k i) := by simp [marks, h]
theorem marks_len (k : Int) (n : Nat) : (marks k n).length = n := by simp [marks]

theorem set_marks (k : Int) (xs : List Bl) (i : Nat) (h : i < xs.length) : (marks k i ++ xs.drop i).set i (markB k i) = marks k (i + 1) ++ xs.drop (i + 1) := by
  have e1 : xs.drop i = xs[i] :: xs.drop (i + 1) := List.drop_eq_getElem_cons h
  rw [e1, List.set_append_right _ _ (by simp [marks])]
  have e2 : i - (marks k i).length = 0 := by simp [marks]
  rw [e2, List.set_cons_zero]
  simp [marks, List.range_succ]

theorem only_put {a w : World} {g : Nat} (h : a.grownBy w (some g)) (i : Nat) (u : Value) : a.grownBy (w.setCell ⟨g, i, none⟩ u) (some g) :=
  ⟨h.os, h.tape, h.output, by simpa [World.setCell] using h.size, fun j hj hne => (Below.heap_setCell w _ u j (by rintro rfl; exact hne rfl)).trans (h.block j hj hne)⟩

theorem int_eq {a b : Int} (h : a = b) : Value.int .i64 a = .int .i64 b := by rw [h]

theorem own_marked {wr : World} {base g c i : Nat} {k : Int} {xs : List Bl} (hl : (marks k i ++ xs.drop i).length = xs.length)
    (ho : wr.ownsRow base 63 3 (.slice (some ⟨g, 0, none⟩) xs.length c) xs.length (flat (marks k i ++ xs.drop i))) (hi : i < xs.length) :
    OwnB (((wr.setCell ⟨g, i * 3, none⟩ (.int .i64 (k + 3 * i))).setCell ⟨g, i * 3 + 1, none⟩ (.int .i64 (k + 3 * i + 1))).setCell ⟨g, i * 3 + 2, none⟩ (.bool ((k + 3 * i + 1 + 1) % 3 == 0))) base
      (.slice (some ⟨g, 0, none⟩) xs.length c) (marks k (i + 1) ++ xs.drop (i + 1)) := by
  have q := (((ho.stored (i * 3) (.int .i64 (k + 3 * i))).1.stored (i * 3 + 1) (.int .i64 (k + 3 * i + 1))).1.stored (i * 3 + 2) (.bool ((k + 3 * i + 1 + 1) % 3 == 0))).1
  have e := flat_set (marks k i ++ xs.drop i) i (markB k i) (by omega)
  rw [set_marks k xs i hi] at e
  have e2 : (marks k (i + 1) ++ xs.drop (i + 1)).length = xs.length := by simp [marks]; omega
  unfold OwnB
  rw [e2, ← e]
  exact q

theorem marks_all (k : Int) (n : Nat) (hk : 0 ≤ k) (hk2 : k ≤ 1099511627776) (hn : n ≤ 1099511627776) : AllI (marks k n) := by
  intro i x hx
  have hi : i < n := by
    have := (List.getElem?_eq_some_iff.1 hx).1
    simpa [marks] using this
  rw [marks_at k n i hi] at hx
  injection hx with hx
  subst hx
  unfold I64 markB
  constructor <;> constructor <;> simp <;> omega
end Go.Proofs.Ytkdoolilggkjpaa
