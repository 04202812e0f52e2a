/- What TakeBlock returns: for every slice of blocks and all numbers. -/
import Derived.Test.YthihaclhlmpioaaWo
import Derived.StillTailTactics
namespace Go.Proofs.Ythihaclhlmpioaa
open Go.RowKit

theorem canTake_size {xs : List Bl} {t num size : Int} (hv : Bks.validB xs t = true) (h : ¬ (1 ≤ size ∧ size ≤ 256)) : Bks.canTake xs num size = false := by
  unfold Bks.canTake
  cases hx : xs[num.toNat]? with
  | none => simp
  | some b =>
    have := Bks.valid_at hv hx
    cases hd : (decide (0 ≤ num) && (!b.u && decide (1 ≤ size) && decide (size ≤ b.z)))
    · rfl
    · simp at hd
      exact absurd ⟨hd.2.1.2, by omega⟩ h
theorem canTake_isB {xs : List Bl} {num size : Int} (h : isB xs num false = false) : Bks.canTake xs num size = false := by
  unfold isB at h
  unfold Bks.canTake
  cases hx : xs[num.toNat]? with
  | none => simp
  | some b =>
    rw [hx] at h
    cases hd : decide (0 ≤ num)
    · simp
    · rw [hd] at h
      simp at h
      simp [h]
theorem takeB_not {xs : List Bl} {num size : Int} (h : Bks.canTake xs num size = false) : Bks.takeB xs num size = xs := by
  rw [Bks.takeB, h]
  simp
theorem isB_yes {xs : List Bl} {num : Int} {u : Bool} (h : isB xs num u = true) : ∃ (k : Nat) (x : Bl), num = k ∧ k < xs.length ∧ xs[k]? = some x ∧ x.u = u := by
  unfold isB at h
  cases hx : xs[num.toNat]? with
  | none => rw [hx] at h; simp at h
  | some b =>
    rw [hx] at h
    simp at h
    exact ⟨num.toNat, b, by omega, (List.getElem?_eq_some_iff.1 hx).1, hx, h.2⟩

theorem GaveB.two {w : World} {xs : List Bl} {v : Value} {w' : World} (h : OwnB w' w.heap.size v xs ∧ Below w.heap.size w w') (ys : List Bl) (ok ok' : Bool) (e1 : xs = ys) (e2 : ok = ok') : GaveB2 w ys ok' (.returned (.tuple #[v, .bool ok])) w' := by
  subst e1 e2
  exact ⟨v, rfl, h.1, h.2⟩

/-- three parts laid in a row of their own -/
theorem parts3 {W : World} (p0 p1 p2 : Part) (t : TypeId) (h0 : BS W W.heap.size p0.a p0.n p0.xs) (h1 : BS W W.heap.size p1.a p1.n p1.xs) (h2 : BS W W.heap.size p2.a p2.n p2.xs) :
    Parts (W.alloc (.cells #[.slice p0.a p0.n p0.c, .slice p1.a p1.n p1.c, .slice p2.a p2.n p2.c] t)) (W.alloc (.cells #[.slice p0.a p0.n p0.c, .slice p1.a p1.n p1.c, .slice p2.a p2.n p2.c] t)).heap.size W.heap.size [p0, p1, p2] := by
  have hw : Below W.heap.size W (W.alloc (.cells #[.slice p0.a p0.n p0.c, .slice p1.a p1.n p1.c, .slice p2.a p2.n p2.c] t)) := (Below.refl _ _).alloc (Nat.le_refl _) _
  have hr := Rw.new W t #[.slice p0.a p0.n p0.c, .slice p1.a p1.n p1.c, .slice p2.a p2.n p2.c]
  intro k p hp
  match k, hp with
  | 0, hp =>
    simp at hp
    subst hp
    exact ⟨hr.cell 0, h0.up hw⟩
  | 1, hp =>
    simp at hp
    subst hp
    exact ⟨hr.cell 1, h1.up hw⟩
  | 2, hp =>
    simp at hp
    subst hp
    exact ⟨hr.cell 2, h2.up hw⟩
  | k + 3, hp => simp at hp

/-- the parts of a taken block, laid beside each other -/
theorem take_ready (w1 : World) (base : Nat) (a b size : Int) (u : Bool) (o : Obj) (hb : base ≤ w1.heap.size) (h1 : 0 ≤ a) (h2 : a ≤ 256) (h3 : 0 ≤ b) (h4 : b ≤ 256) (h5 : 0 ≤ size) (h6 : size ≤ 256) :
    OwnB (((w1.alloc o).alloc (.cells #[.int .i64 a, .int .i64 size, .bool u] 55)).alloc (.cells #[.int .i64 (a + size), .int .i64 (b - size), .bool false] 55)) base (.slice (some ⟨w1.heap.size + 1, 0, none⟩) 1 1) [⟨a, size, u⟩] ∧
    BS (((w1.alloc o).alloc (.cells #[.int .i64 a, .int .i64 size, .bool u] 55)).alloc (.cells #[.int .i64 (a + size), .int .i64 (b - size), .bool false] 55)) (w1.heap.size + 1 + 1 + 1) (some ⟨w1.heap.size + 1 + 1, 0, none⟩) 1 [⟨a + size, b - size, false⟩] ∧
    Below w1.heap.size w1 (((w1.alloc o).alloc (.cells #[.int .i64 a, .int .i64 size, .bool u] 55)).alloc (.cells #[.int .i64 (a + size), .int .i64 (b - size), .bool false] 55)) := by
  refine ⟨?_, ?_, (((Below.refl _ _).alloc (Nat.le_refl _) _).alloc (by simp) _).alloc (by simp; omega) _⟩
  · have := own_one (w1.alloc o) a size u base (by simp; omega)
    have h2 : OwnB _ _ _ _ := World.ownsRow.alloc this (.cells #[.int .i64 (a + size), .int .i64 (b - size), .bool false] 55)
    simpa using h2
  · have := (own_one ((w1.alloc o).alloc (.cells #[.int .i64 a, .int .i64 size, .bool u] 55)) (a + size) (b - size) false 0 (Nat.zero_le _)).reads (allI_one (by omega) (by omega) (by omega) (by omega))
    simpa using this

theorem heap_alloc1 (w : World) (o : Obj) : (w.alloc o).heap.size = w.heap.size + 1 := by simp

end Go.Proofs.Ythihaclhlmpioaa
