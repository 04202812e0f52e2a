/- What the model's GiveBlock returns: for every slice of blocks and every number. -/
import Derived.Test.YthihaclhlmpioaaWh
namespace Go.Proofs.Ythihaclhlmpioaa
open Go.RowKit

/-- the last of the call's own blocks lies where it should -/
theorem OwnB.last {w : World} {base c m : Nat} {A : Option Addr} {ys : List Bl} {y : Bl} (h : OwnB w base (.slice A m c) ys) (hy : ys.getLast? = some y) :
    ∃ g, A = some ⟨g, 0, none⟩ ∧ base ≤ g ∧ g < w.heap.size ∧ 0 < m ∧ w.cell? ⟨g, (m - 1) * 3 + 1, none⟩ = some (.int .i64 y.z) ∧ w.cell? ⟨g, (m - 1) * 3 + 2, none⟩ = some (.bool y.u) ∧ w.frozen? ⟨g, (m - 1) * 3 + 1, none⟩ = false := by
  obtain ⟨e, _⟩ := h.cap
  subst e
  have hm : 0 < ys.length := by
    rcases Nat.eq_zero_or_pos ys.length with h0 | h0
    · rw [List.eq_nil_of_length_eq_zero h0] at hy
      cases hy
    · exact h0
  obtain ⟨A', c', e, hf⟩ := h.form
  injection e with e1 e2 e3
  subst e1 e3
  obtain ⟨g, rfl, hb, hl⟩ := hf hm
  have hget : ys[ys.length - 1]? = some y := by rw [← List.getLast?_eq_getElem?]; exact hy
  obtain ⟨_, f2, f3⟩ := flat_at ys _ y hget
  exact ⟨g, rfl, hb, hl, hm, (World.ownsRow.cellAt h _ (by omega)).trans f2, (World.ownsRow.cellAt h _ (by omega)).trans f3, World.ownsRow.frozenAt h _⟩

/-- the last block made larger -/
theorem OwnB.grow {w : World} {base g c m : Nat} {ys : List Bl} {y : Bl} {z : Int} (h : OwnB w base (.slice (some ⟨g, 0, none⟩) m c) ys) (hy : ys.getLast? = some y) :
    OwnB (w.setCell ⟨g, (m - 1) * 3 + 1, none⟩ (.int .i64 z)) base (.slice (some ⟨g, 0, none⟩) m c) (ys.dropLast ++ [⟨y.s, z, y.u⟩]) := by
  obtain ⟨e, _⟩ := h.cap
  subst e
  have hsp := Bks.getLast_split hy
  have hst := (World.ownsRow.stored h ((ys.length - 1) * 3 + 1) (.int .i64 z)).1
  have hl : (ys.dropLast ++ [⟨y.s, z, y.u⟩] : List Bl).length = ys.length := by
    rw [hsp]
    simp
  unfold OwnB
  rw [hl]
  have e : (flat ys).set ((ys.length - 1) * 3 + 1) (.int .i64 z) = flat (ys.dropLast ++ [⟨y.s, z, y.u⟩]) := by
    have hlen : ys.length - 1 = ys.dropLast.length := by simp
    rw [hlen]
    generalize ys.dropLast = p at *
    subst hsp
    rw [flat_append, flat_append, List.set_append_right _ _ (by rw [flat_length]; omega)]
    rw [flat_length]
    simp [flat]
  rw [← e]
  exact hst

theorem join_none {b : Bl} : Bks.joinB [] b = [b] := rfl
theorem join_used {out : List Bl} {y b : Bl} (h : out.getLast? = some y) (hu : y.u = true ∨ b.u = true) : Bks.joinB out b = out ++ [b] := by
  simp only [Bks.joinB, h]
  rw [if_neg]
  rintro ⟨h1, h2⟩
  rcases hu with e | e <;> simp_all
theorem join_free {out : List Bl} {y b : Bl} (h : out.getLast? = some y) (h1 : y.u = false) (h2 : b.u = false) : Bks.joinB out b = out.dropLast ++ [⟨y.s, y.z + b.z, y.u⟩] := by
  simp only [Bks.joinB, h]
  rw [if_pos ⟨h1, h2⟩]

theorem giveTo_succ {xs : List Bl} {num k : Nat} {x : Bl} (h : xs[k]? = some x) : Bks.giveTo xs num (k + 1) = Bks.joinB (Bks.giveTo xs num k) (Bks.giveOf num k x) := by
  simp [Bks.giveTo, h]

theorem giveOf_cases (k0 k : Nat) (x : Bl) : (k = k0 ∧ (Bks.giveOf k0 k x).u = false) ∨ (k ≠ k0 ∧ x.u = true ∧ (Bks.giveOf k0 k x).u = true) ∨ (k ≠ k0 ∧ x.u = false ∧ (Bks.giveOf k0 k x).u = false) := by
  unfold Bks.giveOf
  by_cases hk : k = k0
  · left
    simp [hk]
  · right
    cases hu : x.u <;> simp [hk, hu]

/-- a local block and a slice of it have been made beside the call's own row -/
theorem app_ready {wr : World} {base : Nat} {v : Value} {ys : List Bl} {x : Bl} (h : OwnB wr base v ys) (h1 : -9223372036854775808 ≤ x.s) (h2 : x.s ≤ 9223372036854775807) (h3 : -9223372036854775808 ≤ x.z) (h4 : x.z ≤ 9223372036854775807) :
    OwnB ((wr.alloc (.cells #[.int .i64 x.s, .int .i64 x.z, .bool x.u] 55)).alloc (.cells #[.int .i64 x.s, .int .i64 x.z, .bool x.u] 55)) base v ys ∧
    BS ((wr.alloc (.cells #[.int .i64 x.s, .int .i64 x.z, .bool x.u] 55)).alloc (.cells #[.int .i64 x.s, .int .i64 x.z, .bool x.u] 55)) (wr.heap.size + 2) (some ⟨wr.heap.size + 1, 0, none⟩) 1 [x] := by
  refine ⟨(World.ownsRow.alloc (World.ownsRow.alloc h _) _), ?_⟩
  have := (own_one (wr.alloc (.cells #[.int .i64 x.s, .int .i64 x.z, .bool x.u] 55)) x.s x.z x.u 0 (Nat.zero_le _)).reads (allI_one h1 h2 h3 h4)
  simpa using this

end Go.Proofs.Ythihaclhlmpioaa
