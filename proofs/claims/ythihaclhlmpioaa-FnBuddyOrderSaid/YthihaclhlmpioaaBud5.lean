/- Plain mathematics of the lists of free buddies by their orders: which one is the least, where it lies. No program, no conditions. -/
import Derived.Test.YthihaclhlmpioaaZg
import Derived.Test.YthihaclhlmpioaaBud4
namespace Go.Proofs.Ythihaclhlmpioaa
namespace Bud

theorem frees_eq (xs : List Bl) (j : Nat) : freesTo xs xs.length j = (xs.filter fun b => !b.u && decide (b.z = (j : Int))).map Bl.s := by simp [freesTo]

theorem mem_frees {xs : List Bl} {j : Nat} {v : Int} : v ∈ freesTo xs xs.length j ↔ ∃ (k : Nat) (b : Bl), xs[k]? = some b ∧ b.u = false ∧ b.z = j ∧ b.s = v := by
  rw [frees_eq, List.mem_map]
  constructor
  · rintro ⟨b, hb, rfl⟩
    rw [List.mem_filter] at hb
    obtain ⟨k, hk⟩ := List.mem_iff_getElem?.1 hb.1
    have := hb.2
    simp at this
    exact ⟨k, b, hk, this.1, this.2, rfl⟩
  · rintro ⟨k, b, hk, hu, hz, rfl⟩
    refine ⟨b, ?_, rfl⟩
    rw [List.mem_filter]
    exact ⟨List.mem_of_getElem? hk, by simp [hu, hz]⟩

theorem asc_pair {xs : List Bl} (h : Asc xs) : xs.Pairwise fun a b => a.s < b.s := by
  rw [List.pairwise_iff_getElem]
  intro i j hi hj hij
  exact h i j _ _ hij (List.getElem?_eq_getElem hi) (List.getElem?_eq_getElem hj)

theorem frees_asc {xs : List Bl} (h : Asc xs) (j : Nat) : AscN (freesTo xs xs.length j) := by
  have h1 : (freesTo xs xs.length j).Pairwise (· < ·) := by
    rw [frees_eq, List.pairwise_map]
    exact (asc_pair h).sublist List.filter_sublist
  rw [List.pairwise_iff_getElem] at h1
  intro a b x y hab hx hy
  obtain ⟨ha, rfl⟩ := List.getElem?_eq_some_iff.1 hx
  obtain ⟨hb, rfl⟩ := List.getElem?_eq_some_iff.1 hy
  exact h1 a b ha hb hab

theorem frees_range {xs : List Bl} {p : Int} (hv : validY xs p = true) {j : Nat} {v : Int} (h : v ∈ freesTo xs xs.length j) : 0 ≤ v ∧ v < 256 ∧ (j : Int) ≤ p := by
  obtain ⟨k, b, hk, _, hz, rfl⟩ := mem_frees.1 h
  obtain ⟨i, e1, e2, _, e3, e4, _, _⟩ := validY_at hv hk
  have := Nat.two_pow_pos i
  omega

theorem frees_allN {xs : List Bl} {p : Int} (hv : validY xs p = true) (j : Nat) : AllN (freesTo xs xs.length j) := by
  intro k v hk
  have := frees_range hv (List.mem_of_getElem? hk)
  exact ⟨by omega, by omega⟩

theorem frees_head {xs : List Bl} {b j : Nat} {x : Bl} (hx : xs[b]? = some x) (hu : x.u = false) (hz : x.z = j) (hfirst : ∀ (i : Nat) (y : Bl), i < b → xs[i]? = some y → ¬ (y.u = false ∧ y.z = j)) : ∃ l, freesTo xs xs.length j = x.s :: l := by
  obtain ⟨hb, rfl⟩ := List.getElem?_eq_some_iff.1 hx
  have e : xs = xs.take b ++ xs[b] :: xs.drop (b + 1) := by rw [List.getElem_cons_drop, List.take_append_drop]
  have e1 : (xs.take b).filter (fun b => !b.u && decide (b.z = (j : Int))) = [] := by
    rw [List.filter_eq_nil_iff]
    intro y hy
    obtain ⟨i, hi⟩ := List.mem_iff_getElem?.1 hy
    rw [List.getElem?_take] at hi
    split at hi
    · next h =>
      have := hfirst i y h hi
      simp
      exact fun h1 h2 => this ⟨h1, h2⟩
    · cases hi
  have e2 : freesTo xs xs.length j = ((xs.take b ++ xs[b] :: xs.drop (b + 1)).filter fun b => !b.u && decide (b.z = (j : Int))).map Bl.s := by
    rw [frees_eq]
    exact congrArg (fun l => (l.filter fun b => !b.u && decide (b.z = (j : Int))).map Bl.s) e
  rw [e2, List.filter_append, e1, List.nil_append, List.filter_cons, if_pos (by simp [hu, hz])]
  exact ⟨_, rfl⟩

theorem frees_none {xs : List Bl} {j : Nat} (h : ∀ (i : Nat) (y : Bl), xs[i]? = some y → ¬ (y.u = false ∧ y.z = j)) : freesTo xs xs.length j = [] := by
  rw [List.eq_nil_iff_forall_not_mem]
  intro v hv
  obtain ⟨k, b, hk, hu, hz, _⟩ := mem_frees.1 hv
  exact h k b hk ⟨hu, hz⟩

theorem leastF_none {FL : Nat → List Int} : ∀ (d j : Nat), (∀ i, j ≤ i → i < j + d → FL i = []) → leastF FL d j = -1
  | 0, _, _ => rfl
  | d + 1, j, h => by
    rw [leastF, h j (by omega) (by omega)]
    exact leastF_none d (j + 1) (fun i h1 h2 => h i (by omega) (by omega))
theorem leastF_some {FL : Nat → List Int} {s : Int} {l : List Int} {k : Nat} (hk : FL k = s :: l) : ∀ (d j : Nat), j ≤ k → k < j + d → (∀ i, j ≤ i → i < k → FL i = []) → leastF FL d j = s
  | 0, j, h1, h2, _ => by omega
  | d + 1, j, h1, h2, h => by
    rw [leastF]
    rcases Nat.lt_or_ge j k with h3 | h3
    · rw [h j (by omega) h3]
      exact leastF_some hk d (j + 1) (by omega) (by omega) (fun i h4 h5 => h i (by omega) h5)
    · obtain rfl : j = k := by omega
      rw [hk]

theorem least_none {xs : List Bl} {p : Int} {m : Nat} (_hv : validY xs p = true) (h : Bks.bestTo xs m xs.length = none) : leastF (freesTo xs xs.length) (9 - m) m = -1 := by
  have hs := (Bks.bestTo_spec xs m xs.length (Nat.le_refl _)).1 h
  refine leastF_none _ _ (fun i h1 h2 => frees_none fun q y hy hh => ?_)
  have := hs q y (List.getElem?_eq_some_iff.1 hy).1 hy
  rw [← Bool.not_eq_true, Bks.fits_iff] at this
  exact this ⟨hh.1, by rw [hh.2]; omega⟩

theorem least_some {xs : List Bl} {p : Int} {m b : Nat} {x : Bl} (hv : validY xs p = true) (h : Bks.bestTo xs m xs.length = some b) (hx : xs[b]? = some x) : leastF (freesTo xs xs.length) (9 - m) m = x.s := by
  obtain ⟨hb, x', hx', hf, hmin⟩ := (Bks.bestTo_spec xs m xs.length (Nat.le_refl _)).2 b h
  obtain rfl : x' = x := Option.some.inj (hx'.symm.trans hx)
  rw [Bks.fits_iff] at hf
  obtain ⟨j, z1, _, z3, _⟩ := validY_at hv hx
  obtain ⟨l, hl⟩ := frees_head hx hf.1 z1 (fun i y hi hy hh => by
    have hfy : Bks.fits m y = true := by rw [Bks.fits_iff]; exact ⟨hh.1, by rw [hh.2]; omega⟩
    rcases hmin i y (List.getElem?_eq_some_iff.1 hy).1 hy hfy with h1 | h1
    · rw [hh.2] at h1; omega
    · omega)
  refine leastF_some hl _ _ (by omega) (by omega) (fun i h1 h2 => frees_none fun q y hy hh => ?_)
  have hfy : Bks.fits m y = true := by rw [Bks.fits_iff]; exact ⟨hh.1, by rw [hh.2]; omega⟩
  rcases hmin q y (List.getElem?_eq_some_iff.1 hy).1 hy hfy with h3 | h3
  · rw [hh.2] at h3; omega
  · rw [hh.2] at h3; omega

theorem from_start {xs : List Bl} (ha : Asc xs) {b : Nat} {x : Bl} (hx : xs[b]? = some x) : fromY xs x.s = b := by
  have h1 := fromY_iff (v := x.s) ha hx
  have h2 : fromY xs x.s ≤ b := by omega
  rcases Nat.eq_zero_or_pos b with h0 | h0
  · omega
  · have hl : b < xs.length := (List.getElem?_eq_some_iff.1 hx).1
    have hy : xs[b - 1]? = some xs[b - 1] := List.getElem?_eq_getElem (by omega)
    have h3 := (fromY_iff ha hy).1 (ha (b - 1) b _ x (by omega) hy hx)
    omega

/-- a buddy begins with a multiple of its size -/
theorem valid_mult {xs : List Bl} {p : Int} (hv : validY xs p = true) {k : Nat} {b : Bl} (hb : xs[k]? = some b) : ∃ s j : Nat, b.s = s ∧ b.z = j ∧ s % 2 ^ j = 0 ∧ s + 2 ^ j ≤ 256 ∧ j ≤ 8 ∧ (j : Int) ≤ p := by
  obtain ⟨j, e1, e2, e3, e4, e5, e6, _⟩ := validY_at hv hb
  have hst := ((validY_iff xs p).1 hv).2.2.1 k (List.getElem?_eq_some_iff.1 hb).1
  rw [stepY_at hb] at hst
  obtain ⟨i, f1, f2, f3, f4, _⟩ := okB_iff.1 hst
  obtain rfl : i = j := by omega
  exact ⟨_, i, e4, e1, f4, e5, e3, e2⟩
end Bud
end Go.Proofs.Ythihaclhlmpioaa
