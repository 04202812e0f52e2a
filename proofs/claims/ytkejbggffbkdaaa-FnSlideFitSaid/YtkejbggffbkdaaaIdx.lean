/- Plain mathematics of an index by sizes: the first free block of each size, and what the first and the best fit are by it. No program, no conditions. -/
import Derived.Test.YtkejbggffbkdaaaFits2
namespace Go.Proofs.Ytkejbggffbkdaaa
namespace Bks

/-- the first of the first k blocks that is free and has just s words; -1 if there is none -/
def idx (xs : List Bl) : Nat → Nat → Int
  | 0, _ => -1
  | k + 1, s => match xs[k]? with
    | none => idx xs k s
    | some x => if x.u = false ∧ x.z = s ∧ idx xs k s < 0 then k else idx xs k s

theorem idx_succ {xs : List Bl} {k : Nat} {x : Bl} (h : xs[k]? = some x) (s : Nat) : idx xs (k + 1) s = if x.u = false ∧ x.z = s ∧ idx xs k s < 0 then (k : Int) else idx xs k s := by
  simp [idx, h]

theorem idx_range (xs : List Bl) (s : Nat) : ∀ k, -1 ≤ idx xs k s ∧ (idx xs k s < k)
  | 0 => by simp [idx]
  | k + 1 => by
    have := idx_range xs s k
    unfold idx
    split
    · omega
    · split <;> omega

theorem idx_at (xs : List Bl) (s : Nat) : ∀ k, (idx xs k s < 0 → ∀ j x, j < k → xs[j]? = some x → ¬ (x.u = false ∧ x.z = s)) ∧
    (0 ≤ idx xs k s → ∃ (i : Nat) (x : Bl), idx xs k s = i ∧ i < k ∧ xs[i]? = some x ∧ x.u = false ∧ x.z = s ∧ ∀ j y, j < i → xs[j]? = some y → ¬ (y.u = false ∧ y.z = s))
  | 0 => ⟨fun _ j x hj => by omega, fun h => by simp [idx] at h⟩
  | k + 1 => by
    obtain ⟨h1, h2⟩ := idx_at xs s k
    cases hx : xs[k]? with
    | none =>
      have e : idx xs (k + 1) s = idx xs k s := by simp [idx, hx]
      rw [e]
      refine ⟨fun hn j x hj hjx => ?_, fun hp => ?_⟩
      · rcases Nat.lt_or_ge j k with hlt | hge
        · exact h1 hn j x hlt hjx
        · obtain rfl : j = k := by omega
          rw [hx] at hjx
          cases hjx
      · obtain ⟨i, x, a, b, c⟩ := h2 hp
        exact ⟨i, x, a, by omega, c⟩
    | some y =>
      rw [idx_succ hx]
      split
      · next hc =>
        refine ⟨fun hn => by omega, fun _ => ⟨k, y, rfl, by omega, hx, hc.1, hc.2.1, fun j z hj hz => h1 hc.2.2 j z hj hz⟩⟩
      · next hc =>
        refine ⟨fun hn j x hj hjx => ?_, fun hp => ?_⟩
        · rcases Nat.lt_or_ge j k with hlt | hge
          · exact h1 hn j x hlt hjx
          · obtain rfl : j = k := by omega
            rw [hx] at hjx
            injection hjx with hjx
            subst hjx
            rintro ⟨a, b⟩
            exact hc ⟨a, b, hn⟩
        · obtain ⟨i, x, a, b, c⟩ := h2 hp
          exact ⟨i, x, a, by omega, c⟩

/-- the least number, not negative, that F has from 'size' on, over k sizes; -1 if there is none -/
def leastN (F : Nat → Int) (size : Nat) : Nat → Int
  | 0 => -1
  | k + 1 => if 0 ≤ F (size + k) ∧ (leastN F size k < 0 ∨ F (size + k) < leastN F size k) then F (size + k) else leastN F size k

theorem leastN_spec (F : Nat → Int) (size : Nat) : ∀ k, -1 ≤ leastN F size k ∧ (leastN F size k < 0 → ∀ j, j < k → F (size + j) < 0) ∧
    (0 ≤ leastN F size k → (∃ j, j < k ∧ F (size + j) = leastN F size k) ∧ ∀ j, j < k → 0 ≤ F (size + j) → leastN F size k ≤ F (size + j))
  | 0 => ⟨by simp [leastN], fun _ j hj => by omega, fun h => by simp [leastN] at h⟩
  | k + 1 => by
    obtain ⟨h0, h1, h2⟩ := leastN_spec F size k
    unfold leastN
    split
    · next hc =>
      refine ⟨by omega, fun hn => by omega, fun _ => ⟨⟨k, by omega, rfl⟩, fun j hj hp => ?_⟩⟩
      rcases Nat.lt_or_ge j k with hlt | hge
      · rcases Int.lt_or_le (leastN F size k) 0 with hm | hm
        · have := h1 hm j hlt
          omega
        · have := (h2 hm).2 j hlt hp
          omega
      · obtain rfl : j = k := by omega
        omega
    · next hc =>
      refine ⟨h0, fun hn j hj => ?_, fun hp => ?_⟩
      · rcases Nat.lt_or_ge j k with hlt | hge
        · exact h1 hn j hlt
        · obtain rfl : j = k := by omega
          omega
      · obtain ⟨⟨i, hi, e⟩, hall⟩ := h2 hp
        refine ⟨⟨i, by omega, e⟩, fun j hj hq => ?_⟩
        rcases Nat.lt_or_ge j k with hlt | hge
        · exact hall j hlt hq
        · obtain rfl : j = k := by omega
          omega

/-- the first fit, by the index -/
theorem first_idx {xs : List Bl} {t : Int} {size : Nat} (hv : validB xs t = true) (h1 : 1 ≤ size) (h2 : size ≤ 256) : firstW xs t size = leastN (idx xs xs.length) size (257 - size) := by
  rw [firstW, if_pos ⟨hv, by omega, by omega⟩]
  obtain ⟨l0, l1, l2⟩ := leastN_spec (idx xs xs.length) size (257 - size)
  rcases Int.lt_or_le (leastN (idx xs xs.length) size (257 - size)) 0 with hm | hm
  · rw [firstIdx_none]
    · omega
    · intro j y hy
      have ha := valid_at hv hy
      cases hf : fits size y
      · rfl
      · rw [fits_iff] at hf
        have := l1 hm (y.z.toNat - size) (by omega)
        rw [show size + (y.z.toNat - size) = y.z.toNat by omega] at this
        exact absurd ⟨hf.1, by omega⟩ ((idx_at xs y.z.toNat xs.length).1 this j y (List.getElem?_eq_some_iff.1 hy).1 hy)
  · obtain ⟨⟨i, hi, e⟩, hall⟩ := l2 hm
    obtain ⟨m, x, em, hml, hmx, hu, hz, _⟩ := (idx_at xs (size + i) xs.length).2 (by omega)
    rw [firstIdx_some xs size 0 m x hmx (by rw [fits_iff]; exact ⟨hu, by omega⟩) (fun j y hj hy => by
      cases hf : fits size y
      · rfl
      · exfalso
        rw [fits_iff] at hf
        have ha := valid_at hv hy
        have hq := hall (y.z.toNat - size) (by omega)
        rw [show size + (y.z.toNat - size) = y.z.toNat by omega] at hq
        have hjl := (List.getElem?_eq_some_iff.1 hy).1
        rcases Int.lt_or_le (idx xs xs.length y.z.toNat) 0 with hn | hp
        · exact absurd ⟨hf.1, by omega⟩ ((idx_at xs y.z.toNat xs.length).1 hn j y hjl hy)
        · obtain ⟨b, xb, eb, _, hbx, _, _, hbn⟩ := (idx_at xs y.z.toNat xs.length).2 hp
          have := hq hp
          exact hbn j y (by omega) hy ⟨hf.1, by omega⟩)]
    omega

/-- the best fit, by the index -/
theorem best_idx {xs : List Bl} {t : Int} {size k : Nat} (hv : validB xs t = true) (h1 : 1 ≤ size) (h2 : size + k ≤ 256) (hn : ∀ j, j < k → idx xs xs.length (size + j) < 0) (hp : 0 ≤ idx xs xs.length (size + k)) :
    bestW xs t size = idx xs xs.length (size + k) := by
  obtain ⟨m, x, em, hml, hmx, hu, hz, hfirst⟩ := (idx_at xs (size + k) xs.length).2 hp
  rw [em]
  refine bestW_some ⟨hv, by omega, by omega⟩ ⟨x, hmx, by rw [fits_iff]; exact ⟨hu, by omega⟩, fun j y hy hf => ?_⟩
  rw [fits_iff] at hf
  have ha := valid_at hv hy
  have hjl := (List.getElem?_eq_some_iff.1 hy).1
  rcases Int.lt_or_le x.z y.z with hlt | hle
  · exact .inl hlt
  · right
    rcases Int.lt_or_le y.z x.z with hlt2 | hle2
    · exfalso
      have := hn (y.z.toNat - size) (by omega)
      rw [show size + (y.z.toNat - size) = y.z.toNat by omega] at this
      exact absurd ⟨hf.1, by omega⟩ ((idx_at xs y.z.toNat xs.length).1 this j y hjl hy)
    · refine ⟨by omega, ?_⟩
      rcases Nat.lt_or_ge j m with hjm | hjm
      · exact absurd ⟨hf.1, by omega⟩ (hfirst j y hjm hy)
      · exact hjm
theorem best_idx_none {xs : List Bl} {t : Int} {size : Nat} (hv : validB xs t = true) (hn : ∀ j, j < 257 - size → idx xs xs.length (size + j) < 0) : bestW xs t size = -1 := by
  refine bestW_none fun j y hy => ?_
  have ha := valid_at hv hy
  cases hf : fits size y
  · rfl
  · rw [fits_iff] at hf
    have := hn (y.z.toNat - size) (by omega)
    rw [show size + (y.z.toNat - size) = y.z.toNat by omega] at this
    exact absurd ⟨hf.1, by omega⟩ ((idx_at xs y.z.toNat xs.length).1 this j y (List.getElem?_eq_some_iff.1 hy).1 hy)

theorem firstW_not {xs : List Bl} {t size : Int} (h : ¬ (validB xs t = true ∧ 1 ≤ size ∧ size ≤ 256)) : firstW xs t size = -1 := by
  rw [firstW, if_neg h]
theorem bestW_not {xs : List Bl} {t size : Int} (h : ¬ (validB xs t = true ∧ 1 ≤ size ∧ size ≤ 256)) : bestW xs t size = -1 := by
  rw [bestW, if_neg h]
end Bks
end Go.Proofs.Ytkejbggffbkdaaa
