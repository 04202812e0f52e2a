/- Plain mathematics of chapter 2: first and best fits, giving back what was taken, the order of giving. No program, no conditions. -/
import Derived.Test.YtkejbggffbkdaaaFits
namespace Go.Proofs.Ytkejbggffbkdaaa
namespace Bks

/-- all free words; the largest free block -/
def free : List Bl → Int
  | [] => 0
  | x :: xs => (if x.u = true then 0 else x.z) + free xs

theorem free_eq (xs : List Bl) : freeTo xs xs.length = free xs := by
  unfold freeTo
  rw [List.take_length]
  induction xs with
  | nil => rfl
  | cons x xs ih => simp [free, ih]

theorem free_append (xs ys : List Bl) : free (xs ++ ys) = free xs + free ys := by
  induction xs with
  | nil => simp [free]
  | cons x xs ih => simp [free, ih]; omega

theorem max_ge (xs : List Bl) : ∀ k, k ≤ xs.length → ∀ j x, j < k → xs[j]? = some x → x.u = false → x.z ≤ maxTo xs k
  | 0, _, j, x, hj, _, _ => by omega
  | k + 1, hk, j, x, hj, hx, hu => by
    have hy : xs[k]? = some xs[k] := List.getElem?_eq_getElem (by omega)
    rw [maxTo_succ xs k _ hy]
    rcases Nat.lt_or_ge j k with h1 | h1
    · have := max_ge xs k (by omega) j x h1 hx hu
      split <;> omega
    · obtain rfl : j = k := by omega
      rw [hy] at hx
      injection hx with hx
      rw [hx, if_neg (by simp [hu])]
      omega

theorem max_le (xs : List Bl) (M : Int) (h0 : 0 ≤ M) : ∀ k, k ≤ xs.length → (∀ j x, j < k → xs[j]? = some x → x.u = false → x.z ≤ M) → maxTo xs k ≤ M
  | 0, _, _ => by rw [maxTo_zero]; exact h0
  | k + 1, hk, h => by
    have hy : xs[k]? = some xs[k] := List.getElem?_eq_getElem (by omega)
    rw [maxTo_succ xs k _ hy]
    have := max_le xs M h0 k (by omega) (fun j x hj => h j x (by omega))
    split
    · exact this
    · next hu =>
      have := h k _ (by omega) hy (by simpa using hu)
      omega

theorem max_mem {xs : List Bl} {x : Bl} (hx : x ∈ xs) (hu : x.u = false) : x.z ≤ maxTo xs xs.length := by
  obtain ⟨j, hj, e⟩ := List.getElem_of_mem hx
  exact max_ge xs xs.length (Nat.le_refl _) j x hj (by rw [List.getElem?_eq_getElem hj, e]) hu

theorem max_bound {xs : List Bl} {M : Int} (h0 : 0 ≤ M) (h : ∀ x ∈ xs, x.u = false → x.z ≤ M) : maxTo xs xs.length ≤ M :=
  max_le xs M h0 xs.length (Nat.le_refl _) (fun _ x _ hx hu => h x (List.mem_of_getElem? hx) hu)

/-- the largest free block is there, if it has words -/
theorem max_there (xs : List Bl) : ∀ k, k ≤ xs.length → 0 < maxTo xs k → ∃ j x, j < k ∧ xs[j]? = some x ∧ x.u = false ∧ x.z = maxTo xs k
  | 0, _, h => by rw [maxTo_zero] at h; omega
  | k + 1, hk, h => by
    have hy : xs[k]? = some xs[k] := List.getElem?_eq_getElem (by omega)
    rw [maxTo_succ xs k _ hy] at h ⊢
    split at h
    · next hu =>
      obtain ⟨j, x, a, b, c, d⟩ := max_there xs k (by omega) h
      rw [if_pos hu]
      exact ⟨j, x, by omega, b, c, d⟩
    · next hu =>
      rw [if_neg hu]
      rcases Int.lt_or_le (maxTo xs k) xs[k].z with h1 | h1
      · exact ⟨k, xs[k], by omega, hy, by simpa using hu, by omega⟩
      · obtain ⟨j, x, a, b, c, d⟩ := max_there xs k (by omega) (by omega)
        exact ⟨j, x, by omega, b, c, by omega⟩

/-- a block is free and large enough -/
def fits (size : Int) (x : Bl) : Bool := !x.u && decide (size ≤ x.z)
theorem fits_iff (size : Int) (x : Bl) : fits size x = true ↔ x.u = false ∧ size ≤ x.z := by simp [fits]

/-- k is the first one that fits -/
def IsFirst (xs : List Bl) (size : Int) (k : Nat) : Prop := ∃ x, xs[k]? = some x ∧ fits size x = true ∧ ∀ j y, j < k → xs[j]? = some y → fits size y = false
def NoFit (xs : List Bl) (size : Int) : Prop := ∀ (j : Nat) (y : Bl), xs[j]? = some y → fits size y = false

/-- FirstFit -/
def firstIdx : List Bl → Int → Nat → Int
  | [], _, _ => -1
  | x :: xs, size, k => if fits size x = true then k else firstIdx xs size (k + 1)
def firstW (xs : List Bl) (t size : Int) : Int := if validB xs t = true ∧ 1 ≤ size ∧ size ≤ 256 then firstIdx xs size 0 else -1

theorem firstIdx_some : ∀ (xs : List Bl) (size : Int) (o k : Nat) (x : Bl), xs[k]? = some x → fits size x = true → (∀ j y, j < k → xs[j]? = some y → fits size y = false) → firstIdx xs size o = ((o + k : Nat) : Int)
  | [], size, o, k, x, h, _, _ => by simp at h
  | y :: ys, size, o, 0, x, h, hf, _ => by
    simp at h
    subst h
    simp [firstIdx, hf]
  | y :: ys, size, o, k + 1, x, h, hf, hn => by
    have h0 := hn 0 y (by omega) rfl
    have := firstIdx_some ys size (o + 1) k x (by simpa using h) hf (fun j z hj hz => hn (j + 1) z (by omega) (by simpa using hz))
    simp only [firstIdx, h0]
    rw [if_neg (by simp), this]
    omega

theorem firstIdx_none : ∀ (xs : List Bl) (size : Int) (o : Nat), NoFit xs size → firstIdx xs size o = -1
  | [], _, _, _ => rfl
  | y :: ys, size, o, h => by
    have h0 := h 0 y rfl
    have := firstIdx_none ys size (o + 1) (fun j z hz => h (j + 1) z (by simpa using hz))
    simp only [firstIdx, h0]
    rw [if_neg (by simp), this]

theorem first_or (xs : List Bl) (size : Int) : NoFit xs size ∨ ∃ k, IsFirst xs size k := by
  by_cases h : ∃ k : Nat, ∃ x, xs[k]? = some x ∧ fits size x = true
  · right
    obtain ⟨k, hk⟩ := h
    induction k using Nat.strongRecOn with
    | _ k ih =>
      by_cases hs : ∃ j, j < k ∧ ∃ x, xs[j]? = some x ∧ fits size x = true
      · obtain ⟨j, hj, hx⟩ := hs
        exact ih j hj hx
      · obtain ⟨x, hx, hf⟩ := hk
        refine ⟨k, x, hx, hf, fun j y hj hy => ?_⟩
        cases hfy : fits size y
        · rfl
        · exact absurd ⟨j, hj, y, hy, hfy⟩ hs
  · left
    intro j y hy
    cases hfy : fits size y
    · rfl
    · exact absurd ⟨j, y, hy, hfy⟩ h

/-- k is the smallest one that fits, the first among equals -/
def IsBest (xs : List Bl) (size : Int) (k : Nat) : Prop := ∃ x, xs[k]? = some x ∧ fits size x = true ∧ ∀ (j : Nat) (y : Bl), xs[j]? = some y → fits size y = true → x.z < y.z ∨ (x.z = y.z ∧ k ≤ j)

theorem best_unique {xs : List Bl} {size : Int} {k k' : Nat} (h : IsBest xs size k) (h' : IsBest xs size k') : k = k' := by
  obtain ⟨x, hx, hf, hm⟩ := h
  obtain ⟨x', hx', hf', hm'⟩ := h'
  have a := hm k' x' hx' hf'
  have b := hm' k x hx hf
  omega

/-- BestFit: the loop of the model -/
def bestTo (xs : List Bl) (size : Int) : Nat → Option Nat
  | 0 => none
  | k + 1 => match xs[k]? with
    | none => bestTo xs size k
    | some x => match bestTo xs size k with
      | none => if fits size x = true then some k else none
      | some b => if fits size x = true ∧ x.z < (xs.getD b default).z then some k else some b

theorem bestTo_spec (xs : List Bl) (size : Int) : ∀ k, k ≤ xs.length →
    (bestTo xs size k = none → ∀ j y, j < k → xs[j]? = some y → fits size y = false) ∧
    (∀ b, bestTo xs size k = some b → b < k ∧ ∃ x, xs[b]? = some x ∧ fits size x = true ∧ ∀ j y, j < k → xs[j]? = some y → fits size y = true → x.z < y.z ∨ (x.z = y.z ∧ b ≤ j))
  | 0, _ => by
    refine ⟨fun _ j y hj => by omega, fun b hb => by simp [bestTo] at hb⟩
  | k + 1, hk => by
    obtain ⟨ih1, ih2⟩ := bestTo_spec xs size k (by omega)
    have hy : xs[k]? = some xs[k] := List.getElem?_eq_getElem (by omega)
    simp only [bestTo, hy]
    generalize xs[k] = x at hy
    cases hb : bestTo xs size k with
    | none =>
      have hn := ih1 hb
      constructor
      · intro h j y hj hjy
        rcases Nat.lt_or_ge j k with h1 | h1
        · exact hn j y h1 hjy
        · obtain rfl : j = k := by omega
          rw [hy] at hjy
          injection hjy with e
          subst e
          cases hf : fits size x
          · rfl
          · simp [hf] at h
      · intro b h
        cases hf : fits size x
        · simp [hf] at h
        · simp [hf] at h
          subst h
          refine ⟨by omega, x, hy, hf, fun j y hj hjy hfy => ?_⟩
          rcases Nat.lt_or_ge j k with h1 | h1
          · rw [hn j y h1 hjy] at hfy
            cases hfy
          · obtain rfl : j = k := by omega
            rw [hy] at hjy
            injection hjy with e
            subst e
            exact .inr ⟨rfl, Nat.le_refl _⟩
    | some b0 =>
      obtain ⟨q1, x0, q2, q3, q4⟩ := ih2 b0 hb
      have hg : xs.getD b0 default = x0 := by rw [List.getD_eq_getElem?_getD, q2]; rfl
      simp only [hg]
      constructor
      · intro h
        split at h <;> cases h
      · intro b h
        split at h
        · next hh =>
          injection h with h
          subst h
          refine ⟨by omega, x, hy, hh.1, fun j y hj hjy hfy => ?_⟩
          rcases Nat.lt_or_ge j k with h1 | h1
          · have := q4 j y h1 hjy hfy
            left
            omega
          · obtain rfl : j = k := by omega
            rw [hy] at hjy
            injection hjy with e
            subst e
            exact .inr ⟨rfl, Nat.le_refl _⟩
        · next hh =>
          injection h with h
          subst h
          refine ⟨by omega, x0, q2, q3, fun j y hj hjy hfy => ?_⟩
          rcases Nat.lt_or_ge j k with h1 | h1
          · exact q4 j y h1 hjy hfy
          · obtain rfl : j = k := by omega
            rw [hy] at hjy
            injection hjy with e
            subst e
            have : ¬ x.z < x0.z := fun hlt => hh ⟨hfy, hlt⟩
            omega

def bestW (xs : List Bl) (t size : Int) : Int :=
  if validB xs t = true ∧ 1 ≤ size ∧ size ≤ 256 then (match bestTo xs size xs.length with | none => -1 | some b => (b : Int)) else -1

theorem bestW_some {xs : List Bl} {t size : Int} (h : validB xs t = true ∧ 1 ≤ size ∧ size ≤ 256) {k : Nat} (hk : IsBest xs size k) : bestW xs t size = k := by
  rw [bestW, if_pos h]
  obtain ⟨h1, h2⟩ := bestTo_spec xs size xs.length (Nat.le_refl _)
  obtain ⟨x, hx, hf, hm⟩ := hk
  have hkl : k < xs.length := (List.getElem?_eq_some_iff.1 hx).1
  cases hb : bestTo xs size xs.length with
  | none =>
    have := h1 hb k x hkl hx
    rw [hf] at this
    cases this
  | some b =>
    obtain ⟨_, x', hx', hf', hm'⟩ := h2 b hb
    have : b = k := best_unique ⟨x', hx', hf', fun j y hy => hm' j y (List.getElem?_eq_some_iff.1 hy).1 hy⟩ ⟨x, hx, hf, hm⟩
    rw [this]

theorem bestW_none {xs : List Bl} {t size : Int} (hk : NoFit xs size) : bestW xs t size = -1 := by
  unfold bestW
  split
  · obtain ⟨h1, h2⟩ := bestTo_spec xs size xs.length (Nat.le_refl _)
    cases hb : bestTo xs size xs.length with
    | none => rfl
    | some b =>
      obtain ⟨_, x', hx', hf', _⟩ := h2 b hb
      rw [hk b x' hx'] at hf'
      cases hf'
  · rfl

theorem best_or (xs : List Bl) (size : Int) : NoFit xs size ∨ ∃ k, IsBest xs size k := by
  obtain ⟨h1, h2⟩ := bestTo_spec xs size xs.length (Nat.le_refl _)
  cases hb : bestTo xs size xs.length with
  | none => exact .inl fun j y hy => h1 hb j y (List.getElem?_eq_some_iff.1 hy).1 hy
  | some b =>
    obtain ⟨_, x', hx', hf', hm'⟩ := h2 b hb
    exact .inr ⟨b, x', hx', hf', fun j y hy => hm' j y (List.getElem?_eq_some_iff.1 hy).1 hy⟩
end Bks
end Go.Proofs.Ytkejbggffbkdaaa
