/- Plain mathematics of buddies in a list: what one buddy is asked, one after the other; and that this is validity. No program, no conditions. -/
import Derived.Test.YthihaclhlmpioaaBud2
namespace Go.Proofs.Ythihaclhlmpioaa
namespace Bud

/-- the words of the first k buddies -/
def atY (xs : List Bl) (k : Nat) : Nat := ((xs.take k).map fun b => 2 ^ b.z.toNat).sum

theorem atY_zero (xs : List Bl) : atY xs 0 = 0 := by simp [atY]
theorem atY_succ {xs : List Bl} {k : Nat} {b : Bl} (h : xs[k]? = some b) : atY xs (k + 1) = atY xs k + 2 ^ b.z.toNat := by
  unfold atY
  rw [List.take_add_one, h]
  simp

/-- the buddy before is the free other half -/
def mateB (a j : Nat) (prev : Option Bl) : Bool := decide ((a / 2 ^ j) % 2 = 1) && match prev with
  | none => false
  | some y => !y.u && decide (y.z = j)

def okB (p a : Nat) (prev : Option Bl) (b : Bl) : Bool :=
  decide (b.s = a) && decide (0 ≤ b.z) && decide (b.z ≤ p) && decide (a % 2 ^ b.z.toNat = 0) && !(!b.u && mateB a b.z.toNat prev)

def prevY (xs : List Bl) (k : Nat) : Option Bl := if k = 0 then none else xs[k - 1]?

def stepY (p : Nat) (xs : List Bl) (k : Nat) : Bool := match xs[k]? with
  | none => false
  | some b => okB p (atY xs k) (prevY xs k) b

def validY (xs : List Bl) (p : Int) : Bool := decide (0 ≤ p) && decide (p ≤ 8) && (List.range xs.length).all (stepY p.toNat xs) && decide (atY xs xs.length = 2 ^ p.toNat)

theorem validY_iff (xs : List Bl) (p : Int) : validY xs p = true ↔ 0 ≤ p ∧ p ≤ 8 ∧ (∀ k, k < xs.length → stepY p.toNat xs k = true) ∧ atY xs xs.length = 2 ^ p.toNat := by
  unfold validY
  simp [and_assoc]

theorem stepY_at {p : Nat} {xs : List Bl} {k : Nat} {b : Bl} (h : xs[k]? = some b) : stepY p xs k = okB p (atY xs k) (prevY xs k) b := by
  simp [stepY, h]

theorem okB_iff {p a : Nat} {prev : Option Bl} {b : Bl} : okB p a prev b = true ↔ ∃ j, okAt p a prev b j := by
  unfold okB okAt mateB
  constructor
  · intro h
    simp only [Bool.and_eq_true, decide_eq_true_eq] at h
    obtain ⟨⟨⟨⟨h1, h2⟩, h3⟩, h4⟩, h5⟩ := h
    refine ⟨b.z.toNat, h1, by omega, by omega, h4, ?_⟩
    rintro ⟨hu, hm, y, rfl, hyu, hyz⟩
    rw [hu, decide_eq_true hm] at h5
    simp [hyu, hyz] at h5
  · rintro ⟨j, h1, h2, h3, h4, h5⟩
    have e : b.z.toNat = j := by omega
    rw [e]
    simp only [Bool.and_eq_true, decide_eq_true_eq]
    refine ⟨⟨⟨⟨h1, by omega⟩, by omega⟩, h4⟩, ?_⟩
    cases hu : b.u
    · by_cases hm : a / 2 ^ j % 2 = 1
      · cases prev with
        | none => simp
        | some y =>
          cases hyu : y.u
          · by_cases hz : y.z = j
            · exact absurd ⟨hu, hm, y, rfl, hyu, hz⟩ h5
            · simp [hz]
          · simp [hyu]
      · simp [hm]
    · rfl

theorem steps_chain {p e : Nat} : ∀ (xs : List Bl) (a : Nat) (prev : Option Bl), Chain p a prev xs e ↔ (∀ k b, xs[k]? = some b → okB p (a + atY xs k) (if k = 0 then prev else xs[k - 1]?) b = true) ∧ a + atY xs xs.length = e
  | [], a, prev => by
    constructor
    · intro h
      cases h
      exact ⟨fun k b h => by simp at h, by simp [atY]⟩
    · rintro ⟨_, h⟩
      simp [atY] at h
      subst h
      exact Chain.nil _ _
  | x :: xs, a, prev => by
    constructor
    · intro h
      rcases Chain.inv h with ⟨h0, _⟩ | ⟨b, xs', j, h0, hj, t⟩
      · cases h0
      · injection h0 with h1 h2
        subst h1 h2
        have ih := (steps_chain xs (a + 2 ^ j) (some x)).1 t
        have hz : x.z.toNat = j := by have := hj.2.1; omega
        refine ⟨fun k b hb => ?_, ?_⟩
        · cases k with
          | zero =>
            simp at hb
            subst hb
            rw [atY_zero]
            simp only [if_true, Nat.add_zero]
            exact okB_iff.2 ⟨j, hj⟩
          | succ k =>
            have hb' : xs[k]? = some b := by simpa using hb
            have := ih.1 k b hb'
            have e1 : a + atY (x :: xs) (k + 1) = a + 2 ^ j + atY xs k := by simp [atY, hz]; omega
            rw [e1, if_neg (by omega)]
            cases k with
            | zero => simpa using this
            | succ k => simpa using this
        · rw [← ih.2]
          simp [atY, hz]
          omega
    · rintro ⟨h1, h2⟩
      have h0 := h1 0 x rfl
      rw [atY_zero] at h0
      simp only [if_true, Nat.add_zero] at h0
      obtain ⟨j, hj⟩ := okB_iff.1 h0
      have hz : x.z.toNat = j := by have := hj.2.1; omega
      refine Chain.cons j hj ((steps_chain xs (a + 2 ^ j) (some x)).2 ⟨fun k b hb => ?_, ?_⟩)
      · have := h1 (k + 1) b (by simpa using hb)
        have e1 : a + atY (x :: xs) (k + 1) = a + 2 ^ j + atY xs k := by simp [atY, hz]; omega
        rw [e1, if_neg (by omega)] at this
        cases k with
        | zero => simpa using this
        | succ k => simpa using this
      · rw [← h2]
        simp [atY, hz]
        omega

theorem validY_chain (xs : List Bl) (p : Int) : validY xs p = true ↔ 0 ≤ p ∧ p ≤ 8 ∧ Valid xs p.toNat := by
  rw [validY_iff]
  unfold Valid
  rw [steps_chain]
  constructor
  · rintro ⟨h1, h2, h3, h4⟩
    refine ⟨h1, h2, fun k b hb => ?_, by omega⟩
    have := h3 k (List.getElem?_eq_some_iff.1 hb).1
    rw [stepY_at hb] at this
    rw [Nat.zero_add]
    exact this
  · rintro ⟨h1, h2, h3, h4⟩
    refine ⟨h1, h2, fun k hk => ?_, by omega⟩
    have hb : xs[k]? = some xs[k] := List.getElem?_eq_getElem hk
    have := h3 k _ hb
    rw [Nat.zero_add] at this
    rw [stepY_at hb]
    exact this

theorem invalid_step {xs : List Bl} {p : Int} {k : Nat} (hk : k < xs.length) (h : stepY p.toNat xs k = false) : validY xs p = false := by
  cases hv : validY xs p
  · rfl
  · have := ((validY_iff xs p).1 hv).2.2.1 k hk
    rw [h] at this
    cases this

def okTo (p : Nat) (xs : List Bl) (k : Nat) : Prop := ∀ j, j < k → stepY p xs j = true
theorem okTo_zero (p : Nat) (xs : List Bl) : okTo p xs 0 := fun j h => by omega
theorem okTo_succ {p : Nat} {xs : List Bl} {k : Nat} (h : okTo p xs k) (hk : stepY p xs k = true) : okTo p xs (k + 1) := fun j hj => by
  rcases Nat.lt_or_ge j k with h1 | h1
  · exact h j h1
  · obtain rfl : j = k := by omega
    exact hk

theorem two_pow_le {j : Nat} (h : j ≤ 8) : 1 ≤ 2 ^ j ∧ 2 ^ j ≤ 256 := by
  refine ⟨Nat.two_pow_pos j, ?_⟩
  have := Nat.pow_le_pow_right (n := 2) (by omega) h
  simpa using this

theorem atY_range {p : Nat} {xs : List Bl} (hp : p ≤ 8) : ∀ {k : Nat}, okTo p xs k → k ≤ xs.length → k ≤ atY xs k ∧ atY xs k ≤ 256 * k
  | 0, _, _ => by simp [atY]
  | k + 1, h, hk => by
    have hb : xs[k]? = some xs[k] := List.getElem?_eq_getElem (by omega)
    have ih := atY_range hp (fun j hj => h j (by omega)) (show k ≤ xs.length by omega)
    have hs := h k (by omega)
    rw [stepY_at hb] at hs
    obtain ⟨j, hj⟩ := okB_iff.1 hs
    rw [atY_succ hb]
    have hz : (xs[k]).z.toNat = j := by have := hj.2.1; omega
    have := two_pow_le (j := j) (by have := hj.2.2.1; omega)
    rw [hz]
    omega

theorem valid_of_all {xs : List Bl} {p : Int} (h0 : 0 ≤ p) (h8 : p ≤ 8) (h : okTo p.toNat xs xs.length) : validY xs p = decide (atY xs xs.length = 2 ^ p.toNat) := by
  rw [Bool.eq_iff_iff, validY_iff]
  simp only [decide_eq_true_eq]
  exact ⟨fun hh => hh.2.2.2, fun hh => ⟨h0, h8, h, hh⟩⟩
end Bud
end Go.Proofs.Ythihaclhlmpioaa
