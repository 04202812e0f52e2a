/- Plain mathematics of blocks: what it means that blocks divide a memory, without any program. No conditions. -/
import Derived.Below
namespace Go.Proofs.Ytkdoolilggkjpaa
/-- a block: start, size, used -/
structure Bl where
  s : Int
  z : Int
  u : Bool
  deriving DecidableEq, Inhabited

namespace Bks
/-- the words of the first k blocks -/
def offs (xs : List Bl) (k : Nat) : Int := ((xs.take k).map (·.z)).sum

def stepOk (xs : List Bl) (k : Nat) : Bool :=
  match xs[k]? with
  | none => false
  | some x => decide (x.s = offs xs k) && decide (1 ≤ x.z) && decide (x.z ≤ 256) && (decide (k = 0) || x.u || match xs[k-1]? with | none => false | some y => y.u)

def validB (xs : List Bl) (t : Int) : Bool := (List.range xs.length).all (stepOk xs) && decide (1 ≤ t) && decide (t ≤ 256) && decide (offs xs xs.length = t)

theorem offs_zero (xs : List Bl) : offs xs 0 = 0 := by simp [offs]

theorem offs_succ (xs : List Bl) (k : Nat) (x : Bl) (h : xs[k]? = some x) : offs xs (k + 1) = offs xs k + x.z := by
  unfold offs
  rw [List.take_add_one, h]
  simp

theorem valid_iff (xs : List Bl) (t : Int) : validB xs t = true ↔ (∀ k, k < xs.length → stepOk xs k = true) ∧ 1 ≤ t ∧ t ≤ 256 ∧ offs xs xs.length = t := by
  unfold validB
  simp [and_assoc]

theorem stepOk_iff (xs : List Bl) (k : Nat) (x : Bl) (h : xs[k]? = some x) :
    stepOk xs k = true ↔ x.s = offs xs k ∧ 1 ≤ x.z ∧ x.z ≤ 256 ∧ (k = 0 ∨ x.u = true ∨ ∃ y, xs[k-1]? = some y ∧ y.u = true) := by
  unfold stepOk
  rw [h]
  cases hy : xs[k-1]? <;> simp [and_assoc, or_assoc]

/-- good up to k: the first k blocks are right -/
def okTo (xs : List Bl) (k : Nat) : Prop := ∀ j, j < k → stepOk xs j = true

theorem okTo_zero (xs : List Bl) : okTo xs 0 := fun j h => absurd h (by omega)
theorem okTo_succ {xs : List Bl} {k : Nat} (h : okTo xs k) (hk : stepOk xs k = true) : okTo xs (k + 1) := fun j hj => by
  rcases Nat.lt_or_ge j k with h1 | h1
  · exact h j h1
  · obtain rfl : j = k := by omega
    exact hk

/-- the words of the first blocks grow, by at least 1 and at most 256 a block -/
theorem offs_bounds {xs : List Bl} {k : Nat} (h : okTo xs k) (hk : k ≤ xs.length) : ∀ j, j ≤ k → offs xs j + ((k - j : Nat) : Int) ≤ offs xs k ∧ offs xs k ≤ offs xs j + 256 * ((k - j : Nat) : Int) := by
  induction k with
  | zero => intro j hj; obtain rfl : j = 0 := by omega
            simp
  | succ k ih =>
    intro j hj
    have hx : xs[k]? = some (xs[k]'(by omega)) := List.getElem?_eq_getElem (by omega)
    have hs := (stepOk_iff xs k _ hx).1 (h k (by omega))
    have ho := offs_succ xs k _ hx
    rcases Nat.lt_or_ge k j with h1 | h1
    · obtain rfl : j = k + 1 := by omega
      simp
    · have := ih (fun j hj => h j (by omega)) (by omega) j h1
      have e : k + 1 - j = (k - j) + 1 := by omega
      rw [e]
      omega

theorem offs_range {xs : List Bl} {k : Nat} (h : okTo xs k) (hk : k ≤ xs.length) : (k : Int) ≤ offs xs k ∧ offs xs k ≤ 256 * (k : Int) := by
  have := offs_bounds h hk 0 (by omega)
  rw [offs_zero] at this
  simp at this
  omega

theorem invalid_of_step {xs : List Bl} {k : Nat} {t : Int} (hk : k < xs.length) (h : stepOk xs k = false) : validB xs t = false := by
  cases hv : validB xs t
  · rfl
  · have := ((valid_iff xs t).1 hv).1 k hk
    rw [h] at this
    cases this

theorem invalid_of_total {xs : List Bl} {t : Int} (h : ¬ (1 ≤ t ∧ t ≤ 256)) : validB xs t = false := by
  cases hv : validB xs t
  · rfl
  · have := (valid_iff xs t).1 hv
    exact absurd ⟨this.2.1, this.2.2.1⟩ h

theorem invalid_of_over {xs : List Bl} {k : Nat} {t : Int} (hk : k < xs.length) (x : Bl) (hx : xs[k]? = some x) (h : t - offs xs k < x.z) : validB xs t = false := by
  cases hv : validB xs t
  · rfl
  · have hh := (valid_iff xs t).1 hv
    have hb := offs_bounds (k := xs.length) hh.1 (Nat.le_refl _) (k + 1) (by omega)
    have ho := offs_succ xs k x hx
    omega

theorem valid_of_all {xs : List Bl} {t : Int} (h : okTo xs xs.length) (h1 : 1 ≤ t) (h2 : t ≤ 256) : validB xs t = (offs xs xs.length == t) := by
  rw [Bool.eq_iff_iff, valid_iff]
  simp only [beq_iff_eq]
  exact ⟨fun hh => hh.2.2.2, fun hh => ⟨h, h1, h2, hh⟩⟩

/-- what one round of the program's loop decides -/
theorem round_true {xs : List Bl} {k : Nat} {t : Int} {x y : Bl} (hx : xs[k]? = some x) (hy : 0 < k → xs[k-1]? = some y) (h2 : t ≤ 256) (h0 : 0 ≤ offs xs k)
    (h : x.s = offs xs k ∧ 1 ≤ x.z ∧ x.z ≤ t - offs xs k ∧ (k = 0 ∨ x.u = true ∨ y.u = true)) : stepOk xs k = true := by
  rw [stepOk_iff xs k x hx]
  refine ⟨h.1, h.2.1, by omega, ?_⟩
  rcases h.2.2.2 with e | e | e
  · exact .inl e
  · exact .inr (.inl e)
  · rcases Nat.eq_zero_or_pos k with e0 | e0
    · exact .inl e0
    · exact .inr (.inr ⟨y, hy e0, e⟩)

theorem round_false {xs : List Bl} {k : Nat} {t : Int} {x y : Bl} (hk : k < xs.length) (hx : xs[k]? = some x) (hy : 0 < k → xs[k-1]? = some y)
    (h : ¬ (x.s = offs xs k ∧ 1 ≤ x.z ∧ x.z ≤ t - offs xs k ∧ (k = 0 ∨ x.u = true ∨ y.u = true))) : validB xs t = false := by
  cases hv : validB xs t
  · rfl
  · exfalso
    apply h
    have hh := (valid_iff xs t).1 hv
    have hs := (stepOk_iff xs k x hx).1 (hh.1 k hk)
    refine ⟨hs.1, hs.2.1, ?_, ?_⟩
    · rcases Int.lt_or_le (t - offs xs k) x.z with hlt | hle
      · have := invalid_of_over (t := t) hk x hx hlt
        rw [hv] at this
        cases this
      · exact hle
    · rcases hs.2.2.2 with e | e | ⟨y', e1, e2⟩
      · exact .inl e
      · exact .inr (.inl e)
      · rcases Nat.eq_zero_or_pos k with e0 | e0
        · exact .inl e0
        · have := hy e0
          rw [e1] at this
          injection this with this
          subst this
          exact .inr (.inr e2)

/-- what one round of the model's loop decides -/
theorem mround_true {xs : List Bl} {k : Nat} {x y : Bl} (hx : xs[k]? = some x) (hy : 0 < k → xs[k-1]? = some y)
    (h : x.s = offs xs k ∧ 1 ≤ x.z ∧ x.z ≤ 256 ∧ (k = 0 ∨ x.u = true ∨ y.u = true)) : stepOk xs k = true := by
  rw [stepOk_iff xs k x hx]
  refine ⟨h.1, h.2.1, h.2.2.1, ?_⟩
  rcases h.2.2.2 with e | e | e
  · exact .inl e
  · exact .inr (.inl e)
  · rcases Nat.eq_zero_or_pos k with e0 | e0
    · exact .inl e0
    · exact .inr (.inr ⟨y, hy e0, e⟩)

theorem mround_false {xs : List Bl} {k : Nat} {t : Int} {x y : Bl} (hk : k < xs.length) (hx : xs[k]? = some x) (hy : 0 < k → xs[k-1]? = some y)
    (h : ¬ (x.s = offs xs k ∧ 1 ≤ x.z ∧ x.z ≤ 256 ∧ (k = 0 ∨ x.u = true ∨ y.u = true))) : validB xs t = false := by
  cases hv : validB xs t
  · rfl
  · exfalso
    apply h
    have hh := (valid_iff xs t).1 hv
    have hs := (stepOk_iff xs k x hx).1 (hh.1 k hk)
    refine ⟨hs.1, hs.2.1, hs.2.2.1, ?_⟩
    rcases hs.2.2.2 with e | e | ⟨y', e1, e2⟩
    · exact .inl e
    · exact .inr (.inl e)
    · rcases Nat.eq_zero_or_pos k with e0 | e0
      · exact .inl e0
      · have := hy e0
        rw [e1] at this
        injection this with this
        subst this
        exact .inr (.inr e2)

theorem valid_all {xs : List Bl} (t : Int) (h : okTo xs xs.length) : validB xs t = (decide (1 ≤ t) && decide (t ≤ 256) && (offs xs xs.length == t)) := by
  rw [Bool.eq_iff_iff, valid_iff]
  simp only [Bool.and_eq_true, decide_eq_true_eq, beq_iff_eq, and_assoc]
  exact ⟨fun hh => hh.2, fun hh => ⟨h, hh⟩⟩

/-- the free words of the first k blocks -/
def freeTo (xs : List Bl) (k : Nat) : Int := ((xs.take k).map (fun x => if x.u then 0 else x.z)).sum
/-- the largest free one of the first k blocks -/
def maxTo (xs : List Bl) (k : Nat) : Int := (xs.take k).foldl (fun m x => if x.u then m else max m x.z) 0

theorem freeTo_zero (xs : List Bl) : freeTo xs 0 = 0 := by simp [freeTo]
theorem maxTo_zero (xs : List Bl) : maxTo xs 0 = 0 := by simp [maxTo]
theorem freeTo_succ (xs : List Bl) (k : Nat) (x : Bl) (h : xs[k]? = some x) : freeTo xs (k + 1) = freeTo xs k + if x.u = true then 0 else x.z := by
  unfold freeTo
  rw [List.take_add_one, h]
  simp
theorem maxTo_succ (xs : List Bl) (k : Nat) (x : Bl) (h : xs[k]? = some x) : maxTo xs (k + 1) = if x.u = true then maxTo xs k else max (maxTo xs k) x.z := by
  unfold maxTo
  rw [List.take_add_one, h]
  simp

/-- what is known of each block of valid blocks -/
theorem valid_at {xs : List Bl} {t : Int} (hv : validB xs t = true) {k : Nat} {x : Bl} (hx : xs[k]? = some x) :
    x.s = offs xs k ∧ 1 ≤ x.z ∧ x.z ≤ 256 ∧ (k : Int) ≤ offs xs k ∧ offs xs k + x.z ≤ t ∧ offs xs (k + 1) = offs xs k + x.z ∧ t ≤ 256 := by
  have hh := (valid_iff xs t).1 hv
  have hk : k < xs.length := (List.getElem?_eq_some_iff.1 hx).1
  have hs := (stepOk_iff xs k x hx).1 (hh.1 k hk)
  have ho := offs_succ xs k x hx
  have hb := offs_bounds (k := xs.length) hh.1 (Nat.le_refl _) (k + 1) (by omega)
  have hr := offs_range (k := k) (fun j hj => hh.1 j (by omega)) (by omega)
  exact ⟨hs.1, hs.2.1, hs.2.2.1, hr.1, by omega, ho, hh.2.2.1⟩

theorem valid_len {xs : List Bl} {t : Int} (hv : validB xs t = true) : 1 ≤ xs.length ∧ xs.length ≤ 256 ∧ 1 ≤ t ∧ t ≤ 256 ∧ offs xs xs.length = t := by
  have hh := (valid_iff xs t).1 hv
  have hr := offs_range (k := xs.length) hh.1 (Nat.le_refl _)
  refine ⟨?_, by omega, hh.2.1, hh.2.2.1, hh.2.2.2⟩
  rcases Nat.eq_zero_or_pos xs.length with h0 | h0
  · have := hh.2.2.2
    rw [h0, offs_zero] at this
    omega
  · exact h0

theorem free_range {xs : List Bl} {t : Int} (hv : validB xs t = true) : ∀ k, k ≤ xs.length → 0 ≤ freeTo xs k ∧ freeTo xs k ≤ offs xs k ∧ 0 ≤ maxTo xs k ∧ maxTo xs k ≤ freeTo xs k ∧ offs xs k ≤ 256 := by
  intro k
  induction k with
  | zero => intro _; rw [freeTo_zero, maxTo_zero, offs_zero]; omega
  | succ k ih =>
    intro hk
    have hx : xs[k]? = some (xs[k]'(by omega)) := List.getElem?_eq_getElem (by omega)
    have hi := ih (by omega)
    have ha := valid_at hv hx
    rw [freeTo_succ xs k _ hx, maxTo_succ xs k _ hx]
    generalize xs[k] = x at *
    by_cases hu : x.u = true
    · rw [if_pos hu, if_pos hu]
      omega
    · rw [if_neg hu, if_neg hu]
      omega

/-- FreeWords and LargestFree -/
def freeW (xs : List Bl) (t : Int) : Int := if validB xs t = true then freeTo xs xs.length else -1
def largeW (xs : List Bl) (t : Int) : Int := if validB xs t = true then maxTo xs xs.length else -1

/-- how many blocks begin at or before word q -/
def cnt (xs : List Bl) (q : Int) : Nat := (xs.takeWhile (fun x => decide (x.s ≤ q))).length
/-- BlockAt -/
def atW (xs : List Bl) (t q : Int) : Int := if validB xs t = true ∧ 0 ≤ q ∧ q < t then (cnt xs q : Int) - 1 else -1

theorem cnt_eq : ∀ (xs : List Bl) (q : Int) (i : Nat), i ≤ xs.length → (∀ (k : Nat) (x : Bl), k < i → xs[k]? = some x → x.s ≤ q) → (∀ x : Bl, xs[i]? = some x → q < x.s) → cnt xs q = i
  | [], q, i, hi, _, _ => by
    simp at hi
    subst hi
    rfl
  | y :: ys, q, 0, _, _, h2 => by
    have := h2 y rfl
    simp [cnt, List.takeWhile_cons]
    omega
  | y :: ys, q, i + 1, hi, h1, h2 => by
    have h0 := h1 0 y (by omega) rfl
    have := cnt_eq ys q i (by simpa using hi) (fun k x hk hx => h1 (k + 1) x (by omega) (by simpa using hx)) (fun x hx => h2 x (by simpa using hx))
    simp [cnt, h0] at this ⊢
    exact this

theorem offs_mono {xs : List Bl} {t : Int} (hv : validB xs t = true) {i j : Nat} (hij : i ≤ j) (hj : j ≤ xs.length) : offs xs i + ((j - i : Nat) : Int) ≤ offs xs j := by
  have hh := (valid_iff xs t).1 hv
  exact (offs_bounds (k := j) (fun m hm => hh.1 m (by omega)) hj i hij).1

/-- block k holds word q -/
theorem cnt_at {xs : List Bl} {t q : Int} (hv : validB xs t = true) {k : Nat} (hk : k < xs.length) (h1 : offs xs k ≤ q) (h2 : q < offs xs (k + 1)) : cnt xs q = k + 1 := by
  refine cnt_eq xs q (k + 1) (by omega) (fun m x hm hx => ?_) (fun x hx => ?_)
  · have ha := valid_at hv hx
    have := offs_mono hv (i := m) (j := k) (by omega) (by omega)
    omega
  · have ha := valid_at hv hx
    omega
end Bks
end Go.Proofs.Ytkdoolilggkjpaa
