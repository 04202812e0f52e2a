/- Bitmaps in plain mathematics: runs, taking, giving, finding, the longest run; what the laws of chapter 5 ask. No program, no conditions. -/
import Derived.Below
namespace Go.Proofs.Ytkdoolilggkjpaa
namespace Bm

/-- n words from word s on exist and are b -/
def runF (xs : List Bool) (s n : Nat) (b : Bool) : Bool := (List.range n).all fun i => decide (xs[s + i]? = some b)
theorem runF_iff {xs : List Bool} {s n : Nat} {b : Bool} : runF xs s n b = true ↔ ∀ i, i < n → xs[s + i]? = some b := by
  unfold runF
  simp
theorem runF_zero (xs : List Bool) (s : Nat) (b : Bool) : runF xs s 0 b = true := rfl
theorem runF_false {xs : List Bool} {s n : Nat} {b : Bool} (h : runF xs s n b = false) : ∃ i, i < n ∧ xs[s + i]? ≠ some b := by
  rcases Classical.em (∃ i, i < n ∧ xs[s + i]? ≠ some b) with h1 | h1
  · exact h1
  · have : runF xs s n b = true := runF_iff.2 fun i hi => Classical.byContradiction fun h2 => h1 ⟨i, hi, h2⟩
    rw [this] at h
    cases h
theorem runF_len {xs : List Bool} {s n : Nat} {b : Bool} (h : runF xs s n b = true) (hn : 0 < n) : s + n ≤ xs.length := by
  have := runF_iff.1 h (n - 1) (by omega)
  have := (List.getElem?_eq_some_iff.1 this).1
  omega
theorem runF_part {xs : List Bool} {s n t m : Nat} {b : Bool} (h : runF xs s n b = true) (h1 : s ≤ t) (h2 : t + m ≤ s + n) : runF xs t m b = true := by
  rw [runF_iff] at h ⊢
  intro i hi
  have := h (t - s + i) (by omega)
  rwa [show s + (t - s + i) = t + i by omega] at this

/-- n words from word s on become b -/
def setR (xs : List Bool) (s n : Nat) (b : Bool) : List Bool := xs.take s ++ List.replicate n b ++ xs.drop (s + n)
theorem setR_len {xs : List Bool} {s n : Nat} (b : Bool) (h : s + n ≤ xs.length) : (setR xs s n b).length = xs.length := by
  simp [setR]
  omega
theorem setR_at {xs : List Bool} {s n : Nat} (b : Bool) (h : s + n ≤ xs.length) (k : Nat) : (setR xs s n b)[k]? = if s ≤ k ∧ k < s + n then some b else xs[k]? := by
  unfold setR
  rw [List.append_assoc]
  rcases Nat.lt_or_ge k s with h1 | h1
  · rw [if_neg (by omega), List.getElem?_append_left (by rw [List.length_take]; omega), List.getElem?_take_of_lt h1]
  · rw [List.getElem?_append_right (by rw [List.length_take]; omega), List.length_take, Nat.min_eq_left (by omega)]
    rcases Nat.lt_or_ge k (s + n) with h2 | h2
    · rw [if_pos ⟨h1, h2⟩, List.getElem?_append_left (by rw [List.length_replicate]; omega), List.getElem?_replicate, if_pos (by omega)]
    · rw [if_neg (by omega), List.getElem?_append_right (by rw [List.length_replicate]; omega), List.length_replicate, List.getElem?_drop]
      congr 1
      omega
theorem setR_run {xs : List Bool} {s n : Nat} (b : Bool) (h : s + n ≤ xs.length) : runF (setR xs s n b) s n b = true := by
  rw [runF_iff]
  intro i hi
  rw [setR_at b h, if_pos (by omega)]
theorem setR_back {xs : List Bool} {s n : Nat} {b : Bool} (c : Bool) (h : s + n ≤ xs.length) (hr : runF xs s n b = true) : setR (setR xs s n c) s n b = xs := by
  apply List.ext_getElem?
  intro k
  rw [setR_at b (by rw [setR_len c h]; exact h), setR_at c h]
  by_cases hk : s ≤ k ∧ k < s + n
  · rw [if_pos hk]
    have := runF_iff.1 hr (k - s) (by omega)
    rw [show s + (k - s) = k by omega] at this
    exact this.symm
  · rw [if_neg hk, if_neg hk]
theorem setR_two {xs : List Bool} {s n m : Nat} (b : Bool) (h : s + (n + m) ≤ xs.length) : setR (setR xs s n b) (s + n) m b = setR xs s (n + m) b := by
  apply List.ext_getElem?
  intro k
  rw [setR_at b (by rw [setR_len b (by omega)]; omega), setR_at b (by omega), setR_at b h]
  by_cases h1 : s ≤ k ∧ k < s + n
  · rw [if_pos h1, if_pos (show s ≤ k ∧ k < s + (n + m) by omega)]
    simp
  · rw [if_neg h1]
    by_cases h2 : s + n ≤ k ∧ k < s + n + m
    · rw [if_pos h2, if_pos (by omega)]
    · rw [if_neg h2, if_neg (by omega)]
/-- one word more -/
theorem setR_succ {xs : List Bool} {s n : Nat} (b : Bool) (h : s + (n + 1) ≤ xs.length) : (setR xs s n b).set (s + n) b = setR xs s (n + 1) b := by
  apply List.ext_getElem?
  intro k
  rw [List.getElem?_set, setR_len b (by omega), setR_at b (by omega), setR_at b h]
  by_cases h1 : s + n = k
  · rw [if_pos h1, if_pos (by omega), if_pos (by omega)]
  · rw [if_neg h1]
    by_cases h2 : s ≤ k ∧ k < s + n
    · rw [if_pos h2, if_pos (by omega)]
    · rw [if_neg h2, if_neg (by omega)]
theorem setR_zero (xs : List Bool) (s : Nat) (b : Bool) : setR xs s 0 b = xs := by simp [setR]

/-- arguments that chapter 5 takes -/
def okM (xs : List Bool) (m : Int) : Bool := (decide (1 ≤ m) && decide (m ≤ 64)) && decide (xs.length ≤ 64)
theorem okM_iff {xs : List Bool} {m : Int} : okM xs m = true ↔ (1 ≤ m ∧ m ≤ 64) ∧ xs.length ≤ 64 := by simp [okM]

/-- the words from s on, m of them, are there and are b -/
def canW (xs : List Bool) (s m : Int) (b : Bool) : Bool := (decide (0 ≤ s) && decide (s ≤ xs.length - m)) && runF xs s.toNat m.toNat b
def chgW (xs : List Bool) (s m : Int) (b : Bool) : List Bool := if okM xs m = true then (if canW xs s m (!b) = true then setR xs s.toNat m.toNat b else xs) else []
def chgOk (xs : List Bool) (s m : Int) (b : Bool) : Bool := okM xs m && canW xs s m (!b)
theorem canW_iff {xs : List Bool} {s m : Int} {b : Bool} : canW xs s m b = true ↔ (0 ≤ s ∧ s ≤ xs.length - m) ∧ runF xs s.toNat m.toNat b = true := by simp [canW]

/-- what BitsTake (b true) and BitsGive (b false) do -/
theorem chg_cases (xs : List Bool) (s m : Int) (b : Bool) : (chgOk xs s m b = false ∧ (chgW xs s m b = [] ∨ chgW xs s m b = xs)) ∨
    (chgOk xs s m b = true ∧ okM xs m = true ∧ ∃ S M : Nat, s = S ∧ m = M ∧ 1 ≤ M ∧ M ≤ 64 ∧ S + M ≤ xs.length ∧ runF xs S M (!b) = true ∧ chgW xs s m b = setR xs S M b) := by
  cases ho : okM xs m
  · exact .inl ⟨by rw [chgOk, ho]; rfl, .inl (by rw [chgW, ho]; rfl)⟩
  · obtain ⟨⟨m1, m2⟩, hl⟩ := okM_iff.1 ho
    cases hc : canW xs s m (!b)
    · exact .inl ⟨by rw [chgOk, ho, hc]; rfl, .inr (by rw [chgW, ho, hc]; rfl)⟩
    · right
      obtain ⟨⟨s1, s2⟩, hr⟩ := canW_iff.1 hc
      obtain ⟨S, rfl⟩ := Int.eq_ofNat_of_zero_le s1
      obtain ⟨M, rfl⟩ := Int.eq_ofNat_of_zero_le (show 0 ≤ m by omega)
      exact ⟨by rw [chgOk, ho, hc]; rfl, rfl, S, M, rfl, rfl, by omega, by omega, by omega, hr, by rw [chgW, ho, hc]; rfl⟩
theorem chg_yes {xs : List Bool} {S M : Nat} {b : Bool} (hl : xs.length ≤ 64) (h1 : 1 ≤ M) (h2 : S + M ≤ xs.length) (hr : runF xs S M (!b) = true) : chgOk xs S M b = true ∧ chgW xs S M b = setR xs S M b := by
  have ho : okM xs M = true := okM_iff.2 ⟨⟨by omega, by omega⟩, hl⟩
  have hc : canW xs S M (!b) = true := canW_iff.2 ⟨⟨by omega, by omega⟩, hr⟩
  exact ⟨by rw [chgOk, ho, hc]; rfl, by rw [chgW, ho, hc]; rfl⟩
/-- back, and not again -/
theorem chg_law {xs : List Bool} {S M : Nat} {b : Bool} (hl : xs.length ≤ 64) (h1 : 1 ≤ M) (h2 : S + M ≤ xs.length) (hr : runF xs S M (!b) = true) :
    chgOk (setR xs S M b) S M (!b) = true ∧ chgW (setR xs S M b) S M (!b) = xs ∧ chgOk (setR xs S M b) S M b = false ∧ (setR xs S M b).length = xs.length := by
  have hlen := setR_len b h2
  have hy := chg_yes (xs := setR xs S M b) (S := S) (M := M) (b := !b) (by rw [hlen]; exact hl) h1 (by rw [hlen]; exact h2) (by rw [Bool.not_not]; exact setR_run b h2)
  refine ⟨hy.1, by rw [hy.2]; exact setR_back b h2 hr, ?_, hlen⟩
  cases hc : chgOk (setR xs S M b) S M b
  · rfl
  · unfold chgOk at hc
    rw [Bool.and_eq_true] at hc
    have h3 := runF_iff.1 (canW_iff.1 hc.2).2 0 (by simp; omega)
    have h4 := runF_iff.1 (setR_run b h2) 0 (by omega)
    simp only [Int.toNat_natCast] at h3
    rw [h4] at h3
    cases b <;> cases h3
/-- in parts -/
theorem half_law {xs : List Bool} {S N M : Nat} (hl : xs.length ≤ 64) (h1 : 1 ≤ N) (hm : 1 ≤ M) (h2 : S + (N + M) ≤ xs.length) (hr : runF xs S (N + M) false = true) :
    chgOk xs S N true = true ∧ chgW xs S N true = setR xs S N true ∧ chgOk (setR xs S N true) (S + N : Nat) M true = true ∧ chgW (setR xs S N true) (S + N : Nat) M true = setR xs S (N + M) true := by
  have a := chg_yes (b := true) hl h1 (show S + N ≤ xs.length by omega) (runF_part hr (Nat.le_refl _) (by omega))
  have hlen := setR_len true (show S + N ≤ xs.length by omega)
  have hr2 : runF (setR xs S N true) (S + N) M false = true := by
    rw [runF_iff]
    intro i hi
    rw [setR_at true (by omega), if_neg (by omega)]
    have := runF_iff.1 hr (N + i) (by omega)
    rwa [show S + (N + i) = S + N + i by omega] at this
  have c := chg_yes (xs := setR xs S N true) (S := S + N) (M := M) (b := true) (by rw [hlen]; exact hl) hm (by rw [hlen]; omega) hr2
  exact ⟨a.1, a.2, c.1, by rw [c.2]; exact setR_two true h2⟩

/-- the first word from k on (n words are tried) at which m free words follow each other -/
def findF (xs : List Bool) (m : Nat) : Nat → Nat → Option Nat
  | _, 0 => none
  | k, n + 1 => if k + m ≤ xs.length ∧ runF xs k m false = true then some k else findF xs m (k + 1) n
def findN (xs : List Bool) (m : Nat) : Option Nat := findF xs m 0 (xs.length + 1)
def findW (xs : List Bool) (m : Int) : Int := if okM xs m = true then (match findN xs m.toNat with | some k => (k : Int) | none => -1) else -1
theorem findF_spec (xs : List Bool) (m : Nat) : ∀ n k, (findF xs m k n = none → ∀ j, k ≤ j → j < k + n → ¬ (j + m ≤ xs.length ∧ runF xs j m false = true)) ∧ (∀ j, findF xs m k n = some j → k ≤ j ∧ j < k + n ∧ j + m ≤ xs.length ∧ runF xs j m false = true ∧ ∀ i, k ≤ i → i < j → ¬ (i + m ≤ xs.length ∧ runF xs i m false = true))
  | 0, k => ⟨fun _ j h1 h2 => by omega, fun j h => by cases h⟩
  | n + 1, k => by
    unfold findF
    by_cases hc : k + m ≤ xs.length ∧ runF xs k m false = true
    · rw [if_pos hc]
      refine ⟨(fun h => by cases h), fun j h => ?_⟩
      injection h with h
      subst h
      exact ⟨Nat.le_refl _, by omega, hc.1, hc.2, fun i h1 h2 => by omega⟩
    · rw [if_neg hc]
      obtain ⟨a, b⟩ := findF_spec xs m n (k + 1)
      refine ⟨fun h j h1 h2 => ?_, fun j h => ?_⟩
      · rcases Nat.eq_or_lt_of_le h1 with e | e
        · subst e
          exact hc
        · exact a h j e (by omega)
      · obtain ⟨b1, b2, b3, b4, b5⟩ := b j h
        refine ⟨by omega, by omega, b3, b4, fun i h1 h2 => ?_⟩
        rcases Nat.eq_or_lt_of_le h1 with e | e
        · subst e
          exact hc
        · exact b5 i e h2
theorem find_none {xs : List Bool} {m : Nat} (h : findN xs m = none) (j : Nat) : ¬ (j + m ≤ xs.length ∧ runF xs j m false = true) := by
  rintro ⟨h1, h2⟩
  exact (findF_spec xs m (xs.length + 1) 0).1 h j (Nat.zero_le _) (by omega) ⟨h1, h2⟩
theorem find_some {xs : List Bool} {m k : Nat} (h : findN xs m = some k) : k + m ≤ xs.length ∧ runF xs k m false = true ∧ ∀ i, i < k → ¬ (i + m ≤ xs.length ∧ runF xs i m false = true) := by
  obtain ⟨_, _, h3, h4, h5⟩ := (findF_spec xs m (xs.length + 1) 0).2 k h
  exact ⟨h3, h4, fun i hi => h5 i (Nat.zero_le _) hi⟩

/-- the free words directly before word k -/
def runT (xs : List Bool) : Nat → Nat
  | 0 => 0
  | k + 1 => if xs[k]? = some false then runT xs k + 1 else 0
def bestT (xs : List Bool) : Nat → Nat
  | 0 => 0
  | k + 1 => max (bestT xs k) (runT xs (k + 1))
def longN (xs : List Bool) : Nat := bestT xs xs.length
def longW (xs : List Bool) : Int := if xs.length ≤ 64 then (longN xs : Int) else -1
theorem runT_le (xs : List Bool) : ∀ k, runT xs k ≤ k
  | 0 => Nat.le_refl _
  | k + 1 => by
    have := runT_le xs k
    unfold runT
    split <;> omega
theorem bestT_le (xs : List Bool) : ∀ k, bestT xs k ≤ k
  | 0 => Nat.le_refl _
  | k + 1 => by
    have := bestT_le xs k
    have := runT_le xs (k + 1)
    unfold bestT
    omega
theorem runT_iff (xs : List Bool) : ∀ (k n : Nat), n ≤ k → (n ≤ runT xs k ↔ runF xs (k - n) n false = true)
  | 0, n, h => by
    obtain rfl : n = 0 := by omega
    simp [runF_zero]
  | k + 1, 0, _ => by simp [runF_zero]
  | k + 1, n + 1, h => by
    have ih := runT_iff xs k n (by omega)
    unfold runT
    rw [show k + 1 - (n + 1) = k - n by omega]
    by_cases hx : xs[k]? = some false
    · rw [if_pos hx]
      constructor
      · intro h1
        have h2 := ih.1 (by omega)
        rw [runF_iff] at h2 ⊢
        intro i hi
        rcases Nat.lt_or_ge i n with h3 | h3
        · exact h2 i h3
        · rw [show k - n + i = k by omega]
          exact hx
      · intro h1
        have := ih.2 (runF_part h1 (Nat.le_refl _) (by omega))
        omega
    · rw [if_neg hx]
      constructor
      · intro h1; omega
      · intro h1
        have := runF_iff.1 h1 n (by omega)
        rw [show k - n + n = k by omega] at this
        exact absurd this hx
theorem bestT_iff (xs : List Bool) (n : Nat) (hn : 1 ≤ n) : ∀ k, n ≤ bestT xs k ↔ ∃ e, n ≤ e ∧ e ≤ k ∧ runF xs (e - n) n false = true
  | 0 => by
    unfold bestT
    constructor
    · intro h; omega
    · rintro ⟨e, h1, h2, _⟩; omega
  | k + 1 => by
    have ih := bestT_iff xs n hn k
    unfold bestT
    constructor
    · intro h
      rcases Nat.lt_or_ge (bestT xs k) n with h1 | h1
      · have h2 : n ≤ runT xs (k + 1) := by omega
        have := runT_le xs (k + 1)
        exact ⟨k + 1, by omega, Nat.le_refl _, (runT_iff xs (k + 1) n (by omega)).1 h2⟩
      · obtain ⟨e, e1, e2, e3⟩ := ih.1 h1
        exact ⟨e, e1, by omega, e3⟩
    · rintro ⟨e, e1, e2, e3⟩
      rcases Nat.eq_or_lt_of_le e2 with h1 | h1
      · subst h1
        have := (runT_iff xs (k + 1) n e1).2 e3
        omega
      · have := ih.2 ⟨e, e1, by omega, e3⟩
        omega
/-- so many words follow each other exactly if the longest run is at least as long -/
theorem long_iff (xs : List Bool) {n : Nat} (hn : 1 ≤ n) : n ≤ longN xs ↔ ∃ s, s + n ≤ xs.length ∧ runF xs s n false = true := by
  unfold longN
  rw [bestT_iff xs n hn]
  constructor
  · rintro ⟨e, e1, e2, e3⟩
    exact ⟨e - n, by omega, e3⟩
  · rintro ⟨s, h1, h2⟩
    exact ⟨s + n, by omega, h1, by rw [show s + n - n = s by omega]; exact h2⟩
theorem long_le (xs : List Bool) : longN xs ≤ xs.length := bestT_le xs _
theorem long_find (xs : List Bool) {n : Nat} (hn : 1 ≤ n) : n ≤ longN xs ↔ (findN xs n).isSome = true := by
  rw [long_iff xs hn]
  cases h : findN xs n with
  | none =>
    constructor
    · rintro ⟨s, h1⟩
      exact absurd h1 (find_none h s)
    · intro h1; cases h1
  | some k =>
    obtain ⟨h1, h2, _⟩ := find_some h
    exact ⟨fun _ => rfl, fun _ => ⟨k, h1, h2⟩⟩
theorem run_rev {xs : List Bool} {s n : Nat} (h1 : s + n ≤ xs.length) (h2 : runF xs s n false = true) : runF xs.reverse (xs.length - (s + n)) n false = true := by
  rw [runF_iff] at h2 ⊢
  intro i hi
  rw [List.getElem?_reverse (by omega)]
  have := h2 (n - 1 - i) (by omega)
  rw [← this]
  congr 1
  omega
theorem long_rev_le (xs : List Bool) : longN xs ≤ longN xs.reverse := by
  rcases Nat.eq_zero_or_pos (longN xs) with h | h
  · omega
  · obtain ⟨s, h1, h2⟩ := (long_iff xs h).1 (Nat.le_refl _)
    exact (long_iff xs.reverse h).2 ⟨xs.length - (s + longN xs), by rw [List.length_reverse]; omega, run_rev h1 h2⟩
theorem long_rev (xs : List Bool) : longN xs.reverse = longN xs := by
  have h1 := long_rev_le xs
  have h2 := long_rev_le xs.reverse
  rw [List.reverse_reverse] at h2
  omega
end Bm
end Go.Proofs.Ytkdoolilggkjpaa
