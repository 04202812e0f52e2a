/- Fragments in plain mathematics: sliding blocks, shares in percent, taking with sliding. No program, no conditions. -/
import Derived.Test.YtkejbggffbkdaaaFits4
import Derived.Test.YtkejbggffbkdaaaIdx
namespace Go.Proofs.Ytkejbggffbkdaaa
namespace Bks

/-- the words of used blocks among the first k -/
def atS (xs : List Bl) : Nat → Int
  | 0 => 0
  | k + 1 => match xs[k]? with
    | some x => if x.u = true then atS xs k + x.z else atS xs k
    | none => atS xs k
/-- the used blocks among the first k, moved to the beginning -/
def slL (xs : List Bl) : Nat → List Bl
  | 0 => []
  | k + 1 => match xs[k]? with
    | some x => if x.u = true then slL xs k ++ [⟨atS xs k, x.z, true⟩] else slL xs k
    | none => slL xs k
/-- the words that were moved -/
def movS (xs : List Bl) : Nat → Int
  | 0 => 0
  | k + 1 => match xs[k]? with
    | some x => if x.u = true ∧ x.s ≠ atS xs k then movS xs k + x.z else movS xs k
    | none => movS xs k
theorem atS_used {xs : List Bl} {k : Nat} {x : Bl} (h : xs[k]? = some x) (hu : x.u = true) : atS xs (k + 1) = atS xs k + x.z := by simp [atS, h, hu]
theorem atS_free {xs : List Bl} {k : Nat} {x : Bl} (h : xs[k]? = some x) (hu : x.u = false) : atS xs (k + 1) = atS xs k := by simp [atS, h, hu]
theorem slL_used {xs : List Bl} {k : Nat} {x : Bl} (h : xs[k]? = some x) (hu : x.u = true) : slL xs (k + 1) = slL xs k ++ [⟨atS xs k, x.z, true⟩] := by simp [slL, h, hu]
theorem slL_free {xs : List Bl} {k : Nat} {x : Bl} (h : xs[k]? = some x) (hu : x.u = false) : slL xs (k + 1) = slL xs k := by simp [slL, h, hu]
theorem movS_move {xs : List Bl} {k : Nat} {x : Bl} (h : xs[k]? = some x) (hu : x.u = true) (hs : x.s ≠ atS xs k) : movS xs (k + 1) = movS xs k + x.z := by simp [movS, h, hu, hs]
theorem movS_stay {xs : List Bl} {k : Nat} {x : Bl} (h : xs[k]? = some x) (hs : x.s = atS xs k) : movS xs (k + 1) = movS xs k := by simp [movS, h, hs]
theorem movS_free {xs : List Bl} {k : Nat} {x : Bl} (h : xs[k]? = some x) (hu : x.u = false) : movS xs (k + 1) = movS xs k := by simp [movS, h, hu]

/-- all used ones at the beginning, all free words behind them -/
def slideB (xs : List Bl) (t : Int) : List Bl := if atS xs xs.length < t then slL xs xs.length ++ [⟨atS xs xs.length, t - atS xs xs.length, false⟩] else slL xs xs.length
def slideW (xs : List Bl) (t : Int) : List Bl := if validB xs t = true then slideB xs t else []
def movW (xs : List Bl) (t : Int) : Int := if validB xs t = true then movS xs xs.length else -1

theorem free_used {xs : List Bl} (h : ∀ x ∈ xs, x.u = true) : free xs = 0 := by
  induction xs with
  | nil => rfl
  | cons x xs ih =>
    simp only [free]
    rw [h x (by simp), ih fun y hy => h y (by simp [hy])]
    simp
theorem slL_spec {xs : List Bl} {t : Int} (hv : validB xs t = true) : ∀ k, k ≤ xs.length → chain 0 false (slL xs k) ∧ lastFree false (slL xs k) = false ∧ total (slL xs k) = atS xs k ∧ (∀ x ∈ slL xs k, x.u = true) ∧ (slL xs k).length ≤ k
  | 0, _ => ⟨trivial, rfl, rfl, fun x hx => by simp [slL] at hx, by simp [slL]⟩
  | k + 1, hk => by
    obtain ⟨h1, h2, h3, h4, h5⟩ := slL_spec hv k (by omega)
    have hx := List.getElem?_eq_getElem (show k < xs.length by omega)
    obtain ⟨x, hxx⟩ : ∃ x, xs[k] = x := ⟨_, rfl⟩
    rw [hxx] at hx
    have hva := valid_at hv hx
    cases hu : x.u
    · rw [slL_free hx hu, atS_free hx hu]
      exact ⟨h1, h2, h3, h4, by omega⟩
    · rw [slL_used hx hu, atS_used hx hu]
      refine ⟨?_, ?_, ?_, ?_, by simp; omega⟩
      · rw [chain_append]
        refine ⟨h1, ?_⟩
        rw [h3, h2]
        simp [chain]
        omega
      · rw [lastFree_append]
        rfl
      · rw [total_append, h3]
        simp [total]
      · intro y hy
        rw [List.mem_append] at hy
        rcases hy with hy | hy
        · exact h4 y hy
        · simp at hy
          rw [hy]
theorem atS_free_eq {xs : List Bl} {t : Int} (hv : validB xs t = true) : ∀ k, k ≤ xs.length → atS xs k + freeTo xs k = offs xs k ∧ 0 ≤ atS xs k
  | 0, _ => ⟨by simp [atS, freeTo_zero, offs_zero], by simp [atS]⟩
  | k + 1, hk => by
    obtain ⟨ih, ih0⟩ := atS_free_eq hv k (by omega)
    have hx := List.getElem?_eq_getElem (show k < xs.length by omega)
    obtain ⟨x, hxx⟩ : ∃ x, xs[k] = x := ⟨_, rfl⟩
    rw [hxx] at hx
    have hva := valid_at hv hx
    rw [freeTo_succ xs k x hx, offs_succ xs k x hx]
    cases hu : x.u
    · rw [atS_free hx hu]
      simp
      omega
    · rw [atS_used hx hu]
      simp
      omega
theorem atS_all {xs : List Bl} {t : Int} (hv : validB xs t = true) : atS xs xs.length + free xs = t ∧ 0 ≤ atS xs xs.length ∧ 0 ≤ free xs ∧ t ≤ 256 ∧ 1 ≤ t := by
  obtain ⟨h1, h2⟩ := atS_free_eq hv xs.length (Nat.le_refl _)
  obtain ⟨_, _, h3, h4, h5⟩ := valid_len hv
  have := free_range hv xs.length (Nat.le_refl _)
  rw [free_eq] at h1 this
  exact ⟨by omega, h2, this.1, h4, h3⟩
theorem slide_valid {xs : List Bl} {t : Int} (hv : validB xs t = true) : validB (slideB xs t) t = true := by
  obtain ⟨h1, h2, h3, _, _⟩ := slL_spec hv xs.length (Nat.le_refl _)
  obtain ⟨a1, a2, a3, a4, a5⟩ := atS_all hv
  rw [valid_chain]
  unfold slideB
  by_cases hlt : atS xs xs.length < t
  · rw [if_pos hlt, chain_append, total_append, h3, h2]
    refine ⟨⟨h1, ?_⟩, ?_, a5, a4⟩
    · simp [chain]
      omega
    · simp [total]
      omega
  · rw [if_neg hlt, h3]
    exact ⟨h1, by omega, a5, a4⟩
theorem slide_free {xs : List Bl} {t : Int} (hv : validB xs t = true) : free (slideB xs t) = free xs := by
  obtain ⟨_, _, _, h4, _⟩ := slL_spec hv xs.length (Nat.le_refl _)
  obtain ⟨a1, a2, a3, a4, a5⟩ := atS_all hv
  unfold slideB
  by_cases hlt : atS xs xs.length < t
  · rw [if_pos hlt, free_append, free_used h4]
    simp [free]
    omega
  · rw [if_neg hlt, free_used h4]
    omega
/-- all free words are in one block -/
theorem slide_max {xs : List Bl} {t : Int} (hv : validB xs t = true) : maxTo (slideB xs t) (slideB xs t).length = free xs := by
  obtain ⟨_, _, _, h4, _⟩ := slL_spec hv xs.length (Nat.le_refl _)
  obtain ⟨a1, a2, a3, a4, a5⟩ := atS_all hv
  have hb := max_bound (xs := slideB xs t) (M := free xs) a3 (fun x hx hu => by
    unfold slideB at hx
    split at hx
    · rw [List.mem_append] at hx
      rcases hx with hx | hx
      · rw [h4 x hx] at hu
        cases hu
      · simp at hx
        rw [hx]
        simp only
        omega
    · rw [h4 x hx] at hu
      cases hu)
  have hr := (free_range (slide_valid hv) (slideB xs t).length (Nat.le_refl _)).2.2.1
  by_cases hlt : atS xs xs.length < t
  · have := max_mem (xs := slideB xs t) (x := ⟨atS xs xs.length, t - atS xs xs.length, false⟩) (by rw [slideB, if_pos hlt]; simp) rfl
    simp only at this
    omega
  · omega

/-- a list of used blocks, and what follows, slides to itself -/
theorem slide_used {ys zs : List Bl} : ∀ (k : Nat), chain 0 false (ys ++ zs) → (∀ y ∈ ys, y.u = true) → k ≤ ys.length → slL (ys ++ zs) k = (ys ++ zs).take k ∧ atS (ys ++ zs) k = offs (ys ++ zs) k ∧ movS (ys ++ zs) k = 0
  | 0, _, _, _ => ⟨by simp [slL], by simp [atS, offs_zero], rfl⟩
  | k + 1, hc, hu, hk => by
    obtain ⟨h1, h2, h3⟩ := slide_used (zs := zs) k hc hu (by omega)
    have hx : (ys ++ zs)[k]? = some ys[k] := by rw [List.getElem?_append_left (by omega), List.getElem?_eq_getElem (by omega)]
    obtain ⟨x, hxx⟩ : ∃ x, ys[k] = x := ⟨_, rfl⟩
    have hux : x.u = true := by rw [← hxx]; exact hu _ (List.getElem_mem _)
    rw [hxx] at hx
    have hs := ((steps_chain _ 0 false).1 hc k x hx).1
    have hsx : x.s = atS (ys ++ zs) k := by rw [h2]; omega
    refine ⟨?_, ?_, ?_⟩
    · rw [slL_used hx hux, h1, List.take_add_one, hx, ← hsx]
      have : (⟨x.s, x.z, true⟩ : Bl) = x := bl_ext rfl rfl hux.symm
      rw [this]
      rfl
    · rw [atS_used hx hux, offs_succ _ k x hx, h2]
    · rw [movS_stay hx hsx, h3]
/-- sliding again -/
theorem slide_again {xs : List Bl} {t : Int} (hv : validB xs t = true) : slideB (slideB xs t) t = slideB xs t ∧ movS (slideB xs t) (slideB xs t).length = 0 := by
  obtain ⟨h1, h2, h3, h4, h5⟩ := slL_spec hv xs.length (Nat.le_refl _)
  obtain ⟨a1, a2, a3, a4, a5⟩ := atS_all hv
  have hvs := slide_valid hv
  obtain ⟨ys, hys⟩ : ∃ ys, slL xs xs.length = ys := ⟨_, rfl⟩
  obtain ⟨a, ha⟩ : ∃ a, atS xs xs.length = a := ⟨_, rfl⟩
  unfold slideB at hvs ⊢
  rw [hys, ha] at hvs ⊢
  rw [hys] at h1 h2 h3 h4
  rw [ha] at h3
  by_cases hlt : a < t
  · rw [if_pos hlt] at hvs ⊢
    have hc := ((valid_chain _ _).1 hvs).1
    obtain ⟨q1, q2, q3⟩ := slide_used (ys := ys) (zs := [⟨a, t - a, false⟩]) ys.length hc h4 (Nat.le_refl _)
    have hl : (ys ++ [(⟨a, t - a, false⟩ : Bl)]).length = ys.length + 1 := by simp
    have hx : (ys ++ [(⟨a, t - a, false⟩ : Bl)])[ys.length]? = some ⟨a, t - a, false⟩ := by simp
    have ho : offs (ys ++ [(⟨a, t - a, false⟩ : Bl)]) ys.length = a := by
      rw [← h3, total_eq]
      simp [offs]
    rw [hl, slL_free hx rfl, atS_free hx rfl, movS_free hx rfl, q1, q2, q3, ho, if_pos hlt]
    simp
  · rw [if_neg hlt] at hvs ⊢
    have hc := ((valid_chain _ _).1 hvs).1
    obtain ⟨q1, q2, q3⟩ := slide_used (ys := ys) (zs := []) ys.length (by simpa using hc) h4 (Nat.le_refl _)
    rw [List.append_nil] at q1 q2 q3
    have ho : offs ys ys.length = a := by rw [← h3, total_eq]
    rw [q1, q2, q3, ho, if_neg hlt]
    simp
/-- what is moved is used -/
theorem mov_le {xs : List Bl} {t : Int} (hv : validB xs t = true) : ∀ k, k ≤ xs.length → 0 ≤ movS xs k ∧ movS xs k ≤ atS xs k
  | 0, _ => ⟨by simp [movS], by simp [movS, atS]⟩
  | k + 1, hk => by
    obtain ⟨ih0, ih⟩ := mov_le hv k (by omega)
    have hx := List.getElem?_eq_getElem (show k < xs.length by omega)
    obtain ⟨x, hxx⟩ : ∃ x, xs[k] = x := ⟨_, rfl⟩
    rw [hxx] at hx
    have hva := valid_at hv hx
    cases hu : x.u
    · rw [atS_free hx hu, movS_free hx hu]
      exact ⟨ih0, ih⟩
    · rw [atS_used hx hu]
      by_cases hs : x.s = atS xs k
      · rw [movS_stay hx hs]
        omega
      · rw [movS_move hx hu hs]
        omega
/-- the used blocks come in their order -/
theorem slL_at {xs : List Bl} {k : Nat} {x : Bl} (hx : xs[k]? = some x) (hu : x.u = true) : ∀ m, k < m → (slL xs m)[(slL xs k).length]? = some ⟨atS xs k, x.z, true⟩
  | 0, h => by omega
  | m + 1, h => by
    rcases Nat.eq_or_lt_of_le (show k ≤ m by omega) with e | e
    · subst e
      rw [slL_used hx hu]
      simp
    · have ih := slL_at hx hu m e
      have hl := (List.getElem?_eq_some_iff.1 ih).1
      simp only [slL]
      split
      · split
        · rw [List.getElem?_append_left hl]
          exact ih
        · exact ih
      · exact ih
theorem slide_at {xs : List Bl} {t : Int} {k : Nat} {x : Bl} (hx : xs[k]? = some x) (hu : x.u = true) : (slideB xs t)[(slL xs k).length]? = some ⟨atS xs k, x.z, true⟩ := by
  have hk := (List.getElem?_eq_some_iff.1 hx).1
  have h := slL_at hx hu xs.length hk
  have hl := (List.getElem?_eq_some_iff.1 h).1
  unfold slideB
  split
  · rw [List.getElem?_append_left hl]
    exact h
  · exact h
theorem slL_len_le (xs : List Bl) (k : Nat) : (slL xs k).length ≤ k := by
  induction k with
  | zero => simp [slL]
  | succ k ih =>
    simp only [slL]
    split
    · split
      · simp
        omega
      · omega
    · omega

/-- shares in percent -/
def fragW (xs : List Bl) (t : Int) : Int := if validB xs t = true then (if free xs = 0 then 0 else 100 * (free xs - maxTo xs xs.length) / free xs) else -1
theorem max_pos {xs : List Bl} {t : Int} (hv : validB xs t = true) (h : free xs ≠ 0) : 1 ≤ maxTo xs xs.length := by
  rcases Int.lt_or_le (maxTo xs xs.length) 1 with h1 | h1
  · exfalso
    apply h
    apply free_used
    intro x hx
    cases hu : x.u
    · have := max_mem hx hu
      obtain ⟨k, hk⟩ := List.mem_iff_getElem?.1 hx
      have := valid_at hv hk
      omega
    · rfl
  · exact h1
theorem frag_law {xs : List Bl} {t : Int} (hv : validB xs t = true) : 0 ≤ fragW xs t ∧ fragW xs t ≤ 99 ∧ fragW (slideB xs t) t = 0 ∧ (fragW xs t = 0 ↔ 100 * (free xs - maxTo xs xs.length) < max 1 (free xs)) := by
  have hvs := slide_valid hv
  have hr := free_range hv xs.length (Nat.le_refl _)
  rw [free_eq] at hr
  obtain ⟨r1, _, r3, r4, _⟩ := hr
  have h2 : fragW (slideB xs t) t = 0 := by
    rw [fragW, if_pos hvs, slide_free hv, slide_max hv]
    split <;> simp
  rw [fragW, if_pos hv]
  by_cases h0 : free xs = 0
  · rw [if_pos h0]
    exact ⟨by omega, by omega, h2, by omega⟩
  · have hm := max_pos hv h0
    rw [if_neg h0]
    obtain ⟨f, hf⟩ : ∃ f, free xs = f := ⟨_, rfl⟩
    obtain ⟨m, hmm⟩ : ∃ m, maxTo xs xs.length = m := ⟨_, rfl⟩
    rw [hf] at r1 r4 h0 ⊢
    rw [hmm] at r3 r4 hm ⊢
    refine ⟨Int.ediv_nonneg (by omega) (by omega), ?_, h2, ?_⟩
    · have : 100 * (f - m) / f < 100 := Int.ediv_lt_of_lt_mul (by omega) (by omega)
      omega
    · constructor
      · intro h
        have := Int.lt_mul_ediv_self_add (x := 100 * (f - m)) (k := f) (by omega)
        rw [h] at this
        omega
      · intro h
        exact Int.ediv_eq_zero_of_lt (by omega) (by omega)

/-- there is a block for so many words: the largest is as large -/
theorem first_iff {xs : List Bl} {t size : Int} (hv : validB xs t = true) (h1 : 1 ≤ size) (h2 : size ≤ 256) : 0 ≤ firstW xs t size ↔ size ≤ maxTo xs xs.length := by
  rw [firstW, if_pos ⟨hv, h1, h2⟩]
  rcases first_or xs size with hn | ⟨k, x, hx, hf, hj⟩
  · rw [firstIdx_none xs size 0 hn]
    constructor
    · intro h; omega
    · intro h
      obtain ⟨j, y, _, hy, hu, hz⟩ := max_there xs xs.length (Nat.le_refl _) (by omega)
      have := hn j y hy
      rw [(fits_iff size y).2 ⟨hu, by omega⟩] at this
      cases this
  · rw [firstIdx_some xs size 0 k x hx hf hj]
    constructor
    · intro _
      obtain ⟨hu, hz⟩ := (fits_iff size x).1 hf
      have := max_mem (List.mem_of_getElem? hx) hu
      omega
    · intro _; omega
theorem first_slide {xs : List Bl} {t size : Int} (hv : validB xs t = true) (h1 : 1 ≤ size) (h2 : size ≤ 256) : 0 ≤ firstW (slideB xs t) t size ↔ size ≤ free xs := by
  rw [first_iff (slide_valid hv) h1 h2, slide_max hv]
/-- taking in the block of FirstFit -/
theorem first_take {xs : List Bl} {t size : Int} (hv : validB xs t = true) (h : 0 ≤ firstW xs t size) : canTake xs (firstW xs t size) size = true ∧ validB (takeB xs (firstW xs t size) size) t = true ∧ free (takeB xs (firstW xs t size) size) = free xs - size ∧ 1 ≤ size ∧ size ≤ 256 := by
  by_cases hs : 1 ≤ size ∧ size ≤ 256
  · have hw : firstW xs t size = firstIdx xs size 0 := by rw [firstW, if_pos ⟨hv, hs.1, hs.2⟩]
    rcases first_or xs size with hn | ⟨k, x, hx, hf, hj⟩
    · rw [hw, firstIdx_none xs size 0 hn] at h
      omega
    · have e : firstW xs t size = (k : Int) := by rw [hw, firstIdx_some xs size 0 k x hx hf hj, Nat.zero_add]
      obtain ⟨hu, hz⟩ := (fits_iff size x).1 hf
      have hc := (canTake_iff hx).2 ⟨hu, hs.1, hz⟩
      rw [e]
      exact ⟨hc, takeB_valid hv, by rw [takeB_taken hx hc]; exact taken_free hx hu hz, hs.1, hs.2⟩
  · rw [firstW_not (fun hh => hs hh.2)] at h
    omega

/-- taking with sliding -/
def tsB (xs : List Bl) (t size : Int) : List Bl := if 0 ≤ firstW xs t size then takeB xs (firstW xs t size) size else if 0 ≤ firstW (slideB xs t) t size then takeB (slideB xs t) (firstW (slideB xs t) t size) size else xs
def tsW (xs : List Bl) (t size : Int) : List Bl := if validB xs t = true then tsB xs t size else []
def tsOk (xs : List Bl) (t size : Int) : Bool := validB xs t && (decide (0 ≤ firstW xs t size) || decide (0 ≤ firstW (slideB xs t) t size))
theorem ts_law {xs : List Bl} {t size : Int} (hv : validB xs t = true) (h1 : 1 ≤ size) (h2 : size ≤ 256) :
    (size ≤ free xs ∧ tsOk xs t size = true ∧ validB (tsW xs t size) t = true ∧ free (tsW xs t size) = free xs - size) ∨ (free xs < size ∧ tsOk xs t size = false ∧ tsW xs t size = xs) := by
  have hsl := first_slide hv h1 h2
  have hr := free_range hv xs.length (Nat.le_refl _)
  rw [free_eq] at hr
  rw [tsW, if_pos hv, tsOk, hv, Bool.true_and, tsB]
  by_cases hf : 0 ≤ firstW xs t size
  · left
    obtain ⟨_, q2, q3, _, _⟩ := first_take hv hf
    have := (first_iff hv h1 h2).1 hf
    rw [if_pos hf, decide_eq_true hf]
    exact ⟨by omega, rfl, q2, q3⟩
  · rw [if_neg hf, decide_eq_false hf]
    by_cases hg : 0 ≤ firstW (slideB xs t) t size
    · left
      obtain ⟨_, q2, q3, _, _⟩ := first_take (slide_valid hv) hg
      rw [if_pos hg, decide_eq_true hg]
      exact ⟨hsl.1 hg, rfl, q2, by rw [q3, slide_free hv]⟩
    · right
      rw [if_neg hg, decide_eq_false hg]
      have : ¬ size ≤ free xs := fun h => hg (hsl.2 h)
      exact ⟨by omega, rfl, rfl⟩
end Bks
end Go.Proofs.Ytkejbggffbkdaaa
