/- Plain mathematics of chapter 2: blocks joined from left to right ('norm'); giving back what was taken leads back; the order of giving does not matter. No program, no conditions. -/
import Derived.Test.YtkejbggffbkdaaaFits2
namespace Go.Proofs.Ytkejbggffbkdaaa
namespace Bks

/-- neighbouring free blocks joined -/
def norm (xs : List Bl) : List Bl := xs.foldl joinB []

/-- a block made free -/
def freed (x : Bl) : Bl := ⟨x.s, x.z, false⟩

theorem join_snoc_used {out : List Bl} {y b : Bl} (h : y.u = true ∨ b.u = true) : joinB (out ++ [y]) b = out ++ [y] ++ [b] := by
  simp only [joinB, List.getLast?_concat]
  rw [if_neg]
  rintro ⟨h1, h2⟩
  rcases h with e | e <;> simp_all
theorem join_snoc_free {out : List Bl} {y b : Bl} (h1 : y.u = false) (h2 : b.u = false) : joinB (out ++ [y]) b = out ++ [⟨y.s, y.z + b.z, y.u⟩] := by
  simp only [joinB, List.getLast?_concat]
  rw [if_pos ⟨h1, h2⟩]
  simp
theorem join_empty (b : Bl) : joinB [] b = [b] := rfl
theorem join_used' (out : List Bl) {b : Bl} (h : b.u = true) : joinB out b = out ++ [b] := by
  rcases List.eq_nil_or_concat out with rfl | ⟨p, y, rfl⟩
  · rfl
  · rw [List.concat_eq_append]
    exact join_snoc_used (.inr h)

/-- joining two free blocks one after the other is joining their union -/
theorem join_assoc (out : List Bl) {y b : Bl} (h1 : y.u = false) (h2 : b.u = false) : joinB (joinB out y) b = joinB out ⟨y.s, y.z + b.z, y.u⟩ := by
  rcases List.eq_nil_or_concat out with rfl | ⟨p, z, rfl⟩
  · rw [join_empty, join_empty]
    have := join_snoc_free (out := []) h1 h2
    simpa using this
  · rw [List.concat_eq_append]
    cases hz : z.u
    · rw [join_snoc_free hz h1, join_snoc_free (y := ⟨z.s, z.z + y.z, z.u⟩) (by simpa using hz) h2, join_snoc_free hz (by simpa using h1)]
      simp
      omega
    · rw [join_snoc_used (.inl hz), join_snoc_free h1 h2, join_snoc_used (.inl hz)]

theorem fold_used (out A : List Bl) {b : Bl} : A.foldl joinB (out ++ [b]) = out ++ A.foldl joinB [b] := by
  have key : ∀ (A o q : List Bl), q ≠ [] → A.foldl joinB (o ++ q) = o ++ A.foldl joinB q := by
    intro A
    induction A with
    | nil => intro o q _; rfl
    | cons a A ih =>
      intro o q hq
      rcases List.eq_nil_or_concat q with rfl | ⟨p, y, rfl⟩
      · exact absurd rfl hq
      · rw [List.concat_eq_append]
        simp only [List.foldl_cons]
        rw [← List.append_assoc]
        by_cases hh : y.u = false ∧ a.u = false
        · rw [join_snoc_free hh.1 hh.2, join_snoc_free hh.1 hh.2, List.append_assoc]
          exact ih o _ (by simp)
        · have hu : y.u = true ∨ a.u = true := by
            cases hy : y.u
            · cases ha : a.u
              · exact absurd ⟨hy, ha⟩ hh
              · exact .inr rfl
            · exact .inl rfl
          rw [join_snoc_used hu, join_snoc_used hu, List.append_assoc, List.append_assoc]
          have := ih o (p ++ ([y] ++ [a])) (by simp)
          simpa using this
  exact key A out [b] (by simp)

theorem fold_from_used (A : List Bl) {b : Bl} (h : b.u = true) : A.foldl joinB [b] = b :: norm A := by
  unfold norm
  cases A with
  | nil => rfl
  | cons a A =>
    simp only [List.foldl_cons]
    have e : joinB [b] a = [b] ++ [a] := join_snoc_used (out := []) (.inl h)
    rw [e, join_empty]
    have key : ∀ (A o q : List Bl), q ≠ [] → A.foldl joinB (o ++ q) = o ++ A.foldl joinB q := by
      intro A
      induction A with
      | nil => intro o q _; rfl
      | cons a A ih =>
        intro o q hq
        rcases List.eq_nil_or_concat q with rfl | ⟨p, y, rfl⟩
        · exact absurd rfl hq
        · rw [List.concat_eq_append]
          simp only [List.foldl_cons]
          rw [← List.append_assoc]
          by_cases hh : y.u = false ∧ a.u = false
          · rw [join_snoc_free hh.1 hh.2, join_snoc_free hh.1 hh.2, List.append_assoc]
            exact ih o _ (by simp)
          · have hu : y.u = true ∨ a.u = true := by
              cases hy : y.u
              · cases ha : a.u
                · exact absurd ⟨hy, ha⟩ hh
                · exact .inr rfl
              · exact .inl rfl
            rw [join_snoc_used hu, join_snoc_used hu, List.append_assoc, List.append_assoc]
            have := ih o (p ++ ([y] ++ [a])) (by simp)
            simpa using this
    exact key A [b] [a] (by simp)

/-- a used block parts what is joined -/
theorem norm_used (A B : List Bl) {b : Bl} (h : b.u = true) : norm (A ++ b :: B) = norm A ++ b :: norm B := by
  unfold norm
  rw [List.foldl_append, List.foldl_cons, join_used' _ h, fold_used _ _, fold_from_used B h]
  rfl

/-- what is joined already may be joined on from the right -/
theorem fold_norm_len (acc : List Bl) : ∀ (n : Nat) (B : List Bl), B.length = n → (norm B).foldl joinB acc = B.foldl joinB acc
  | 0, B, h => by
    rw [List.eq_nil_of_length_eq_zero h]
    rfl
  | n + 1, B0, h => by
    obtain ⟨B, b, rfl⟩ : ∃ B b, B0 = B ++ [b] := by
      rcases List.eq_nil_or_concat B0 with rfl | ⟨B, b, rfl⟩
      · simp at h
      · exact ⟨B, b, List.concat_eq_append⟩
    have ih := fold_norm_len acc n B (by simpa using h)
    have e : norm (B ++ [b]) = joinB (norm B) b := by simp [norm]
    rw [e, List.foldl_append]
    simp only [List.foldl_cons, List.foldl_nil]
    rw [← ih]
    rcases List.eq_nil_or_concat (norm B) with hn | ⟨p, y, hn⟩
    · rw [hn, join_empty]
      rfl
    · rw [hn, List.concat_eq_append]
      by_cases hh : y.u = false ∧ b.u = false
      · rw [join_snoc_free hh.1 hh.2, List.foldl_append, List.foldl_append]
        simp only [List.foldl_cons, List.foldl_nil]
        rw [join_assoc _ hh.1 hh.2]
      · have hu : y.u = true ∨ b.u = true := by
          cases hy : y.u
          · cases hb : b.u
            · exact absurd ⟨hy, hb⟩ hh
            · exact .inr rfl
          · exact .inl rfl
        rw [join_snoc_used hu, List.foldl_append]
        rfl

theorem fold_norm (acc B : List Bl) : (norm B).foldl joinB acc = B.foldl joinB acc := fold_norm_len acc B.length B rfl

theorem norm_right (C B : List Bl) : norm (C ++ norm B) = norm (C ++ B) := by
  unfold norm
  rw [List.foldl_append, List.foldl_append]
  exact fold_norm _ B
theorem norm_norm (B : List Bl) : norm (norm B) = norm B := fold_norm [] B
theorem norm_left (A C : List Bl) : norm (norm A ++ C) = norm (A ++ C) := by
  have e := norm_norm A
  unfold norm at *
  rw [List.foldl_append, List.foldl_append, e]

/-- blocks without free neighbours are joined already -/
theorem norm_chain : ∀ (xs out : List Bl) (a : Int) (p : Bool), chain a (lastFree p out) xs → xs.foldl joinB out = out ++ xs ∨ out = []
  | [], out, _, _, _ => by simp
  | x :: xs, out, a, p, h => by
    rcases List.eq_nil_or_concat out with rfl | ⟨q, y, rfl⟩
    · exact .inr rfl
    · left
      rw [List.concat_eq_append] at h ⊢
      rw [lastFree_append] at h
      simp only [chain, lastFree] at h
      have hu : y.u = true ∨ x.u = true := by
        rcases h.2.2.1 with e | e
        · exact .inr e
        · exact .inl (by simpa using e)
      simp only [List.foldl_cons]
      rw [join_snoc_used hu]
      have hc : chain (a + x.z) (lastFree p (q ++ [y] ++ [x])) xs := by
        rw [lastFree_append]
        simp only [lastFree]
        exact h.2.2.2
      rcases norm_chain xs (q ++ [y] ++ [x]) _ p hc with e | e
      · rw [e]
        simp
      · simp at e

theorem norm_valid {xs : List Bl} {a : Int} (h : chain a false xs) : norm xs = xs := by
  cases xs with
  | nil => rfl
  | cons x xs =>
    unfold norm
    simp only [List.foldl_cons, join_empty]
    rcases norm_chain xs [x] (a + x.z) false (by simpa [lastFree] using h.2.2.2) with e | e
    · rw [e]
      rfl
    · cases e

theorem free_join (out : List Bl) (b : Bl) : free (joinB out b) = free out + if b.u = true then 0 else b.z := by
  rcases List.eq_nil_or_concat out with rfl | ⟨p, y, rfl⟩
  · simp [join_empty, free]
  · rw [List.concat_eq_append]
    by_cases hh : y.u = false ∧ b.u = false
    · rw [join_snoc_free hh.1 hh.2, free_append, free_append]
      simp [free, hh.1, hh.2]
      omega
    · have hu : y.u = true ∨ b.u = true := by
        cases hy : y.u
        · cases hb : b.u
          · exact absurd ⟨hy, hb⟩ hh
          · exact .inr rfl
        · exact .inl rfl
      rw [join_snoc_used hu, free_append]
      simp [free]

theorem free_norm (xs : List Bl) : free (norm xs) = free xs := by
  have key : ∀ (xs out : List Bl), free (xs.foldl joinB out) = free out + free xs := by
    intro xs
    induction xs with
    | nil => intro out; simp [free]
    | cons x xs ih =>
      intro out
      simp only [List.foldl_cons]
      rw [ih, free_join]
      simp only [free]
      omega
  have := key xs []
  simpa [norm, free] using this

theorem giveTo_norm (xs : List Bl) (num : Nat) : ∀ k, k ≤ xs.length → giveTo xs num k = norm (((List.range k).map fun j => giveOf num j (xs.getD j default)))
  | 0, _ => rfl
  | k + 1, hk => by
    have ih := giveTo_norm xs num k (by omega)
    have hx : xs[k]? = some xs[k] := List.getElem?_eq_getElem (by omega)
    simp only [giveTo, hx]
    rw [ih, List.range_succ, List.map_append]
    simp [norm, hx]

theorem marked_eq (xs : List Bl) (num : Nat) (x : Bl) (hx : xs[num]? = some x) : ((List.range xs.length).map fun j => giveOf num j (xs.getD j default)) = xs.set num (freed x) := by
  apply List.ext_getElem?
  intro j
  rw [List.getElem?_set]
  rcases Nat.lt_or_ge j xs.length with hj | hj
  · have hr : (List.range xs.length)[j]? = some j := List.getElem?_range hj
    simp only [List.getElem?_map, hr, Option.map_some]
    have hxj : xs[j]? = some xs[j] := List.getElem?_eq_getElem hj
    by_cases e : num = j
    · subst e
      rw [if_pos rfl, if_pos hj]
      rw [hx] at hxj
      injection hxj with hxj
      simp [giveOf, freed, hx]
    · rw [if_neg e]
      have e' : ¬ j = num := fun h => e h.symm
      simp [giveOf, e', hxj]
  · rw [List.getElem?_eq_none (by simpa using hj)]
    split
    · next e => rw [if_neg (by omega)]
    · rw [List.getElem?_eq_none hj]

/-- GiveBlock, said by 'norm' -/
theorem giveB_norm {xs : List Bl} {k : Nat} {x : Bl} (hx : xs[k]? = some x) (hu : x.u = true) : giveB xs k = norm (xs.set k (freed x)) := by
  have hc : canGive xs k = true := by simp [canGive, hx, hu]
  rw [giveB, if_pos hc]
  simp only [Int.toNat_natCast]
  rw [giveTo_norm xs k xs.length (Nat.le_refl _), marked_eq xs k x hx]

theorem set_split {xs : List Bl} {k : Nat} {x y : Bl} (hx : xs[k]? = some x) : xs.set k y = xs.take k ++ y :: xs.drop (k + 1) := by
  have hk : k < xs.length := (List.getElem?_eq_some_iff.1 hx).1
  rw [List.set_eq_take_append_cons_drop, if_pos hk]

/-- P23: as many words more are free as the block has -/
theorem give_free {xs : List Bl} {k : Nat} {x : Bl} (hx : xs[k]? = some x) (hu : x.u = true) : free (giveB xs k) = free xs + x.z := by
  rw [giveB_norm hx hu, free_norm, set_split hx]
  have hs := split_at hx
  have e : free xs = free (xs.take k ++ x :: xs.drop (k + 1)) := by rw [← hs]
  rw [e, free_append, free_append]
  simp [free, freed, hu]
  omega

theorem bl_ext {x y : Bl} (h1 : x.s = y.s) (h2 : x.z = y.z) (h3 : x.u = y.u) : x = y := by
  obtain ⟨a, b, c⟩ := x
  obtain ⟨a', b', c'⟩ := y
  simp at h1 h2 h3
  rw [h1, h2, h3]

/-- P22: giving back what was taken leads back -/
theorem give_taken {xs : List Bl} {t : Int} {k : Nat} {b : Bl} {size : Int} (hv : validB xs t = true) (hb : xs[k]? = some b) (hu : b.u = false) (h2 : size ≤ b.z) :
    norm ((taken xs k b size).set k ⟨b.s, size, false⟩) = xs := by
  have hk : k < xs.length := (List.getElem?_eq_some_iff.1 hb).1
  have hs := split_at hb
  have hc := ((valid_chain xs t).1 hv).1
  have hlen : (xs.take k).length = k := by rw [List.length_take]; omega
  have hset : (taken xs k b size).set k ⟨b.s, size, false⟩ = xs.take k ++ ([(⟨b.s, size, false⟩ : Bl)] ++ (if size < b.z then [(⟨b.s + size, b.z - size, false⟩ : Bl)] else []) ++ xs.drop (k + 1)) := by
    unfold taken
    rw [List.append_assoc, List.append_assoc, List.set_append_right _ _ (by omega), hlen, Nat.sub_self]
    simp
  rw [hset]
  have hone : ∀ out : List Bl, ([(⟨b.s, size, false⟩ : Bl)] ++ (if size < b.z then [(⟨b.s + size, b.z - size, false⟩ : Bl)] else [])).foldl joinB out = joinB out b := by
    intro out
    split
    · simp only [List.foldl_append, List.foldl_cons, List.foldl_nil]
      rw [join_assoc out rfl rfl]
      congr 1
      exact bl_ext rfl (by show size + (b.z - size) = b.z; omega) hu.symm
    · next hn =>
      have e : size = b.z := by omega
      simp only [List.append_nil, List.foldl_cons, List.foldl_nil]
      congr 1
      exact bl_ext rfl e hu.symm
  have e1 : norm (xs.take k ++ ([(⟨b.s, size, false⟩ : Bl)] ++ (if size < b.z then [(⟨b.s + size, b.z - size, false⟩ : Bl)] else []) ++ xs.drop (k + 1))) = norm xs := by
    unfold norm
    rw [List.foldl_append, List.foldl_append, hone]
    conv => rhs; rw [hs]
    rw [List.foldl_append, List.foldl_cons]
  rw [e1]
  exact norm_valid hc

/-- P111: two used blocks given back, in both orders -/
theorem give_order (A B C : List Bl) (x y : Bl) :
    norm (norm (A ++ freed x :: B) ++ freed y :: norm C) = norm (norm A ++ freed x :: norm (B ++ freed y :: C)) := by
  have e1 : norm (norm (A ++ freed x :: B) ++ freed y :: norm C) = norm (A ++ freed x :: B ++ freed y :: C) := by
    rw [norm_left]
    have := norm_right (A ++ freed x :: B ++ [freed y]) C
    simpa using this
  have e2 : norm (norm A ++ freed x :: norm (B ++ freed y :: C)) = norm (A ++ freed x :: (B ++ freed y :: C)) := by
    rw [norm_left]
    have := norm_right (A ++ [freed x]) (B ++ freed y :: C)
    simpa using this
  rw [e1, e2]
  simp
end Bks
end Go.Proofs.Ytkejbggffbkdaaa
