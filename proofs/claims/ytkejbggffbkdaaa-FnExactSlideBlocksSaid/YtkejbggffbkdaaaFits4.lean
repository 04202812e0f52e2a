/- Plain mathematics of chapter 2, as the promises ask it: P18, P22, P23, P111, P112. No program, no conditions. -/
import Derived.Test.YtkejbggffbkdaaaFits3
import Derived.Test.YtkejbggffbkdaaaWords
namespace Go.Proofs.Ytkejbggffbkdaaa
namespace Bks

/-- the words of taken blocks -/
theorem taken_free {xs : List Bl} {k : Nat} {b : Bl} {size : Int} (hb : xs[k]? = some b) (hu : b.u = false) (h2 : size ≤ b.z) : free (taken xs k b size) = free xs - size := by
  have hs := split_at hb
  have e : free xs = free (xs.take k ++ b :: xs.drop (k + 1)) := by rw [← hs]
  unfold taken
  rw [e, free_append, free_append, free_append, free_append]
  split
  · simp [free, hu]
    omega
  · simp [free, hu]
    omega

theorem taken_at {xs : List Bl} {k : Nat} {b : Bl} {size : Int} (hb : xs[k]? = some b) : (taken xs k b size)[k]? = some ⟨b.s, size, true⟩ := by
  have hk : k < xs.length := (List.getElem?_eq_some_iff.1 hb).1
  have hlen : (xs.take k).length = k := by rw [List.length_take]; omega
  unfold taken
  rw [List.append_assoc, List.append_assoc, List.getElem?_append_right (by omega), hlen, Nat.sub_self]
  rfl

/-- P22: giving back what was taken -/
theorem give_take {xs : List Bl} {t : Int} {k : Nat} {b : Bl} {size : Int} (hv : validB xs t = true) (hb : xs[k]? = some b) (hu : b.u = false) (h2 : size ≤ b.z) :
    giveB (taken xs k b size) k = xs ∧ canGive (taken xs k b size) k = true := by
  refine ⟨?_, by simp [canGive, taken_at hb]⟩
  rw [giveB_norm (taken_at hb) rfl]
  exact give_taken hv hb hu h2

theorem takeB_taken {xs : List Bl} {k : Nat} {b : Bl} {size : Int} (hb : xs[k]? = some b) (hc : canTake xs k size = true) : takeB xs k size = taken xs k b size := by
  rw [takeB, if_pos hc]
  simp [hb]

theorem canTake_iff {xs : List Bl} {k : Nat} {b : Bl} {size : Int} (hb : xs[k]? = some b) : canTake xs k size = true ↔ b.u = false ∧ 1 ≤ size ∧ size ≤ b.z := by
  simp [canTake, hb, and_assoc]

/-- a block of valid blocks is found by its first word -/
theorem at_start {ys : List Bl} {t : Int} {i : Nat} {z : Bl} (hv : validB ys t = true) (hz : ys[i]? = some z) : atW ys t z.s = i := by
  have ha := valid_at hv hz
  have hi : i < ys.length := (List.getElem?_eq_some_iff.1 hz).1
  rw [atW, if_pos ⟨hv, by omega, by omega⟩, cnt_at hv hi (by omega) (by omega)]
  omega

theorem split2 {xs : List Bl} {n k : Nat} {x y : Bl} (hx : xs[n]? = some x) (hy : xs[k]? = some y) (h : n < k) : ∃ A B C, xs = A ++ x :: (B ++ y :: C) ∧ A.length = n ∧ B.length = k - n - 1 := by
  have h1 := split_at hx
  have hn : n < xs.length := (List.getElem?_eq_some_iff.1 hx).1
  have hk : k < xs.length := (List.getElem?_eq_some_iff.1 hy).1
  have hd : (xs.drop (n + 1))[k - n - 1]? = some y := by rw [List.getElem?_drop, show n + 1 + (k - n - 1) = k by omega]; exact hy
  have h2 := split_at hd
  refine ⟨xs.take n, (xs.drop (n + 1)).take (k - n - 1), (xs.drop (n + 1)).drop (k - n - 1 + 1), ?_, by rw [List.length_take]; omega, by rw [List.length_take, List.length_drop]; omega⟩
  rw [← h2]
  exact h1

theorem set_mid (A : List Bl) (x y : Bl) (B : List Bl) : (A ++ x :: B).set A.length y = A ++ y :: B := by
  rw [List.set_append_right _ _ (Nat.le_refl _), Nat.sub_self]
  rfl
theorem get_mid (A : List Bl) (x : Bl) (B : List Bl) : (A ++ x :: B)[A.length]? = some x := by
  rw [List.getElem?_append_right (Nat.le_refl _), Nat.sub_self]
  rfl

/-- P111 -/
theorem order_lt {xs : List Bl} {t : Int} {n k : Nat} {x y : Bl} (hv : validB xs t = true) (h : n < k) (hx : xs[n]? = some x) (hy : xs[k]? = some y) (hux : x.u = true) (huy : y.u = true) :
    ∃ i j : Nat, atW (giveB xs n) t y.s = i ∧ atW (giveB xs k) t x.s = j ∧ giveB (giveB xs n) i = giveB (giveB xs k) j := by
  obtain ⟨A, B, C, rfl, hA, hB⟩ := split2 hx hy h
  subst hA
  have e1 : giveB (A ++ x :: (B ++ y :: C)) (A.length : Nat) = norm (A ++ freed x :: B) ++ y :: norm C := by
    rw [giveB_norm hx hux, set_mid, show A ++ freed x :: (B ++ y :: C) = (A ++ freed x :: B) ++ y :: C by simp, norm_used _ _ huy]
  have hk : k = (A ++ x :: B).length := by simp; omega
  have e2 : giveB (A ++ x :: (B ++ y :: C)) (k : Nat) = norm A ++ x :: norm (B ++ freed y :: C) := by
    rw [giveB_norm hy huy, show A ++ x :: (B ++ y :: C) = (A ++ x :: B) ++ y :: C by simp, hk, set_mid, show (A ++ x :: B) ++ freed y :: C = A ++ x :: (B ++ freed y :: C) by simp, norm_used _ _ hux]
  have v1 := giveB_valid (num := ((A.length : Nat) : Int)) hv
  have v2 := giveB_valid (num := ((k : Nat) : Int)) hv
  rw [e1] at v1
  rw [e2] at v2
  refine ⟨(norm (A ++ freed x :: B)).length, (norm A).length, ?_, ?_, ?_⟩
  · rw [e1]
    exact at_start v1 (get_mid _ _ _)
  · rw [e2]
    exact at_start v2 (get_mid _ _ _)
  · rw [e1, e2, giveB_norm (get_mid _ _ _) huy, giveB_norm (get_mid _ _ _) hux, set_mid, set_mid]
    exact give_order A B C x y

theorem order_any {xs : List Bl} {t : Int} {n k : Nat} {x y : Bl} (hv : validB xs t = true) (h : n ≠ k) (hx : xs[n]? = some x) (hy : xs[k]? = some y) (hux : x.u = true) (huy : y.u = true) :
    giveB (giveB xs n) (atW (giveB xs n) t y.s) = giveB (giveB xs k) (atW (giveB xs k) t x.s) := by
  rcases Nat.lt_or_ge n k with hl | hl
  · obtain ⟨i, j, e1, e2, e3⟩ := order_lt hv hl hx hy hux huy
    rw [e1, e2, e3]
  · obtain ⟨i, j, e1, e2, e3⟩ := order_lt hv (show k < n by omega) hy hx huy hux
    rw [e1, e2, e3]

/-- P23: how many blocks there are -/
theorem join_len (out : List Bl) (b : Bl) : (joinB out b).length ≤ out.length + 1 ∧ out.length ≤ (joinB out b).length := by
  rcases List.eq_nil_or_concat out with rfl | ⟨p, y, rfl⟩
  · simp [join_empty]
  · rw [List.concat_eq_append]
    by_cases hh : y.u = false ∧ b.u = false
    · rw [join_snoc_free hh.1 hh.2]
      simp
    · have hu : y.u = true ∨ b.u = true := by
        cases hy : y.u
        · cases hb : b.u
          · exact absurd ⟨hy, hb⟩ hh
          · exact .inr rfl
        · exact .inl rfl
      rw [join_snoc_used hu]
      simp

theorem fold_len_le : ∀ (xs out : List Bl), (xs.foldl joinB out).length ≤ out.length + xs.length
  | [], out => by simp
  | x :: xs, out => by
    have := fold_len_le xs (joinB out x)
    have h := join_len out x
    simp only [List.foldl_cons, List.length_cons]
    omega

/-- behind a first block nothing more is joined, if there are no free neighbours -/
theorem fold_len_ge {xs : List Bl} {a : Int} {p : Bool} (h : chain a p xs) (out : List Bl) (ho : out ≠ []) : out.length + xs.length ≤ (xs.foldl joinB out).length + 1 := by
  cases xs with
  | nil => simp
  | cons x xs =>
    simp only [List.foldl_cons]
    have hl := join_len out x
    have hc := h.2.2.2
    -- the last of the joined blocks is free exactly if x is, or is joined
    have hlast : ∃ q y, joinB out x = q ++ [y] ∧ (y.u = x.u) := by
      rcases List.eq_nil_or_concat out with rfl | ⟨q, z, rfl⟩
      · exact absurd rfl ho
      · rw [List.concat_eq_append]
        by_cases hh : z.u = false ∧ x.u = false
        · exact ⟨q, ⟨z.s, z.z + x.z, z.u⟩, by rw [join_snoc_free hh.1 hh.2], by simp [hh.1, hh.2]⟩
        · have hu : z.u = true ∨ x.u = true := by
            cases hy : z.u
            · cases hb : x.u
              · exact absurd ⟨hy, hb⟩ hh
              · exact .inr rfl
            · exact .inl rfl
          exact ⟨q ++ [z], x, join_snoc_used hu, rfl⟩
    obtain ⟨q, y, e, hyu⟩ := hlast
    have hcc : chain (a + x.z) (lastFree false (q ++ [y])) xs := by
      rw [lastFree_append]
      simp only [lastFree]
      rw [hyu]
      exact hc
    rcases norm_chain xs (q ++ [y]) (a + x.z) false hcc with e2 | e2
    · rw [e] at hl ⊢
      rw [e2]
      simp at hl ⊢
      omega
    · simp at e2

theorem give_len {xs : List Bl} {t : Int} {k : Nat} {x : Bl} (hv : validB xs t = true) (hx : xs[k]? = some x) (hu : x.u = true) : (giveB xs k).length ≤ xs.length ∧ xs.length ≤ (giveB xs k).length + 2 := by
  rw [giveB_norm hx hu, set_split hx]
  have hs := split_at hx
  have hc := ((valid_chain xs t).1 hv).1
  generalize xs.take k = A at hs ⊢
  generalize xs.drop (k + 1) = C at hs ⊢
  subst hs
  rw [chain_append] at hc
  simp only [chain] at hc
  have hA : norm A = A := norm_valid hc.1
  have e : norm (A ++ freed x :: C) = C.foldl joinB (joinB A (freed x)) := by
    conv => lhs; rw [← norm_left, hA]
    unfold norm
    rw [List.foldl_append, List.foldl_cons]
    have : A.foldl joinB [] = A := hA
    rw [this]
  rw [e]
  have hl := join_len A (freed x)
  have h1 := fold_len_le C (joinB A (freed x))
  have hne : joinB A (freed x) ≠ [] := by
    rcases List.eq_nil_or_concat A with rfl | ⟨q, z, rfl⟩
    · simp [join_empty]
    · intro e0
      rw [e0] at hl
      simp at hl
  have h2 := fold_len_ge hc.2.2.2.2 (joinB A (freed x)) hne
  simp only [List.length_append, List.length_cons]
  omega

/-- which blocks there are behind a take -/
theorem taken_mem {xs : List Bl} {k : Nat} {b y : Bl} {size : Int} (h : y ∈ taken xs k b size) (hu : y.u = false) : (size < b.z ∧ y.z = b.z - size) ∨ ∃ j, j ≠ k ∧ xs[j]? = some y := by
  unfold taken at h
  simp only [List.mem_append, List.mem_singleton] at h
  rcases h with ((h | h) | h) | h
  · obtain ⟨j, hj, e⟩ := List.getElem_of_mem h
    rw [List.length_take] at hj
    refine .inr ⟨j, by omega, ?_⟩
    rw [List.getElem_take] at e
    rw [List.getElem?_eq_getElem (by omega), e]
  · rw [h] at hu
    cases hu
  · split at h
    · next hs =>
      rw [List.mem_singleton] at h
      rw [h]
      exact .inl ⟨hs, rfl⟩
    · cases h
  · obtain ⟨j, hj, e⟩ := List.getElem_of_mem h
    rw [List.length_drop] at hj
    rw [List.getElem_drop] at e
    refine .inr ⟨k + 1 + j, by omega, ?_⟩
    rw [List.getElem?_eq_getElem (by omega), e]

theorem mem_taken {xs : List Bl} {k j : Nat} {b y : Bl} {size : Int} (hj : xs[j]? = some y) (hne : j ≠ k) : y ∈ taken xs k b size := by
  have hjl : j < xs.length := (List.getElem?_eq_some_iff.1 hj).1
  unfold taken
  simp only [List.mem_append]
  rcases Nat.lt_or_ge j k with h | h
  · left; left; left
    apply List.mem_of_getElem? (i := j)
    rw [List.getElem?_take, if_pos h]
    exact hj
  · right
    apply List.mem_of_getElem? (i := j - (k + 1))
    rw [List.getElem?_drop, show k + 1 + (j - (k + 1)) = j by omega]
    exact hj

/-- P112: the largest free block behind the best fit is not smaller -/
theorem best_largest {xs : List Bl} {t : Int} {f b : Nat} {xf xb : Bl} {size : Int} (hv : validB xs t = true) (hf : xs[f]? = some xf) (hb : xs[b]? = some xb) (hff : fits size xf = true) (h1 : 1 ≤ size) (hbest : IsBest xs size b) :
    maxTo (taken xs f xf size) (taken xs f xf size).length ≤ maxTo (taken xs b xb size) (taken xs b xb size).length := by
  obtain ⟨x', hx', hfb, hm⟩ := hbest
  rw [hb] at hx'
  injection hx' with hx'
  subst hx'
  rw [fits_iff] at hff hfb
  by_cases e : f = b
  · subst e
    rw [hf] at hb
    injection hb with hb
    subst hb
    exact Int.le_refl _
  have vb := taken_valid hv hb hfb.1 h1 hfb.2
  have h0 := (free_range vb (taken xs b xb size).length (Nat.le_refl _)).2.2.1
  have hxf : xf.z ≤ maxTo (taken xs b xb size) (taken xs b xb size).length := max_mem (mem_taken hf e) hff.1
  refine max_bound h0 (fun y hy hyu => ?_)
  rcases taken_mem hy hyu with ⟨_, hz⟩ | ⟨j, hjf, hj⟩
  · omega
  · by_cases ejb : j = b
    · subst ejb
      rw [hb] at hj
      injection hj with hj
      subst hj
      have := hm f xf hf ((fits_iff _ _).2 hff)
      omega
    · exact max_mem (mem_taken hj ejb) hyu

/-- P18: FirstFit finds the largest free block, and none for a word more -/
theorem first_largest {xs : List Bl} {t : Int} (hv : validB xs t = true) : (maxTo xs xs.length = 0 ∨ 0 ≤ firstW xs t (maxTo xs xs.length)) ∧ firstW xs t (maxTo xs xs.length + 1) = -1 := by
  have hr := free_range hv xs.length (Nat.le_refl _)
  constructor
  · rcases Int.lt_or_le 0 (maxTo xs xs.length) with h | h
    · right
      obtain ⟨j, x, hj, hx, hu, hz⟩ := max_there xs xs.length (Nat.le_refl _) h
      rw [firstW, if_pos ⟨hv, by omega, by omega⟩]
      rcases first_or xs (maxTo xs xs.length) with hn | ⟨k, y, hy, hfy, hb⟩
      · have := hn j x hx
        rw [(fits_iff _ _).2 ⟨hu, by omega⟩] at this
        cases this
      · rw [firstIdx_some xs _ 0 k y hy hfy hb]
        omega
    · left
      omega
  · unfold firstW
    split
    · apply firstIdx_none
      intro j y hy
      cases hf : fits (maxTo xs xs.length + 1) y
      · rfl
      · have h := (fits_iff _ _).1 hf
        have := max_mem (List.mem_of_getElem? hy) h.1
        omega
    · rfl
end Bks
end Go.Proofs.Ytkejbggffbkdaaa
