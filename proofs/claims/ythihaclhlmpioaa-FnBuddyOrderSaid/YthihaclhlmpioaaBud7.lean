/- Plain mathematics of giving a buddy by the lists of free ones: the joined buddy takes the place of all that lie in it. No program, no conditions. -/
import Derived.Test.YthihaclhlmpioaaBud6
import Derived.Test.YthihaclhlmpioaaBud5
namespace Go.Proofs.Ythihaclhlmpioaa
namespace Bud

theorem base_left {s k : Nat} (hk : 0 < k) (hs : s % 2 ^ k = 0) : baseV s (k - 1) = s := by
  unfold baseV
  rw [if_pos (mod_half hk hs).2.2.1]
theorem base_right {s k : Nat} (hk : 0 < k) (hs : s % 2 ^ k = 0) : baseV (s + 2 ^ (k - 1)) (k - 1) = s := by
  unfold baseV
  have := (mod_half hk hs).2.2.2
  rw [if_neg (by omega)]
  omega

/-- a free leaf of the whole order -/
theorem leaf_of_mem {t : BT} {s k : Nat} (hw : wf t k) (h : (⟨s, k, false⟩ : Bl) ∈ leaves t s k) : t = .leaf false := by
  cases t with
  | leaf u =>
    simp [leaves] at h
    rw [h]
  | node l r =>
    exfalso
    simp only [leaves] at h
    have hk := hw.1
    rcases List.mem_append.1 h with h | h
    · obtain ⟨c, j, e1, e2, _, _, e5⟩ := leaves_range l _ _ _ hw.2.1 h
      simp only at e2
      omega
    · obtain ⟨c, j, e1, e2, _, _, e5⟩ := leaves_range r _ _ _ hw.2.2 h
      simp only at e2
      omega

theorem join_tree (FL : Nat → List Int) : ∀ (t : BT) (s k a : Nat), wf t k → red t → usedAt t s k a → s % 2 ^ k = 0 → k ≤ 8 → (∀ c j : Nat, s ≤ c → c < s + 2 ^ k → ((c : Int) ∈ FL j ↔ (⟨c, j, false⟩ : Bl) ∈ leaves t s k)) →
    (giveT t s k a = .leaf false → joinF FL (8 - ordT t s k a) a (ordT t s k a) = joinF FL (8 - k) s k) ∧
    (giveT t s k a ≠ .leaf false → ∃ (s' j' : Nat) (P M Q : List Bl), joinF FL (8 - ordT t s k a) a (ordT t s k a) = (s', j') ∧ leaves t s k = P ++ M ++ Q ∧ leaves (giveT t s k a) s k = P ++ [⟨s', j', false⟩] ++ Q ∧
      (∀ b ∈ P, b.s < s') ∧ (∀ b ∈ M, (s' : Int) ≤ b.s ∧ b.s < (s' + 2 ^ j' : Nat)) ∧ (∀ b ∈ Q, ((s' + 2 ^ j' : Nat) : Int) ≤ b.s) ∧ s ≤ s' ∧ s' + 2 ^ j' ≤ s + 2 ^ k ∧ j' ≤ k)
  | .leaf u, s, k, a, _, _, h, _, _, _ => by
    obtain ⟨rfl, rfl⟩ := h
    simp [giveT, ordT]
  | .node l r, s, k, a, hw, hr, h, hs, hk8, hFL => by
    have hk := hw.1
    obtain ⟨m1, m2, _, _⟩ := mod_half hk hs
    have hps := pow_split hk
    have hpos := Nat.two_pow_pos (k - 1)
    simp only [usedAt] at h
    have hFLl : ∀ c j : Nat, s ≤ c → c < s + 2 ^ (k - 1) → ((c : Int) ∈ FL j ↔ (⟨c, j, false⟩ : Bl) ∈ leaves l s (k - 1)) := by
      intro c j h1 h2
      rw [hFL c j h1 (by omega)]
      simp only [leaves]
      rw [List.mem_append]
      constructor
      · rintro (hh | hh)
        · exact hh
        · obtain ⟨c', j', e1, _, e3, _⟩ := leaves_range r _ _ _ hw.2.2 hh
          simp only at e1
          omega
      · exact fun hh => .inl hh
    have hFLr : ∀ c j : Nat, s + 2 ^ (k - 1) ≤ c → c < s + 2 ^ (k - 1) + 2 ^ (k - 1) → ((c : Int) ∈ FL j ↔ (⟨c, j, false⟩ : Bl) ∈ leaves r (s + 2 ^ (k - 1)) (k - 1)) := by
      intro c j h1 h2
      rw [hFL c j (by omega) (by omega)]
      simp only [leaves]
      rw [List.mem_append]
      constructor
      · rintro (hh | hh)
        · obtain ⟨c', j', e1, _, e3, e4, _⟩ := leaves_range l _ _ _ hw.2.1 hh
          have := Nat.two_pow_pos j'
          simp only at e1
          omega
        · exact hh
      · exact fun hh => .inr hh
    by_cases ha : a < s + 2 ^ (k - 1)
    · rw [if_pos ha] at h
      obtain ⟨ihA, ihB⟩ := join_tree FL l s (k - 1) a hw.2.1 hr.1 h m1 (by omega) hFLl
      have e3 : ordT (.node l r) s k a = ordT l s (k - 1) a := by simp only [ordT]; rw [if_pos ha]
      have e4 : giveT (.node l r) s k a = mk (giveT l s (k - 1) a) r := by simp only [giveT]; rw [if_pos ha]
      rw [e3, e4]
      by_cases hg : giveT l s (k - 1) a = .leaf false
      · rw [ihA hg, hg, show 8 - (k - 1) = (8 - k) + 1 by omega, joinF, mate_left hk hs]
        have hmem : ((s : Int) + 2 ^ (k - 1) ∈ FL (k - 1)) ↔ r = .leaf false := by
          have := hFLr (s + 2 ^ (k - 1)) (k - 1) (Nat.le_refl _) (by omega)
          rw [show (s : Int) + 2 ^ (k - 1) = ((s + 2 ^ (k - 1) : Nat) : Int) by rw [pow_int]; simp, this]
          constructor
          · exact fun hh => leaf_of_mem hw.2.2 hh
          · rintro rfl
            simp [leaves]
        by_cases hrl : r = .leaf false
        · rw [if_pos (hmem.2 hrl), base_left hk hs, hrl, mk_free, show k - 1 + 1 = k by omega]
          exact ⟨fun _ => rfl, fun hh => absurd rfl hh⟩
        · rw [if_neg (fun hh => hrl (hmem.1 hh)), mk_node (fun hh => hrl hh.2)]
          refine ⟨(fun hh => by cases hh), fun _ => ⟨s, k - 1, [], leaves l s (k - 1), leaves r (s + 2 ^ (k - 1)) (k - 1), rfl, by simp [leaves], by simp [leaves], by simp, fun b hb => ?_, fun b hb => ?_, Nat.le_refl _, by omega, by omega⟩⟩
          · obtain ⟨c, j, f1, f2, f3, f4, _⟩ := leaves_range l _ _ _ hw.2.1 hb
            have := Nat.two_pow_pos j
            omega
          · obtain ⟨c, j, f1, f2, f3, f4, _⟩ := leaves_range r _ _ _ hw.2.2 hb
            omega
      · obtain ⟨s', j', P, M, Q, g1, g2, g3, g4, g5, g6, g7, g8, g9⟩ := ihB hg
        rw [mk_node (fun hh => hg hh.1)]
        refine ⟨(fun hh => by cases hh), fun _ => ⟨s', j', P, M, Q ++ leaves r (s + 2 ^ (k - 1)) (k - 1), g1, ?_, ?_, g4, g5, fun b hb => ?_, g7, by omega, by omega⟩⟩
        · simp only [leaves]
          rw [g2]
          simp
        · simp only [leaves]
          rw [g3]
          simp
        · rcases List.mem_append.1 hb with hb | hb
          · exact g6 b hb
          · obtain ⟨c, j, f1, f2, f3, f4, _⟩ := leaves_range r _ _ _ hw.2.2 hb
            omega
    · rw [if_neg ha] at h
      obtain ⟨ihA, ihB⟩ := join_tree FL r (s + 2 ^ (k - 1)) (k - 1) a hw.2.2 hr.2.1 h m2 (by omega) hFLr
      have e3 : ordT (.node l r) s k a = ordT r (s + 2 ^ (k - 1)) (k - 1) a := by simp only [ordT]; rw [if_neg ha]
      have e4 : giveT (.node l r) s k a = mk l (giveT r (s + 2 ^ (k - 1)) (k - 1) a) := by simp only [giveT]; rw [if_neg ha]
      rw [e3, e4]
      by_cases hg : giveT r (s + 2 ^ (k - 1)) (k - 1) a = .leaf false
      · rw [ihA hg, hg, show 8 - (k - 1) = (8 - k) + 1 by omega, joinF, mate_right hk hs]
        have hmem : ((s : Int) ∈ FL (k - 1)) ↔ l = .leaf false := by
          rw [hFLl s (k - 1) (Nat.le_refl _) (by omega)]
          constructor
          · exact fun hh => leaf_of_mem hw.2.1 hh
          · rintro rfl
            simp [leaves]
        by_cases hll : l = .leaf false
        · rw [if_pos (hmem.2 hll), base_right hk hs, hll, mk_free, show k - 1 + 1 = k by omega]
          exact ⟨fun _ => rfl, fun hh => absurd rfl hh⟩
        · rw [if_neg (fun hh => hll (hmem.1 hh)), mk_node (fun hh => hll hh.1)]
          refine ⟨(fun hh => by cases hh), fun _ => ⟨s + 2 ^ (k - 1), k - 1, leaves l s (k - 1), leaves r (s + 2 ^ (k - 1)) (k - 1), [], rfl, by simp [leaves], by simp [leaves], fun b hb => ?_, fun b hb => ?_, by simp, by omega, by omega, by omega⟩⟩
          · obtain ⟨c, j, f1, f2, f3, f4, _⟩ := leaves_range l _ _ _ hw.2.1 hb
            have := Nat.two_pow_pos j
            omega
          · obtain ⟨c, j, f1, f2, f3, f4, _⟩ := leaves_range r _ _ _ hw.2.2 hb
            have := Nat.two_pow_pos j
            omega
      · obtain ⟨s', j', P, M, Q, g1, g2, g3, g4, g5, g6, g7, g8, g9⟩ := ihB hg
        rw [mk_node (fun hh => hg hh.2)]
        refine ⟨(fun hh => by cases hh), fun _ => ⟨s', j', leaves l s (k - 1) ++ P, M, Q, g1, ?_, ?_, fun b hb => ?_, g5, g6, by omega, by omega, by omega⟩⟩
        · simp only [leaves]
          rw [g2]
          simp
        · simp only [leaves]
          rw [g3]
          simp
        · rcases List.mem_append.1 hb with hb | hb
          · obtain ⟨c, j, f1, f2, f3, f4, _⟩ := leaves_range l _ _ _ hw.2.1 hb
            have := Nat.two_pow_pos j
            omega
          · exact g4 b hb

theorem from_split {P Q : List Bl} {v : Int} (h1 : ∀ b ∈ P, b.s < v) (h2 : ∀ b ∈ Q, v ≤ b.s) : fromY (P ++ Q) v = P.length := by
  unfold fromY
  rw [List.takeWhile_append_of_pos (by intro b hb; simpa using h1 b hb)]
  cases Q with
  | nil => simp
  | cons q Q =>
    have := h2 q (by simp)
    rw [List.takeWhile_cons, if_neg (by simp; omega)]
    simp

/-- what the program builds -/
def progG (xs : List Bl) (s' j' : Nat) : List Bl := xs.take (fromY xs s') ++ [⟨s', j', false⟩] ++ xs.drop (fromY xs (s' + 2 ^ j' : Nat))

theorem prog_give {xs : List Bl} {p : Int} {i : Nat} {c j : Nat} (hv : validY xs p = true) (hx : xs[i]? = some ⟨c, j, true⟩) :
    ∃ s' j' : Nat, joinF (freesTo xs xs.length) (8 - j) c j = (s', j') ∧ okG xs c = true ∧ giveY xs p c = progG xs s' j' ∧ s' + 2 ^ j' ≤ 256 ∧ j' ≤ 8 := by
  obtain ⟨P0, t, rfl, hP, hw, hr, rfl⟩ := tree_of_valid hv
  have hu := used_of_mem t 0 P0 c i j hw hx
  have hasc := asc_of_valid hv
  obtain ⟨h1, _⟩ := leaves_idx t 0 P0 c hu
  have hij : ordT t 0 P0 c = j := by
    rcases Nat.lt_trichotomy i (idxT t 0 P0 c) with hh | hh | hh
    · have := hasc _ _ _ _ hh hx h1
      simp only at this
      omega
    · rw [hh, h1] at hx
      injection hx with hx
      injection hx with _ hx _
      omega
    · have := hasc _ _ _ _ hh h1 hx
      simp only at this
      omega
  obtain ⟨ok, hg⟩ := giveY_tree hP hw hr hu
  have hFL : ∀ c j : Nat, 0 ≤ c → c < 0 + 2 ^ P0 → ((c : Int) ∈ freesTo (leaves t 0 P0) (leaves t 0 P0).length j ↔ (⟨c, j, false⟩ : Bl) ∈ leaves t 0 P0) := by
    intro c j _ _
    rw [mem_frees]
    constructor
    · rintro ⟨k, b, hb, b1, b2, b3⟩
      have := List.mem_of_getElem? hb
      obtain ⟨bs, bz, bu⟩ := b
      simp only at b1 b2 b3
      rw [← b1, ← b2, ← b3]
      exact this
    · intro hm
      obtain ⟨k, hk⟩ := List.mem_iff_getElem?.1 hm
      exact ⟨k, _, hk, rfl, rfl, rfl⟩
  obtain ⟨hA, hB⟩ := join_tree (freesTo (leaves t 0 P0) (leaves t 0 P0).length) t 0 P0 c hw hr hu (by simp) hP hFL
  rw [hij] at hA hB
  have h256 := (two_pow_le hP).2
  by_cases hgl : giveT t 0 P0 c = .leaf false
  · have hj : joinF (freesTo (leaves t 0 P0) (leaves t 0 P0).length) (8 - P0) 0 P0 = (0, P0) := by
      rcases Nat.lt_or_ge P0 8 with h8 | h8
      · rw [show 8 - P0 = (8 - P0 - 1) + 1 by omega, joinF, if_neg]
        intro hm
        obtain ⟨k, b, hb, _, _, b3⟩ := mem_frees.1 hm
        obtain ⟨c', j', e1, _, _, e4, _⟩ := leaves_range t 0 P0 b hw (List.mem_of_getElem? hb)
        have := Nat.two_pow_pos j'
        have hpp := Nat.two_pow_pos P0
        rw [mateV_nat, xor_pow, if_pos (by rw [Nat.zero_div])] at b3
        omega
      · rw [show 8 - P0 = 0 by omega]
        rfl
    refine ⟨0, P0, (hA hgl).trans hj, ok, ?_, by omega, hP⟩
    rw [hg, hgl]
    unfold progG
    have f1 : fromY (leaves t 0 P0) ((0 : Nat) : Int) = 0 := by
      have := from_split (P := []) (Q := leaves t 0 P0) (v := ((0 : Nat) : Int)) (by simp) (fun b hb => by
        obtain ⟨c', j', e1, _⟩ := leaves_range t 0 P0 b hw hb
        omega)
      simpa using this
    have f2 : fromY (leaves t 0 P0) ((0 + 2 ^ P0 : Nat) : Int) = (leaves t 0 P0).length := by
      have := from_split (P := leaves t 0 P0) (Q := []) (v := ((0 + 2 ^ P0 : Nat) : Int)) (fun b hb => by
        obtain ⟨c', j', e1, _, _, e4, _⟩ := leaves_range t 0 P0 b hw hb
        have := Nat.two_pow_pos j'
        omega) (by simp)
      simpa using this
    rw [f1, f2]
    simp [leaves]
  · obtain ⟨s', j', P, M, Q, g1, g2, g3, g4, g5, g6, g7, g8, g9⟩ := hB hgl
    refine ⟨s', j', g1, ok, ?_, by omega, by omega⟩
    rw [hg, g3]
    unfold progG
    have f1 : fromY (leaves t 0 P0) s' = P.length := by
      rw [g2, List.append_assoc]
      refine from_split g4 (fun b hb => ?_)
      rcases List.mem_append.1 hb with hb | hb
      · exact (g5 b hb).1
      · have := g6 b hb
        have := Nat.two_pow_pos j'
        omega
    have f2 : fromY (leaves t 0 P0) ((s' + 2 ^ j' : Nat) : Int) = (P ++ M).length := by
      rw [g2]
      refine from_split (fun b hb => ?_) g6
      rcases List.mem_append.1 hb with hb | hb
      · have := g4 b hb
        have := Nat.two_pow_pos j'
        omega
      · exact (g5 b hb).2
    rw [f1, f2, g2]
    congr 1
    · congr 1
      simp
    · simp

theorem okG_from {xs : List Bl} {p : Int} (hv : validY xs p = true) (a : Int) : okG xs a = true ↔ ∃ x, xs[fromY xs a]? = some x ∧ x.s = a ∧ x.u = true := by
  have hasc := asc_of_valid hv
  unfold okG
  obtain ⟨s1, s2⟩ := lastTo_spec xs a xs.length
  constructor
  · intro h
    obtain ⟨i, hi⟩ := Option.isSome_iff_exists.1 h
    obtain ⟨_, x, hx, e1, e2⟩ := s2 i hi
    have := from_start hasc hx
    rw [e1] at this
    exact ⟨x, by rw [this]; exact hx, e1, e2⟩
  · rintro ⟨x, hx, e1, e2⟩
    cases hc : lastTo xs a xs.length with
    | none => exact absurd ⟨e1, e2⟩ (s1 hc _ _ (List.getElem?_eq_some_iff.1 hx).1 hx)
    | some i => rfl
end Bud
end Go.Proofs.Ythihaclhlmpioaa
