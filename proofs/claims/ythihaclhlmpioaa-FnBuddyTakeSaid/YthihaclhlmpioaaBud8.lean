/- What is known of buddies that BuddyTake and BuddyGive return. No program, no conditions. -/
import Derived.Test.YthihaclhlmpioaaBud7
namespace Go.Proofs.Ythihaclhlmpioaa
namespace Bud
theorem valid_allI {xs : List Bl} {p : Int} (hv : validY xs p = true) : AllI xs := by
  intro k b hb
  obtain ⟨s, j, e1, e2, _, e4, e5, _⟩ := valid_mult hv hb
  have := Nat.two_pow_pos j
  exact ⟨⟨by omega, by omega⟩, ⟨by omega, by omega⟩⟩
theorem allI_nilY : AllI [] := fun k x hx => by simp at hx
theorem give_allY (xs : List Bl) (p a : Int) : AllI (if validY xs p = true then giveY xs p a else []) := by
  split
  · next h => exact valid_allI (giveY_valid h)
  · exact allI_nilY
theorem give_lenY (xs : List Bl) (p a : Int) : (if validY xs p = true then giveY xs p a else []).length ≤ 256 := by
  split
  · next h => exact (validY_len (giveY_valid h)).2.1
  · simp

/-- a free leaf among the leaves -/
theorem free_at : ∀ (t : BT) (s k a : Nat) (i m : Nat), wf t k → (leaves t s k)[i]? = some ⟨a, m, false⟩ → freeAtT t s k a m
  | .leaf u, s, k, a, i, m, _, h => by
    cases i with
    | zero =>
      simp [leaves] at h
      exact ⟨h.2.2, by omega, by omega⟩
    | succ i => simp [leaves] at h
  | .node l r, s, k, a, i, m, hw, h => by
    simp only [freeAtT]
    simp only [leaves] at h
    rcases Nat.lt_or_ge i (leaves l s (k - 1)).length with hi | hi
    · rw [List.getElem?_append_left hi] at h
      obtain ⟨c, j, e1, e2, e3, e4, _⟩ := leaves_range l s (k - 1) _ hw.2.1 (List.mem_of_getElem? h)
      have := Nat.two_pow_pos j
      simp only at e1
      rw [if_pos (by omega)]
      exact free_at l s (k - 1) a i m hw.2.1 h
    · rw [List.getElem?_append_right hi] at h
      obtain ⟨c, j, e1, e2, e3, e4, _⟩ := leaves_range r _ (k - 1) _ hw.2.2 (List.mem_of_getElem? h)
      simp only at e1
      rw [if_neg (by omega)]
      exact free_at r _ (k - 1) a _ m hw.2.2 h

theorem spine_leaves : ∀ (d s k : Nat), d ≤ k → leaves (spine d) s k = [⟨s, (k - d : Nat), true⟩] ++ halvesY s (k - d) d
  | 0, s, k, _ => by simp [spine, leaves, halvesY_zero]
  | d + 1, s, k, h => by
    simp only [spine, leaves]
    rw [spine_leaves d s (k - 1) (by omega), show k - 1 - d = k - (d + 1) by omega, halvesY_succ, show k - (d + 1) + d = k - 1 by omega]
    simp

/-- taking in the list is taking in the tree -/
theorem take_leaves : ∀ (t : BT) (s k a : Nat) (i m d : Nat), wf t k → (leaves t s k)[i]? = some ⟨a, m, false⟩ → d ≤ m →
    leaves (takeT t s k a d) s k = (leaves t s k).take i ++ ([⟨a, (m - d : Nat), true⟩] ++ halvesY a (m - d) d) ++ (leaves t s k).drop (i + 1)
  | .leaf u, s, k, a, i, m, d, _, h, hd => by
    cases i with
    | zero =>
      simp [leaves] at h
      obtain ⟨h1, h2, rfl⟩ := h
      obtain rfl : s = a := by omega
      obtain rfl : k = m := by omega
      simp only [takeT]
      rw [if_pos (by simp), spine_leaves d s k hd]
      simp [leaves]
    | succ i => simp [leaves] at h
  | .node l r, s, k, a, i, m, d, hw, h, hd => by
    simp only [takeT]
    simp only [leaves] at h
    rcases Nat.lt_or_ge i (leaves l s (k - 1)).length with hi | hi
    · rw [List.getElem?_append_left hi] at h
      obtain ⟨c, j, e1, e2, e3, e4, _⟩ := leaves_range l s (k - 1) _ hw.2.1 (List.mem_of_getElem? h)
      have := Nat.two_pow_pos j
      simp only at e1
      rw [if_pos (by omega)]
      simp only [leaves]
      rw [take_leaves l s (k - 1) a i m d hw.2.1 h hd, List.take_append_of_le_length (by omega), List.drop_append_of_le_length (by omega)]
      simp
    · rw [List.getElem?_append_right hi] at h
      obtain ⟨c, j, e1, e2, e3, e4, _⟩ := leaves_range r _ (k - 1) _ hw.2.2 (List.mem_of_getElem? h)
      simp only at e1
      rw [if_neg (by omega)]
      simp only [leaves]
      have e5 : (leaves l s (k - 1) ++ leaves r (s + 2 ^ (k - 1)) (k - 1)).take i = leaves l s (k - 1) ++ (leaves r (s + 2 ^ (k - 1)) (k - 1)).take (i - (leaves l s (k - 1)).length) := by
        rw [List.take_append, List.take_of_length_le hi]
      have e6 : (leaves l s (k - 1) ++ leaves r (s + 2 ^ (k - 1)) (k - 1)).drop (i + 1) = (leaves r (s + 2 ^ (k - 1)) (k - 1)).drop (i - (leaves l s (k - 1)).length + 1) := by
        rw [List.drop_append, List.drop_eq_nil_of_le (by omega), List.nil_append]
        congr 1
        omega
      rw [take_leaves r _ (k - 1) a _ m d hw.2.2 h hd, e5, e6]
      simp

/-- what BuddyTake does, in the tree -/
theorem takeY_tree {P : Nat} {t : BT} {size : Int} (hP : P ≤ 8) (hw : wf t P) (hr : red t) (hok : okY (leaves t 0 P) size = true) :
    ∃ (a m z : Nat), powW size = m ∧ startY (leaves t 0 P) size = a ∧ freeAtT t 0 P a z ∧ m ≤ z ∧ takeY (leaves t 0 P) size = leaves (takeT t 0 P a (z - m)) 0 P ∧ usedAt (takeT t 0 P a (z - m)) 0 P a ∧ a % 2 ^ m = 0 ∧ m ≤ 8 := by
  have hv := valid_of_tree hP hw hr
  obtain ⟨b, hb⟩ := Option.isSome_iff_exists.1 hok
  rcases powW_range size with hp | ⟨m, hp, hm8⟩
  · unfold bestY at hb
    rw [hp] at hb
    simp at hb
  · have hb' : Bks.bestTo (leaves t 0 P) m (leaves t 0 P).length = some b := by
      unfold bestY at hb
      rw [hp, if_neg (by omega)] at hb
      exact hb
    obtain ⟨hbl, x, hx, hf, _⟩ := (Bks.bestTo_spec _ m _ (Nat.le_refl _)).2 b hb'
    rw [Bks.fits_iff] at hf
    obtain ⟨a, z, e1, e2, e3, e4, e5, e6⟩ := valid_mult hv hx
    have hxe : x = ⟨a, z, false⟩ := by
      obtain ⟨x1, x2, x3⟩ := x
      simp only at e1 e2 hf
      rw [e1, e2, hf.1]
    subst hxe
    have hmz : m ≤ z := by have := hf.2; simp only at this; omega
    have htk : takeY (leaves t 0 P) size = leaves (takeT t 0 P a (z - m)) 0 P := by
      rw [take_leaves t 0 P a b z (z - m) hw hx (by omega), show z - (z - m) = m by omega]
      unfold takeY
      rw [hb]
      simp only [List.getD_eq_getElem?_getD, hx, Option.getD_some, takenY, hp, Int.toNat_natCast]
      simp
    refine ⟨a, m, z, hp, ?_, free_at t 0 P a b z hw hx, hmz, htk, ?_, ?_, hm8⟩
    · unfold startY
      rw [hb]
      simp only [List.getD_eq_getElem?_getD, hx, Option.getD_some]
    · have hw2 := take_wf t 0 P a z (z - m) hw (free_at t 0 P a b z hw hx) (by omega)
      refine used_of_mem _ 0 P a b m hw2 ?_
      rw [take_leaves t 0 P a b z (z - m) hw hx (by omega), show z - (z - m) = m by omega, List.append_assoc, List.getElem?_append_right (by rw [List.length_take]; omega), List.length_take, Nat.min_eq_left (by omega), Nat.sub_self]
      simp
    · have : 2 ^ m ∣ 2 ^ z := Nat.pow_dvd_pow 2 hmz
      exact Nat.mod_eq_zero_of_dvd (Nat.dvd_trans this (Nat.dvd_of_mod_eq_zero e3))

theorem takeY_not {xs : List Bl} {size : Int} (h : okY xs size = false) : takeY xs size = xs ∧ startY xs size = -1 := by
  unfold okY at h
  unfold takeY startY
  cases hb : bestY xs size with
  | none => exact ⟨rfl, rfl⟩
  | some k => rw [hb] at h; cases h
theorem takeY_valid {xs : List Bl} {p size : Int} (hv : validY xs p = true) : validY (takeY xs size) p = true := by
  cases ho : okY xs size
  · rw [(takeY_not ho).1]
    exact hv
  · obtain ⟨P, t, rfl, hP, hw, hr, rfl⟩ := tree_of_valid hv
    obtain ⟨a, m, z, _, _, h3, h4, h5, _, _, _⟩ := takeY_tree hP hw hr ho
    rw [h5]
    exact valid_of_tree hP (take_wf t 0 P a z (z - m) hw h3 (by omega)) (take_red t 0 P a (z - m) hr)
theorem take_allY (xs : List Bl) (p a : Int) : AllI (if validY xs p = true then takeY xs a else []) := by
  split
  · next h => exact valid_allI (takeY_valid h)
  · exact allI_nilY
theorem take_lenY (xs : List Bl) (p a : Int) : (if validY xs p = true then takeY xs a else []).length ≤ 256 := by
  split
  · next h => exact (validY_len (takeY_valid h)).2.1
  · simp
end Bud
end Go.Proofs.Ythihaclhlmpioaa
