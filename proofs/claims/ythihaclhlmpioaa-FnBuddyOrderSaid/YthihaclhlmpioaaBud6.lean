/- Plain mathematics of giving a buddy: joining in a list again and again is giving in the tree. No program, no conditions. -/
import Derived.Test.YthihaclhlmpioaaBud3
import Derived.Test.YthihaclhlmpioaaZa
import Derived.Test.YthihaclhlmpioaaZd
namespace Go.Proofs.Ythihaclhlmpioaa
namespace Bud

/-- the number of the first one of two halves -/
def lowG (b : Bl) (q : Nat) : Int := if mateV b.s b.z.toNat < b.s then (q : Int) - 1 else q
/-- the two that become one, if they do -/
def jstep (p : Int) (out : List Bl) (q : Nat) : Option Nat := match out[q]? with
  | none => none
  | some b => if b.z < p ∧ 0 ≤ lowG b q then
      match out[(lowG b q).toNat]?, out[(lowG b q).toNat + 1]? with
      | some x, some y => if x.u = false ∧ y.u = false ∧ x.z = y.z then some (lowG b q).toNat else none
      | _, _ => none
    else none
def joinAt (out : List Bl) (low : Nat) : List Bl := out.take low ++ [⟨(out.getD low default).s, (out.getD low default).z + 1, false⟩] ++ out.drop (low + 2)
def loopG (p : Int) : Nat → List Bl → Nat → List Bl
  | 0, out, _ => out
  | d + 1, out, q => match jstep p out q with
    | none => out
    | some low => loopG p d (joinAt out low) low

/-- the used leaf that begins with word a made free, and nothing joined -/
def freedT : BT → Nat → Nat → Nat → BT
  | .leaf u, s, _, a => if u = true ∧ s = a then .leaf false else .leaf u
  | .node l r, s, k, a => if a < s + 2 ^ (k - 1) then .node (freedT l s (k - 1) a) r else .node l (freedT r (s + 2 ^ (k - 1)) (k - 1) a)
def idxT : BT → Nat → Nat → Nat → Nat
  | .leaf _, _, _, _ => 0
  | .node l r, s, k, a => if a < s + 2 ^ (k - 1) then idxT l s (k - 1) a else (leaves l s (k - 1)).length + idxT r (s + 2 ^ (k - 1)) (k - 1) a
def ordT : BT → Nat → Nat → Nat → Nat
  | .leaf _, _, k, _ => k
  | .node l r, s, k, a => if a < s + 2 ^ (k - 1) then ordT l s (k - 1) a else ordT r (s + 2 ^ (k - 1)) (k - 1) a

theorem leaves_range : ∀ (t : BT) (s k : Nat) (b : Bl), wf t k → b ∈ leaves t s k → ∃ c j : Nat, b.s = c ∧ b.z = j ∧ s ≤ c ∧ c + 2 ^ j ≤ s + 2 ^ k ∧ j ≤ k
  | .leaf u, s, k, b, _, h => by
    simp [leaves] at h
    subst h
    exact ⟨s, k, rfl, rfl, Nat.le_refl _, Nat.le_refl _, Nat.le_refl _⟩
  | .node l r, s, k, b, hw, h => by
    have hp := pow_split hw.1
    have hpos := Nat.two_pow_pos (k - 1)
    simp only [leaves] at h
    rcases List.mem_append.1 h with h | h
    · obtain ⟨c, j, e1, e2, e3, e4, e5⟩ := leaves_range l s (k - 1) b hw.2.1 h
      exact ⟨c, j, e1, e2, e3, by omega, by omega⟩
    · obtain ⟨c, j, e1, e2, e3, e4, e5⟩ := leaves_range r _ (k - 1) b hw.2.2 h
      exact ⟨c, j, e1, e2, by omega, by omega, by omega⟩

theorem leaves_idx : ∀ (t : BT) (s k a : Nat), usedAt t s k a → (leaves t s k)[idxT t s k a]? = some ⟨a, ordT t s k a, true⟩ ∧ leaves (freedT t s k a) s k = (leaves t s k).set (idxT t s k a) ⟨a, ordT t s k a, false⟩
  | .leaf u, s, k, a, h => by
    obtain ⟨rfl, rfl⟩ := h
    simp [leaves, idxT, ordT, freedT]
  | .node l r, s, k, a, h => by
    simp only [usedAt, leaves, idxT, ordT, freedT] at h ⊢
    by_cases ha : a < s + 2 ^ (k - 1)
    · rw [if_pos ha] at h ⊢
      obtain ⟨h1, h2⟩ := leaves_idx l s (k - 1) a h
      have hl := (List.getElem?_eq_some_iff.1 h1).1
      rw [if_pos ha, if_pos ha, List.getElem?_append_left hl]
      refine ⟨h1, ?_⟩
      simp only [leaves]
      rw [h2, List.set_append_left _ _ hl]
    · rw [if_neg ha] at h ⊢
      obtain ⟨h1, h2⟩ := leaves_idx r (s + 2 ^ (k - 1)) (k - 1) a h
      rw [if_neg ha, if_neg ha, List.getElem?_append_right (by omega), Nat.add_sub_cancel_left]
      refine ⟨h1, ?_⟩
      simp only [leaves]
      rw [h2, List.set_append_right _ _ (by omega), Nat.add_sub_cancel_left]

theorem used_of_mem : ∀ (t : BT) (s k a : Nat) (i : Nat) (z : Int), wf t k → (leaves t s k)[i]? = some ⟨a, z, true⟩ → usedAt t s k a
  | .leaf u, s, k, a, i, z, _, h => by
    cases i with
    | zero =>
      simp [leaves] at h
      exact ⟨h.2.2, by omega⟩
    | succ i => simp [leaves] at h
  | .node l r, s, k, a, i, z, hw, h => by
    simp only [usedAt]
    simp only [leaves] at h
    rcases Nat.lt_or_ge i (leaves l s (k - 1)).length with hi | hi
    · rw [List.getElem?_append_left hi] at h
      obtain ⟨c, j, e1, e2, e3, e4, _⟩ := leaves_range l s (k - 1) _ hw.2.1 (List.mem_of_getElem? h)
      have := Nat.two_pow_pos j
      simp only at e1
      rw [if_pos (by omega)]
      exact used_of_mem l s (k - 1) a i z hw.2.1 h
    · rw [List.getElem?_append_right hi] at h
      obtain ⟨c, j, e1, e2, e3, e4, _⟩ := leaves_range r _ (k - 1) _ hw.2.2 (List.mem_of_getElem? h)
      simp only at e1
      rw [if_neg (by omega)]
      exact used_of_mem r _ (k - 1) a _ z hw.2.2 h

theorem mate_left {s k : Nat} (hk : 0 < k) (hs : s % 2 ^ k = 0) : mateV s (k - 1) = (s : Int) + 2 ^ (k - 1) := by
  have := (mod_half hk hs).2.2.1
  rw [mateV_nat, xor_pow, if_pos this, pow_int]
  simp
theorem mate_right {s k : Nat} (hk : 0 < k) (hs : s % 2 ^ k = 0) : mateV (s + 2 ^ (k - 1) : Nat) (k - 1) = (s : Int) := by
  have := (mod_half hk hs).2.2.2
  rw [mateV_nat, xor_pow, if_neg (by omega)]
  congr 1
  omega

theorem jstep_left {p s k : Nat} {P Q : List Bl} {y : Bl} (hk : 0 < k) (hkp : k ≤ p) (hs : s % 2 ^ k = 0) : jstep p (P ++ [⟨s, (k - 1 : Nat), false⟩] ++ y :: Q) P.length = if y.u = false ∧ y.z = (k - 1 : Nat) then some P.length else none := by
  have hm := mate_left hk hs
  have hpos : (0 : Int) < 2 ^ (k - 1) := by rw [pow_int]; have := Nat.two_pow_pos (k - 1); omega
  have e0 : (P ++ [(⟨s, (k - 1 : Nat), false⟩ : Bl)] ++ y :: Q)[P.length]? = some ⟨s, (k - 1 : Nat), false⟩ := by simp
  have e1 : (P ++ [(⟨s, (k - 1 : Nat), false⟩ : Bl)] ++ y :: Q)[P.length + 1]? = some y := by simp
  have hlow : lowG ⟨s, (k - 1 : Nat), false⟩ P.length = P.length := by
    unfold lowG
    simp only [Int.toNat_natCast]
    rw [if_neg (by omega)]
  unfold jstep
  rw [e0]
  simp only [hlow, Int.toNat_natCast, e0, e1]
  rw [if_pos ⟨by omega, by omega⟩]
  by_cases h : y.u = false ∧ y.z = (k - 1 : Nat)
  · rw [if_pos h, if_pos ⟨trivial, h.1, h.2.symm⟩]
  · rw [if_neg h, if_neg (fun hh => h ⟨hh.2.1, hh.2.2.symm⟩)]

theorem jstep_right {p s k : Nat} {P Q : List Bl} {x : Bl} (hk : 0 < k) (hkp : k ≤ p) (hs : s % 2 ^ k = 0) : jstep p (P ++ [x] ++ ⟨(s + 2 ^ (k - 1) : Nat), (k - 1 : Nat), false⟩ :: Q) (P.length + 1) = if x.u = false ∧ x.z = (k - 1 : Nat) then some P.length else none := by
  have hm := mate_right hk hs
  have hpos := Nat.two_pow_pos (k - 1)
  have e0 : (P ++ [x] ++ (⟨(s + 2 ^ (k - 1) : Nat), (k - 1 : Nat), false⟩ : Bl) :: Q)[P.length + 1]? = some ⟨(s + 2 ^ (k - 1) : Nat), (k - 1 : Nat), false⟩ := by simp
  have e1 : (P ++ [x] ++ (⟨(s + 2 ^ (k - 1) : Nat), (k - 1 : Nat), false⟩ : Bl) :: Q)[P.length]? = some x := by simp
  have hlow : lowG ⟨(s + 2 ^ (k - 1) : Nat), (k - 1 : Nat), false⟩ (P.length + 1) = P.length := by
    unfold lowG
    simp only [Int.toNat_natCast]
    rw [if_pos (show mateV ((s + 2 ^ (k - 1) : Nat) : Int) (k - 1) < ((s + 2 ^ (k - 1) : Nat) : Int) by rw [hm]; omega)]
    omega
  unfold jstep
  rw [e0]
  simp only [hlow, Int.toNat_natCast, e0, e1]
  rw [if_pos ⟨by omega, by omega⟩]
  by_cases h : x.u = false ∧ x.z = (k - 1 : Nat)
  · rw [if_pos h, if_pos ⟨h.1, trivial, h.2⟩]
  · rw [if_neg h, if_neg (fun hh => h ⟨hh.1, hh.2.2⟩)]

theorem joinAt_two (P Q : List Bl) (x y : Bl) : joinAt (P ++ [x] ++ y :: Q) P.length = P ++ [⟨x.s, x.z + 1, false⟩] ++ Q := by
  unfold joinAt
  have e0 : (P ++ [x] ++ y :: Q).getD P.length default = x := by simp [List.getD]
  rw [e0]
  congr 1
  · congr 1
    simp
  · simp

theorem give_loop : ∀ (t : BT) (s k a p : Nat) (P R : List Bl), wf t k → red t → usedAt t s k a → s % 2 ^ k = 0 → k ≤ p →
    (giveT t s k a = .leaf false → loopG p (p - ordT t s k a) (P ++ leaves (freedT t s k a) s k ++ R) (P.length + idxT t s k a) = loopG p (p - k) (P ++ [⟨s, k, false⟩] ++ R) P.length) ∧
    (giveT t s k a ≠ .leaf false → loopG p (p - ordT t s k a) (P ++ leaves (freedT t s k a) s k ++ R) (P.length + idxT t s k a) = P ++ leaves (giveT t s k a) s k ++ R)
  | .leaf u, s, k, a, p, P, R, _, _, h, _, _ => by
    obtain ⟨rfl, rfl⟩ := h
    simp [giveT, freedT, leaves, ordT, idxT]
  | .node l r, s, k, a, p, P, R, hw, hr, h, hs, hkp => by
    have hk := hw.1
    obtain ⟨m1, m2, _, _⟩ := mod_half hk hs
    simp only [usedAt] at h
    have hz1 : ((k - 1 : Nat) : Int) + 1 = (k : Int) := by omega
    by_cases ha : a < s + 2 ^ (k - 1)
    · rw [if_pos ha] at h
      obtain ⟨ihA, ihB⟩ := give_loop l s (k - 1) a p P (leaves r (s + 2 ^ (k - 1)) (k - 1) ++ R) hw.2.1 hr.1 h m1 (by omega)
      have e1 : leaves (freedT (.node l r) s k a) s k = leaves (freedT l s (k - 1) a) s (k - 1) ++ leaves r (s + 2 ^ (k - 1)) (k - 1) := by
        simp only [freedT]
        rw [if_pos ha]
        rfl
      have e2 : idxT (.node l r) s k a = idxT l s (k - 1) a := by simp only [idxT]; rw [if_pos ha]
      have e3 : ordT (.node l r) s k a = ordT l s (k - 1) a := by simp only [ordT]; rw [if_pos ha]
      have e4 : giveT (.node l r) s k a = mk (giveT l s (k - 1) a) r := by simp only [giveT]; rw [if_pos ha]
      have e5 : P ++ leaves (freedT (.node l r) s k a) s k ++ R = P ++ leaves (freedT l s (k - 1) a) s (k - 1) ++ (leaves r (s + 2 ^ (k - 1)) (k - 1) ++ R) := by rw [e1]; simp
      rw [e5, e2, e3, e4]
      by_cases hg : giveT l s (k - 1) a = .leaf false
      · rw [ihA hg, hg, show p - (k - 1) = (p - k) + 1 by omega, loopG]
        obtain ⟨y, q, ey, _, hy⟩ := leaves_first r (s + 2 ^ (k - 1)) (k - 1) hw.2.2
        rw [ey, List.cons_append, jstep_left hk hkp hs]
        by_cases hrl : r = .leaf false
        · subst hrl
          simp only [leaves] at ey
          injection ey with ey1 ey2
          subst ey1 ey2
          rw [if_pos ⟨rfl, rfl⟩, mk_free]
          refine ⟨fun _ => ?_, fun hh => absurd rfl hh⟩
          show loopG p (p - k) (joinAt _ P.length) P.length = _
          rw [List.nil_append, joinAt_two]
          simp only [hz1]
        · rw [if_neg (by
            rintro ⟨hu, hz⟩
            rcases hy with ⟨h1, _⟩ | ⟨_, _, _, j, hj, hlt⟩
            · rw [hu] at h1
              exact hrl h1
            · omega), mk_node (fun hh => hrl hh.2)]
          refine ⟨(fun hh => by cases hh), fun _ => ?_⟩
          show P ++ [_] ++ (y :: (q ++ R)) = _
          simp only [leaves]
          rw [ey]
          simp
      · rw [ihB hg, mk_node (fun hh => hg hh.1)]
        refine ⟨(fun hh => by cases hh), fun _ => ?_⟩
        simp [leaves]
    · rw [if_neg ha] at h
      obtain ⟨ihA, ihB⟩ := give_loop r (s + 2 ^ (k - 1)) (k - 1) a p (P ++ leaves l s (k - 1)) R hw.2.2 hr.2.1 h m2 (by omega)
      have e1 : leaves (freedT (.node l r) s k a) s k = leaves l s (k - 1) ++ leaves (freedT r (s + 2 ^ (k - 1)) (k - 1) a) (s + 2 ^ (k - 1)) (k - 1) := by
        simp only [freedT]
        rw [if_neg ha]
        rfl
      have e2 : idxT (.node l r) s k a = (leaves l s (k - 1)).length + idxT r (s + 2 ^ (k - 1)) (k - 1) a := by simp only [idxT]; rw [if_neg ha]
      have e3 : ordT (.node l r) s k a = ordT r (s + 2 ^ (k - 1)) (k - 1) a := by simp only [ordT]; rw [if_neg ha]
      have e4 : giveT (.node l r) s k a = mk l (giveT r (s + 2 ^ (k - 1)) (k - 1) a) := by simp only [giveT]; rw [if_neg ha]
      have e5 : P ++ leaves (freedT (.node l r) s k a) s k ++ R = P ++ leaves l s (k - 1) ++ leaves (freedT r (s + 2 ^ (k - 1)) (k - 1) a) (s + 2 ^ (k - 1)) (k - 1) ++ R := by rw [e1]; simp
      have e6 : P.length + ((leaves l s (k - 1)).length + idxT r (s + 2 ^ (k - 1)) (k - 1) a) = (P ++ leaves l s (k - 1)).length + idxT r (s + 2 ^ (k - 1)) (k - 1) a := by rw [List.length_append]; omega
      rw [e5, e2, e3, e4, e6]
      by_cases hg : giveT r (s + 2 ^ (k - 1)) (k - 1) a = .leaf false
      · rw [ihA hg, hg, show p - (k - 1) = (p - k) + 1 by omega, loopG]
        obtain ⟨q, y, ey, hy⟩ := leaves_last l s (k - 1) hw.2.1
        rw [ey]
        have e7 : P ++ (q ++ [y]) ++ [(⟨(s + 2 ^ (k - 1) : Nat), (k - 1 : Nat), false⟩ : Bl)] ++ R = (P ++ q) ++ [y] ++ ⟨(s + 2 ^ (k - 1) : Nat), (k - 1 : Nat), false⟩ :: R := by simp
        have e8 : (P ++ (q ++ [y])).length = (P ++ q).length + 1 := by simp; omega
        rw [e7, e8, jstep_right hk hkp hs]
        by_cases hll : l = .leaf false
        · subst hll
          simp only [leaves] at ey
          have hq : q = [] := by
            cases q with
            | nil => rfl
            | cons a q => simp at ey
          subst hq
          simp at ey
          subst ey
          rw [if_pos ⟨rfl, rfl⟩, mk_free]
          refine ⟨fun _ => ?_, fun hh => absurd rfl hh⟩
          show loopG p (p - k) (joinAt _ (P ++ []).length) (P ++ []).length = _
          rw [joinAt_two]
          simp only [hz1, List.append_nil]
        · rw [if_neg (by
            rintro ⟨hu, hz⟩
            rcases hy with ⟨h1, _⟩ | ⟨_, _, _, j, hj, hlt⟩
            · rw [hu] at h1
              exact hll h1
            · omega), mk_node (fun hh => hll hh.1)]
          refine ⟨(fun hh => by cases hh), fun _ => ?_⟩
          show (P ++ q) ++ [y] ++ _ :: R = _
          simp only [leaves]
          rw [ey]
          simp
      · rw [ihB hg, mk_node (fun hh => hg hh.2)]
        refine ⟨(fun hh => by cases hh), fun _ => ?_⟩
        simp [leaves]

/-- the last one of the first k that is used and begins with word a -/
def lastTo (xs : List Bl) (a : Int) : Nat → Option Nat
  | 0 => none
  | k + 1 => match xs[k]? with
    | none => lastTo xs a k
    | some b => if b.s = a ∧ b.u = true then some k else lastTo xs a k

theorem lastTo_spec (xs : List Bl) (a : Int) : ∀ k, (lastTo xs a k = none → ∀ (j : Nat) (y : Bl), j < k → xs[j]? = some y → ¬ (y.s = a ∧ y.u = true)) ∧ (∀ i, lastTo xs a k = some i → i < k ∧ ∃ x, xs[i]? = some x ∧ x.s = a ∧ x.u = true)
  | 0 => ⟨fun _ j y hj => by omega, fun i h => by cases h⟩
  | k + 1 => by
    obtain ⟨h1, h2⟩ := lastTo_spec xs a k
    unfold lastTo
    cases hx : xs[k]? with
    | none =>
      refine ⟨fun h j y hj hy => ?_, fun i h => ?_⟩
      · rcases Nat.lt_or_ge j k with hh | hh
        · exact h1 h j y hh hy
        · obtain rfl : j = k := by omega
          rw [hx] at hy
          cases hy
      · obtain ⟨e1, e2⟩ := h2 i h
        exact ⟨by omega, e2⟩
    | some b =>
      by_cases hb : b.s = a ∧ b.u = true
      · simp only [hb, and_self, if_true]
        refine ⟨(fun h => by cases h), fun i h => ?_⟩
        injection h with h
        subst h
        exact ⟨by omega, b, hx, hb.1, hb.2⟩
      · simp only [hb, if_false]
        refine ⟨fun h j y hj hy => ?_, fun i h => ?_⟩
        · rcases Nat.lt_or_ge j k with hh | hh
          · exact h1 h j y hh hy
          · obtain rfl : j = k := by omega
            rw [hx] at hy
            injection hy with hy
            subst hy
            exact hb
        · obtain ⟨e1, e2⟩ := h2 i h
          exact ⟨by omega, e2⟩

/-- BuddyGive in a list -/
def giveY (xs : List Bl) (p a : Int) : List Bl := match lastTo xs a xs.length with
  | none => xs
  | some k => loopG p (p.toNat - (xs.getD k default).z.toNat) (xs.set k ⟨(xs.getD k default).s, (xs.getD k default).z, false⟩) k
def okG (xs : List Bl) (a : Int) : Bool := (lastTo xs a xs.length).isSome

/-- giving in the list is giving in the tree -/
theorem giveY_tree {t : BT} {p a : Nat} (hp : p ≤ 8) (hw : wf t p) (hr : red t) (hu : usedAt t 0 p a) : okG (leaves t 0 p) a = true ∧ giveY (leaves t 0 p) p a = leaves (giveT t 0 p a) 0 p := by
  have hv : validY (leaves t 0 p) p = true := by
    rw [validY_chain]
    exact ⟨by omega, by omega, valid_tree.2 ⟨t, by simpa using hw, hr, by simp⟩⟩
  have hasc := asc_of_valid hv
  obtain ⟨h1, h2⟩ := leaves_idx t 0 p a hu
  have hlt : (lastTo (leaves t 0 p) a (leaves t 0 p).length) = some (idxT t 0 p a) := by
    obtain ⟨s1, s2⟩ := lastTo_spec (leaves t 0 p) a (leaves t 0 p).length
    cases hc : lastTo (leaves t 0 p) a (leaves t 0 p).length with
    | none => exact absurd ⟨rfl, rfl⟩ (s1 hc _ _ (List.getElem?_eq_some_iff.1 h1).1 h1)
    | some i =>
      obtain ⟨_, x, hx, e1, _⟩ := s2 i hc
      rcases Nat.lt_trichotomy i (idxT t 0 p a) with hh | hh | hh
      · have := hasc _ _ _ _ hh hx h1
        simp only at this
        omega
      · rw [hh]
      · have := hasc _ _ _ _ hh h1 hx
        simp only at this
        omega
  refine ⟨by unfold okG; rw [hlt]; rfl, ?_⟩
  unfold giveY
  rw [hlt]
  simp only [List.getD_eq_getElem?_getD, h1, Option.getD_some, Int.toNat_natCast]
  rw [← h2]
  have := give_loop t 0 p a p [] [] hw hr hu (by simp) (Nat.le_refl _)
  simp only [List.nil_append, List.append_nil, List.length_nil, Nat.zero_add, Nat.sub_self] at this
  by_cases hg : giveT t 0 p a = .leaf false
  · rw [this.1 hg, hg]
    rfl
  · exact this.2 hg

theorem okG_iff {t : BT} {p : Nat} {a : Int} (hw : wf t p) : okG (leaves t 0 p) a = true ↔ ∃ c : Nat, a = c ∧ usedAt t 0 p c := by
  unfold okG
  obtain ⟨s1, s2⟩ := lastTo_spec (leaves t 0 p) a (leaves t 0 p).length
  constructor
  · intro h
    obtain ⟨i, hi⟩ := Option.isSome_iff_exists.1 h
    obtain ⟨_, x, hx, e1, e2⟩ := s2 i hi
    obtain ⟨c, j, f1, f2, _⟩ := leaves_range t 0 p x hw (List.mem_of_getElem? hx)
    refine ⟨c, by omega, used_of_mem t 0 p c i j hw ?_⟩
    rw [hx]
    obtain ⟨xs, xz, xu⟩ := x
    simp only at e1 e2 f1 f2
    rw [f1, f2, e2]
  · rintro ⟨c, rfl, hu⟩
    obtain ⟨h1, _⟩ := leaves_idx t 0 p c hu
    cases hc : lastTo (leaves t 0 p) c (leaves t 0 p).length with
    | none => exact absurd ⟨rfl, rfl⟩ (s1 hc _ _ (List.getElem?_eq_some_iff.1 h1).1 h1)
    | some i => rfl
theorem giveY_not {xs : List Bl} {p a : Int} (h : okG xs a = false) : giveY xs p a = xs := by
  unfold okG at h
  unfold giveY
  cases hc : lastTo xs a xs.length with
  | none => rfl
  | some i => rw [hc] at h; cases h

/-- the tree of valid buddies -/
theorem tree_of_valid {xs : List Bl} {p : Int} (hv : validY xs p = true) : ∃ (P : Nat) (t : BT), p = P ∧ P ≤ 8 ∧ wf t P ∧ red t ∧ xs = leaves t 0 P := by
  obtain ⟨h0, h8, h⟩ := (validY_chain xs p).1 hv
  obtain ⟨t, h1, h2, h3⟩ := valid_tree.1 h
  exact ⟨p.toNat, t, by omega, by omega, h1, h2, h3⟩
theorem valid_of_tree {P : Nat} {t : BT} (hP : P ≤ 8) (hw : wf t P) (hr : red t) : validY (leaves t 0 P) P = true := by
  rw [validY_chain]
  exact ⟨by omega, by omega, valid_tree.2 ⟨t, by simpa using hw, hr, by simp⟩⟩

theorem giveY_valid {xs : List Bl} {p a : Int} (hv : validY xs p = true) : validY (giveY xs p a) p = true := by
  cases ho : okG xs a
  · rw [giveY_not ho]
    exact hv
  · obtain ⟨P, t, rfl, hP, hw, hr, rfl⟩ := tree_of_valid hv
    obtain ⟨c, rfl, hu⟩ := (okG_iff hw).1 ho
    rw [(giveY_tree hP hw hr hu).2]
    exact valid_of_tree hP (give_wf t 0 P c hw) (give_red t 0 P c hr)
end Bud
end Go.Proofs.Ythihaclhlmpioaa
