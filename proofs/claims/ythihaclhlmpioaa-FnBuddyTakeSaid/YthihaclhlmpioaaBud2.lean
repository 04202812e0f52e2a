/- Plain mathematics of buddies: taking and giving, said by trees. Giving back what was taken leads back; the order of giving does not matter; free words. No program, no conditions. -/
import Derived.Test.YthihaclhlmpioaaBud
namespace Go.Proofs.Ythihaclhlmpioaa
namespace Bud

/-- two halves; if both are free, one -/
def mk (l r : BT) : BT := if l = .leaf false ∧ r = .leaf false then .leaf false else .node l r

theorem mk_node {l r : BT} (h : ¬ (l = .leaf false ∧ r = .leaf false)) : mk l r = .node l r := if_neg h
theorem mk_free : mk (.leaf false) (.leaf false) = .leaf false := if_pos ⟨rfl, rfl⟩

/-- the used buddy that begins with word a becomes free -/
def giveT : BT → Nat → Nat → Nat → BT
  | .leaf u, s, _, a => if u = true ∧ s = a then .leaf false else .leaf u
  | .node l r, s, k, a => if a < s + 2 ^ (k - 1) then mk (giveT l s (k - 1) a) r else mk l (giveT r (s + 2 ^ (k - 1)) (k - 1) a)

theorem give_free_leaf (s k a : Nat) : giveT (.leaf false) s k a = .leaf false := by simp [giveT]

theorem give_mk (l r : BT) (s k a : Nat) : giveT (mk l r) s k a = if a < s + 2 ^ (k - 1) then mk (giveT l s (k - 1) a) r else mk l (giveT r (s + 2 ^ (k - 1)) (k - 1) a) := by
  by_cases h : l = .leaf false ∧ r = .leaf false
  · obtain ⟨rfl, rfl⟩ := h
    rw [mk_free, give_free_leaf, give_free_leaf, give_free_leaf, mk_free]
    simp
  · rw [mk_node h]
    rfl

/-- the order of giving does not matter -/
theorem give_comm (t : BT) (s k a b : Nat) : giveT (giveT t s k a) s k b = giveT (giveT t s k b) s k a := by
  induction t generalizing s k with
  | leaf u =>
    cases u
    · simp [giveT]
    · simp only [giveT]
      by_cases ha : s = a <;> by_cases hb : s = b <;> simp [giveT, ha, hb]
      all_goals simp_all [giveT]
  | node l r ihl ihr =>
    simp only [giveT]
    by_cases ha : a < s + 2 ^ (k - 1)
    · by_cases hb : b < s + 2 ^ (k - 1)
      · rw [if_pos ha, if_pos hb, give_mk, give_mk, if_pos ha, if_pos hb, ihl]
      · rw [if_pos ha, if_neg hb, give_mk, give_mk, if_pos ha, if_neg hb]
    · by_cases hb : b < s + 2 ^ (k - 1)
      · rw [if_neg ha, if_pos hb, give_mk, give_mk, if_neg ha, if_pos hb]
      · rw [if_neg ha, if_neg hb, give_mk, give_mk, if_neg ha, if_neg hb, ihr]

/-- a free buddy divided again and again, the first part used: order k down to order m -/
def spine : Nat → BT
  | 0 => .leaf true
  | d + 1 => .node (spine d) (.leaf false)

theorem spine_ne (d : Nat) : spine d ≠ .leaf false := by cases d <;> simp [spine]

/-- the free buddy that begins with word a is divided d times -/
def takeT : BT → Nat → Nat → Nat → Nat → BT
  | .leaf u, s, _, a, d => if u = false ∧ s = a then spine d else .leaf u
  | .node l r, s, k, a, d => if a < s + 2 ^ (k - 1) then .node (takeT l s (k - 1) a d) r else .node l (takeT r (s + 2 ^ (k - 1)) (k - 1) a d)

theorem give_spine : ∀ (d s k : Nat), d ≤ k → giveT (spine d) s k s = .leaf false
  | 0, s, k, _ => by simp [spine, giveT]
  | d + 1, s, k, h => by
    simp only [spine, giveT]
    rw [if_pos (by have := Nat.two_pow_pos (k - 1); omega), give_spine d s (k - 1) (by omega), mk_free]

theorem mk_of_red {l r : BT} (h : red (.node l r)) : mk l r = .node l r := mk_node h.2.2

/-- a used leaf begins with word a -/
def usedAt : BT → Nat → Nat → Nat → Prop
  | .leaf u, s, _, a => u = true ∧ s = a
  | .node l r, s, k, a => if a < s + 2 ^ (k - 1) then usedAt l s (k - 1) a else usedAt r (s + 2 ^ (k - 1)) (k - 1) a
/-- a free leaf of order m begins with word a -/
def freeAtT : BT → Nat → Nat → Nat → Nat → Prop
  | .leaf u, s, k, a, m => u = false ∧ s = a ∧ k = m
  | .node l r, s, k, a, m => if a < s + 2 ^ (k - 1) then freeAtT l s (k - 1) a m else freeAtT r (s + 2 ^ (k - 1)) (k - 1) a m

/-- giving back what was taken leads back -/
theorem give_take (t : BT) : ∀ (s k a m d : Nat), red t → freeAtT t s k a m → d ≤ m → giveT (takeT t s k a d) s k a = t := by
  induction t with
  | leaf u =>
    intro s k a m d _ hf hd
    obtain ⟨rfl, rfl, rfl⟩ := hf
    simp only [takeT]
    rw [if_pos (by simp)]
    exact give_spine d s k hd
  | node l r ihl ihr =>
    intro s k a m d hr hf hd
    simp only [takeT, freeAtT] at hf ⊢
    by_cases ha : a < s + 2 ^ (k - 1)
    · rw [if_pos ha] at hf ⊢
      simp only [giveT]
      rw [if_pos ha, ihl s (k - 1) a m d hr.1 hf hd, mk_of_red hr]
    · rw [if_neg ha] at hf ⊢
      simp only [giveT]
      rw [if_neg ha, ihr _ (k - 1) a m d hr.2.1 hf hd, mk_of_red hr]

theorem red_mk {l r : BT} (hl : red l) (hr : red r) : red (mk l r) := by
  unfold mk
  split
  · trivial
  · next h => exact ⟨hl, hr, h⟩
theorem wf_mk {l r : BT} {k : Nat} (hk : 0 < k) (hl : wf l (k - 1)) (hr : wf r (k - 1)) : wf (mk l r) k := by
  unfold mk
  split
  · trivial
  · exact ⟨hk, hl, hr⟩

theorem give_red (t : BT) : ∀ s k a, red t → red (giveT t s k a) := by
  induction t with
  | leaf u => intro s k a _; simp only [giveT]; split <;> trivial
  | node l r ihl ihr =>
    intro s k a h
    simp only [giveT]
    split
    · exact red_mk (ihl _ _ _ h.1) h.2.1
    · exact red_mk h.1 (ihr _ _ _ h.2.1)
theorem give_wf (t : BT) : ∀ s k a, wf t k → wf (giveT t s k a) k := by
  induction t with
  | leaf u => intro s k a _; simp only [giveT]; split <;> trivial
  | node l r ihl ihr =>
    intro s k a h
    simp only [giveT]
    split
    · exact wf_mk h.1 (ihl _ _ _ h.2.1) h.2.2
    · exact wf_mk h.1 h.2.1 (ihr _ _ _ h.2.2)

theorem spine_red : ∀ d, red (spine d)
  | 0 => trivial
  | d + 1 => ⟨spine_red d, trivial, fun h => spine_ne d h.1⟩
theorem spine_wf : ∀ d k, d ≤ k → wf (spine d) k
  | 0, _, _ => trivial
  | d + 1, k, h => ⟨by omega, spine_wf d (k - 1) (by omega), trivial⟩

theorem take_ne (t : BT) (s k a d : Nat) (h : takeT t s k a d = .leaf false) : t = .leaf false := by
  cases t with
  | leaf u =>
    simp only [takeT] at h
    split at h
    · exact absurd h (spine_ne d)
    · exact h
  | node l r =>
    simp only [takeT] at h
    split at h <;> cases h

theorem take_red (t : BT) : ∀ s k a d, red t → red (takeT t s k a d) := by
  induction t with
  | leaf u =>
    intro s k a d _
    simp only [takeT]
    split
    · exact spine_red d
    · trivial
  | node l r ihl ihr =>
    intro s k a d h
    simp only [takeT]
    split
    · exact ⟨ihl _ _ _ _ h.1, h.2.1, fun hh => h.2.2 ⟨take_ne _ _ _ _ _ hh.1, hh.2⟩⟩
    · exact ⟨h.1, ihr _ _ _ _ h.2.1, fun hh => h.2.2 ⟨hh.1, take_ne _ _ _ _ _ hh.2⟩⟩
theorem take_wf (t : BT) : ∀ s k a m d, wf t k → freeAtT t s k a m → d ≤ m → wf (takeT t s k a d) k := by
  induction t with
  | leaf u =>
    intro s k a m d _ hf hd
    obtain ⟨rfl, rfl, rfl⟩ := hf
    simp only [takeT]
    rw [if_pos (by simp)]
    exact spine_wf d k hd
  | node l r ihl ihr =>
    intro s k a m d h hf hd
    simp only [takeT, freeAtT] at hf ⊢
    by_cases ha : a < s + 2 ^ (k - 1)
    · rw [if_pos ha] at hf ⊢
      exact ⟨h.1, ihl _ _ _ m _ h.2.1 hf hd, h.2.2⟩
    · rw [if_neg ha] at hf ⊢
      exact ⟨h.1, h.2.1, ihr _ _ _ m _ h.2.2 hf hd⟩

/-- free words -/
def freeT : BT → Nat → Nat
  | .leaf u, k => if u = true then 0 else 2 ^ k
  | .node l r, k => freeT l (k - 1) + freeT r (k - 1)

theorem free_mk {l r : BT} {k : Nat} (hk : 0 < k) : freeT (mk l r) k = freeT l (k - 1) + freeT r (k - 1) := by
  unfold mk
  split
  · next h =>
    obtain ⟨rfl, rfl⟩ := h
    simp only [freeT]
    rw [pow_split hk]
    rfl
  · rfl

theorem free_le (t : BT) : ∀ k, wf t k → freeT t k ≤ 2 ^ k := by
  induction t with
  | leaf u => intro k _; have := Nat.two_pow_pos k; simp only [freeT]; split <;> omega
  | node l r ihl ihr =>
    intro k h
    have := ihl _ h.2.1
    have := ihr _ h.2.2
    have := pow_split h.1
    simp only [freeT]
    omega

/-- all words are free exactly if there is one free buddy -/
theorem free_all (t : BT) : ∀ k, wf t k → red t → freeT t k = 2 ^ k → t = .leaf false := by
  induction t with
  | leaf u =>
    intro k _ _ h
    cases u
    · rfl
    · simp only [freeT] at h
      have := Nat.two_pow_pos k
      simp at h
      omega
  | node l r ihl ihr =>
    intro k hw hr h
    have h1 := free_le l _ hw.2.1
    have h2 := free_le r _ hw.2.2
    have hp := pow_split hw.1
    simp only [freeT] at h
    have e1 := ihl _ hw.2.1 hr.1 (by omega)
    have e2 := ihr _ hw.2.2 hr.2.1 (by omega)
    exact absurd ⟨e1, e2⟩ hr.2.2

/-- giving frees words -/
theorem give_free_lt (t : BT) : ∀ s k a, wf t k → usedAt t s k a → freeT t k < freeT (giveT t s k a) k := by
  induction t with
  | leaf u =>
    intro s k a _ h
    obtain ⟨rfl, rfl⟩ := h
    simp only [giveT]
    rw [if_pos (by simp)]
    simp only [freeT]
    have := Nat.two_pow_pos k
    simp
    exact this
  | node l r ihl ihr =>
    intro s k a hw h
    simp only [giveT, usedAt] at h ⊢
    by_cases ha : a < s + 2 ^ (k - 1)
    · rw [if_pos ha] at h ⊢
      rw [free_mk hw.1]
      have := ihl _ _ _ hw.2.1 h
      simp only [freeT]
      omega
    · rw [if_neg ha] at h ⊢
      rw [free_mk hw.1]
      have := ihr _ _ _ hw.2.2 h
      simp only [freeT]
      omega

theorem spine_free : ∀ (d k : Nat), d ≤ k → freeT (spine d) k + 2 ^ (k - d) = 2 ^ k
  | 0, k, _ => by simp [spine, freeT]
  | d + 1, k, h => by
    have := spine_free d (k - 1) (by omega)
    have hp := pow_split (k := k) (by omega)
    have e : k - 1 - d = k - (d + 1) := by omega
    rw [e] at this
    simp only [spine, freeT]
    simp
    omega

/-- taking uses as many words as the order asks -/
theorem take_free (t : BT) : ∀ s k a m d, wf t k → freeAtT t s k a m → d ≤ m → freeT (takeT t s k a d) k + 2 ^ (m - d) = freeT t k := by
  induction t with
  | leaf u =>
    intro s k a m d _ hf hd
    obtain ⟨rfl, rfl, rfl⟩ := hf
    simp only [takeT]
    rw [if_pos (by simp)]
    have := spine_free d k hd
    simp only [freeT]
    simp
    exact this
  | node l r ihl ihr =>
    intro s k a m d h hf hd
    simp only [takeT, freeAtT] at hf ⊢
    by_cases ha : a < s + 2 ^ (k - 1)
    · rw [if_pos ha] at hf ⊢
      have := ihl _ _ _ m _ h.2.1 hf hd
      simp only [freeT]
      omega
    · rw [if_neg ha] at hf ⊢
      have := ihr _ _ _ m _ h.2.2 hf hd
      simp only [freeT]
      omega
end Bud
end Go.Proofs.Ythihaclhlmpioaa
