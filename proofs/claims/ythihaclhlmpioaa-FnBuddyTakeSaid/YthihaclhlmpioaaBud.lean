/- Plain mathematics of buddies: valid buddies are the leaves of a tree in which no two halves are both free. No program, no conditions. (A buddy is kept as a Bl whose z is its order.) -/
import Derived.Test.YthihaclhlmpioaaMath
namespace Go.Proofs.Ythihaclhlmpioaa
namespace Bud

inductive BT where
  | leaf (u : Bool)
  | node (l r : BT)
  deriving DecidableEq

/-- the leaves of a tree that begins with word s and has 2^k words -/
def leaves : BT → Nat → Nat → List Bl
  | .leaf u, s, k => [⟨s, k, u⟩]
  | .node l r, s, k => leaves l s (k - 1) ++ leaves r (s + 2 ^ (k - 1)) (k - 1)

def wf : BT → Nat → Prop
  | .leaf _, _ => True
  | .node l r, k => 0 < k ∧ wf l (k - 1) ∧ wf r (k - 1)

/-- no two halves are both free -/
def red : BT → Prop
  | .leaf _ => True
  | .node l r => red l ∧ red r ∧ ¬ (l = .leaf false ∧ r = .leaf false)

/-- what is asked of one buddy that begins with word a, behind the buddy before it -/
def okAt (p a : Nat) (prev : Option Bl) (b : Bl) (j : Nat) : Prop :=
  b.s = a ∧ b.z = j ∧ j ≤ p ∧ a % 2 ^ j = 0 ∧ ¬ (b.u = false ∧ (a / 2 ^ j) % 2 = 1 ∧ ∃ y, prev = some y ∧ y.u = false ∧ y.z = j)

/-- buddies from word a to word e -/
inductive Chain (p : Nat) : Nat → Option Bl → List Bl → Nat → Prop
  | nil (a : Nat) (prev : Option Bl) : Chain p a prev [] a
  | cons {a e : Nat} {prev : Option Bl} {b : Bl} {xs : List Bl} (j : Nat) (h : okAt p a prev b j) (t : Chain p (a + 2 ^ j) (some b) xs e) : Chain p a prev (b :: xs) e

theorem Chain.le {p a e : Nat} {prev : Option Bl} {xs : List Bl} (h : Chain p a prev xs e) : a ≤ e := by
  induction h with
  | nil => exact Nat.le_refl _
  | cons j h t ih => have := Nat.two_pow_pos j; omega

theorem Chain.inv {p a e : Nat} {prev : Option Bl} {xs : List Bl} (h : Chain p a prev xs e) : (xs = [] ∧ a = e) ∨ ∃ b xs' j, xs = b :: xs' ∧ okAt p a prev b j ∧ Chain p (a + 2 ^ j) (some b) xs' e := by
  cases h with
  | nil => exact .inl ⟨rfl, rfl⟩
  | cons j h t => exact .inr ⟨_, _, j, rfl, h, t⟩

theorem leaves_ne (t : BT) (s k : Nat) : leaves t s k ≠ [] := by
  induction t generalizing s k with
  | leaf u => simp [leaves]
  | node l r ihl _ =>
    simp only [leaves]
    intro h
    exact ihl s (k - 1) (List.append_eq_nil_iff.1 h).1

/-- the last leaf: of the whole order exactly if the tree is a leaf -/
theorem leaves_last : ∀ (t : BT) (s k : Nat), wf t k → ∃ (q : List Bl) (y : Bl), leaves t s k = q ++ [y] ∧ ((t = .leaf y.u ∧ y.z = (k : Int)) ∨ (∃ l r, t = .node l r ∧ ∃ j : Nat, y.z = (j : Int) ∧ j < k))
  | .leaf u, s, k, _ => ⟨[], ⟨s, k, u⟩, rfl, .inl ⟨rfl, rfl⟩⟩
  | .node l r, s, k, h => by
    obtain ⟨q, y, e, hy⟩ := leaves_last r (s + 2 ^ (k - 1)) (k - 1) h.2.2
    refine ⟨leaves l s (k - 1) ++ q, y, by simp only [leaves]; rw [e, List.append_assoc], .inr ⟨l, r, rfl, ?_⟩⟩
    have := h.1
    rcases hy with ⟨_, hz⟩ | ⟨_, _, _, j, hz, hj⟩
    · exact ⟨k - 1, hz, by omega⟩
    · exact ⟨j, hz, by omega⟩

/-- the first leaf -/
theorem leaves_first : ∀ (t : BT) (s k : Nat), wf t k → ∃ (y : Bl) (q : List Bl), leaves t s k = y :: q ∧ y.s = (s : Int) ∧ ((t = .leaf y.u ∧ y.z = (k : Int)) ∨ (∃ l r, t = .node l r ∧ ∃ j : Nat, y.z = (j : Int) ∧ j < k))
  | .leaf u, s, k, _ => ⟨⟨s, k, u⟩, [], rfl, rfl, .inl ⟨rfl, rfl⟩⟩
  | .node l r, s, k, h => by
    obtain ⟨y, q, e, hs, hy⟩ := leaves_first l s (k - 1) h.2.1
    refine ⟨y, q ++ leaves r (s + 2 ^ (k - 1)) (k - 1), by simp only [leaves]; rw [e]; rfl, hs, .inr ⟨l, r, rfl, ?_⟩⟩
    have := h.1
    rcases hy with ⟨_, hz⟩ | ⟨_, _, _, j, hz, hj⟩
    · exact ⟨k - 1, hz, by omega⟩
    · exact ⟨j, hz, by omega⟩

theorem pow_split {k : Nat} (h : 0 < k) : 2 ^ k = 2 ^ (k - 1) + 2 ^ (k - 1) := by
  obtain ⟨m, rfl⟩ : ∃ m, k = m + 1 := ⟨k - 1, by omega⟩
  simp [Nat.pow_succ]
  omega

theorem mod_half {s k : Nat} (h : 0 < k) (hs : s % 2 ^ k = 0) : s % 2 ^ (k - 1) = 0 ∧ (s + 2 ^ (k - 1)) % 2 ^ (k - 1) = 0 ∧ (s / 2 ^ (k - 1)) % 2 = 0 ∧ ((s + 2 ^ (k - 1)) / 2 ^ (k - 1)) % 2 = 1 := by
  have hp := pow_split h
  have hpos := Nat.two_pow_pos (k - 1)
  obtain ⟨c, hc⟩ : ∃ c, s = 2 ^ k * c := ⟨s / 2 ^ k, (Nat.mul_div_cancel' (Nat.dvd_of_mod_eq_zero hs)).symm⟩
  have e : s = 2 ^ (k - 1) * (2 * c) := by rw [hc, hp, ← Nat.two_mul, Nat.mul_comm 2, Nat.mul_assoc]
  have e2 : s + 2 ^ (k - 1) = 2 ^ (k - 1) * (2 * c + 1) := by rw [Nat.mul_add, ← e, Nat.mul_one]
  refine ⟨by rw [e]; exact Nat.mul_mod_right _ _, by rw [e2]; exact Nat.mul_mod_right _ _, ?_, ?_⟩
  · rw [e, Nat.mul_div_cancel_left _ hpos]
    omega
  · rw [e2, Nat.mul_div_cancel_left _ hpos]
    omega

/-- an order that fits at the second half is smaller -/
theorem order_second {s k j : Nat} (h : 0 < k) (hs : s % 2 ^ k = 0) (hj : (s + 2 ^ (k - 1)) % 2 ^ j = 0) : j ≤ k - 1 := by
  rcases Nat.lt_or_ge (k - 1) j with hh | hh
  · exfalso
    have hd : 2 ^ k ∣ 2 ^ j := Nat.pow_dvd_pow 2 (by omega)
    have h1 : 2 ^ k ∣ s + 2 ^ (k - 1) := Nat.dvd_trans hd (Nat.dvd_of_mod_eq_zero hj)
    have h2 : 2 ^ k ∣ 2 ^ (k - 1) := (Nat.dvd_add_right (Nat.dvd_of_mod_eq_zero hs)).1 h1
    have := Nat.le_of_dvd (Nat.two_pow_pos _) h2
    have hp := pow_split h
    have := Nat.two_pow_pos (k - 1)
    omega
  · exact hh

/-- from a tree to buddies -/
theorem chain_of_tree {p : Nat} : ∀ (t : BT) (s k : Nat) (prev : Option Bl) (rest : List Bl) (e : Nat), wf t k → red t → k ≤ p → s % 2 ^ k = 0 →
    (t = .leaf false → (s / 2 ^ k) % 2 = 1 → ¬ ∃ y, prev = some y ∧ y.u = false ∧ y.z = k) →
    (∀ y q, leaves t s k = q ++ [y] → Chain p (s + 2 ^ k) (some y) rest e) → Chain p s prev (leaves t s k ++ rest) e
  | .leaf u, s, k, prev, rest, e, _, _, hk, hs, hp, hr => by
    refine Chain.cons k ⟨rfl, rfl, hk, hs, ?_⟩ (hr ⟨s, k, u⟩ [] rfl)
    rintro ⟨hu, h1, h2⟩
    exact hp (by simp at hu; rw [hu]) h1 h2
  | .node l r, s, k, prev, rest, e, hw, hd, hk, hs, hp, hr => by
    have hk0 := hw.1
    obtain ⟨m1, m2, m3, m4⟩ := mod_half hk0 hs
    simp only [leaves]
    rw [List.append_assoc]
    refine chain_of_tree l s (k - 1) prev _ e hw.2.1 hd.1 (by omega) m1 (fun _ h => by omega) (fun y q hy => ?_)
    refine chain_of_tree r (s + 2 ^ (k - 1)) (k - 1) (some y) rest e hw.2.2 hd.2.1 (by omega) m2 (fun hleaf _ hex => ?_) (fun y' q' hy' => ?_)
    · obtain ⟨z, hz, hzu, hzz⟩ := hex
      injection hz with hz
      subst hz
      obtain ⟨q2, y2, e2, h2⟩ := leaves_last l s (k - 1) hw.2.1
      rw [hy] at e2
      have e3 := List.append_inj_right' e2 rfl
      injection e3 with e3
      subst e3
      rcases h2 with ⟨h2, _⟩ | ⟨_, _, _, j, hj, hlt⟩
      · rw [hzu] at h2
        exact hd.2.2 ⟨h2, hleaf⟩
      · omega
    · rw [show s + 2 ^ (k - 1) + 2 ^ (k - 1) = s + 2 ^ k by rw [pow_split hk0]; omega]
      refine hr y' (leaves l s (k - 1) ++ q') ?_
      simp only [leaves]
      rw [hy', List.append_assoc]

/-- from buddies to a tree -/
theorem tree_of_chain {p : Nat} : ∀ (k s : Nat) (prev : Option Bl) (xs : List Bl) (e : Nat), Chain p s prev xs e → s % 2 ^ k = 0 → s + 2 ^ k ≤ e → (∀ b, xs.head? = some b → b.z ≤ k) →
    ∃ t rest, wf t k ∧ red t ∧ xs = leaves t s k ++ rest ∧ (∀ y q, leaves t s k = q ++ [y] → Chain p (s + 2 ^ k) (some y) rest e) ∧
      (t = .leaf false → (s / 2 ^ k) % 2 = 1 → ¬ ∃ y, prev = some y ∧ y.u = false ∧ y.z = k) := by
  intro k
  induction k with
  | zero =>
    intro s prev xs e h hs he hf
    cases h with
    | nil => simp at he; omega
    | @cons _ _ _ b xs j hb t =>
      have hz := hf b rfl
      obtain ⟨h1, h2, h3, h4, h5⟩ := hb
      obtain rfl : j = 0 := by omega
      refine ⟨.leaf b.u, xs, trivial, trivial, ?_, ?_, ?_⟩
      · obtain ⟨bs, bz, bu⟩ := b
        simp at h1 h2
        simp [leaves, h1, h2]
      · intro y q hy
        obtain ⟨bs, bz, bu⟩ := b
        simp at h1 h2
        have : y = ⟨bs, bz, bu⟩ := by
          cases q with
          | nil => simp [leaves] at hy; rw [← hy, h1, h2]
          | cons a q => simp [leaves] at hy
        rw [this]
        exact t
      · rintro hl h6 ⟨y, hy, hyu, hyz⟩
        injection hl with hl
        exact h5 ⟨hl, h6, y, hy, hyu, hyz⟩
  | succ k ih =>
    intro s prev xs e h hs he hf
    have hp := pow_split (k := k + 1) (by omega)
    obtain ⟨m1, m2, m3, m4⟩ := mod_half (k := k + 1) (by omega) hs
    simp only [Nat.add_sub_cancel] at hp m1 m2 m3 m4
    cases h with
    | nil => have := Nat.two_pow_pos (k + 1); omega
    | @cons _ _ _ b xs j hb t =>
      have hz := hf b rfl
      by_cases hj : j = k + 1
      · obtain ⟨h1, h2, h3, h4, h5⟩ := hb
        subst hj
        refine ⟨.leaf b.u, xs, trivial, trivial, ?_, ?_, ?_⟩
        · obtain ⟨bs, bz, bu⟩ := b
          simp at h1 h2
          simp [leaves, h1, h2]
        · intro y q hy
          obtain ⟨bs, bz, bu⟩ := b
          simp at h1 h2
          have : y = ⟨bs, bz, bu⟩ := by
            cases q with
            | nil => simp [leaves] at hy; rw [← hy, h1, h2]
            | cons a q => simp [leaves] at hy
          rw [this]
          exact t
        · rintro hl h6 ⟨y, hy, hyu, hyz⟩
          injection hl with hl
          exact h5 ⟨hl, h6, y, hy, hyu, hyz⟩
      · have hjk : j ≤ k := by have := hb.2.1; omega
        have hC : Chain p s prev (b :: xs) e := Chain.cons j hb t
        obtain ⟨l, rest1, w1, r1, e1, c1, _⟩ := ih s prev (b :: xs) e hC m1 (by omega) (fun b' hb' => by
          simp at hb'
          subst hb'
          have := hb.2.1
          omega)
        obtain ⟨q, y, ely, hly⟩ := leaves_last l s k w1
        have hC1 := c1 y q ely
        have hne : ∃ b1 xs1, rest1 = b1 :: xs1 := by
          rcases Chain.inv hC1 with ⟨_, h0⟩ | ⟨b1, xs1, _, h0, _⟩
          · have := Nat.two_pow_pos k
            omega
          · exact ⟨b1, xs1, h0⟩
        obtain ⟨b1, xs1, rfl⟩ := hne
        have hb1 : b1.z ≤ k := by
          rcases Chain.inv hC1 with ⟨h0, _⟩ | ⟨b', xs', j1, h0, hb1, _⟩
          · cases h0
          · injection h0 with h0 _
            subst h0
            have := order_second (k := k + 1) (j := j1) (by omega) hs (by simpa using hb1.2.2.2.1)
            have := hb1.2.1
            omega
        obtain ⟨r, rest2, w2, r2, e2, c2, d2⟩ := ih (s + 2 ^ k) (some y) (b1 :: xs1) e hC1 m2 (by omega) (fun b' hb' => by
          simp at hb'
          subst hb'
          exact hb1)
        refine ⟨.node l r, rest2, ⟨by omega, w1, w2⟩, ⟨r1, r2, ?_⟩, ?_, ?_, fun hl => by cases hl⟩
        · rintro ⟨hl, hr⟩
          refine d2 hr m4 ⟨y, rfl, ?_⟩
          rcases hly with ⟨h1, h2⟩ | ⟨_, _, h1, _⟩
          · rw [hl] at h1
            injection h1 with h1
            exact ⟨h1.symm, h2⟩
          · rw [hl] at h1
            cases h1
        · simp only [leaves, Nat.add_sub_cancel]
          rw [List.append_assoc, ← e2]
          exact e1
        · intro y' q' hy'
          simp only [leaves, Nat.add_sub_cancel] at hy'
          obtain ⟨q3, y3, e3, _⟩ := leaves_last r (s + 2 ^ k) k w2
          have hyy : y' = y3 := by
            rw [e3, ← List.append_assoc] at hy'
            have := List.append_inj_right' hy' rfl
            injection this with this
            exact this.symm
          rw [hyy, show s + 2 ^ (k + 1) = s + 2 ^ k + 2 ^ k by omega]
          exact c2 y3 q3 e3

/-- valid buddies of a memory with 2^p words -/
def Valid (xs : List Bl) (p : Nat) : Prop := Chain p 0 none xs (2 ^ p)

theorem valid_tree {xs : List Bl} {p : Nat} : Valid xs p ↔ ∃ t, wf t p ∧ red t ∧ xs = leaves t 0 p := by
  constructor
  · intro h
    have hf : ∀ b, xs.head? = some b → b.z ≤ p := by
      intro b hb
      rcases Chain.inv h with ⟨rfl, _⟩ | ⟨b', xs', j, rfl, hj, _⟩
      · simp at hb
      · simp at hb
        subst hb
        have := hj.2.1
        have := hj.2.2.1
        omega
    obtain ⟨t, rest, h1, h2, h3, h4, _⟩ := tree_of_chain p 0 none xs (2 ^ p) h (by simp) (by omega) hf
    obtain ⟨q, y, e, _⟩ := leaves_last t 0 p h1
    have hc := h4 y q e
    have : rest = [] := by
      rcases Chain.inv hc with ⟨e, _⟩ | ⟨b', xs', j, _, _, t'⟩
      · exact e
      · have := t'.le
        have := Nat.two_pow_pos j
        omega
    subst this
    exact ⟨t, h1, h2, by simpa using h3⟩
  · rintro ⟨t, h1, h2, rfl⟩
    have := chain_of_tree (p := p) t 0 p none [] (2 ^ p) h1 h2 (Nat.le_refl _) (by simp) (fun _ h => by simp at h) (fun y q _ => by
      rw [Nat.zero_add]
      exact Chain.nil _ _)
    simpa [Valid] using this
end Bud
end Go.Proofs.Ythihaclhlmpioaa
