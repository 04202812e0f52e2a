/- Plain mathematics of taking and giving blocks: the blocks stay valid. No program, no conditions. -/
import Derived.Test.YtkejbggffbkdaaaMath
namespace Go.Proofs.Ytkejbggffbkdaaa
namespace Bks

/-- blocks follow each other from word a on, with at least a word each; 'p': the block before was free -/
def chain : Int → Bool → List Bl → Prop
  | _, _, [] => True
  | a, p, x :: xs => x.s = a ∧ 1 ≤ x.z ∧ (x.u = true ∨ p = false) ∧ chain (a + x.z) (!x.u) xs

def total : List Bl → Int
  | [] => 0
  | x :: xs => x.z + total xs

def lastFree : Bool → List Bl → Bool
  | p, [] => p
  | _, x :: xs => lastFree (!x.u) xs

theorem total_eq (xs : List Bl) : total xs = offs xs xs.length := by
  unfold offs
  rw [List.take_length]
  induction xs with
  | nil => rfl
  | cons x xs ih => simp [total, ih]

theorem chain_weak : ∀ {xs : List Bl} {a : Int} {p : Bool}, chain a p xs → chain a false xs
  | [], _, _, _ => trivial
  | _ :: _, _, _, h => ⟨h.1, h.2.1, .inr rfl, h.2.2.2⟩

theorem chain_append : ∀ (xs ys : List Bl) (a : Int) (p : Bool), chain a p (xs ++ ys) ↔ chain a p xs ∧ chain (a + total xs) (lastFree p xs) ys
  | [], ys, a, p => by simp [chain, total, lastFree]
  | x :: xs, ys, a, p => by
    simp only [List.cons_append, chain, total, lastFree]
    rw [chain_append xs ys]
    rw [show a + (x.z + total xs) = a + x.z + total xs by omega]
    simp only [and_assoc]

theorem total_append (xs ys : List Bl) : total (xs ++ ys) = total xs + total ys := by
  induction xs with
  | nil => simp [total]
  | cons x xs ih => simp [total, ih]; omega

theorem lastFree_append (xs ys : List Bl) (p : Bool) : lastFree p (xs ++ ys) = lastFree (lastFree p xs) ys := by
  induction xs generalizing p with
  | nil => rfl
  | cons x xs ih => simp [lastFree, ih]

theorem chain_total : ∀ {xs : List Bl} {a : Int} {p : Bool}, chain a p xs → (xs.length : Int) ≤ total xs
  | [], _, _, _ => by simp [total]
  | x :: xs, _, _, h => by
    have := chain_total h.2.2.2
    simp [total]
    have := h.2.1
    omega

theorem chain_le : ∀ {xs : List Bl} {a : Int} {p : Bool}, chain a p xs → ∀ x ∈ xs, a ≤ x.s ∧ 1 ≤ x.z ∧ x.s + x.z ≤ a + total xs
  | y :: ys, a, p, h, x, hx => by
    have ht := chain_total h.2.2.2
    rcases List.mem_cons.1 hx with e | e
    · subst e
      simp [total]
      have := h.1
      have := h.2.1
      omega
    · have := chain_le h.2.2.2 x e
      have := h.2.1
      simp [total]
      omega

theorem steps_chain : ∀ (xs : List Bl) (a : Int) (p : Bool), chain a p xs ↔ ∀ (k : Nat) (x : Bl), xs[k]? = some x → x.s = a + offs xs k ∧ 1 ≤ x.z ∧ (x.u = true ∨ (k = 0 ∧ p = false) ∨ ∃ y, 0 < k ∧ xs[k-1]? = some y ∧ y.u = true)
  | [], a, p => by simp [chain]
  | x :: xs, a, p => by
    simp only [chain]
    rw [steps_chain xs]
    constructor
    · rintro ⟨h1, h2, h3, h4⟩ k y hy
      match k, hy with
      | 0, hy =>
        simp at hy
        subst hy
        refine ⟨by simp [offs, h1], h2, ?_⟩
        rcases h3 with h3 | h3
        · exact .inl h3
        · exact .inr (.inl ⟨rfl, h3⟩)
      | k + 1, hy =>
        have hy' : xs[k]? = some y := by simpa using hy
        obtain ⟨g1, g2, g3⟩ := h4 k y hy'
        refine ⟨by rw [g1]; simp [offs]; omega, g2, ?_⟩
        rcases g3 with g3 | ⟨rfl, g3⟩ | ⟨z, k0, hz, hu⟩
        · exact .inl g3
        · exact .inr (.inr ⟨x, by omega, by simp, by simpa using g3⟩)
        · refine .inr (.inr ⟨z, by omega, ?_, hu⟩)
          obtain ⟨m, rfl⟩ : ∃ m, k = m + 1 := ⟨k - 1, by omega⟩
          simpa using hz
    · intro h
      have h0 := h 0 x rfl
      refine ⟨by simpa [offs] using h0.1, h0.2.1, ?_, fun k y hy => ?_⟩
      · rcases h0.2.2 with g | ⟨_, g⟩ | ⟨y, k0, _⟩
        · exact .inl g
        · exact .inr g
        · omega
      · obtain ⟨g1, g2, g3⟩ := h (k + 1) y (by simpa using hy)
        refine ⟨by rw [g1]; simp [offs]; omega, g2, ?_⟩
        rcases g3 with g3 | ⟨g3, _⟩ | ⟨z, _, hz, hu⟩
        · exact .inl g3
        · omega
        · match k, hz with
          | 0, hz =>
            simp at hz
            subst hz
            exact .inr (.inl ⟨rfl, by simp [hu]⟩)
          | k + 1, hz => exact .inr (.inr ⟨z, by omega, by simpa using hz, hu⟩)

/-- valid blocks, said by the chain -/
theorem valid_chain (xs : List Bl) (t : Int) : validB xs t = true ↔ chain 0 false xs ∧ total xs = t ∧ 1 ≤ t ∧ t ≤ 256 := by
  rw [valid_iff, steps_chain, total_eq]
  constructor
  · rintro ⟨h1, h2, h3, h4⟩
    refine ⟨fun k x hx => ?_, h4, h2, h3⟩
    have hk : k < xs.length := (List.getElem?_eq_some_iff.1 hx).1
    obtain ⟨g1, g2, _, g4⟩ := (stepOk_iff xs k x hx).1 (h1 k hk)
    refine ⟨by omega, g2, ?_⟩
    rcases g4 with g4 | g4 | ⟨y, hy, hu⟩
    · exact .inr (.inl ⟨g4, rfl⟩)
    · exact .inl g4
    · rcases Nat.eq_zero_or_pos k with e | e
      · exact .inr (.inl ⟨e, rfl⟩)
      · exact .inr (.inr ⟨y, e, hy, hu⟩)
  · rintro ⟨h1, h4, h2, h3⟩
    refine ⟨fun k hk => ?_, h2, h3, h4⟩
    have hx : xs[k]? = some xs[k] := List.getElem?_eq_getElem hk
    have hc := (steps_chain xs 0 false).2 h1
    obtain ⟨g1, g2, g4⟩ := h1 k _ hx
    have hle := chain_le hc xs[k] (List.getElem_mem hk)
    rw [total_eq, h4] at hle
    rw [stepOk_iff xs k _ hx]
    refine ⟨by omega, g2, by omega, ?_⟩
    rcases g4 with g4 | ⟨g4, _⟩ | ⟨y, _, hy, hu⟩
    · exact .inr (.inl g4)
    · exact .inl g4
    · exact .inr (.inr ⟨y, hy, hu⟩)

/-- TakeBlock may take -/
def canTake (xs : List Bl) (num size : Int) : Bool :=
  decide (0 ≤ num) && match xs[num.toNat]? with
  | none => false
  | some b => !b.u && decide (1 ≤ size) && decide (size ≤ b.z)

def taken (xs : List Bl) (k : Nat) (b : Bl) (size : Int) : List Bl :=
  xs.take k ++ [⟨b.s, size, true⟩] ++ (if size < b.z then [⟨b.s + size, b.z - size, false⟩] else []) ++ xs.drop (k + 1)

def takeB (xs : List Bl) (num size : Int) : List Bl :=
  if canTake xs num size = true then taken xs num.toNat (xs.getD num.toNat default) size else xs

theorem split_at {xs : List Bl} {k : Nat} {b : Bl} (h : xs[k]? = some b) : xs = xs.take k ++ b :: xs.drop (k + 1) := by
  obtain ⟨hk, e⟩ := List.getElem?_eq_some_iff.1 h
  rw [← e, ← List.drop_eq_getElem_cons hk, List.take_append_drop]

theorem taken_valid {xs : List Bl} {t : Int} {k : Nat} {b : Bl} {size : Int} (hv : validB xs t = true) (hb : xs[k]? = some b) (hu : b.u = false) (h1 : 1 ≤ size) (h2 : size ≤ b.z) : validB (taken xs k b size) t = true := by
  rw [valid_chain] at hv ⊢
  obtain ⟨hc, ht, r1, r2⟩ := hv
  have hs := split_at hb
  unfold taken
  generalize xs.take k = pre at hs ⊢
  generalize xs.drop (k + 1) = post at hs ⊢
  subst hs
  rw [chain_append] at hc
  simp only [chain] at hc
  obtain ⟨c1, c2, c3, c4, c5⟩ := hc
  rw [total_append] at ht
  simp only [total] at ht
  rw [hu] at c5 c4
  have hl : lastFree false pre = false := by simpa using c4
  refine ⟨?_, ?_, r1, r2⟩
  · rw [chain_append, chain_append, chain_append]
    simp only [chain, total, lastFree, total_append, lastFree_append]
    split
    · simp only [chain, total, lastFree, true_or]
      refine ⟨⟨⟨c1, c2, h1, trivial, trivial⟩, by omega, by omega, .inr rfl, trivial⟩, ?_⟩
      rw [show (0 : Int) + (total pre + (size + 0) + (b.z - size + 0)) = 0 + total pre + b.z by omega]
      exact c5
    · have : size = b.z := by omega
      subst this
      simp only [chain, total, lastFree, true_or]
      refine ⟨⟨⟨c1, c2, h1, trivial, trivial⟩, trivial⟩, ?_⟩
      rw [show (0 : Int) + (total pre + (b.z + 0) + 0) = 0 + total pre + b.z by omega]
      exact chain_weak c5
  · rw [total_append, total_append, total_append]
    simp only [total]
    split
    · simp only [total]; omega
    · simp only [total]; omega

theorem takeB_valid {xs : List Bl} {t num size : Int} (hv : validB xs t = true) : validB (takeB xs num size) t = true := by
  unfold takeB
  split
  · next h =>
    unfold canTake at h
    rw [Bool.and_eq_true, decide_eq_true_eq] at h
    obtain ⟨h0, h⟩ := h
    split at h
    · cases h
    · next b hb =>
      simp at h
      rw [show xs.getD num.toNat default = b by rw [List.getD_eq_getElem?_getD, hb]; rfl]
      exact taken_valid hv hb h.1.1 h.1.2 h.2
  · exact hv

/-- a block is joined to those before it -/
def joinB (out : List Bl) (b : Bl) : List Bl :=
  match out.getLast? with
  | none => out ++ [b]
  | some y => if y.u = false ∧ b.u = false then out.dropLast ++ [⟨y.s, y.z + b.z, y.u⟩] else out ++ [b]

def giveOf (num : Nat) (k : Nat) (x : Bl) : Bl := if k = num then ⟨x.s, x.z, false⟩ else x

/-- the first k blocks, joined, with block 'num' free -/
def giveTo (xs : List Bl) (num : Nat) : Nat → List Bl
  | 0 => []
  | k + 1 => match xs[k]? with
    | none => giveTo xs num k
    | some x => joinB (giveTo xs num k) (giveOf num k x)

def canGive (xs : List Bl) (num : Int) : Bool :=
  decide (0 ≤ num) && match xs[num.toNat]? with
  | none => false
  | some b => b.u

def giveB (xs : List Bl) (num : Int) : List Bl := if canGive xs num = true then giveTo xs num.toNat xs.length else xs

theorem getLast_split {out : List Bl} {y : Bl} (h : out.getLast? = some y) : out = out.dropLast ++ [y] := by
  obtain ⟨ys, rfl⟩ := List.getLast?_eq_some_iff.1 h
  simp

theorem join_chain {out : List Bl} {b : Bl} (h : chain 0 false out) (hs : b.s = total out) (hz : 1 ≤ b.z) : chain 0 false (joinB out b) ∧ total (joinB out b) = total out + b.z := by
  unfold joinB
  split
  · next he =>
    have : out = [] := by simpa using he
    subst this
    simp [chain, total] at hs ⊢
    omega
  · next y he =>
    have hsp := getLast_split he
    generalize out.dropLast = pre at hsp ⊢
    subst hsp
    rw [chain_append] at h
    simp only [chain, and_true] at h
    obtain ⟨h1, h2, h3, h4⟩ := h
    rw [total_append] at hs
    simp only [total] at hs
    split
    · next hu =>
      rw [chain_append, total_append, total_append]
      simp only [chain, total, and_true]
      exact ⟨⟨h1, h2, by omega, h4⟩, by omega⟩
    · next hu =>
      rw [chain_append, chain_append, total_append, total_append]
      simp only [chain, total, and_true, lastFree_append, lastFree]
      refine ⟨⟨⟨h1, h2, h3, h4⟩, by omega, hz, ?_⟩, by simp only [total_append, total]; omega⟩
      cases hy : y.u
      · cases hb : b.u
        · exact absurd ⟨hy, hb⟩ hu
        · exact .inl rfl
      · exact .inr rfl

theorem giveTo_chain {xs : List Bl} {t : Int} (hv : validB xs t = true) (num : Nat) : ∀ k, k ≤ xs.length → chain 0 false (giveTo xs num k) ∧ total (giveTo xs num k) = offs xs k
  | 0, _ => by simp [giveTo, chain, total, offs]
  | k + 1, hk => by
    obtain ⟨h1, h2⟩ := giveTo_chain hv num k (by omega)
    have hx : xs[k]? = some xs[k] := List.getElem?_eq_getElem (by omega)
    have ha := valid_at hv hx
    simp only [giveTo, hx]
    generalize xs[k] = x at *
    have e1 : (giveOf num k x).s = x.s := by unfold giveOf; split <;> rfl
    have e2 : (giveOf num k x).z = x.z := by unfold giveOf; split <;> rfl
    have := join_chain (b := giveOf num k x) h1 (by rw [e1, h2]; exact ha.1) (by rw [e2]; exact ha.2.1)
    refine ⟨this.1, ?_⟩
    rw [this.2, e2, h2]
    omega

theorem giveB_valid {xs : List Bl} {t num : Int} (hv : validB xs t = true) : validB (giveB xs num) t = true := by
  unfold giveB
  split
  · have h := giveTo_chain hv num.toNat xs.length (Nat.le_refl _)
    have hl := valid_len hv
    rw [valid_chain]
    exact ⟨h.1, by rw [h.2]; exact hl.2.2.2.2, hl.2.2.1, hl.2.2.2.1⟩
  · exact hv
end Bks
end Go.Proofs.Ytkejbggffbkdaaa
