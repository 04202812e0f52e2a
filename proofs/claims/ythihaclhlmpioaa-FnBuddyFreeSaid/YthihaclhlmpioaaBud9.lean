/- Plain mathematics of buddies: free words of a list are those of its tree, and what the laws of BuddyTake, BuddyGive, BuddyFree and BuddyOrder ask. No program, no conditions. -/
import Derived.Test.YthihaclhlmpioaaBud8
namespace Go.Proofs.Ythihaclhlmpioaa
namespace Bud

theorem free_leaves : ∀ (t : BT) (s k : Nat), ((leaves t s k).map fun b => if b.u = true then 0 else 2 ^ b.z.toNat).sum = freeT t k
  | .leaf u, s, k => by simp [leaves, freeT]
  | .node l r, s, k => by simp only [leaves, List.map_append, List.sum_append, freeT, free_leaves l, free_leaves r]
theorem freeTo_tree (t : BT) (P : Nat) : freeTo (leaves t 0 P) (leaves t 0 P).length = freeT t P := by
  unfold freeTo
  rw [List.take_length, free_leaves]
theorem freeYW_tree {t : BT} {P : Nat} (hP : P ≤ 8) (hw : wf t P) (hr : red t) : freeYW (leaves t 0 P) P = (freeT t P : Nat) := by
  rw [freeYW, if_pos (valid_of_tree hP hw hr), freeTo_tree]

/-- all used -/
def usedY (xs : List Bl) : List Bl := xs.map fun b => ⟨b.s, b.z, true⟩
def usedT : BT → BT
  | .leaf _ => .leaf true
  | .node l r => .node (usedT l) (usedT r)
theorem usedT_leaves : ∀ (t : BT) (s k : Nat), leaves (usedT t) s k = usedY (leaves t s k)
  | .leaf u, s, k => by simp [usedT, leaves, usedY]
  | .node l r, s, k => by
    have h1 := usedT_leaves l s (k - 1)
    have h2 := usedT_leaves r (s + 2 ^ (k - 1)) (k - 1)
    simp only [usedT, leaves, usedY, List.map_append] at h1 h2 ⊢
    rw [h1, h2]
theorem usedT_wf : ∀ (t : BT) (k : Nat), wf t k → wf (usedT t) k
  | .leaf _, _, _ => trivial
  | .node l r, _, h => ⟨h.1, usedT_wf l _ h.2.1, usedT_wf r _ h.2.2⟩
theorem usedT_ne (t : BT) : usedT t ≠ .leaf false := by cases t <;> simp [usedT]
theorem usedT_red : ∀ t : BT, red (usedT t)
  | .leaf _ => trivial
  | .node l r => ⟨usedT_red l, usedT_red r, fun h => usedT_ne l h.1⟩
theorem usedT_free : ∀ (t : BT) (k : Nat), freeT (usedT t) k = 0
  | .leaf _, _ => by simp [usedT, freeT]
  | .node l r, k => by simp [usedT, freeT, usedT_free l, usedT_free r]

theorem usedY_allI {xs : List Bl} (h : AllI xs) : AllI (usedY xs) := by
  intro k x hx
  unfold usedY at hx
  rw [List.getElem?_map] at hx
  cases hb : xs[k]? with
  | none => rw [hb] at hx; cases hx
  | some b =>
    rw [hb] at hx
    injection hx with hx
    subst hx
    exact h k b hb
theorem usedY_succ {xs : List Bl} {k : Nat} {x : Bl} (h : xs[k]? = some x) : usedY (xs.take (k + 1)) = usedY (xs.take k) ++ [⟨x.s, x.z, true⟩] := by
  unfold usedY
  rw [List.take_add_one, h]
  simp
theorem usedY_len (xs : List Bl) : (usedY xs).length = xs.length := by simp [usedY]

/-- what the law of BuddyFree asks -/
theorem free_law {xs : List Bl} {p : Int} (h : 0 ≤ freeYW xs p) : ∃ P : Nat, p = P ∧ P ≤ 8 ∧ freeYW xs p ≤ 2 ^ P ∧ freeYW (usedY xs) p = 0 ∧ validY xs p = true := by
  cases hv : validY xs p
  · rw [freeYW, hv] at h
    simp at h
  · obtain ⟨P, t, rfl, hP, hw, hr, rfl⟩ := tree_of_valid hv
    refine ⟨P, rfl, hP, ?_, ?_, rfl⟩
    · rw [freeYW_tree hP hw hr]
      exact_mod_cast free_le t P hw
    · rw [← usedT_leaves, freeYW_tree hP (usedT_wf t P hw) (usedT_red t), usedT_free]
      rfl
theorem freeYW_neg {xs : List Bl} {p : Int} (h : freeYW xs p < 0) : freeYW xs p = -1 := by
  unfold freeYW at h ⊢
  split at h
  · omega
  · next hv => rw [if_neg hv]

/-- what BuddyTake does -/
theorem take_casesY (xs : List Bl) (p size : Int) (ys : List Bl) (st : Int) (ok : Bool) (h1 : (if validY xs p = true then takeY xs size else []) = ys) (h2 : (if validY xs p = true then startY xs size else -1) = st) (h3 : (validY xs p && okY xs size) = ok) :
    (ok = false ∧ st = -1 ∧ (ys = [] ∨ ys = xs)) ∨ (ok = true ∧ ∃ (a m f : Nat), st = a ∧ powW size = m ∧ m ≤ 8 ∧ a % 2 ^ m = 0 ∧ a ≤ 256 ∧ f ≤ 256 ∧ validY ys p = true ∧ freeYW ys p = f ∧ freeYW xs p = (f + 2 ^ m : Nat) ∧ giveY ys p a = xs ∧ okG ys a = true) := by
  cases hv : validY xs p
  · rw [hv] at h1 h2 h3
    exact .inl ⟨h3.symm, h2.symm, .inl h1.symm⟩
  · rw [hv] at h1 h2 h3
    simp only [if_true, Bool.true_and] at h1 h2 h3
    cases ok
    · have := takeY_not h3
      exact .inl ⟨rfl, h2.symm.trans this.2, .inr (h1.symm.trans this.1)⟩
    · right
      refine ⟨rfl, ?_⟩
      obtain ⟨P, t, rfl, hP, hw, hr, rfl⟩ := tree_of_valid hv
      obtain ⟨a, m, z, e1, e2, e3, e4, e5, e6, e7, e8⟩ := takeY_tree hP hw hr h3
      have hw2 := take_wf t 0 P a z (z - m) hw e3 (by omega)
      have hr2 := take_red t 0 P a (z - m) hr
      have hf := take_free t 0 P a z (z - m) hw e3 (by omega)
      rw [show z - (z - m) = m by omega] at hf
      obtain ⟨g1, g2⟩ := giveY_tree hP hw2 hr2 e6
      have hgt := give_take t 0 P a z (z - m) hr e3 (by omega)
      rw [hgt, ← e5, h1] at g2
      rw [← e5, h1] at g1
      have hyv := valid_of_tree hP hw2 hr2
      rw [← e5, h1] at hyv
      have hfy := freeYW_tree hP hw2 hr2
      rw [← e5, h1] at hfy
      have hle := free_le _ P hw2
      have h8 := (two_pow_le hP).2
      refine ⟨a, m, freeT (takeT t 0 P a (z - m)) P, h2.symm.trans e2, e1, e8, e7, ?_, by omega, hyv, hfy, ?_, g2, g1⟩
      · obtain ⟨c, i, hi⟩ : ∃ (b : Bl) (i : Nat), ys[i]? = some b ∧ b.s = a := by
          obtain ⟨c1, c2⟩ := leaves_idx _ 0 P a e6
          rw [← e5, h1] at c1
          exact ⟨_, _, c1, rfl⟩
        obtain ⟨j, _, _, _, k4, k5, _⟩ := validY_at hyv hi.1
        have := hi.2
        have := Nat.two_pow_pos j
        omega
      · rw [freeYW_tree hP hw hr, hf]

theorem used_mk {l r : BT} {s k b : Nat} (h : usedAt (.node l r) s k b) : usedAt (mk l r) s k b := by
  unfold mk
  split
  · next hh =>
    obtain ⟨rfl, rfl⟩ := hh
    simp [usedAt] at h
  · exact h
/-- another used buddy stays used -/
theorem give_other (t : BT) : ∀ (s k a b : Nat), a ≠ b → usedAt t s k b → usedAt (giveT t s k a) s k b := by
  induction t with
  | leaf u =>
    intro s k a b hab h
    obtain ⟨rfl, rfl⟩ := h
    simp only [giveT]
    rw [if_neg (by omega)]
    exact ⟨rfl, rfl⟩
  | node l r ihl ihr =>
    intro s k a b hab h
    simp only [giveT]
    simp only [usedAt] at h
    by_cases ha : a < s + 2 ^ (k - 1)
    · rw [if_pos ha]
      refine used_mk ?_
      simp only [usedAt]
      by_cases hb : b < s + 2 ^ (k - 1)
      · rw [if_pos hb] at h ⊢
        exact ihl _ _ _ _ hab h
      · rw [if_neg hb] at h ⊢
        exact h
    · rw [if_neg ha]
      refine used_mk ?_
      simp only [usedAt]
      by_cases hb : b < s + 2 ^ (k - 1)
      · rw [if_pos hb] at h ⊢
        exact h
      · rw [if_neg hb] at h ⊢
        exact ihr _ _ _ _ hab h
/-- what was given is not used -/
theorem give_again (t : BT) : ∀ (s k a : Nat), ¬ usedAt (giveT t s k a) s k a := by
  induction t with
  | leaf u =>
    intro s k a
    simp only [giveT]
    split
    · simp [usedAt]
    · next h => simpa [usedAt] using h
  | node l r ihl ihr =>
    intro s k a
    simp only [giveT]
    split
    · next ha =>
      unfold mk
      split
      · simp [usedAt]
      · simp only [usedAt]
        rw [if_pos ha]
        exact ihl _ _ _
    · next ha =>
      unfold mk
      split
      · simp [usedAt]
      · simp only [usedAt]
        rw [if_neg ha]
        exact ihr _ _ _
theorem leaves_len2 (l r : BT) (s k : Nat) : 2 ≤ (leaves (.node l r) s k).length := by
  simp only [leaves, List.length_append]
  have h1 := List.length_pos_iff.2 (leaves_ne l s (k - 1))
  have h2 := List.length_pos_iff.2 (leaves_ne r (s + 2 ^ (k - 1)) (k - 1))
  omega

/-- what BuddyGive does -/
theorem give_casesY (xs : List Bl) (p a : Int) (ys : List Bl) (ok : Bool) (h1 : (if validY xs p = true then giveY xs p a else []) = ys) (h2 : (validY xs p && okG xs a) = ok) :
    (ok = false ∧ (ys = [] ∨ ys = xs)) ∨ (ok = true ∧ ∃ (P f g : Nat), p = P ∧ P ≤ 8 ∧ validY xs p = true ∧ validY ys p = true ∧ freeYW xs p = f ∧ freeYW ys p = g ∧ f < g ∧ g ≤ 256 ∧ okG ys a = false ∧
      ((g = 2 ^ P ∧ ∃ b, ys = [b] ∧ b.u = false) ∨ (g ≠ 2 ^ P ∧ ((∃ b, ys = [b] ∧ b.u = true) ∨ 2 ≤ ys.length)))) := by
  cases hv : validY xs p
  · rw [hv] at h1 h2
    exact .inl ⟨h2.symm, .inl h1.symm⟩
  · rw [hv] at h1 h2
    simp only [if_true, Bool.true_and] at h1 h2
    cases ok
    · exact .inl ⟨rfl, .inr (h1.symm.trans (giveY_not h2))⟩
    · right
      refine ⟨rfl, ?_⟩
      obtain ⟨P, t, rfl, hP, hw, hr, rfl⟩ := tree_of_valid hv
      obtain ⟨c, rfl, hu⟩ := (okG_iff hw).1 h2
      have hw2 := give_wf t 0 P c hw
      have hr2 := give_red t 0 P c hr
      have hg := (giveY_tree hP hw hr hu).2
      rw [h1] at hg
      have hlt := give_free_lt t 0 P c hw hu
      have hle := free_le _ P hw2
      have h8 := (two_pow_le hP).2
      have hag := give_again t 0 P c
      have hall := free_all _ P hw2 hr2
      generalize giveT t 0 P c = t2 at hw2 hr2 hg hlt hle hag hall
      subst hg
      refine ⟨P, freeT t P, freeT t2 P, rfl, hP, rfl, valid_of_tree hP hw2 hr2, freeYW_tree hP hw hr, freeYW_tree hP hw2 hr2, hlt, by omega, ?_, ?_⟩
      · cases ho : okG (leaves t2 0 P) c
        · rfl
        · obtain ⟨d, e, hd⟩ := (okG_iff hw2).1 ho
          obtain rfl : c = d := by omega
          exact absurd hd hag
      · by_cases hf : freeT t2 P = 2 ^ P
        · left
          rw [hall hf]
          exact ⟨by simp [freeT], _, rfl, rfl⟩
        · right
          refine ⟨hf, ?_⟩
          cases t2 with
          | leaf u =>
            cases u
            · simp [freeT] at hf
            · exact .inl ⟨_, rfl, rfl⟩
          | node l r => exact .inr (leaves_len2 l r 0 P)

/-- what the law of BuddyOrder asks: another used buddy given before or behind -/
theorem order_lawY {xs : List Bl} {p a : Int} {k : Nat} {y : Bl} (hv : validY xs p = true) (ho : okG xs a = true) (hy : xs[k]? = some y) (hu : y.u = true) (hne : y.s ≠ a) :
    okG (giveY xs p a) y.s = true ∧ okG xs y.s = true ∧ okG (giveY xs p y.s) a = true ∧ giveY (giveY xs p a) p y.s = giveY (giveY xs p y.s) p a := by
  obtain ⟨P, t, rfl, hP, hw, hr, rfl⟩ := tree_of_valid hv
  obtain ⟨c, rfl, hc⟩ := (okG_iff hw).1 ho
  obtain ⟨j, _, _, _, e4, _⟩ := validY_at hv hy
  obtain ⟨d, hd⟩ : ∃ d : Nat, y.s = d := ⟨_, e4⟩
  have hdu : usedAt t 0 P d := by
    refine used_of_mem t 0 P d k y.z hw ?_
    rw [hy, ← hd, ← hu]
  rw [hd] at hne ⊢
  have hcd : c ≠ d := by omega
  have wc := give_wf t 0 P c hw
  have rc := give_red t 0 P c hr
  have wd := give_wf t 0 P d hw
  have rd := give_red t 0 P d hr
  have u1 := give_other t 0 P c d hcd hdu
  have u2 := give_other t 0 P d c (Ne.symm hcd) hc
  have g1 := giveY_tree hP hw hr hc
  have g2 := giveY_tree hP hw hr hdu
  have g3 := giveY_tree hP wc rc u1
  have g4 := giveY_tree hP wd rd u2
  rw [g1.2, g2.2]
  exact ⟨g3.1, g2.1, g4.1, by rw [g3.2, g4.2, give_comm]⟩
end Bud
end Go.Proofs.Ythihaclhlmpioaa
