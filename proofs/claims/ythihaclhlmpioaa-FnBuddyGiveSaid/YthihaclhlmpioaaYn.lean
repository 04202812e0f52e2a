/- Plain mathematics of buddies: free words of a list are those of its tree, and what the laws of BuddyTake, BuddyGive, BuddyFree and BuddyOrder ask. No program, no conditions. What DrawBuddyTake and DrawBuddyGive return: buddies of the call's own, a power and a number. The law of BuddyTake (P26) returns true: for every list of bytes. The laws of BuddyGive (P27) and BuddyOrder (P113) return true: for every list of bytes. -/
import Derived.Test.YthihaclhlmpioaaBud8
import Derived.Test.YthihaclhlmpioaaYi
import Derived.Test.YthihaclhlmpioaaInv
import Derived.Test.YthihaclhlmpioaaZm
import Derived.Deep.RegionWith
namespace Go.Proofs.Ythihaclhlmpioaa
namespace Bud

theorem free_leaves : ∀ (t : BT) (s k : Nat), ((leaves t s k).map fun b => if b.u = true then 0 else 2 ^ b.z.toNat).sum = freeT t k
  | .leaf u, s, k => by simp [leaves, freeT]
  | .node l r, s, k => by simp only [leaves, List.map_append, List.sum_append, freeT, free_leaves l, free_leaves r]
theorem freeTo_tree (t : BT) (P : Nat) : freeTo (leaves t 0 P) (leaves t 0 P).length = freeT t P := by
  unfold freeTo
  rw [List.take_length, free_leaves]
theorem freeYW_tree {t : BT} {P : Nat} (hP : P ≤ 8) (hw : wf t P) (hr : red t) : freeYW (leaves t 0 P) P = (freeT t P : Nat) := by
  rw [freeYW, if_pos (valid_of_tree hP hw hr), freeTo_tree]

/-- all used -/
def usedY (xs : List Bl) : List Bl := xs.map fun b => ⟨b.s, b.z, true⟩
def usedT : BT → BT
  | .leaf _ => .leaf true
  | .node l r => .node (usedT l) (usedT r)
theorem usedT_leaves : ∀ (t : BT) (s k : Nat), leaves (usedT t) s k = usedY (leaves t s k)
  | .leaf u, s, k => by simp [usedT, leaves, usedY]
  | .node l r, s, k => by
    have h1 := usedT_leaves l s (k - 1)
    have h2 := usedT_leaves r (s + 2 ^ (k - 1)) (k - 1)
    simp only [usedT, leaves, usedY, List.map_append] at h1 h2 ⊢
    rw [h1, h2]
theorem usedT_wf : ∀ (t : BT) (k : Nat), wf t k → wf (usedT t) k
  | .leaf _, _, _ => trivial
  | .node l r, _, h => ⟨h.1, usedT_wf l _ h.2.1, usedT_wf r _ h.2.2⟩
theorem usedT_ne (t : BT) : usedT t ≠ .leaf false := by cases t <;> simp [usedT]
theorem usedT_red : ∀ t : BT, red (usedT t)
  | .leaf _ => trivial
  | .node l r => ⟨usedT_red l, usedT_red r, fun h => usedT_ne l h.1⟩
theorem usedT_free : ∀ (t : BT) (k : Nat), freeT (usedT t) k = 0
  | .leaf _, _ => by simp [usedT, freeT]
  | .node l r, k => by simp [usedT, freeT, usedT_free l, usedT_free r]

theorem usedY_allI {xs : List Bl} (h : AllI xs) : AllI (usedY xs) := by
  intro k x hx
  unfold usedY at hx
  rw [List.getElem?_map] at hx
  cases hb : xs[k]? with
  | none => rw [hb] at hx; cases hx
  | some b =>
    rw [hb] at hx
    injection hx with hx
    subst hx
    exact h k b hb
theorem usedY_succ {xs : List Bl} {k : Nat} {x : Bl} (h : xs[k]? = some x) : usedY (xs.take (k + 1)) = usedY (xs.take k) ++ [⟨x.s, x.z, true⟩] := by
  unfold usedY
  rw [List.take_add_one, h]
  simp
theorem usedY_len (xs : List Bl) : (usedY xs).length = xs.length := by simp [usedY]

/-- what the law of BuddyFree asks -/
theorem free_law {xs : List Bl} {p : Int} (h : 0 ≤ freeYW xs p) : ∃ P : Nat, p = P ∧ P ≤ 8 ∧ freeYW xs p ≤ 2 ^ P ∧ freeYW (usedY xs) p = 0 ∧ validY xs p = true := by
  cases hv : validY xs p
  · rw [freeYW, hv] at h
    simp at h
  · obtain ⟨P, t, rfl, hP, hw, hr, rfl⟩ := tree_of_valid hv
    refine ⟨P, rfl, hP, ?_, ?_, rfl⟩
    · rw [freeYW_tree hP hw hr]
      exact_mod_cast free_le t P hw
    · rw [← usedT_leaves, freeYW_tree hP (usedT_wf t P hw) (usedT_red t), usedT_free]
      rfl
theorem freeYW_neg {xs : List Bl} {p : Int} (h : freeYW xs p < 0) : freeYW xs p = -1 := by
  unfold freeYW at h ⊢
  split at h
  · omega
  · next hv => rw [if_neg hv]

/-- what BuddyTake does -/
theorem take_casesY (xs : List Bl) (p size : Int) (ys : List Bl) (st : Int) (ok : Bool) (h1 : (if validY xs p = true then takeY xs size else []) = ys) (h2 : (if validY xs p = true then startY xs size else -1) = st) (h3 : (validY xs p && okY xs size) = ok) :
    (ok = false ∧ st = -1 ∧ (ys = [] ∨ ys = xs)) ∨ (ok = true ∧ ∃ (a m f : Nat), st = a ∧ powW size = m ∧ m ≤ 8 ∧ a % 2 ^ m = 0 ∧ a ≤ 256 ∧ f ≤ 256 ∧ validY ys p = true ∧ freeYW ys p = f ∧ freeYW xs p = (f + 2 ^ m : Nat) ∧ giveY ys p a = xs ∧ okG ys a = true) := by
  cases hv : validY xs p
  · rw [hv] at h1 h2 h3
    exact .inl ⟨h3.symm, h2.symm, .inl h1.symm⟩
  · rw [hv] at h1 h2 h3
    simp only [if_true, Bool.true_and] at h1 h2 h3
    cases ok
    · have := takeY_not h3
      exact .inl ⟨rfl, h2.symm.trans this.2, .inr (h1.symm.trans this.1)⟩
    · right
      refine ⟨rfl, ?_⟩
      obtain ⟨P, t, rfl, hP, hw, hr, rfl⟩ := tree_of_valid hv
      obtain ⟨a, m, z, e1, e2, e3, e4, e5, e6, e7, e8⟩ := takeY_tree hP hw hr h3
      have hw2 := take_wf t 0 P a z (z - m) hw e3 (by omega)
      have hr2 := take_red t 0 P a (z - m) hr
      have hf := take_free t 0 P a z (z - m) hw e3 (by omega)
      rw [show z - (z - m) = m by omega] at hf
      obtain ⟨g1, g2⟩ := giveY_tree hP hw2 hr2 e6
      have hgt := give_take t 0 P a z (z - m) hr e3 (by omega)
      rw [hgt, ← e5, h1] at g2
      rw [← e5, h1] at g1
      have hyv := valid_of_tree hP hw2 hr2
      rw [← e5, h1] at hyv
      have hfy := freeYW_tree hP hw2 hr2
      rw [← e5, h1] at hfy
      have hle := free_le _ P hw2
      have h8 := (two_pow_le hP).2
      refine ⟨a, m, freeT (takeT t 0 P a (z - m)) P, h2.symm.trans e2, e1, e8, e7, ?_, by omega, hyv, hfy, ?_, g2, g1⟩
      · obtain ⟨c, i, hi⟩ : ∃ (b : Bl) (i : Nat), ys[i]? = some b ∧ b.s = a := by
          obtain ⟨c1, c2⟩ := leaves_idx _ 0 P a e6
          rw [← e5, h1] at c1
          exact ⟨_, _, c1, rfl⟩
        obtain ⟨j, _, _, _, k4, k5, _⟩ := validY_at hyv hi.1
        have := hi.2
        have := Nat.two_pow_pos j
        omega
      · rw [freeYW_tree hP hw hr, hf]

theorem used_mk {l r : BT} {s k b : Nat} (h : usedAt (.node l r) s k b) : usedAt (mk l r) s k b := by
  unfold mk
  split
  · next hh =>
    obtain ⟨rfl, rfl⟩ := hh
    simp [usedAt] at h
  · exact h
/-- another used buddy stays used -/
theorem give_other (t : BT) : ∀ (s k a b : Nat), a ≠ b → usedAt t s k b → usedAt (giveT t s k a) s k b := by
  induction t with
  | leaf u =>
    intro s k a b hab h
    obtain ⟨rfl, rfl⟩ := h
    simp only [giveT]
    rw [if_neg (by omega)]
    exact ⟨rfl, rfl⟩
  | node l r ihl ihr =>
    intro s k a b hab h
    simp only [giveT]
    simp only [usedAt] at h
    by_cases ha : a < s + 2 ^ (k - 1)
    · rw [if_pos ha]
      refine used_mk ?_
      simp only [usedAt]
      by_cases hb : b < s + 2 ^ (k - 1)
      · rw [if_pos hb] at h ⊢
        exact ihl _ _ _ _ hab h
      · rw [if_neg hb] at h ⊢
        exact h
    · rw [if_neg ha]
      refine used_mk ?_
      simp only [usedAt]
      by_cases hb : b < s + 2 ^ (k - 1)
      · rw [if_pos hb] at h ⊢
        exact h
      · rw [if_neg hb] at h ⊢
        exact ihr _ _ _ _ hab h
/-- what was given is not used -/
theorem give_again (t : BT) : ∀ (s k a : Nat), ¬ usedAt (giveT t s k a) s k a := by
  induction t with
  | leaf u =>
    intro s k a
    simp only [giveT]
    split
    · simp [usedAt]
    · next h => simpa [usedAt] using h
  | node l r ihl ihr =>
    intro s k a
    simp only [giveT]
    split
    · next ha =>
      unfold mk
      split
      · simp [usedAt]
      · simp only [usedAt]
        rw [if_pos ha]
        exact ihl _ _ _
    · next ha =>
      unfold mk
      split
      · simp [usedAt]
      · simp only [usedAt]
        rw [if_neg ha]
        exact ihr _ _ _
theorem leaves_len2 (l r : BT) (s k : Nat) : 2 ≤ (leaves (.node l r) s k).length := by
  simp only [leaves, List.length_append]
  have h1 := List.length_pos_iff.2 (leaves_ne l s (k - 1))
  have h2 := List.length_pos_iff.2 (leaves_ne r (s + 2 ^ (k - 1)) (k - 1))
  omega

/-- what BuddyGive does -/
theorem give_casesY (xs : List Bl) (p a : Int) (ys : List Bl) (ok : Bool) (h1 : (if validY xs p = true then giveY xs p a else []) = ys) (h2 : (validY xs p && okG xs a) = ok) :
    (ok = false ∧ (ys = [] ∨ ys = xs)) ∨ (ok = true ∧ ∃ (P f g : Nat), p = P ∧ P ≤ 8 ∧ validY xs p = true ∧ validY ys p = true ∧ freeYW xs p = f ∧ freeYW ys p = g ∧ f < g ∧ g ≤ 256 ∧ okG ys a = false ∧
      ((g = 2 ^ P ∧ ∃ b, ys = [b] ∧ b.u = false) ∨ (g ≠ 2 ^ P ∧ ((∃ b, ys = [b] ∧ b.u = true) ∨ 2 ≤ ys.length)))) := by
  cases hv : validY xs p
  · rw [hv] at h1 h2
    exact .inl ⟨h2.symm, .inl h1.symm⟩
  · rw [hv] at h1 h2
    simp only [if_true, Bool.true_and] at h1 h2
    cases ok
    · exact .inl ⟨rfl, .inr (h1.symm.trans (giveY_not h2))⟩
    · right
      refine ⟨rfl, ?_⟩
      obtain ⟨P, t, rfl, hP, hw, hr, rfl⟩ := tree_of_valid hv
      obtain ⟨c, rfl, hu⟩ := (okG_iff hw).1 h2
      have hw2 := give_wf t 0 P c hw
      have hr2 := give_red t 0 P c hr
      have hg := (giveY_tree hP hw hr hu).2
      rw [h1] at hg
      have hlt := give_free_lt t 0 P c hw hu
      have hle := free_le _ P hw2
      have h8 := (two_pow_le hP).2
      have hag := give_again t 0 P c
      have hall := free_all _ P hw2 hr2
      generalize giveT t 0 P c = t2 at hw2 hr2 hg hlt hle hag hall
      subst hg
      refine ⟨P, freeT t P, freeT t2 P, rfl, hP, rfl, valid_of_tree hP hw2 hr2, freeYW_tree hP hw hr, freeYW_tree hP hw2 hr2, hlt, by omega, ?_, ?_⟩
      · cases ho : okG (leaves t2 0 P) c
        · rfl
        · obtain ⟨d, e, hd⟩ := (okG_iff hw2).1 ho
          obtain rfl : c = d := by omega
          exact absurd hd hag
      · by_cases hf : freeT t2 P = 2 ^ P
        · left
          rw [hall hf]
          exact ⟨by simp [freeT], _, rfl, rfl⟩
        · right
          refine ⟨hf, ?_⟩
          cases t2 with
          | leaf u =>
            cases u
            · simp [freeT] at hf
            · exact .inl ⟨_, rfl, rfl⟩
          | node l r => exact .inr (leaves_len2 l r 0 P)

/-- what the law of BuddyOrder asks: another used buddy given before or behind -/
theorem order_lawY {xs : List Bl} {p a : Int} {k : Nat} {y : Bl} (hv : validY xs p = true) (ho : okG xs a = true) (hy : xs[k]? = some y) (hu : y.u = true) (hne : y.s ≠ a) :
    okG (giveY xs p a) y.s = true ∧ okG xs y.s = true ∧ okG (giveY xs p y.s) a = true ∧ giveY (giveY xs p a) p y.s = giveY (giveY xs p y.s) p a := by
  obtain ⟨P, t, rfl, hP, hw, hr, rfl⟩ := tree_of_valid hv
  obtain ⟨c, rfl, hc⟩ := (okG_iff hw).1 ho
  obtain ⟨j, _, _, _, e4, _⟩ := validY_at hv hy
  obtain ⟨d, hd⟩ : ∃ d : Nat, y.s = d := ⟨_, e4⟩
  have hdu : usedAt t 0 P d := by
    refine used_of_mem t 0 P d k y.z hw ?_
    rw [hy, ← hd, ← hu]
  rw [hd] at hne ⊢
  have hcd : c ≠ d := by omega
  have wc := give_wf t 0 P c hw
  have rc := give_red t 0 P c hr
  have wd := give_wf t 0 P d hw
  have rd := give_red t 0 P d hr
  have u1 := give_other t 0 P c d hcd hdu
  have u2 := give_other t 0 P d c (Ne.symm hcd) hc
  have g1 := giveY_tree hP hw hr hc
  have g2 := giveY_tree hP hw hr hdu
  have g3 := giveY_tree hP wc rc u1
  have g4 := giveY_tree hP wd rd u2
  rw [g1.2, g2.2]
  exact ⟨g3.1, g2.1, g4.1, by rw [g3.2, g4.2, give_comm]⟩
end Bud
end Go.Proofs.Ythihaclhlmpioaa

namespace Go.Proofs.Ythihaclhlmpioaa
open Go.RowKit

/-- what holds of the world while a region draws: the call's own buddies, the reader, nothing else changed -/
structure DrawV (w0 : World) (gr base R : Nat) (v : Value) (xs : List Bl) (w : World) : Prop where
  own : OwnY w base v xs
  rd : Rd w gr R
  grown : w0.grownBy w (some gr)
theorem DrawV.same {w0 w : World} {gr base R R' : Nat} {v : Value} {xs : List Bl} (h : DrawV w0 gr base R v xs w) (e : R' = R) : DrawV w0 gr base R' v xs w := e ▸ h
theorem DrawV.alloc {w0 w : World} {gr base R : Nat} {v : Value} {xs : List Bl} (h : DrawV w0 gr base R v xs w) (o : Obj) : DrawV w0 gr base R v xs (w.alloc o) :=
  ⟨World.ownsRow.alloc h.own o, h.rd.below ((Below.refl w.heap.size w).alloc (Nat.le_refl _) o) h.rd.lt, World.grownBy.trans h.grown (World.grownBy_alloc w o _)⟩
theorem DrawV.pick {w0 w w' : World} {gr base R R' : Nat} {v : Value} {xs : List Bl} (h : DrawV w0 gr base R v xs w) (hgb : gr < base) (hr : Rd w' gr (R + 1)) (hg : w.grownBy w' (some gr)) (e : R' = R + 1) : DrawV w0 gr base R' v xs w' := by
  subst e
  refine ⟨h.own.far hg ?_, hr, World.grownBy.trans h.grown hg⟩
  right
  intro e
  have := (World.ownsRow.lt h.own gr e).1
  omega
/-- a place of the list -/
def LIdx (xs : List Bl) (t : Value) : Prop := ∃ j : Nat, t = .int .i64 j ∧ j < xs.length
/-- the address of a buddy's start -/
def LPtr (g : Nat) (xs : List Bl) (t : Value) : Prop := ∃ j : Nat, t = .pointer (some ⟨g, j * 3, none⟩) ∧ j < xs.length
theorem cell_s {w : World} {base g c j : Nat} {xs : List Bl} (h : OwnY w base (.slice (some ⟨g, 0, none⟩) xs.length c) xs) (ha : AllI xs) (hj : j < xs.length) :
    ∃ Q : Int, w.cell? ⟨g, j * 3, none⟩ = some (.int .i64 Q) ∧ -9223372036854775808 ≤ Q ∧ Q ≤ 9223372036854775807 := by
  obtain ⟨g', o', x, e', _, _, i1, _, d1, _⟩ := (h.reads ha).at_ hj
  injection e' with e'
  injection e' with e1 e2
  subst e1 e2
  rw [Nat.zero_add] at d1
  exact ⟨x.s, d1, i1.1, i1.2⟩

/-- buddies, a power and a number have been drawn for a law -/
def DrawnYT (w : World) (e : Ending) (w' : World) : Prop :=
  ∃ (v : Value) (xs : List Bl) (T q : Int), e = .returned (.tuple #[v, .int .i64 T, .int .i64 q]) ∧ OwnY w' w.heap.size v xs ∧ AllI xs ∧ 1 ≤ xs.length ∧ xs.length ≤ 300 ∧ -1 ≤ T ∧ T ≤ 9 ∧ I64 q ∧ Below w.heap.size w w'

set_option maxRecDepth 100000 in
set_option maxHeartbeats 4000000 in
theorem drawBuddyTake_any (A : Option Addr) (n c : Nat) (W00 : World) (h : Bytes W00 W00.heap.size A n) (hc : n ≤ c) (hn : n ≤ 9223372036854775807) :
    Calls Try.prog 22 #[.slice A n c] W00 (DrawnYT W00) := by
  go_enter Try.func22, Try.ntmps22
  go_wp2_with fail
  refine (open_any _ _ _ _ h hc hn).mono ?_
  rintro e W0 ⟨rfl, hr1, b1⟩
  obtain ⟨gr, hgr⟩ : ∃ gr, W00.heap.size = gr := ⟨_, rfl⟩
  rw [hgr] at hr1 ⊢
  have hgb := hr1.lt
  go_wp2_with fail
  refine (l20Buddies_any _ _ _ _ hr1 (by omega) (by omega) (by omega)).mono ?_
  rintro e w2 ⟨v, xs, T, rfl, ho, ha, h1, h2, h3, h4, hr2, hg⟩
  have HA := Lib.hid ha
  clear ha
  obtain ⟨A2, c2, rfl, f2⟩ := ho.form
  obtain ⟨gl, rfl, _, _⟩ := f2 h1
  clear f2
  have h0W : DrawV W0 gr W0.heap.size (0 + 100 + false.toNat + false.toNat + false.toNat) (.slice (some ⟨gl, 0, none⟩) xs.length c2) xs w2.drew := ⟨World.ownsRow.drew ho, hr2.below (Below.refl w2.heap.size w2).drew hr2.lt, World.grownBy.trans hg (only_below (Below.refl _ _).drew _)⟩
  clear ho hr2 hg
  go_wp2_with fail
  refine wp_region_inv (by kernel_rfl) (by kernel_rfl) (fun L a w => ∃ t2 t3 t4 t15 t16 t17 t18 t19 t20 t21 t22 t23 t24 t25 t26 t27 t28 t29 t30 : Value, a = { tmps := #[Value.slice A n c, undef, t2, t3, t4, Value.pointer (some ⟨gr, 0, none⟩), Value.slice (some ⟨gl, 0, none⟩) xs.length c2, Value.int .i64 T, Value.slice A n c, Value.pointer (some ⟨gr, 0, none⟩), Value.tuple #[Value.slice (some ⟨gl, 0, none⟩) xs.length c2, Value.int .i64 T], Value.pointer (some ⟨gr, 0, none⟩), Value.tuple #[Value.slice (some ⟨gl, 0, none⟩) xs.length c2, Value.int .i64 T], Value.slice (some ⟨gl, 0, none⟩) xs.length c2, Value.int .i64 T, t15, t16, t17, t18, t19, t20, t21, t22, t23, t24, t25, t26, t27, t28, t29, t30], defers := [] } ∧ DrawV W0 gr W0.heap.size (0 + 100 + (L 3).toNat + (L 6).toNat + (L 11).toNat) (Value.slice (some ⟨gl, 0, none⟩) xs.length c2) xs w ∧ (L 0 = true → t15 = Value.slice (some ⟨gl, 0, none⟩) xs.length c2) ∧ (L 1 = true → t16 = Value.int .i64 T) ∧ (L 2 = true → t17 = Value.pointer (some ⟨gr, 0, none⟩)) ∧ (L 3 = true → IntIn 0 8 t18) ∧ (L 4 = true → IntIn 1 9 t19) ∧ (L 5 = true → t20 = Value.pointer (some ⟨gr, 0, none⟩)) ∧ (L 6 = true → IntIn 0 255 t21) ∧ (L 7 = true → IntIn 1 256 t22) ∧ (L 8 = true → TblOf w gr 4 0 257 t23) ∧ (L 9 = true → TblOf w gr 8 0 3 t24) ∧ (L 10 = true → t25 = Value.pointer (some ⟨gr, 0, none⟩)) ∧ (L 11 = true → IntIn 0 7 t26) ∧ (L 12 = true → PtrOf w gr 8 0 3 t27) ∧ (L 13 = true → IntIn 0 3 t28) ∧ (L 14 = true → PtrOf w gr 4 0 257 t29) ∧ (L 15 = true → IntIn 0 257 t30) ∧ (L 16 = true → t2 = Value.slice (some ⟨gl, 0, none⟩) xs.length c2) ∧ (L 17 = true → t3 = Value.int .i64 T) ∧ (L 18 = true → IntIn 0 257 t4)) ?h0 ?hstep ?hdone
  case h0 => exact ⟨_, _, _, _, _, _, _, _, _, _, _, _, _, _, _, _, _, _, _, rfl, h0W, (fun h => absurd h Bool.false_ne_true), (fun h => absurd h Bool.false_ne_true), (fun h => absurd h Bool.false_ne_true), (fun h => absurd h Bool.false_ne_true), (fun h => absurd h Bool.false_ne_true), (fun h => absurd h Bool.false_ne_true), (fun h => absurd h Bool.false_ne_true), (fun h => absurd h Bool.false_ne_true), (fun h => absurd h Bool.false_ne_true), (fun h => absurd h Bool.false_ne_true), (fun h => absurd h Bool.false_ne_true), (fun h => absurd h Bool.false_ne_true), (fun h => absurd h Bool.false_ne_true), (fun h => absurd h Bool.false_ne_true), (fun h => absurd h Bool.false_ne_true), (fun h => absurd h Bool.false_ne_true), (fun h => absurd h Bool.false_ne_true), (fun h => absurd h Bool.false_ne_true), (fun h => absurd h Bool.false_ne_true)⟩
  case hstep =>
    rintro L a w i o ho hL hd ⟨t2, t3, t4, t15, t16, t17, t18, t19, t20, t21, t22, t23, t24, t25, t26, t27, t28, t29, t30, rfl, hW, f0, f1, f2, f3, f4, f5, f6, f7, f8, f9, f10, f11, f12, f13, f14, f15, f16, f17, f18⟩
    have hi : i < 19 := (Array.getElem?_eq_some_iff.1 ho).1
    obtain rfl | rfl | rfl | rfl | rfl | rfl | rfl | rfl | rfl | rfl | rfl | rfl | rfl | rfl | rfl | rfl | rfl | rfl | rfl : i = 0 ∨ i = 1 ∨ i = 2 ∨ i = 3 ∨ i = 4 ∨ i = 5 ∨ i = 6 ∨ i = 7 ∨ i = 8 ∨ i = 9 ∨ i = 10 ∨ i = 11 ∨ i = 12 ∨ i = 13 ∨ i = 14 ∨ i = 15 ∨ i = 16 ∨ i = 17 ∨ i = 18 := by omega
    · obtain rfl := Option.some.inj ho
      refine wpOp_step rfl (fun K' hK => ?_)
      go_simp
      refine hK _ _ ?_
      exact ⟨_, _, _, _, _, _, _, _, _, _, _, _, _, _, _, _, _, _, _, rfl, hW.same (by simp [upd]), fun _ => rfl, fun h => f1 (upd_ne h (by decide)), fun h => f2 (upd_ne h (by decide)), fun h => f3 (upd_ne h (by decide)), fun h => f4 (upd_ne h (by decide)), fun h => f5 (upd_ne h (by decide)), fun h => f6 (upd_ne h (by decide)), fun h => f7 (upd_ne h (by decide)), fun h => f8 (upd_ne h (by decide)), fun h => f9 (upd_ne h (by decide)), fun h => f10 (upd_ne h (by decide)), fun h => f11 (upd_ne h (by decide)), fun h => f12 (upd_ne h (by decide)), fun h => f13 (upd_ne h (by decide)), fun h => f14 (upd_ne h (by decide)), fun h => f15 (upd_ne h (by decide)), fun h => f16 (upd_ne h (by decide)), fun h => f17 (upd_ne h (by decide)), fun h => f18 (upd_ne h (by decide))⟩
    · obtain rfl := Option.some.inj ho
      refine wpOp_step rfl (fun K' hK => ?_)
      go_simp
      refine hK _ _ ?_
      exact ⟨_, _, _, _, _, _, _, _, _, _, _, _, _, _, _, _, _, _, _, rfl, hW.same (by simp [upd]), fun h => f0 (upd_ne h (by decide)), fun _ => rfl, fun h => f2 (upd_ne h (by decide)), fun h => f3 (upd_ne h (by decide)), fun h => f4 (upd_ne h (by decide)), fun h => f5 (upd_ne h (by decide)), fun h => f6 (upd_ne h (by decide)), fun h => f7 (upd_ne h (by decide)), fun h => f8 (upd_ne h (by decide)), fun h => f9 (upd_ne h (by decide)), fun h => f10 (upd_ne h (by decide)), fun h => f11 (upd_ne h (by decide)), fun h => f12 (upd_ne h (by decide)), fun h => f13 (upd_ne h (by decide)), fun h => f14 (upd_ne h (by decide)), fun h => f15 (upd_ne h (by decide)), fun h => f16 (upd_ne h (by decide)), fun h => f17 (upd_ne h (by decide)), fun h => f18 (upd_ne h (by decide))⟩
    · obtain rfl := Option.some.inj ho
      refine wpOp_step rfl (fun K' hK => ?_)
      go_simp
      refine hK _ _ ?_
      exact ⟨_, _, _, _, _, _, _, _, _, _, _, _, _, _, _, _, _, _, _, rfl, hW.same (by simp [upd]), fun h => f0 (upd_ne h (by decide)), fun h => f1 (upd_ne h (by decide)), fun _ => rfl, fun h => f3 (upd_ne h (by decide)), fun h => f4 (upd_ne h (by decide)), fun h => f5 (upd_ne h (by decide)), fun h => f6 (upd_ne h (by decide)), fun h => f7 (upd_ne h (by decide)), fun h => f8 (upd_ne h (by decide)), fun h => f9 (upd_ne h (by decide)), fun h => f10 (upd_ne h (by decide)), fun h => f11 (upd_ne h (by decide)), fun h => f12 (upd_ne h (by decide)), fun h => f13 (upd_ne h (by decide)), fun h => f14 (upd_ne h (by decide)), fun h => f15 (upd_ne h (by decide)), fun h => f16 (upd_ne h (by decide)), fun h => f17 (upd_ne h (by decide)), fun h => f18 (upd_ne h (by decide))⟩
    · obtain rfl := Option.some.inj ho
      have g2 := f2 (hd ⟨2, .data⟩ (by simp) rfl)
      subst g2
      refine wpOp_step rfl (fun K' hK => ?_)
      go_simp
      refine (pick_any gr (0 + 100 + (L 3).toNat + (L 6).toNat + (L 11).toNat) _ w hW.rd (by have := Bool.toNat_le (L 3); have := Bool.toNat_le (L 6); have := Bool.toNat_le (L 11); omega) (by omega)).mono ?_
      rintro e w' ⟨r, rfl, r0, r1, hr, G⟩
      refine hK _ _ ?_
      exact ⟨_, _, _, _, _, _, _, _, _, _, _, _, _, _, _, _, _, _, _, rfl, hW.pick hgb hr G (by simp [upd, hL]; try omega), fun h => f0 (upd_ne h (by decide)), fun h => f1 (upd_ne h (by decide)), fun h => f2 (upd_ne h (by decide)), fun _ => ⟨r, rfl, by omega, by omega⟩, fun h => f4 (upd_ne h (by decide)), fun h => f5 (upd_ne h (by decide)), fun h => f6 (upd_ne h (by decide)), fun h => f7 (upd_ne h (by decide)), fun h => (f8 (upd_ne h (by decide))).pick G, fun h => (f9 (upd_ne h (by decide))).pick G, fun h => f10 (upd_ne h (by decide)), fun h => f11 (upd_ne h (by decide)), fun h => (f12 (upd_ne h (by decide))).pick G, fun h => f13 (upd_ne h (by decide)), fun h => (f14 (upd_ne h (by decide))).pick G, fun h => f15 (upd_ne h (by decide)), fun h => f16 (upd_ne h (by decide)), fun h => f17 (upd_ne h (by decide)), fun h => f18 (upd_ne h (by decide))⟩
    · obtain rfl := Option.some.inj ho
      have g3 := f3 (hd ⟨3, .data⟩ (by simp) rfl)
      obtain ⟨q3, rfl, a3, b3⟩ := g3
      have hw : IntKind.i64.wrap (1 + q3) = 1 + q3 := IntWalk.i64_in _ (by omega)
      refine wpOp_step rfl (fun K' hK => ?_)
      go_simp
      refine hK _ _ ?_
      clear hw
      exact ⟨_, _, _, _, _, _, _, _, _, _, _, _, _, _, _, _, _, _, _, rfl, hW.same (by simp [upd]), fun h => f0 (upd_ne h (by decide)), fun h => f1 (upd_ne h (by decide)), fun h => f2 (upd_ne h (by decide)), fun h => f3 (upd_ne h (by decide)), fun _ => ⟨_, rfl, by omega, by omega⟩, fun h => f5 (upd_ne h (by decide)), fun h => f6 (upd_ne h (by decide)), fun h => f7 (upd_ne h (by decide)), fun h => f8 (upd_ne h (by decide)), fun h => f9 (upd_ne h (by decide)), fun h => f10 (upd_ne h (by decide)), fun h => f11 (upd_ne h (by decide)), fun h => f12 (upd_ne h (by decide)), fun h => f13 (upd_ne h (by decide)), fun h => f14 (upd_ne h (by decide)), fun h => f15 (upd_ne h (by decide)), fun h => f16 (upd_ne h (by decide)), fun h => f17 (upd_ne h (by decide)), fun h => f18 (upd_ne h (by decide))⟩
    · obtain rfl := Option.some.inj ho
      refine wpOp_step rfl (fun K' hK => ?_)
      go_simp
      refine hK _ _ ?_
      exact ⟨_, _, _, _, _, _, _, _, _, _, _, _, _, _, _, _, _, _, _, rfl, hW.same (by simp [upd]), fun h => f0 (upd_ne h (by decide)), fun h => f1 (upd_ne h (by decide)), fun h => f2 (upd_ne h (by decide)), fun h => f3 (upd_ne h (by decide)), fun h => f4 (upd_ne h (by decide)), fun _ => rfl, fun h => f6 (upd_ne h (by decide)), fun h => f7 (upd_ne h (by decide)), fun h => f8 (upd_ne h (by decide)), fun h => f9 (upd_ne h (by decide)), fun h => f10 (upd_ne h (by decide)), fun h => f11 (upd_ne h (by decide)), fun h => f12 (upd_ne h (by decide)), fun h => f13 (upd_ne h (by decide)), fun h => f14 (upd_ne h (by decide)), fun h => f15 (upd_ne h (by decide)), fun h => f16 (upd_ne h (by decide)), fun h => f17 (upd_ne h (by decide)), fun h => f18 (upd_ne h (by decide))⟩
    · obtain rfl := Option.some.inj ho
      have g5 := f5 (hd ⟨5, .data⟩ (by simp) rfl)
      subst g5
      refine wpOp_step rfl (fun K' hK => ?_)
      go_simp
      refine (pick_any gr (0 + 100 + (L 3).toNat + (L 6).toNat + (L 11).toNat) _ w hW.rd (by have := Bool.toNat_le (L 3); have := Bool.toNat_le (L 6); have := Bool.toNat_le (L 11); omega) (by omega)).mono ?_
      rintro e w' ⟨r, rfl, r0, r1, hr, G⟩
      refine hK _ _ ?_
      exact ⟨_, _, _, _, _, _, _, _, _, _, _, _, _, _, _, _, _, _, _, rfl, hW.pick hgb hr G (by simp [upd, hL]; try omega), fun h => f0 (upd_ne h (by decide)), fun h => f1 (upd_ne h (by decide)), fun h => f2 (upd_ne h (by decide)), fun h => f3 (upd_ne h (by decide)), fun h => f4 (upd_ne h (by decide)), fun h => f5 (upd_ne h (by decide)), fun _ => ⟨r, rfl, by omega, by omega⟩, fun h => f7 (upd_ne h (by decide)), fun h => (f8 (upd_ne h (by decide))).pick G, fun h => (f9 (upd_ne h (by decide))).pick G, fun h => f10 (upd_ne h (by decide)), fun h => f11 (upd_ne h (by decide)), fun h => (f12 (upd_ne h (by decide))).pick G, fun h => f13 (upd_ne h (by decide)), fun h => (f14 (upd_ne h (by decide))).pick G, fun h => f15 (upd_ne h (by decide)), fun h => f16 (upd_ne h (by decide)), fun h => f17 (upd_ne h (by decide)), fun h => f18 (upd_ne h (by decide))⟩
    · obtain rfl := Option.some.inj ho
      have g6 := f6 (hd ⟨6, .data⟩ (by simp) rfl)
      obtain ⟨q6, rfl, a6, b6⟩ := g6
      have hw : IntKind.i64.wrap (1 + q6) = 1 + q6 := IntWalk.i64_in _ (by omega)
      refine wpOp_step rfl (fun K' hK => ?_)
      go_simp
      refine hK _ _ ?_
      clear hw
      exact ⟨_, _, _, _, _, _, _, _, _, _, _, _, _, _, _, _, _, _, _, rfl, hW.same (by simp [upd]), fun h => f0 (upd_ne h (by decide)), fun h => f1 (upd_ne h (by decide)), fun h => f2 (upd_ne h (by decide)), fun h => f3 (upd_ne h (by decide)), fun h => f4 (upd_ne h (by decide)), fun h => f5 (upd_ne h (by decide)), fun h => f6 (upd_ne h (by decide)), fun _ => ⟨_, rfl, by omega, by omega⟩, fun h => f8 (upd_ne h (by decide)), fun h => f9 (upd_ne h (by decide)), fun h => f10 (upd_ne h (by decide)), fun h => f11 (upd_ne h (by decide)), fun h => f12 (upd_ne h (by decide)), fun h => f13 (upd_ne h (by decide)), fun h => f14 (upd_ne h (by decide)), fun h => f15 (upd_ne h (by decide)), fun h => f16 (upd_ne h (by decide)), fun h => f17 (upd_ne h (by decide)), fun h => f18 (upd_ne h (by decide))⟩
    · obtain rfl := Option.some.inj ho
      have g4 := f4 (hd ⟨4, .data⟩ (by simp) rfl)
      have g7 := f7 (hd ⟨7, .data⟩ (by simp) rfl)
      obtain ⟨q4, rfl, a4, b4⟩ := g4
      obtain ⟨q7, rfl, a7, b7⟩ := g7
      refine wpOp_step rfl (fun K' hK => ?_)
      go_simp
      refine hK _ _ ?_
      exact ⟨_, _, _, _, _, _, _, _, _, _, _, _, _, _, _, _, _, _, _, rfl, (hW.alloc _).same (by simp [upd]), fun h => f0 (upd_ne h (by decide)), fun h => f1 (upd_ne h (by decide)), fun h => f2 (upd_ne h (by decide)), fun h => f3 (upd_ne h (by decide)), fun h => f4 (upd_ne h (by decide)), fun h => f5 (upd_ne h (by decide)), fun h => f6 (upd_ne h (by decide)), fun h => f7 (upd_ne h (by decide)), fun _ => ⟨_, rfl, Tbl.new w gr _ [q4, q7, 0, 257] _ _ hW.rd.lt (by intro q hq; simp at hq; omega) _ rfl⟩, fun h => (f9 (upd_ne h (by decide))).alloc _, fun h => f10 (upd_ne h (by decide)), fun h => f11 (upd_ne h (by decide)), fun h => (f12 (upd_ne h (by decide))).alloc _, fun h => f13 (upd_ne h (by decide)), fun h => (f14 (upd_ne h (by decide))).alloc _, fun h => f15 (upd_ne h (by decide)), fun h => f16 (upd_ne h (by decide)), fun h => f17 (upd_ne h (by decide)), fun h => f18 (upd_ne h (by decide))⟩
    · obtain rfl := Option.some.inj ho
      refine wpOp_step rfl (fun K' hK => ?_)
      go_simp
      refine hK _ _ ?_
      exact ⟨_, _, _, _, _, _, _, _, _, _, _, _, _, _, _, _, _, _, _, rfl, (hW.alloc _).same (by simp [upd]), fun h => f0 (upd_ne h (by decide)), fun h => f1 (upd_ne h (by decide)), fun h => f2 (upd_ne h (by decide)), fun h => f3 (upd_ne h (by decide)), fun h => f4 (upd_ne h (by decide)), fun h => f5 (upd_ne h (by decide)), fun h => f6 (upd_ne h (by decide)), fun h => f7 (upd_ne h (by decide)), fun h => (f8 (upd_ne h (by decide))).alloc _, fun _ => ⟨_, rfl, Tbl.new w gr _ [0, 0, 0, 0, 1, 1, 2, 3] _ _ hW.rd.lt (by intro q hq; simp at hq; omega) _ rfl⟩, fun h => f10 (upd_ne h (by decide)), fun h => f11 (upd_ne h (by decide)), fun h => (f12 (upd_ne h (by decide))).alloc _, fun h => f13 (upd_ne h (by decide)), fun h => (f14 (upd_ne h (by decide))).alloc _, fun h => f15 (upd_ne h (by decide)), fun h => f16 (upd_ne h (by decide)), fun h => f17 (upd_ne h (by decide)), fun h => f18 (upd_ne h (by decide))⟩
    · obtain rfl := Option.some.inj ho
      refine wpOp_step rfl (fun K' hK => ?_)
      go_simp
      refine hK _ _ ?_
      exact ⟨_, _, _, _, _, _, _, _, _, _, _, _, _, _, _, _, _, _, _, rfl, hW.same (by simp [upd]), fun h => f0 (upd_ne h (by decide)), fun h => f1 (upd_ne h (by decide)), fun h => f2 (upd_ne h (by decide)), fun h => f3 (upd_ne h (by decide)), fun h => f4 (upd_ne h (by decide)), fun h => f5 (upd_ne h (by decide)), fun h => f6 (upd_ne h (by decide)), fun h => f7 (upd_ne h (by decide)), fun h => f8 (upd_ne h (by decide)), fun h => f9 (upd_ne h (by decide)), fun _ => rfl, fun h => f11 (upd_ne h (by decide)), fun h => f12 (upd_ne h (by decide)), fun h => f13 (upd_ne h (by decide)), fun h => f14 (upd_ne h (by decide)), fun h => f15 (upd_ne h (by decide)), fun h => f16 (upd_ne h (by decide)), fun h => f17 (upd_ne h (by decide)), fun h => f18 (upd_ne h (by decide))⟩
    · obtain rfl := Option.some.inj ho
      have g10 := f10 (hd ⟨10, .data⟩ (by simp) rfl)
      subst g10
      refine wpOp_step rfl (fun K' hK => ?_)
      go_simp
      refine (pick_any gr (0 + 100 + (L 3).toNat + (L 6).toNat + (L 11).toNat) _ w hW.rd (by have := Bool.toNat_le (L 3); have := Bool.toNat_le (L 6); have := Bool.toNat_le (L 11); omega) (by omega)).mono ?_
      rintro e w' ⟨r, rfl, r0, r1, hr, G⟩
      refine hK _ _ ?_
      exact ⟨_, _, _, _, _, _, _, _, _, _, _, _, _, _, _, _, _, _, _, rfl, hW.pick hgb hr G (by simp [upd, hL]; try omega), fun h => f0 (upd_ne h (by decide)), fun h => f1 (upd_ne h (by decide)), fun h => f2 (upd_ne h (by decide)), fun h => f3 (upd_ne h (by decide)), fun h => f4 (upd_ne h (by decide)), fun h => f5 (upd_ne h (by decide)), fun h => f6 (upd_ne h (by decide)), fun h => f7 (upd_ne h (by decide)), fun h => (f8 (upd_ne h (by decide))).pick G, fun h => (f9 (upd_ne h (by decide))).pick G, fun h => f10 (upd_ne h (by decide)), fun _ => ⟨r, rfl, by omega, by omega⟩, fun h => (f12 (upd_ne h (by decide))).pick G, fun h => f13 (upd_ne h (by decide)), fun h => (f14 (upd_ne h (by decide))).pick G, fun h => f15 (upd_ne h (by decide)), fun h => f16 (upd_ne h (by decide)), fun h => f17 (upd_ne h (by decide)), fun h => f18 (upd_ne h (by decide))⟩
    · obtain rfl := Option.some.inj ho
      have g9 := f9 (hd ⟨9, .data⟩ (by simp) rfl)
      have g11 := f11 (hd ⟨11, .data⟩ (by simp) rfl)
      obtain ⟨h9, rfl, T9⟩ := g9
      obtain ⟨q11, rfl, a11, b11⟩ := g11
      obtain ⟨n11, rfl⟩ := Int.eq_ofNat_of_zero_le (show 0 ≤ q11 by omega)
      have l11 : n11 < 8 := by omega
      have l11' : (n11 : Int) < 8 := by omega
      refine wpOp_step rfl (fun K' hK => ?_)
      go_simp
      refine hK _ _ ?_
      exact ⟨_, _, _, _, _, _, _, _, _, _, _, _, _, _, _, _, _, _, _, rfl, hW.same (by simp [upd]), fun h => f0 (upd_ne h (by decide)), fun h => f1 (upd_ne h (by decide)), fun h => f2 (upd_ne h (by decide)), fun h => f3 (upd_ne h (by decide)), fun h => f4 (upd_ne h (by decide)), fun h => f5 (upd_ne h (by decide)), fun h => f6 (upd_ne h (by decide)), fun h => f7 (upd_ne h (by decide)), fun h => f8 (upd_ne h (by decide)), fun h => f9 (upd_ne h (by decide)), fun h => f10 (upd_ne h (by decide)), fun h => f11 (upd_ne h (by decide)), fun _ => ⟨h9, n11, by simp, l11, T9⟩, fun h => f13 (upd_ne h (by decide)), fun h => f14 (upd_ne h (by decide)), fun h => f15 (upd_ne h (by decide)), fun h => f16 (upd_ne h (by decide)), fun h => f17 (upd_ne h (by decide)), fun h => f18 (upd_ne h (by decide))⟩
    · obtain rfl := Option.some.inj ho
      have g12 := f12 (hd ⟨12, .data⟩ (by simp) rfl)
      obtain ⟨h12, j12, rfl, J12, T12⟩ := g12
      obtain ⟨Q, hQ, Q1, Q2⟩ := T12.2.2 j12 J12
      refine wpOp_step rfl (fun K' hK => ?_)
      go_simp
      refine hK _ _ ?_
      exact ⟨_, _, _, _, _, _, _, _, _, _, _, _, _, _, _, _, _, _, _, rfl, hW.same (by simp [upd]), fun h => f0 (upd_ne h (by decide)), fun h => f1 (upd_ne h (by decide)), fun h => f2 (upd_ne h (by decide)), fun h => f3 (upd_ne h (by decide)), fun h => f4 (upd_ne h (by decide)), fun h => f5 (upd_ne h (by decide)), fun h => f6 (upd_ne h (by decide)), fun h => f7 (upd_ne h (by decide)), fun h => f8 (upd_ne h (by decide)), fun h => f9 (upd_ne h (by decide)), fun h => f10 (upd_ne h (by decide)), fun h => f11 (upd_ne h (by decide)), fun h => f12 (upd_ne h (by decide)), fun _ => ⟨Q, rfl, Q1, Q2⟩, fun h => f14 (upd_ne h (by decide)), fun h => f15 (upd_ne h (by decide)), fun h => f16 (upd_ne h (by decide)), fun h => f17 (upd_ne h (by decide)), fun h => f18 (upd_ne h (by decide))⟩
    · obtain rfl := Option.some.inj ho
      have g8 := f8 (hd ⟨8, .data⟩ (by simp) rfl)
      have g13 := f13 (hd ⟨13, .data⟩ (by simp) rfl)
      obtain ⟨h8, rfl, T8⟩ := g8
      obtain ⟨q13, rfl, a13, b13⟩ := g13
      obtain ⟨n13, rfl⟩ := Int.eq_ofNat_of_zero_le (show 0 ≤ q13 by omega)
      have l13 : n13 < 4 := by omega
      have l13' : (n13 : Int) < 4 := by omega
      refine wpOp_step rfl (fun K' hK => ?_)
      go_simp
      refine hK _ _ ?_
      exact ⟨_, _, _, _, _, _, _, _, _, _, _, _, _, _, _, _, _, _, _, rfl, hW.same (by simp [upd]), fun h => f0 (upd_ne h (by decide)), fun h => f1 (upd_ne h (by decide)), fun h => f2 (upd_ne h (by decide)), fun h => f3 (upd_ne h (by decide)), fun h => f4 (upd_ne h (by decide)), fun h => f5 (upd_ne h (by decide)), fun h => f6 (upd_ne h (by decide)), fun h => f7 (upd_ne h (by decide)), fun h => f8 (upd_ne h (by decide)), fun h => f9 (upd_ne h (by decide)), fun h => f10 (upd_ne h (by decide)), fun h => f11 (upd_ne h (by decide)), fun h => f12 (upd_ne h (by decide)), fun h => f13 (upd_ne h (by decide)), fun _ => ⟨h8, n13, by simp, l13, T8⟩, fun h => f15 (upd_ne h (by decide)), fun h => f16 (upd_ne h (by decide)), fun h => f17 (upd_ne h (by decide)), fun h => f18 (upd_ne h (by decide))⟩
    · obtain rfl := Option.some.inj ho
      have g14 := f14 (hd ⟨14, .data⟩ (by simp) rfl)
      obtain ⟨h14, j14, rfl, J14, T14⟩ := g14
      obtain ⟨Q, hQ, Q1, Q2⟩ := T14.2.2 j14 J14
      refine wpOp_step rfl (fun K' hK => ?_)
      go_simp
      refine hK _ _ ?_
      exact ⟨_, _, _, _, _, _, _, _, _, _, _, _, _, _, _, _, _, _, _, rfl, hW.same (by simp [upd]), fun h => f0 (upd_ne h (by decide)), fun h => f1 (upd_ne h (by decide)), fun h => f2 (upd_ne h (by decide)), fun h => f3 (upd_ne h (by decide)), fun h => f4 (upd_ne h (by decide)), fun h => f5 (upd_ne h (by decide)), fun h => f6 (upd_ne h (by decide)), fun h => f7 (upd_ne h (by decide)), fun h => f8 (upd_ne h (by decide)), fun h => f9 (upd_ne h (by decide)), fun h => f10 (upd_ne h (by decide)), fun h => f11 (upd_ne h (by decide)), fun h => f12 (upd_ne h (by decide)), fun h => f13 (upd_ne h (by decide)), fun h => f14 (upd_ne h (by decide)), fun _ => ⟨Q, rfl, Q1, Q2⟩, fun h => f16 (upd_ne h (by decide)), fun h => f17 (upd_ne h (by decide)), fun h => f18 (upd_ne h (by decide))⟩
    · obtain rfl := Option.some.inj ho
      have g0 := f0 (hd ⟨0, .data⟩ (by simp) rfl)
      subst g0
      refine wpOp_step rfl (fun K' hK => ?_)
      go_simp
      refine hK _ _ ?_
      exact ⟨_, _, _, _, _, _, _, _, _, _, _, _, _, _, _, _, _, _, _, rfl, hW.same (by simp [upd]), fun h => f0 (upd_ne h (by decide)), fun h => f1 (upd_ne h (by decide)), fun h => f2 (upd_ne h (by decide)), fun h => f3 (upd_ne h (by decide)), fun h => f4 (upd_ne h (by decide)), fun h => f5 (upd_ne h (by decide)), fun h => f6 (upd_ne h (by decide)), fun h => f7 (upd_ne h (by decide)), fun h => f8 (upd_ne h (by decide)), fun h => f9 (upd_ne h (by decide)), fun h => f10 (upd_ne h (by decide)), fun h => f11 (upd_ne h (by decide)), fun h => f12 (upd_ne h (by decide)), fun h => f13 (upd_ne h (by decide)), fun h => f14 (upd_ne h (by decide)), fun h => f15 (upd_ne h (by decide)), fun _ => rfl, fun h => f17 (upd_ne h (by decide)), fun h => f18 (upd_ne h (by decide))⟩
    · obtain rfl := Option.some.inj ho
      have g1 := f1 (hd ⟨1, .data⟩ (by simp) rfl)
      subst g1
      refine wpOp_step rfl (fun K' hK => ?_)
      go_simp
      refine hK _ _ ?_
      exact ⟨_, _, _, _, _, _, _, _, _, _, _, _, _, _, _, _, _, _, _, rfl, hW.same (by simp [upd]), fun h => f0 (upd_ne h (by decide)), fun h => f1 (upd_ne h (by decide)), fun h => f2 (upd_ne h (by decide)), fun h => f3 (upd_ne h (by decide)), fun h => f4 (upd_ne h (by decide)), fun h => f5 (upd_ne h (by decide)), fun h => f6 (upd_ne h (by decide)), fun h => f7 (upd_ne h (by decide)), fun h => f8 (upd_ne h (by decide)), fun h => f9 (upd_ne h (by decide)), fun h => f10 (upd_ne h (by decide)), fun h => f11 (upd_ne h (by decide)), fun h => f12 (upd_ne h (by decide)), fun h => f13 (upd_ne h (by decide)), fun h => f14 (upd_ne h (by decide)), fun h => f15 (upd_ne h (by decide)), fun h => f16 (upd_ne h (by decide)), fun _ => rfl, fun h => f18 (upd_ne h (by decide))⟩
    · obtain rfl := Option.some.inj ho
      have g15 := f15 (hd ⟨15, .data⟩ (by simp) rfl)
      refine wpOp_step rfl (fun K' hK => ?_)
      go_simp
      refine hK _ _ ?_
      exact ⟨_, _, _, _, _, _, _, _, _, _, _, _, _, _, _, _, _, _, _, rfl, hW.same (by simp [upd]), fun h => f0 (upd_ne h (by decide)), fun h => f1 (upd_ne h (by decide)), fun h => f2 (upd_ne h (by decide)), fun h => f3 (upd_ne h (by decide)), fun h => f4 (upd_ne h (by decide)), fun h => f5 (upd_ne h (by decide)), fun h => f6 (upd_ne h (by decide)), fun h => f7 (upd_ne h (by decide)), fun h => f8 (upd_ne h (by decide)), fun h => f9 (upd_ne h (by decide)), fun h => f10 (upd_ne h (by decide)), fun h => f11 (upd_ne h (by decide)), fun h => f12 (upd_ne h (by decide)), fun h => f13 (upd_ne h (by decide)), fun h => f14 (upd_ne h (by decide)), fun h => f15 (upd_ne h (by decide)), fun h => f16 (upd_ne h (by decide)), fun h => f17 (upd_ne h (by decide)), fun _ => g15⟩
  case hdone =>
    rintro L a w hall ⟨t2, t3, t4, t15, t16, t17, t18, t19, t20, t21, t22, t23, t24, t25, t26, t27, t28, t29, t30, rfl, hW, f0, f1, f2, f3, f4, f5, f6, f7, f8, f9, f10, f11, f12, f13, f14, f15, f16, f17, f18⟩
    have f0 := f0 (hall 0 (by decide))
    have f1 := f1 (hall 1 (by decide))
    have f2 := f2 (hall 2 (by decide))
    have f3 := f3 (hall 3 (by decide))
    have f4 := f4 (hall 4 (by decide))
    have f5 := f5 (hall 5 (by decide))
    have f6 := f6 (hall 6 (by decide))
    have f7 := f7 (hall 7 (by decide))
    have f8 := f8 (hall 8 (by decide))
    have f9 := f9 (hall 9 (by decide))
    have f10 := f10 (hall 10 (by decide))
    have f11 := f11 (hall 11 (by decide))
    have f12 := f12 (hall 12 (by decide))
    have f13 := f13 (hall 13 (by decide))
    have f14 := f14 (hall 14 (by decide))
    have f15 := f15 (hall 15 (by decide))
    have f16 := f16 (hall 16 (by decide))
    have f17 := f17 (hall 17 (by decide))
    have f18 := f18 (hall 18 (by decide))
    obtain ⟨q, rfl, q0, q1⟩ := f18
    subst f16 f17
    go_wp2
    go_ret3
    exact ⟨_, xs, T, q, rfl, hW.own.base b1.size, HA.out, h1, h2, h3, h4, ⟨by omega, by omega⟩, b1.grown hW.grown b1.size (fun k hk => by injection hk; omega)⟩

set_option maxRecDepth 100000 in
set_option maxHeartbeats 4000000 in
theorem drawBuddyGive_any (A : Option Addr) (n c : Nat) (W00 : World) (h : Bytes W00 W00.heap.size A n) (hc : n ≤ c) (hn : n ≤ 9223372036854775807) :
    Calls Try.prog 28 #[.slice A n c] W00 (DrawnYT W00) := by
  go_enter Try.func28, Try.ntmps28
  go_wp2_with fail
  refine (open_any _ _ _ _ h hc hn).mono ?_
  rintro e W0 ⟨rfl, hr1, b1⟩
  obtain ⟨gr, hgr⟩ : ∃ gr, W00.heap.size = gr := ⟨_, rfl⟩
  rw [hgr] at hr1 ⊢
  have hgb := hr1.lt
  go_wp2_with fail
  refine (l20Buddies_any _ _ _ _ hr1 (by omega) (by omega) (by omega)).mono ?_
  rintro e w2 ⟨v, xs, T, rfl, ho, ha, h1, h2, h3, h4, hr2, hg⟩
  have HA := Lib.hid ha
  clear ha
  obtain ⟨A2, c2, rfl, f2⟩ := ho.form
  obtain ⟨gl, rfl, _, _⟩ := f2 h1
  clear f2
  have h0W : DrawV W0 gr W0.heap.size (0 + 100 + false.toNat + false.toNat + false.toNat + false.toNat) (.slice (some ⟨gl, 0, none⟩) xs.length c2) xs w2.drew := ⟨World.ownsRow.drew ho, hr2.below (Below.refl w2.heap.size w2).drew hr2.lt, World.grownBy.trans hg (only_below (Below.refl _ _).drew _)⟩
  clear ho hr2 hg
  go_wp2_with fail
  refine wp_region_inv (by kernel_rfl) (by kernel_rfl) (fun L a w => ∃ t2 t3 t4 t15 t16 t17 t18 t19 t20 t21 t22 t23 t24 t25 t26 t27 t28 t29 t30 t31 t32 t33 t34 t35 t36 t37 t38 t39 : Value, a = { tmps := #[Value.slice A n c, undef, t2, t3, t4, Value.pointer (some ⟨gr, 0, none⟩), Value.slice (some ⟨gl, 0, none⟩) xs.length c2, Value.int .i64 T, Value.slice A n c, Value.pointer (some ⟨gr, 0, none⟩), Value.tuple #[Value.slice (some ⟨gl, 0, none⟩) xs.length c2, Value.int .i64 T], Value.pointer (some ⟨gr, 0, none⟩), Value.tuple #[Value.slice (some ⟨gl, 0, none⟩) xs.length c2, Value.int .i64 T], Value.slice (some ⟨gl, 0, none⟩) xs.length c2, Value.int .i64 T, t15, t16, t17, t18, t19, t20, t21, t22, t23, t24, t25, t26, t27, t28, t29, t30, t31, t32, t33, t34, t35, t36, t37, t38, t39], defers := [] } ∧ DrawV W0 gr W0.heap.size (0 + 100 + (L 6).toNat + (L 14).toNat + (L 19).toNat + (L 22).toNat) (Value.slice (some ⟨gl, 0, none⟩) xs.length c2) xs w ∧ (L 0 = true → t15 = Value.slice (some ⟨gl, 0, none⟩) xs.length c2) ∧ (L 1 = true → t16 = Value.int .i64 T) ∧ (L 2 = true → t17 = Value.slice (some ⟨gl, 0, none⟩) xs.length c2) ∧ (L 3 = true → t18 = Value.pointer (some ⟨gr, 0, none⟩)) ∧ (L 4 = true → t19 = Value.slice (some ⟨gl, 0, none⟩) xs.length c2) ∧ (L 5 = true → t20 = Value.int .i64 (xs.length : Int)) ∧ (L 6 = true → LIdx xs t21) ∧ (L 7 = true → LPtr gl xs t22) ∧ (L 8 = true → LPtr gl xs t23) ∧ (L 9 = true → IntIn (-9223372036854775808) 9223372036854775807 t24) ∧ (L 10 = true → t25 = Value.slice (some ⟨gl, 0, none⟩) xs.length c2) ∧ (L 11 = true → t26 = Value.pointer (some ⟨gr, 0, none⟩)) ∧ (L 12 = true → t27 = Value.slice (some ⟨gl, 0, none⟩) xs.length c2) ∧ (L 13 = true → t28 = Value.int .i64 (xs.length : Int)) ∧ (L 14 = true → LIdx xs t29) ∧ (L 15 = true → LPtr gl xs t30) ∧ (L 16 = true → LPtr gl xs t31) ∧ (L 17 = true → IntIn (-9223372036854775808) 9223372036854775807 t32) ∧ (L 18 = true → t33 = Value.pointer (some ⟨gr, 0, none⟩)) ∧ (L 19 = true → IntIn 0 255 t34) ∧ (L 20 = true → TblOf w gr 4 (-9223372036854775808) 9223372036854775807 t35) ∧ (L 21 = true → t36 = Value.pointer (some ⟨gr, 0, none⟩)) ∧ (L 22 = true → IntIn 0 3 t37) ∧ (L 23 = true → PtrOf w gr 4 (-9223372036854775808) 9223372036854775807 t38) ∧ (L 24 = true → IntIn (-9223372036854775808) 9223372036854775807 t39) ∧ (L 25 = true → t2 = Value.slice (some ⟨gl, 0, none⟩) xs.length c2) ∧ (L 26 = true → t3 = Value.int .i64 T) ∧ (L 27 = true → IntIn (-9223372036854775808) 9223372036854775807 t4)) ?h0 ?hstep ?hdone
  case h0 => exact ⟨_, _, _, _, _, _, _, _, _, _, _, _, _, _, _, _, _, _, _, _, _, _, _, _, _, _, _, _, rfl, h0W, (fun h => absurd h Bool.false_ne_true), (fun h => absurd h Bool.false_ne_true), (fun h => absurd h Bool.false_ne_true), (fun h => absurd h Bool.false_ne_true), (fun h => absurd h Bool.false_ne_true), (fun h => absurd h Bool.false_ne_true), (fun h => absurd h Bool.false_ne_true), (fun h => absurd h Bool.false_ne_true), (fun h => absurd h Bool.false_ne_true), (fun h => absurd h Bool.false_ne_true), (fun h => absurd h Bool.false_ne_true), (fun h => absurd h Bool.false_ne_true), (fun h => absurd h Bool.false_ne_true), (fun h => absurd h Bool.false_ne_true), (fun h => absurd h Bool.false_ne_true), (fun h => absurd h Bool.false_ne_true), (fun h => absurd h Bool.false_ne_true), (fun h => absurd h Bool.false_ne_true), (fun h => absurd h Bool.false_ne_true), (fun h => absurd h Bool.false_ne_true), (fun h => absurd h Bool.false_ne_true), (fun h => absurd h Bool.false_ne_true), (fun h => absurd h Bool.false_ne_true), (fun h => absurd h Bool.false_ne_true), (fun h => absurd h Bool.false_ne_true), (fun h => absurd h Bool.false_ne_true), (fun h => absurd h Bool.false_ne_true), (fun h => absurd h Bool.false_ne_true)⟩
  case hstep =>
    rintro L a w i o ho hL hd ⟨t2, t3, t4, t15, t16, t17, t18, t19, t20, t21, t22, t23, t24, t25, t26, t27, t28, t29, t30, t31, t32, t33, t34, t35, t36, t37, t38, t39, rfl, hW, f0, f1, f2, f3, f4, f5, f6, f7, f8, f9, f10, f11, f12, f13, f14, f15, f16, f17, f18, f19, f20, f21, f22, f23, f24, f25, f26, f27⟩
    have hi : i < 28 := (Array.getElem?_eq_some_iff.1 ho).1
    obtain rfl | rfl | rfl | rfl | rfl | rfl | rfl | rfl | rfl | rfl | rfl | rfl | rfl | rfl | rfl | rfl | rfl | rfl | rfl | rfl | rfl | rfl | rfl | rfl | rfl | rfl | rfl | rfl : i = 0 ∨ i = 1 ∨ i = 2 ∨ i = 3 ∨ i = 4 ∨ i = 5 ∨ i = 6 ∨ i = 7 ∨ i = 8 ∨ i = 9 ∨ i = 10 ∨ i = 11 ∨ i = 12 ∨ i = 13 ∨ i = 14 ∨ i = 15 ∨ i = 16 ∨ i = 17 ∨ i = 18 ∨ i = 19 ∨ i = 20 ∨ i = 21 ∨ i = 22 ∨ i = 23 ∨ i = 24 ∨ i = 25 ∨ i = 26 ∨ i = 27 := by omega
    · obtain rfl := Option.some.inj ho
      refine wpOp_step rfl (fun K' hK => ?_)
      go_simp
      refine hK _ _ ?_
      exact ⟨_, _, _, _, _, _, _, _, _, _, _, _, _, _, _, _, _, _, _, _, _, _, _, _, _, _, _, _, rfl, hW.same (by simp [upd]), fun _ => rfl, fun h => f1 (upd_ne h (by decide)), fun h => f2 (upd_ne h (by decide)), fun h => f3 (upd_ne h (by decide)), fun h => f4 (upd_ne h (by decide)), fun h => f5 (upd_ne h (by decide)), fun h => f6 (upd_ne h (by decide)), fun h => f7 (upd_ne h (by decide)), fun h => f8 (upd_ne h (by decide)), fun h => f9 (upd_ne h (by decide)), fun h => f10 (upd_ne h (by decide)), fun h => f11 (upd_ne h (by decide)), fun h => f12 (upd_ne h (by decide)), fun h => f13 (upd_ne h (by decide)), fun h => f14 (upd_ne h (by decide)), fun h => f15 (upd_ne h (by decide)), fun h => f16 (upd_ne h (by decide)), fun h => f17 (upd_ne h (by decide)), fun h => f18 (upd_ne h (by decide)), fun h => f19 (upd_ne h (by decide)), fun h => f20 (upd_ne h (by decide)), fun h => f21 (upd_ne h (by decide)), fun h => f22 (upd_ne h (by decide)), fun h => f23 (upd_ne h (by decide)), fun h => f24 (upd_ne h (by decide)), fun h => f25 (upd_ne h (by decide)), fun h => f26 (upd_ne h (by decide)), fun h => f27 (upd_ne h (by decide))⟩
    · obtain rfl := Option.some.inj ho
      refine wpOp_step rfl (fun K' hK => ?_)
      go_simp
      refine hK _ _ ?_
      exact ⟨_, _, _, _, _, _, _, _, _, _, _, _, _, _, _, _, _, _, _, _, _, _, _, _, _, _, _, _, rfl, hW.same (by simp [upd]), fun h => f0 (upd_ne h (by decide)), fun _ => rfl, fun h => f2 (upd_ne h (by decide)), fun h => f3 (upd_ne h (by decide)), fun h => f4 (upd_ne h (by decide)), fun h => f5 (upd_ne h (by decide)), fun h => f6 (upd_ne h (by decide)), fun h => f7 (upd_ne h (by decide)), fun h => f8 (upd_ne h (by decide)), fun h => f9 (upd_ne h (by decide)), fun h => f10 (upd_ne h (by decide)), fun h => f11 (upd_ne h (by decide)), fun h => f12 (upd_ne h (by decide)), fun h => f13 (upd_ne h (by decide)), fun h => f14 (upd_ne h (by decide)), fun h => f15 (upd_ne h (by decide)), fun h => f16 (upd_ne h (by decide)), fun h => f17 (upd_ne h (by decide)), fun h => f18 (upd_ne h (by decide)), fun h => f19 (upd_ne h (by decide)), fun h => f20 (upd_ne h (by decide)), fun h => f21 (upd_ne h (by decide)), fun h => f22 (upd_ne h (by decide)), fun h => f23 (upd_ne h (by decide)), fun h => f24 (upd_ne h (by decide)), fun h => f25 (upd_ne h (by decide)), fun h => f26 (upd_ne h (by decide)), fun h => f27 (upd_ne h (by decide))⟩
    · obtain rfl := Option.some.inj ho
      refine wpOp_step rfl (fun K' hK => ?_)
      go_simp
      refine hK _ _ ?_
      exact ⟨_, _, _, _, _, _, _, _, _, _, _, _, _, _, _, _, _, _, _, _, _, _, _, _, _, _, _, _, rfl, hW.same (by simp [upd]), fun h => f0 (upd_ne h (by decide)), fun h => f1 (upd_ne h (by decide)), fun _ => rfl, fun h => f3 (upd_ne h (by decide)), fun h => f4 (upd_ne h (by decide)), fun h => f5 (upd_ne h (by decide)), fun h => f6 (upd_ne h (by decide)), fun h => f7 (upd_ne h (by decide)), fun h => f8 (upd_ne h (by decide)), fun h => f9 (upd_ne h (by decide)), fun h => f10 (upd_ne h (by decide)), fun h => f11 (upd_ne h (by decide)), fun h => f12 (upd_ne h (by decide)), fun h => f13 (upd_ne h (by decide)), fun h => f14 (upd_ne h (by decide)), fun h => f15 (upd_ne h (by decide)), fun h => f16 (upd_ne h (by decide)), fun h => f17 (upd_ne h (by decide)), fun h => f18 (upd_ne h (by decide)), fun h => f19 (upd_ne h (by decide)), fun h => f20 (upd_ne h (by decide)), fun h => f21 (upd_ne h (by decide)), fun h => f22 (upd_ne h (by decide)), fun h => f23 (upd_ne h (by decide)), fun h => f24 (upd_ne h (by decide)), fun h => f25 (upd_ne h (by decide)), fun h => f26 (upd_ne h (by decide)), fun h => f27 (upd_ne h (by decide))⟩
    · obtain rfl := Option.some.inj ho
      refine wpOp_step rfl (fun K' hK => ?_)
      go_simp
      refine hK _ _ ?_
      exact ⟨_, _, _, _, _, _, _, _, _, _, _, _, _, _, _, _, _, _, _, _, _, _, _, _, _, _, _, _, rfl, hW.same (by simp [upd]), fun h => f0 (upd_ne h (by decide)), fun h => f1 (upd_ne h (by decide)), fun h => f2 (upd_ne h (by decide)), fun _ => rfl, fun h => f4 (upd_ne h (by decide)), fun h => f5 (upd_ne h (by decide)), fun h => f6 (upd_ne h (by decide)), fun h => f7 (upd_ne h (by decide)), fun h => f8 (upd_ne h (by decide)), fun h => f9 (upd_ne h (by decide)), fun h => f10 (upd_ne h (by decide)), fun h => f11 (upd_ne h (by decide)), fun h => f12 (upd_ne h (by decide)), fun h => f13 (upd_ne h (by decide)), fun h => f14 (upd_ne h (by decide)), fun h => f15 (upd_ne h (by decide)), fun h => f16 (upd_ne h (by decide)), fun h => f17 (upd_ne h (by decide)), fun h => f18 (upd_ne h (by decide)), fun h => f19 (upd_ne h (by decide)), fun h => f20 (upd_ne h (by decide)), fun h => f21 (upd_ne h (by decide)), fun h => f22 (upd_ne h (by decide)), fun h => f23 (upd_ne h (by decide)), fun h => f24 (upd_ne h (by decide)), fun h => f25 (upd_ne h (by decide)), fun h => f26 (upd_ne h (by decide)), fun h => f27 (upd_ne h (by decide))⟩
    · obtain rfl := Option.some.inj ho
      refine wpOp_step rfl (fun K' hK => ?_)
      go_simp
      refine hK _ _ ?_
      exact ⟨_, _, _, _, _, _, _, _, _, _, _, _, _, _, _, _, _, _, _, _, _, _, _, _, _, _, _, _, rfl, hW.same (by simp [upd]), fun h => f0 (upd_ne h (by decide)), fun h => f1 (upd_ne h (by decide)), fun h => f2 (upd_ne h (by decide)), fun h => f3 (upd_ne h (by decide)), fun _ => rfl, fun h => f5 (upd_ne h (by decide)), fun h => f6 (upd_ne h (by decide)), fun h => f7 (upd_ne h (by decide)), fun h => f8 (upd_ne h (by decide)), fun h => f9 (upd_ne h (by decide)), fun h => f10 (upd_ne h (by decide)), fun h => f11 (upd_ne h (by decide)), fun h => f12 (upd_ne h (by decide)), fun h => f13 (upd_ne h (by decide)), fun h => f14 (upd_ne h (by decide)), fun h => f15 (upd_ne h (by decide)), fun h => f16 (upd_ne h (by decide)), fun h => f17 (upd_ne h (by decide)), fun h => f18 (upd_ne h (by decide)), fun h => f19 (upd_ne h (by decide)), fun h => f20 (upd_ne h (by decide)), fun h => f21 (upd_ne h (by decide)), fun h => f22 (upd_ne h (by decide)), fun h => f23 (upd_ne h (by decide)), fun h => f24 (upd_ne h (by decide)), fun h => f25 (upd_ne h (by decide)), fun h => f26 (upd_ne h (by decide)), fun h => f27 (upd_ne h (by decide))⟩
    · obtain rfl := Option.some.inj ho
      have g4 := f4 (hd ⟨4, .data⟩ (by simp) rfl)
      subst g4
      refine wpOp_step rfl (fun K' hK => ?_)
      go_simp
      refine hK _ _ ?_
      exact ⟨_, _, _, _, _, _, _, _, _, _, _, _, _, _, _, _, _, _, _, _, _, _, _, _, _, _, _, _, rfl, hW.same (by simp [upd]), fun h => f0 (upd_ne h (by decide)), fun h => f1 (upd_ne h (by decide)), fun h => f2 (upd_ne h (by decide)), fun h => f3 (upd_ne h (by decide)), fun h => f4 (upd_ne h (by decide)), fun _ => rfl, fun h => f6 (upd_ne h (by decide)), fun h => f7 (upd_ne h (by decide)), fun h => f8 (upd_ne h (by decide)), fun h => f9 (upd_ne h (by decide)), fun h => f10 (upd_ne h (by decide)), fun h => f11 (upd_ne h (by decide)), fun h => f12 (upd_ne h (by decide)), fun h => f13 (upd_ne h (by decide)), fun h => f14 (upd_ne h (by decide)), fun h => f15 (upd_ne h (by decide)), fun h => f16 (upd_ne h (by decide)), fun h => f17 (upd_ne h (by decide)), fun h => f18 (upd_ne h (by decide)), fun h => f19 (upd_ne h (by decide)), fun h => f20 (upd_ne h (by decide)), fun h => f21 (upd_ne h (by decide)), fun h => f22 (upd_ne h (by decide)), fun h => f23 (upd_ne h (by decide)), fun h => f24 (upd_ne h (by decide)), fun h => f25 (upd_ne h (by decide)), fun h => f26 (upd_ne h (by decide)), fun h => f27 (upd_ne h (by decide))⟩
    · obtain rfl := Option.some.inj ho
      have g3 := f3 (hd ⟨3, .data⟩ (by simp) rfl)
      have g5 := f5 (hd ⟨5, .data⟩ (by simp) rfl)
      subst g3
      subst g5
      refine wpOp_step rfl (fun K' hK => ?_)
      go_simp
      refine (pick_any gr (0 + 100 + (L 6).toNat + (L 14).toNat + (L 19).toNat + (L 22).toNat) _ w hW.rd (by have := Bool.toNat_le (L 6); have := Bool.toNat_le (L 14); have := Bool.toNat_le (L 19); have := Bool.toNat_le (L 22); omega) (by omega)).mono ?_
      rintro e w' ⟨r, rfl, r0, r1, hr, G⟩
      obtain ⟨j, rfl⟩ := Int.eq_ofNat_of_zero_le r0
      refine hK _ _ ?_
      exact ⟨_, _, _, _, _, _, _, _, _, _, _, _, _, _, _, _, _, _, _, _, _, _, _, _, _, _, _, _, rfl, hW.pick hgb hr G (by simp [upd, hL]; try omega), fun h => f0 (upd_ne h (by decide)), fun h => f1 (upd_ne h (by decide)), fun h => f2 (upd_ne h (by decide)), fun h => f3 (upd_ne h (by decide)), fun h => f4 (upd_ne h (by decide)), fun h => f5 (upd_ne h (by decide)), fun _ => ⟨j, rfl, by omega⟩, fun h => f7 (upd_ne h (by decide)), fun h => f8 (upd_ne h (by decide)), fun h => f9 (upd_ne h (by decide)), fun h => f10 (upd_ne h (by decide)), fun h => f11 (upd_ne h (by decide)), fun h => f12 (upd_ne h (by decide)), fun h => f13 (upd_ne h (by decide)), fun h => f14 (upd_ne h (by decide)), fun h => f15 (upd_ne h (by decide)), fun h => f16 (upd_ne h (by decide)), fun h => f17 (upd_ne h (by decide)), fun h => f18 (upd_ne h (by decide)), fun h => f19 (upd_ne h (by decide)), fun h => (f20 (upd_ne h (by decide))).pick G, fun h => f21 (upd_ne h (by decide)), fun h => f22 (upd_ne h (by decide)), fun h => (f23 (upd_ne h (by decide))).pick G, fun h => f24 (upd_ne h (by decide)), fun h => f25 (upd_ne h (by decide)), fun h => f26 (upd_ne h (by decide)), fun h => f27 (upd_ne h (by decide))⟩
    · obtain rfl := Option.some.inj ho
      have g2 := f2 (hd ⟨2, .data⟩ (by simp) rfl)
      have g6 := f6 (hd ⟨6, .data⟩ (by simp) rfl)
      subst g2
      obtain ⟨j6, rfl, J6⟩ := g6
      have J6' : (j6 : Int) < xs.length := by omega
      refine wpOp_step rfl (fun K' hK => ?_)
      go_simp
      refine hK _ _ ?_
      exact ⟨_, _, _, _, _, _, _, _, _, _, _, _, _, _, _, _, _, _, _, _, _, _, _, _, _, _, _, _, rfl, hW.same (by simp [upd]), fun h => f0 (upd_ne h (by decide)), fun h => f1 (upd_ne h (by decide)), fun h => f2 (upd_ne h (by decide)), fun h => f3 (upd_ne h (by decide)), fun h => f4 (upd_ne h (by decide)), fun h => f5 (upd_ne h (by decide)), fun h => f6 (upd_ne h (by decide)), fun _ => ⟨j6, by simp, J6⟩, fun h => f8 (upd_ne h (by decide)), fun h => f9 (upd_ne h (by decide)), fun h => f10 (upd_ne h (by decide)), fun h => f11 (upd_ne h (by decide)), fun h => f12 (upd_ne h (by decide)), fun h => f13 (upd_ne h (by decide)), fun h => f14 (upd_ne h (by decide)), fun h => f15 (upd_ne h (by decide)), fun h => f16 (upd_ne h (by decide)), fun h => f17 (upd_ne h (by decide)), fun h => f18 (upd_ne h (by decide)), fun h => f19 (upd_ne h (by decide)), fun h => f20 (upd_ne h (by decide)), fun h => f21 (upd_ne h (by decide)), fun h => f22 (upd_ne h (by decide)), fun h => f23 (upd_ne h (by decide)), fun h => f24 (upd_ne h (by decide)), fun h => f25 (upd_ne h (by decide)), fun h => f26 (upd_ne h (by decide)), fun h => f27 (upd_ne h (by decide))⟩
    · obtain rfl := Option.some.inj ho
      have g7 := f7 (hd ⟨7, .data⟩ (by simp) rfl)
      obtain ⟨j7, rfl, J7⟩ := g7
      refine wpOp_step rfl (fun K' hK => ?_)
      go_simp
      refine hK _ _ ?_
      exact ⟨_, _, _, _, _, _, _, _, _, _, _, _, _, _, _, _, _, _, _, _, _, _, _, _, _, _, _, _, rfl, hW.same (by simp [upd]), fun h => f0 (upd_ne h (by decide)), fun h => f1 (upd_ne h (by decide)), fun h => f2 (upd_ne h (by decide)), fun h => f3 (upd_ne h (by decide)), fun h => f4 (upd_ne h (by decide)), fun h => f5 (upd_ne h (by decide)), fun h => f6 (upd_ne h (by decide)), fun h => f7 (upd_ne h (by decide)), fun _ => ⟨j7, by simp, J7⟩, fun h => f9 (upd_ne h (by decide)), fun h => f10 (upd_ne h (by decide)), fun h => f11 (upd_ne h (by decide)), fun h => f12 (upd_ne h (by decide)), fun h => f13 (upd_ne h (by decide)), fun h => f14 (upd_ne h (by decide)), fun h => f15 (upd_ne h (by decide)), fun h => f16 (upd_ne h (by decide)), fun h => f17 (upd_ne h (by decide)), fun h => f18 (upd_ne h (by decide)), fun h => f19 (upd_ne h (by decide)), fun h => f20 (upd_ne h (by decide)), fun h => f21 (upd_ne h (by decide)), fun h => f22 (upd_ne h (by decide)), fun h => f23 (upd_ne h (by decide)), fun h => f24 (upd_ne h (by decide)), fun h => f25 (upd_ne h (by decide)), fun h => f26 (upd_ne h (by decide)), fun h => f27 (upd_ne h (by decide))⟩
    · obtain rfl := Option.some.inj ho
      have g8 := f8 (hd ⟨8, .data⟩ (by simp) rfl)
      obtain ⟨j8, rfl, J8⟩ := g8
      obtain ⟨Q, hQ, Q1, Q2⟩ := cell_s hW.own HA.out J8
      refine wpOp_step rfl (fun K' hK => ?_)
      go_simp
      refine hK _ _ ?_
      exact ⟨_, _, _, _, _, _, _, _, _, _, _, _, _, _, _, _, _, _, _, _, _, _, _, _, _, _, _, _, rfl, hW.same (by simp [upd]), fun h => f0 (upd_ne h (by decide)), fun h => f1 (upd_ne h (by decide)), fun h => f2 (upd_ne h (by decide)), fun h => f3 (upd_ne h (by decide)), fun h => f4 (upd_ne h (by decide)), fun h => f5 (upd_ne h (by decide)), fun h => f6 (upd_ne h (by decide)), fun h => f7 (upd_ne h (by decide)), fun h => f8 (upd_ne h (by decide)), fun _ => ⟨Q, rfl, Q1, Q2⟩, fun h => f10 (upd_ne h (by decide)), fun h => f11 (upd_ne h (by decide)), fun h => f12 (upd_ne h (by decide)), fun h => f13 (upd_ne h (by decide)), fun h => f14 (upd_ne h (by decide)), fun h => f15 (upd_ne h (by decide)), fun h => f16 (upd_ne h (by decide)), fun h => f17 (upd_ne h (by decide)), fun h => f18 (upd_ne h (by decide)), fun h => f19 (upd_ne h (by decide)), fun h => f20 (upd_ne h (by decide)), fun h => f21 (upd_ne h (by decide)), fun h => f22 (upd_ne h (by decide)), fun h => f23 (upd_ne h (by decide)), fun h => f24 (upd_ne h (by decide)), fun h => f25 (upd_ne h (by decide)), fun h => f26 (upd_ne h (by decide)), fun h => f27 (upd_ne h (by decide))⟩
    · obtain rfl := Option.some.inj ho
      refine wpOp_step rfl (fun K' hK => ?_)
      go_simp
      refine hK _ _ ?_
      exact ⟨_, _, _, _, _, _, _, _, _, _, _, _, _, _, _, _, _, _, _, _, _, _, _, _, _, _, _, _, rfl, hW.same (by simp [upd]), fun h => f0 (upd_ne h (by decide)), fun h => f1 (upd_ne h (by decide)), fun h => f2 (upd_ne h (by decide)), fun h => f3 (upd_ne h (by decide)), fun h => f4 (upd_ne h (by decide)), fun h => f5 (upd_ne h (by decide)), fun h => f6 (upd_ne h (by decide)), fun h => f7 (upd_ne h (by decide)), fun h => f8 (upd_ne h (by decide)), fun h => f9 (upd_ne h (by decide)), fun _ => rfl, fun h => f11 (upd_ne h (by decide)), fun h => f12 (upd_ne h (by decide)), fun h => f13 (upd_ne h (by decide)), fun h => f14 (upd_ne h (by decide)), fun h => f15 (upd_ne h (by decide)), fun h => f16 (upd_ne h (by decide)), fun h => f17 (upd_ne h (by decide)), fun h => f18 (upd_ne h (by decide)), fun h => f19 (upd_ne h (by decide)), fun h => f20 (upd_ne h (by decide)), fun h => f21 (upd_ne h (by decide)), fun h => f22 (upd_ne h (by decide)), fun h => f23 (upd_ne h (by decide)), fun h => f24 (upd_ne h (by decide)), fun h => f25 (upd_ne h (by decide)), fun h => f26 (upd_ne h (by decide)), fun h => f27 (upd_ne h (by decide))⟩
    · obtain rfl := Option.some.inj ho
      refine wpOp_step rfl (fun K' hK => ?_)
      go_simp
      refine hK _ _ ?_
      exact ⟨_, _, _, _, _, _, _, _, _, _, _, _, _, _, _, _, _, _, _, _, _, _, _, _, _, _, _, _, rfl, hW.same (by simp [upd]), fun h => f0 (upd_ne h (by decide)), fun h => f1 (upd_ne h (by decide)), fun h => f2 (upd_ne h (by decide)), fun h => f3 (upd_ne h (by decide)), fun h => f4 (upd_ne h (by decide)), fun h => f5 (upd_ne h (by decide)), fun h => f6 (upd_ne h (by decide)), fun h => f7 (upd_ne h (by decide)), fun h => f8 (upd_ne h (by decide)), fun h => f9 (upd_ne h (by decide)), fun h => f10 (upd_ne h (by decide)), fun _ => rfl, fun h => f12 (upd_ne h (by decide)), fun h => f13 (upd_ne h (by decide)), fun h => f14 (upd_ne h (by decide)), fun h => f15 (upd_ne h (by decide)), fun h => f16 (upd_ne h (by decide)), fun h => f17 (upd_ne h (by decide)), fun h => f18 (upd_ne h (by decide)), fun h => f19 (upd_ne h (by decide)), fun h => f20 (upd_ne h (by decide)), fun h => f21 (upd_ne h (by decide)), fun h => f22 (upd_ne h (by decide)), fun h => f23 (upd_ne h (by decide)), fun h => f24 (upd_ne h (by decide)), fun h => f25 (upd_ne h (by decide)), fun h => f26 (upd_ne h (by decide)), fun h => f27 (upd_ne h (by decide))⟩
    · obtain rfl := Option.some.inj ho
      refine wpOp_step rfl (fun K' hK => ?_)
      go_simp
      refine hK _ _ ?_
      exact ⟨_, _, _, _, _, _, _, _, _, _, _, _, _, _, _, _, _, _, _, _, _, _, _, _, _, _, _, _, rfl, hW.same (by simp [upd]), fun h => f0 (upd_ne h (by decide)), fun h => f1 (upd_ne h (by decide)), fun h => f2 (upd_ne h (by decide)), fun h => f3 (upd_ne h (by decide)), fun h => f4 (upd_ne h (by decide)), fun h => f5 (upd_ne h (by decide)), fun h => f6 (upd_ne h (by decide)), fun h => f7 (upd_ne h (by decide)), fun h => f8 (upd_ne h (by decide)), fun h => f9 (upd_ne h (by decide)), fun h => f10 (upd_ne h (by decide)), fun h => f11 (upd_ne h (by decide)), fun _ => rfl, fun h => f13 (upd_ne h (by decide)), fun h => f14 (upd_ne h (by decide)), fun h => f15 (upd_ne h (by decide)), fun h => f16 (upd_ne h (by decide)), fun h => f17 (upd_ne h (by decide)), fun h => f18 (upd_ne h (by decide)), fun h => f19 (upd_ne h (by decide)), fun h => f20 (upd_ne h (by decide)), fun h => f21 (upd_ne h (by decide)), fun h => f22 (upd_ne h (by decide)), fun h => f23 (upd_ne h (by decide)), fun h => f24 (upd_ne h (by decide)), fun h => f25 (upd_ne h (by decide)), fun h => f26 (upd_ne h (by decide)), fun h => f27 (upd_ne h (by decide))⟩
    · obtain rfl := Option.some.inj ho
      have g12 := f12 (hd ⟨12, .data⟩ (by simp) rfl)
      subst g12
      refine wpOp_step rfl (fun K' hK => ?_)
      go_simp
      refine hK _ _ ?_
      exact ⟨_, _, _, _, _, _, _, _, _, _, _, _, _, _, _, _, _, _, _, _, _, _, _, _, _, _, _, _, rfl, hW.same (by simp [upd]), fun h => f0 (upd_ne h (by decide)), fun h => f1 (upd_ne h (by decide)), fun h => f2 (upd_ne h (by decide)), fun h => f3 (upd_ne h (by decide)), fun h => f4 (upd_ne h (by decide)), fun h => f5 (upd_ne h (by decide)), fun h => f6 (upd_ne h (by decide)), fun h => f7 (upd_ne h (by decide)), fun h => f8 (upd_ne h (by decide)), fun h => f9 (upd_ne h (by decide)), fun h => f10 (upd_ne h (by decide)), fun h => f11 (upd_ne h (by decide)), fun h => f12 (upd_ne h (by decide)), fun _ => rfl, fun h => f14 (upd_ne h (by decide)), fun h => f15 (upd_ne h (by decide)), fun h => f16 (upd_ne h (by decide)), fun h => f17 (upd_ne h (by decide)), fun h => f18 (upd_ne h (by decide)), fun h => f19 (upd_ne h (by decide)), fun h => f20 (upd_ne h (by decide)), fun h => f21 (upd_ne h (by decide)), fun h => f22 (upd_ne h (by decide)), fun h => f23 (upd_ne h (by decide)), fun h => f24 (upd_ne h (by decide)), fun h => f25 (upd_ne h (by decide)), fun h => f26 (upd_ne h (by decide)), fun h => f27 (upd_ne h (by decide))⟩
    · obtain rfl := Option.some.inj ho
      have g11 := f11 (hd ⟨11, .data⟩ (by simp) rfl)
      have g13 := f13 (hd ⟨13, .data⟩ (by simp) rfl)
      subst g11
      subst g13
      refine wpOp_step rfl (fun K' hK => ?_)
      go_simp
      refine (pick_any gr (0 + 100 + (L 6).toNat + (L 14).toNat + (L 19).toNat + (L 22).toNat) _ w hW.rd (by have := Bool.toNat_le (L 6); have := Bool.toNat_le (L 14); have := Bool.toNat_le (L 19); have := Bool.toNat_le (L 22); omega) (by omega)).mono ?_
      rintro e w' ⟨r, rfl, r0, r1, hr, G⟩
      obtain ⟨j, rfl⟩ := Int.eq_ofNat_of_zero_le r0
      refine hK _ _ ?_
      exact ⟨_, _, _, _, _, _, _, _, _, _, _, _, _, _, _, _, _, _, _, _, _, _, _, _, _, _, _, _, rfl, hW.pick hgb hr G (by simp [upd, hL]; try omega), fun h => f0 (upd_ne h (by decide)), fun h => f1 (upd_ne h (by decide)), fun h => f2 (upd_ne h (by decide)), fun h => f3 (upd_ne h (by decide)), fun h => f4 (upd_ne h (by decide)), fun h => f5 (upd_ne h (by decide)), fun h => f6 (upd_ne h (by decide)), fun h => f7 (upd_ne h (by decide)), fun h => f8 (upd_ne h (by decide)), fun h => f9 (upd_ne h (by decide)), fun h => f10 (upd_ne h (by decide)), fun h => f11 (upd_ne h (by decide)), fun h => f12 (upd_ne h (by decide)), fun h => f13 (upd_ne h (by decide)), fun _ => ⟨j, rfl, by omega⟩, fun h => f15 (upd_ne h (by decide)), fun h => f16 (upd_ne h (by decide)), fun h => f17 (upd_ne h (by decide)), fun h => f18 (upd_ne h (by decide)), fun h => f19 (upd_ne h (by decide)), fun h => (f20 (upd_ne h (by decide))).pick G, fun h => f21 (upd_ne h (by decide)), fun h => f22 (upd_ne h (by decide)), fun h => (f23 (upd_ne h (by decide))).pick G, fun h => f24 (upd_ne h (by decide)), fun h => f25 (upd_ne h (by decide)), fun h => f26 (upd_ne h (by decide)), fun h => f27 (upd_ne h (by decide))⟩
    · obtain rfl := Option.some.inj ho
      have g10 := f10 (hd ⟨10, .data⟩ (by simp) rfl)
      have g14 := f14 (hd ⟨14, .data⟩ (by simp) rfl)
      subst g10
      obtain ⟨j14, rfl, J14⟩ := g14
      have J14' : (j14 : Int) < xs.length := by omega
      refine wpOp_step rfl (fun K' hK => ?_)
      go_simp
      refine hK _ _ ?_
      exact ⟨_, _, _, _, _, _, _, _, _, _, _, _, _, _, _, _, _, _, _, _, _, _, _, _, _, _, _, _, rfl, hW.same (by simp [upd]), fun h => f0 (upd_ne h (by decide)), fun h => f1 (upd_ne h (by decide)), fun h => f2 (upd_ne h (by decide)), fun h => f3 (upd_ne h (by decide)), fun h => f4 (upd_ne h (by decide)), fun h => f5 (upd_ne h (by decide)), fun h => f6 (upd_ne h (by decide)), fun h => f7 (upd_ne h (by decide)), fun h => f8 (upd_ne h (by decide)), fun h => f9 (upd_ne h (by decide)), fun h => f10 (upd_ne h (by decide)), fun h => f11 (upd_ne h (by decide)), fun h => f12 (upd_ne h (by decide)), fun h => f13 (upd_ne h (by decide)), fun h => f14 (upd_ne h (by decide)), fun _ => ⟨j14, by simp, J14⟩, fun h => f16 (upd_ne h (by decide)), fun h => f17 (upd_ne h (by decide)), fun h => f18 (upd_ne h (by decide)), fun h => f19 (upd_ne h (by decide)), fun h => f20 (upd_ne h (by decide)), fun h => f21 (upd_ne h (by decide)), fun h => f22 (upd_ne h (by decide)), fun h => f23 (upd_ne h (by decide)), fun h => f24 (upd_ne h (by decide)), fun h => f25 (upd_ne h (by decide)), fun h => f26 (upd_ne h (by decide)), fun h => f27 (upd_ne h (by decide))⟩
    · obtain rfl := Option.some.inj ho
      have g15 := f15 (hd ⟨15, .data⟩ (by simp) rfl)
      obtain ⟨j15, rfl, J15⟩ := g15
      refine wpOp_step rfl (fun K' hK => ?_)
      go_simp
      refine hK _ _ ?_
      exact ⟨_, _, _, _, _, _, _, _, _, _, _, _, _, _, _, _, _, _, _, _, _, _, _, _, _, _, _, _, rfl, hW.same (by simp [upd]), fun h => f0 (upd_ne h (by decide)), fun h => f1 (upd_ne h (by decide)), fun h => f2 (upd_ne h (by decide)), fun h => f3 (upd_ne h (by decide)), fun h => f4 (upd_ne h (by decide)), fun h => f5 (upd_ne h (by decide)), fun h => f6 (upd_ne h (by decide)), fun h => f7 (upd_ne h (by decide)), fun h => f8 (upd_ne h (by decide)), fun h => f9 (upd_ne h (by decide)), fun h => f10 (upd_ne h (by decide)), fun h => f11 (upd_ne h (by decide)), fun h => f12 (upd_ne h (by decide)), fun h => f13 (upd_ne h (by decide)), fun h => f14 (upd_ne h (by decide)), fun h => f15 (upd_ne h (by decide)), fun _ => ⟨j15, by simp, J15⟩, fun h => f17 (upd_ne h (by decide)), fun h => f18 (upd_ne h (by decide)), fun h => f19 (upd_ne h (by decide)), fun h => f20 (upd_ne h (by decide)), fun h => f21 (upd_ne h (by decide)), fun h => f22 (upd_ne h (by decide)), fun h => f23 (upd_ne h (by decide)), fun h => f24 (upd_ne h (by decide)), fun h => f25 (upd_ne h (by decide)), fun h => f26 (upd_ne h (by decide)), fun h => f27 (upd_ne h (by decide))⟩
    · obtain rfl := Option.some.inj ho
      have g16 := f16 (hd ⟨16, .data⟩ (by simp) rfl)
      obtain ⟨j16, rfl, J16⟩ := g16
      obtain ⟨Q, hQ, Q1, Q2⟩ := cell_s hW.own HA.out J16
      refine wpOp_step rfl (fun K' hK => ?_)
      go_simp
      refine hK _ _ ?_
      exact ⟨_, _, _, _, _, _, _, _, _, _, _, _, _, _, _, _, _, _, _, _, _, _, _, _, _, _, _, _, rfl, hW.same (by simp [upd]), fun h => f0 (upd_ne h (by decide)), fun h => f1 (upd_ne h (by decide)), fun h => f2 (upd_ne h (by decide)), fun h => f3 (upd_ne h (by decide)), fun h => f4 (upd_ne h (by decide)), fun h => f5 (upd_ne h (by decide)), fun h => f6 (upd_ne h (by decide)), fun h => f7 (upd_ne h (by decide)), fun h => f8 (upd_ne h (by decide)), fun h => f9 (upd_ne h (by decide)), fun h => f10 (upd_ne h (by decide)), fun h => f11 (upd_ne h (by decide)), fun h => f12 (upd_ne h (by decide)), fun h => f13 (upd_ne h (by decide)), fun h => f14 (upd_ne h (by decide)), fun h => f15 (upd_ne h (by decide)), fun h => f16 (upd_ne h (by decide)), fun _ => ⟨Q, rfl, Q1, Q2⟩, fun h => f18 (upd_ne h (by decide)), fun h => f19 (upd_ne h (by decide)), fun h => f20 (upd_ne h (by decide)), fun h => f21 (upd_ne h (by decide)), fun h => f22 (upd_ne h (by decide)), fun h => f23 (upd_ne h (by decide)), fun h => f24 (upd_ne h (by decide)), fun h => f25 (upd_ne h (by decide)), fun h => f26 (upd_ne h (by decide)), fun h => f27 (upd_ne h (by decide))⟩
    · obtain rfl := Option.some.inj ho
      refine wpOp_step rfl (fun K' hK => ?_)
      go_simp
      refine hK _ _ ?_
      exact ⟨_, _, _, _, _, _, _, _, _, _, _, _, _, _, _, _, _, _, _, _, _, _, _, _, _, _, _, _, rfl, hW.same (by simp [upd]), fun h => f0 (upd_ne h (by decide)), fun h => f1 (upd_ne h (by decide)), fun h => f2 (upd_ne h (by decide)), fun h => f3 (upd_ne h (by decide)), fun h => f4 (upd_ne h (by decide)), fun h => f5 (upd_ne h (by decide)), fun h => f6 (upd_ne h (by decide)), fun h => f7 (upd_ne h (by decide)), fun h => f8 (upd_ne h (by decide)), fun h => f9 (upd_ne h (by decide)), fun h => f10 (upd_ne h (by decide)), fun h => f11 (upd_ne h (by decide)), fun h => f12 (upd_ne h (by decide)), fun h => f13 (upd_ne h (by decide)), fun h => f14 (upd_ne h (by decide)), fun h => f15 (upd_ne h (by decide)), fun h => f16 (upd_ne h (by decide)), fun h => f17 (upd_ne h (by decide)), fun _ => rfl, fun h => f19 (upd_ne h (by decide)), fun h => f20 (upd_ne h (by decide)), fun h => f21 (upd_ne h (by decide)), fun h => f22 (upd_ne h (by decide)), fun h => f23 (upd_ne h (by decide)), fun h => f24 (upd_ne h (by decide)), fun h => f25 (upd_ne h (by decide)), fun h => f26 (upd_ne h (by decide)), fun h => f27 (upd_ne h (by decide))⟩
    · obtain rfl := Option.some.inj ho
      have g18 := f18 (hd ⟨18, .data⟩ (by simp) rfl)
      subst g18
      refine wpOp_step rfl (fun K' hK => ?_)
      go_simp
      refine (pick_any gr (0 + 100 + (L 6).toNat + (L 14).toNat + (L 19).toNat + (L 22).toNat) _ w hW.rd (by have := Bool.toNat_le (L 6); have := Bool.toNat_le (L 14); have := Bool.toNat_le (L 19); have := Bool.toNat_le (L 22); omega) (by omega)).mono ?_
      rintro e w' ⟨r, rfl, r0, r1, hr, G⟩
      refine hK _ _ ?_
      exact ⟨_, _, _, _, _, _, _, _, _, _, _, _, _, _, _, _, _, _, _, _, _, _, _, _, _, _, _, _, rfl, hW.pick hgb hr G (by simp [upd, hL]; try omega), fun h => f0 (upd_ne h (by decide)), fun h => f1 (upd_ne h (by decide)), fun h => f2 (upd_ne h (by decide)), fun h => f3 (upd_ne h (by decide)), fun h => f4 (upd_ne h (by decide)), fun h => f5 (upd_ne h (by decide)), fun h => f6 (upd_ne h (by decide)), fun h => f7 (upd_ne h (by decide)), fun h => f8 (upd_ne h (by decide)), fun h => f9 (upd_ne h (by decide)), fun h => f10 (upd_ne h (by decide)), fun h => f11 (upd_ne h (by decide)), fun h => f12 (upd_ne h (by decide)), fun h => f13 (upd_ne h (by decide)), fun h => f14 (upd_ne h (by decide)), fun h => f15 (upd_ne h (by decide)), fun h => f16 (upd_ne h (by decide)), fun h => f17 (upd_ne h (by decide)), fun h => f18 (upd_ne h (by decide)), fun _ => ⟨r, rfl, by omega, by omega⟩, fun h => (f20 (upd_ne h (by decide))).pick G, fun h => f21 (upd_ne h (by decide)), fun h => f22 (upd_ne h (by decide)), fun h => (f23 (upd_ne h (by decide))).pick G, fun h => f24 (upd_ne h (by decide)), fun h => f25 (upd_ne h (by decide)), fun h => f26 (upd_ne h (by decide)), fun h => f27 (upd_ne h (by decide))⟩
    · obtain rfl := Option.some.inj ho
      have g9 := f9 (hd ⟨9, .data⟩ (by simp) rfl)
      have g17 := f17 (hd ⟨17, .data⟩ (by simp) rfl)
      have g19 := f19 (hd ⟨19, .data⟩ (by simp) rfl)
      obtain ⟨q9, rfl, a9, b9⟩ := g9
      obtain ⟨q17, rfl, a17, b17⟩ := g17
      obtain ⟨q19, rfl, a19, b19⟩ := g19
      refine wpOp_step rfl (fun K' hK => ?_)
      go_simp
      refine hK _ _ ?_
      exact ⟨_, _, _, _, _, _, _, _, _, _, _, _, _, _, _, _, _, _, _, _, _, _, _, _, _, _, _, _, rfl, (hW.alloc _).same (by simp [upd]), fun h => f0 (upd_ne h (by decide)), fun h => f1 (upd_ne h (by decide)), fun h => f2 (upd_ne h (by decide)), fun h => f3 (upd_ne h (by decide)), fun h => f4 (upd_ne h (by decide)), fun h => f5 (upd_ne h (by decide)), fun h => f6 (upd_ne h (by decide)), fun h => f7 (upd_ne h (by decide)), fun h => f8 (upd_ne h (by decide)), fun h => f9 (upd_ne h (by decide)), fun h => f10 (upd_ne h (by decide)), fun h => f11 (upd_ne h (by decide)), fun h => f12 (upd_ne h (by decide)), fun h => f13 (upd_ne h (by decide)), fun h => f14 (upd_ne h (by decide)), fun h => f15 (upd_ne h (by decide)), fun h => f16 (upd_ne h (by decide)), fun h => f17 (upd_ne h (by decide)), fun h => f18 (upd_ne h (by decide)), fun h => f19 (upd_ne h (by decide)), fun _ => ⟨_, rfl, Tbl.new w gr _ [q9, q17, q19, -1] _ _ hW.rd.lt (by intro q hq; simp at hq; omega) _ rfl⟩, fun h => f21 (upd_ne h (by decide)), fun h => f22 (upd_ne h (by decide)), fun h => (f23 (upd_ne h (by decide))).alloc _, fun h => f24 (upd_ne h (by decide)), fun h => f25 (upd_ne h (by decide)), fun h => f26 (upd_ne h (by decide)), fun h => f27 (upd_ne h (by decide))⟩
    · obtain rfl := Option.some.inj ho
      refine wpOp_step rfl (fun K' hK => ?_)
      go_simp
      refine hK _ _ ?_
      exact ⟨_, _, _, _, _, _, _, _, _, _, _, _, _, _, _, _, _, _, _, _, _, _, _, _, _, _, _, _, rfl, hW.same (by simp [upd]), fun h => f0 (upd_ne h (by decide)), fun h => f1 (upd_ne h (by decide)), fun h => f2 (upd_ne h (by decide)), fun h => f3 (upd_ne h (by decide)), fun h => f4 (upd_ne h (by decide)), fun h => f5 (upd_ne h (by decide)), fun h => f6 (upd_ne h (by decide)), fun h => f7 (upd_ne h (by decide)), fun h => f8 (upd_ne h (by decide)), fun h => f9 (upd_ne h (by decide)), fun h => f10 (upd_ne h (by decide)), fun h => f11 (upd_ne h (by decide)), fun h => f12 (upd_ne h (by decide)), fun h => f13 (upd_ne h (by decide)), fun h => f14 (upd_ne h (by decide)), fun h => f15 (upd_ne h (by decide)), fun h => f16 (upd_ne h (by decide)), fun h => f17 (upd_ne h (by decide)), fun h => f18 (upd_ne h (by decide)), fun h => f19 (upd_ne h (by decide)), fun h => f20 (upd_ne h (by decide)), fun _ => rfl, fun h => f22 (upd_ne h (by decide)), fun h => f23 (upd_ne h (by decide)), fun h => f24 (upd_ne h (by decide)), fun h => f25 (upd_ne h (by decide)), fun h => f26 (upd_ne h (by decide)), fun h => f27 (upd_ne h (by decide))⟩
    · obtain rfl := Option.some.inj ho
      have g21 := f21 (hd ⟨21, .data⟩ (by simp) rfl)
      subst g21
      refine wpOp_step rfl (fun K' hK => ?_)
      go_simp
      refine (pick_any gr (0 + 100 + (L 6).toNat + (L 14).toNat + (L 19).toNat + (L 22).toNat) _ w hW.rd (by have := Bool.toNat_le (L 6); have := Bool.toNat_le (L 14); have := Bool.toNat_le (L 19); have := Bool.toNat_le (L 22); omega) (by omega)).mono ?_
      rintro e w' ⟨r, rfl, r0, r1, hr, G⟩
      refine hK _ _ ?_
      exact ⟨_, _, _, _, _, _, _, _, _, _, _, _, _, _, _, _, _, _, _, _, _, _, _, _, _, _, _, _, rfl, hW.pick hgb hr G (by simp [upd, hL]; try omega), fun h => f0 (upd_ne h (by decide)), fun h => f1 (upd_ne h (by decide)), fun h => f2 (upd_ne h (by decide)), fun h => f3 (upd_ne h (by decide)), fun h => f4 (upd_ne h (by decide)), fun h => f5 (upd_ne h (by decide)), fun h => f6 (upd_ne h (by decide)), fun h => f7 (upd_ne h (by decide)), fun h => f8 (upd_ne h (by decide)), fun h => f9 (upd_ne h (by decide)), fun h => f10 (upd_ne h (by decide)), fun h => f11 (upd_ne h (by decide)), fun h => f12 (upd_ne h (by decide)), fun h => f13 (upd_ne h (by decide)), fun h => f14 (upd_ne h (by decide)), fun h => f15 (upd_ne h (by decide)), fun h => f16 (upd_ne h (by decide)), fun h => f17 (upd_ne h (by decide)), fun h => f18 (upd_ne h (by decide)), fun h => f19 (upd_ne h (by decide)), fun h => (f20 (upd_ne h (by decide))).pick G, fun h => f21 (upd_ne h (by decide)), fun _ => ⟨r, rfl, by omega, by omega⟩, fun h => (f23 (upd_ne h (by decide))).pick G, fun h => f24 (upd_ne h (by decide)), fun h => f25 (upd_ne h (by decide)), fun h => f26 (upd_ne h (by decide)), fun h => f27 (upd_ne h (by decide))⟩
    · obtain rfl := Option.some.inj ho
      have g20 := f20 (hd ⟨20, .data⟩ (by simp) rfl)
      have g22 := f22 (hd ⟨22, .data⟩ (by simp) rfl)
      obtain ⟨h20, rfl, T20⟩ := g20
      obtain ⟨q22, rfl, a22, b22⟩ := g22
      obtain ⟨n22, rfl⟩ := Int.eq_ofNat_of_zero_le (show 0 ≤ q22 by omega)
      have l22 : n22 < 4 := by omega
      have l22' : (n22 : Int) < 4 := by omega
      refine wpOp_step rfl (fun K' hK => ?_)
      go_simp
      refine hK _ _ ?_
      exact ⟨_, _, _, _, _, _, _, _, _, _, _, _, _, _, _, _, _, _, _, _, _, _, _, _, _, _, _, _, rfl, hW.same (by simp [upd]), fun h => f0 (upd_ne h (by decide)), fun h => f1 (upd_ne h (by decide)), fun h => f2 (upd_ne h (by decide)), fun h => f3 (upd_ne h (by decide)), fun h => f4 (upd_ne h (by decide)), fun h => f5 (upd_ne h (by decide)), fun h => f6 (upd_ne h (by decide)), fun h => f7 (upd_ne h (by decide)), fun h => f8 (upd_ne h (by decide)), fun h => f9 (upd_ne h (by decide)), fun h => f10 (upd_ne h (by decide)), fun h => f11 (upd_ne h (by decide)), fun h => f12 (upd_ne h (by decide)), fun h => f13 (upd_ne h (by decide)), fun h => f14 (upd_ne h (by decide)), fun h => f15 (upd_ne h (by decide)), fun h => f16 (upd_ne h (by decide)), fun h => f17 (upd_ne h (by decide)), fun h => f18 (upd_ne h (by decide)), fun h => f19 (upd_ne h (by decide)), fun h => f20 (upd_ne h (by decide)), fun h => f21 (upd_ne h (by decide)), fun h => f22 (upd_ne h (by decide)), fun _ => ⟨h20, n22, by simp, l22, T20⟩, fun h => f24 (upd_ne h (by decide)), fun h => f25 (upd_ne h (by decide)), fun h => f26 (upd_ne h (by decide)), fun h => f27 (upd_ne h (by decide))⟩
    · obtain rfl := Option.some.inj ho
      have g23 := f23 (hd ⟨23, .data⟩ (by simp) rfl)
      obtain ⟨h23, j23, rfl, J23, T23⟩ := g23
      obtain ⟨Q, hQ, Q1, Q2⟩ := T23.2.2 j23 J23
      refine wpOp_step rfl (fun K' hK => ?_)
      go_simp
      refine hK _ _ ?_
      exact ⟨_, _, _, _, _, _, _, _, _, _, _, _, _, _, _, _, _, _, _, _, _, _, _, _, _, _, _, _, rfl, hW.same (by simp [upd]), fun h => f0 (upd_ne h (by decide)), fun h => f1 (upd_ne h (by decide)), fun h => f2 (upd_ne h (by decide)), fun h => f3 (upd_ne h (by decide)), fun h => f4 (upd_ne h (by decide)), fun h => f5 (upd_ne h (by decide)), fun h => f6 (upd_ne h (by decide)), fun h => f7 (upd_ne h (by decide)), fun h => f8 (upd_ne h (by decide)), fun h => f9 (upd_ne h (by decide)), fun h => f10 (upd_ne h (by decide)), fun h => f11 (upd_ne h (by decide)), fun h => f12 (upd_ne h (by decide)), fun h => f13 (upd_ne h (by decide)), fun h => f14 (upd_ne h (by decide)), fun h => f15 (upd_ne h (by decide)), fun h => f16 (upd_ne h (by decide)), fun h => f17 (upd_ne h (by decide)), fun h => f18 (upd_ne h (by decide)), fun h => f19 (upd_ne h (by decide)), fun h => f20 (upd_ne h (by decide)), fun h => f21 (upd_ne h (by decide)), fun h => f22 (upd_ne h (by decide)), fun h => f23 (upd_ne h (by decide)), fun _ => ⟨Q, rfl, Q1, Q2⟩, fun h => f25 (upd_ne h (by decide)), fun h => f26 (upd_ne h (by decide)), fun h => f27 (upd_ne h (by decide))⟩
    · obtain rfl := Option.some.inj ho
      have g0 := f0 (hd ⟨0, .data⟩ (by simp) rfl)
      subst g0
      refine wpOp_step rfl (fun K' hK => ?_)
      go_simp
      refine hK _ _ ?_
      exact ⟨_, _, _, _, _, _, _, _, _, _, _, _, _, _, _, _, _, _, _, _, _, _, _, _, _, _, _, _, rfl, hW.same (by simp [upd]), fun h => f0 (upd_ne h (by decide)), fun h => f1 (upd_ne h (by decide)), fun h => f2 (upd_ne h (by decide)), fun h => f3 (upd_ne h (by decide)), fun h => f4 (upd_ne h (by decide)), fun h => f5 (upd_ne h (by decide)), fun h => f6 (upd_ne h (by decide)), fun h => f7 (upd_ne h (by decide)), fun h => f8 (upd_ne h (by decide)), fun h => f9 (upd_ne h (by decide)), fun h => f10 (upd_ne h (by decide)), fun h => f11 (upd_ne h (by decide)), fun h => f12 (upd_ne h (by decide)), fun h => f13 (upd_ne h (by decide)), fun h => f14 (upd_ne h (by decide)), fun h => f15 (upd_ne h (by decide)), fun h => f16 (upd_ne h (by decide)), fun h => f17 (upd_ne h (by decide)), fun h => f18 (upd_ne h (by decide)), fun h => f19 (upd_ne h (by decide)), fun h => f20 (upd_ne h (by decide)), fun h => f21 (upd_ne h (by decide)), fun h => f22 (upd_ne h (by decide)), fun h => f23 (upd_ne h (by decide)), fun h => f24 (upd_ne h (by decide)), fun _ => rfl, fun h => f26 (upd_ne h (by decide)), fun h => f27 (upd_ne h (by decide))⟩
    · obtain rfl := Option.some.inj ho
      have g1 := f1 (hd ⟨1, .data⟩ (by simp) rfl)
      subst g1
      refine wpOp_step rfl (fun K' hK => ?_)
      go_simp
      refine hK _ _ ?_
      exact ⟨_, _, _, _, _, _, _, _, _, _, _, _, _, _, _, _, _, _, _, _, _, _, _, _, _, _, _, _, rfl, hW.same (by simp [upd]), fun h => f0 (upd_ne h (by decide)), fun h => f1 (upd_ne h (by decide)), fun h => f2 (upd_ne h (by decide)), fun h => f3 (upd_ne h (by decide)), fun h => f4 (upd_ne h (by decide)), fun h => f5 (upd_ne h (by decide)), fun h => f6 (upd_ne h (by decide)), fun h => f7 (upd_ne h (by decide)), fun h => f8 (upd_ne h (by decide)), fun h => f9 (upd_ne h (by decide)), fun h => f10 (upd_ne h (by decide)), fun h => f11 (upd_ne h (by decide)), fun h => f12 (upd_ne h (by decide)), fun h => f13 (upd_ne h (by decide)), fun h => f14 (upd_ne h (by decide)), fun h => f15 (upd_ne h (by decide)), fun h => f16 (upd_ne h (by decide)), fun h => f17 (upd_ne h (by decide)), fun h => f18 (upd_ne h (by decide)), fun h => f19 (upd_ne h (by decide)), fun h => f20 (upd_ne h (by decide)), fun h => f21 (upd_ne h (by decide)), fun h => f22 (upd_ne h (by decide)), fun h => f23 (upd_ne h (by decide)), fun h => f24 (upd_ne h (by decide)), fun h => f25 (upd_ne h (by decide)), fun _ => rfl, fun h => f27 (upd_ne h (by decide))⟩
    · obtain rfl := Option.some.inj ho
      have g24 := f24 (hd ⟨24, .data⟩ (by simp) rfl)
      refine wpOp_step rfl (fun K' hK => ?_)
      go_simp
      refine hK _ _ ?_
      exact ⟨_, _, _, _, _, _, _, _, _, _, _, _, _, _, _, _, _, _, _, _, _, _, _, _, _, _, _, _, rfl, hW.same (by simp [upd]), fun h => f0 (upd_ne h (by decide)), fun h => f1 (upd_ne h (by decide)), fun h => f2 (upd_ne h (by decide)), fun h => f3 (upd_ne h (by decide)), fun h => f4 (upd_ne h (by decide)), fun h => f5 (upd_ne h (by decide)), fun h => f6 (upd_ne h (by decide)), fun h => f7 (upd_ne h (by decide)), fun h => f8 (upd_ne h (by decide)), fun h => f9 (upd_ne h (by decide)), fun h => f10 (upd_ne h (by decide)), fun h => f11 (upd_ne h (by decide)), fun h => f12 (upd_ne h (by decide)), fun h => f13 (upd_ne h (by decide)), fun h => f14 (upd_ne h (by decide)), fun h => f15 (upd_ne h (by decide)), fun h => f16 (upd_ne h (by decide)), fun h => f17 (upd_ne h (by decide)), fun h => f18 (upd_ne h (by decide)), fun h => f19 (upd_ne h (by decide)), fun h => f20 (upd_ne h (by decide)), fun h => f21 (upd_ne h (by decide)), fun h => f22 (upd_ne h (by decide)), fun h => f23 (upd_ne h (by decide)), fun h => f24 (upd_ne h (by decide)), fun h => f25 (upd_ne h (by decide)), fun h => f26 (upd_ne h (by decide)), fun _ => g24⟩
  case hdone =>
    rintro L a w hall ⟨t2, t3, t4, t15, t16, t17, t18, t19, t20, t21, t22, t23, t24, t25, t26, t27, t28, t29, t30, t31, t32, t33, t34, t35, t36, t37, t38, t39, rfl, hW, f0, f1, f2, f3, f4, f5, f6, f7, f8, f9, f10, f11, f12, f13, f14, f15, f16, f17, f18, f19, f20, f21, f22, f23, f24, f25, f26, f27⟩
    have f0 := f0 (hall 0 (by decide))
    have f1 := f1 (hall 1 (by decide))
    have f2 := f2 (hall 2 (by decide))
    have f3 := f3 (hall 3 (by decide))
    have f4 := f4 (hall 4 (by decide))
    have f5 := f5 (hall 5 (by decide))
    have f6 := f6 (hall 6 (by decide))
    have f7 := f7 (hall 7 (by decide))
    have f8 := f8 (hall 8 (by decide))
    have f9 := f9 (hall 9 (by decide))
    have f10 := f10 (hall 10 (by decide))
    have f11 := f11 (hall 11 (by decide))
    have f12 := f12 (hall 12 (by decide))
    have f13 := f13 (hall 13 (by decide))
    have f14 := f14 (hall 14 (by decide))
    have f15 := f15 (hall 15 (by decide))
    have f16 := f16 (hall 16 (by decide))
    have f17 := f17 (hall 17 (by decide))
    have f18 := f18 (hall 18 (by decide))
    have f19 := f19 (hall 19 (by decide))
    have f20 := f20 (hall 20 (by decide))
    have f21 := f21 (hall 21 (by decide))
    have f22 := f22 (hall 22 (by decide))
    have f23 := f23 (hall 23 (by decide))
    have f24 := f24 (hall 24 (by decide))
    have f25 := f25 (hall 25 (by decide))
    have f26 := f26 (hall 26 (by decide))
    have f27 := f27 (hall 27 (by decide))
    obtain ⟨q, rfl, q0, q1⟩ := f27
    subst f25 f26
    go_wp2
    go_ret3
    exact ⟨_, xs, T, q, rfl, hW.own.base b1.size, HA.out, h1, h2, h3, h4, ⟨by omega, by omega⟩, b1.grown hW.grown b1.size (fun k hk => by injection hk; omega)⟩
end Go.Proofs.Ythihaclhlmpioaa

namespace Go.Proofs.Ythihaclhlmpioaa
open Go.RowKit

theorem wrap_back {f m : Nat} {fx : Int} (h : fx = (f : Int) + 2 ^ m) (hf : f ≤ 256) : IntKind.i64.wrap (fx - 2 ^ m) = f := by
  rw [h, Int.add_sub_cancel]
  exact IntWalk.i64_in _ (by omega)

/-- a later world -/
def InY (w0 w : World) : Prop := Below w0.heap.size w0 w
theorem InY.call {w0 w w' : World} (h : InY w0 w) (hb : Below w.heap.size w w') : InY w0 w' := Below.trans h (hb.mono (Below.size h))

set_option maxRecDepth 100000 in
set_option maxHeartbeats 4000000 in
theorem buddyTakeLaw_walk (A : Option Addr) (n c : Nat) (w : World) (h : Bytes w w.heap.size A n) (hc : n ≤ c) (hn : n ≤ 9223372036854775807) :
    Calls Try.prog 5 #[.slice A n c] w fun e w' => e = .returned (.bool true) ∧ Below w.heap.size w w' := by
  by_cases hs : n ≤ 1048576
  · have hs' : decide ((1048576 : Int) < (n : Int)) = false := by simp; omega
    go_enter Try.func5, Try.ntmps5
    go_wp2_with fail
    refine (drawBuddyTake_any _ _ _ _ h hc hn).mono ?_
    rintro e w1 ⟨v, xs, T, q, rfl, o1, ha, l1, l2, t1, t2, ⟨q1, q2⟩, b1⟩
    obtain ⟨A1, c1, rfl, f1⟩ := o1.form
    have hcap := o1.cap.2
    clear f1
    have HA := Lib.hid ha
    clear ha
    obtain ⟨ys, hys⟩ : ∃ ys, (if Bud.validY xs T = true then Bud.takeY xs q else []) = ys := ⟨_, rfl⟩
    obtain ⟨st, hst⟩ : ∃ st, (if Bud.validY xs T = true then Bud.startY xs q else -1) = st := ⟨_, rfl⟩
    obtain ⟨ok, hok⟩ : ∃ ok, (Bud.validY xs T && Bud.okY xs q) = ok := ⟨_, rfl⟩
    have HCA := Lib.hid (Bud.take_casesY xs T q ys st ok hys hst hok)
    have hla : AllI ys := by rw [← hys]; exact Bud.take_allY xs T q
    have hln : ys.length ≤ 256 := by rw [← hys]; exact Bud.take_lenY xs T q
    have HY := Lib.hid hys
    have HS := Lib.hid hst
    have HO := Lib.hid hok
    have HYA := Lib.hid hla
    clear hys hst hok hla
    go_wp2_with fail
    refine (buddyTake_any _ _ _ xs _ _ _ (o1.reads HA.out) (by omega) hcap).mono ?_
    rw [HY.out, HS.out, HO.out]
    rintro e w2 ⟨v2, rfl, p2, b2⟩
    have bb2 := b1.trans (b2.mono b1.size)
    have o2 := o1.below b2 (Nat.le_refl _)
    clear o1
    go_wp2_with fail
    refine (mBuddyTake_any _ _ _ xs _ _ _ (o2.reads HA.out) (by omega) hcap).mono ?_
    rw [HY.out, HS.out, HO.out]
    rintro e w3 ⟨v3, rfl, p3, b3⟩
    have bb3 := bb2.trans (b3.mono bb2.size)
    have o3 := o2.below b3 (Nat.le_refl _)
    have p2 := p2.below b3 (Nat.le_refl _)
    obtain ⟨A2, c2, rfl, f2⟩ := p2.form
    obtain ⟨A3, c3, rfl, f3⟩ := p3.form
    have hcap2 := p2.cap.2
    clear f2 f3 o2
    go_wp2_with fail
    refine (sameBuddies_any _ _ _ _ _ _ ys ys _ (p2.reads HYA.out) (p3.reads HYA.out) (by omega) (by omega)).mono ?_
    rw [decide_eq_true rfl]
    rintro e w4 ⟨rfl, b4⟩
    have bb4 := bb3.trans (b4.mono bb3.size)
    have o4 := o3.below b4 (Nat.le_refl _)
    have p4 := p2.below b4 (Nat.le_refl _)
    clear o3 p2 p3 b2 b3 b4
    rcases HCA.out with ⟨rfl, rfl, rfl | rfl⟩ | ⟨rfl, a, m, f, rfl, hpw, hm8, hmod, ha2, hf, hyv, hfy, hfx, hgv, hgo⟩
    · go_wp2_with fail
      refine (alive_any _).mono ?_
      rintro e w5 ⟨rfl, b5⟩
      go_wp2_with fail
      go_ret
      exact ⟨rfl, bb4.trans (b5.mono bb4.size)⟩
    · have hne : ((ys.length : Int) == 0) = false := by rw [beq_eq_false_iff_ne]; omega
      go_wp2_with fail
      refine (sameBuddies_any _ _ _ _ _ _ ys ys _ (p4.reads HYA.out) (o4.reads HYA.out) (by omega) (by omega)).mono ?_
      rw [decide_eq_true rfl]
      rintro e w5 ⟨rfl, b5⟩
      have bb5 := bb4.trans (b5.mono bb4.size)
      go_wp2_with fail
      refine (alive_any _).mono ?_
      rintro e w6 ⟨rfl, b6⟩
      go_wp2_with fail
      go_ret
      exact ⟨rfl, bb5.trans (b6.mono bb5.size)⟩
    · have HYV := Lib.hid hyv
      have HGB := Lib.hid (show (if Bud.validY ys T = true then Bud.giveY ys T a else []) = xs ∧ (Bud.validY ys T && Bud.okG ys a) = true by rw [hyv, hgo, if_pos rfl]; exact ⟨hgv, rfl⟩)
      have HFY := Lib.hid hfy
      have HPW := Lib.hid hpw
      have tm : ((a : Int)).tmod (2 ^ m) = 0 := by rw [tmod_pow, hmod]; rfl
      have hpm := Bud.two_pow_le hm8
      have tz : ((2 : Int) ^ m == 0) = false := by rw [beq_eq_false_iff_ne, pow_int]; omega
      have tz2 : ¬ ((2 : Int) ^ m = 0) := by rw [pow_int]; omega
      have tb : (2 : Int) ^ m ≤ 256 := by rw [pow_int]; omega
      have tc : 1 ≤ (2 : Int) ^ m := by rw [pow_int]; omega
      obtain ⟨fx, hfx2⟩ : ∃ fx : Int, fx = (f : Int) + 2 ^ m := ⟨_, rfl⟩
      have HFX := Lib.hid (show Bud.freeYW xs T = fx by rw [hfx, hfx2, pow_int, Int.natCast_add])
      clear hyv hgv hgo hfy hpw hmod hfx
      go_wp2_with fail
      refine (buddyGive_any _ _ _ ys _ _ _ (p4.reads HYA.out) (by omega) hcap2).mono ?_
      rw [HGB.out.1, HGB.out.2]
      rintro e w5 ⟨v5, rfl, p5, b5⟩
      have bb5 := bb4.trans (b5.mono bb4.size)
      have o5 := o4.below b5 (Nat.le_refl _)
      have p6 := p4.below b5 (Nat.le_refl _)
      obtain ⟨A5, c5, rfl, f5⟩ := p5.form
      clear f5 o4 p4 b5 bb4
      go_wp2_with fail
      refine (powerFor_any _ _).mono ?_
      rw [HPW.out]
      rintro e w' ⟨rfl, rfl⟩
      obtain ⟨wp1, wp2⟩ := wrap_pow hm8
      have m1 := wrap_back hfx2 hf
      have m2 : ¬ ((m : Int) < 0) := by omega
      have m3 : (0 : Int) ≤ m := by omega
      clear hfx2 hpm
      have CV := Lib.hid (fun w' (hw' : InY w5 w') => (buddiesValid_any A2 ys.length c2 ys T w' ((p6.below hw' (Nat.le_refl _)).reads HYA.out) (by omega)).mono (R' := fun e w'' => e = .returned (.bool true) ∧ InY w5 w'') fun e w'' hh => ⟨by rw [HYV.out] at hh; exact hh.1, hw'.call hh.2⟩)
      have CF := Lib.hid (fun w' (hw' : InY w5 w') => (buddyFree_any A2 ys.length c2 ys T w' ((p6.below hw' (Nat.le_refl _)).reads HYA.out) (by omega)).mono (R' := fun e w'' => e = .returned (.int .i64 f) ∧ InY w5 w'') fun e w'' hh => ⟨by rw [HFY.out] at hh; exact hh.1, hw'.call hh.2⟩)
      have CG := Lib.hid (fun w' (hw' : InY w5 w') => (buddyFree_any A1 xs.length c1 xs T w' ((o5.below hw' (Nat.le_refl _)).reads HA.out) (by omega)).mono (R' := fun e w'' => e = .returned (.int .i64 fx) ∧ InY w5 w'') fun e w'' hh => ⟨by rw [HFX.out] at hh; exact hh.1, hw'.call hh.2⟩)
      have CS := Lib.hid (fun w' (hw' : InY w5 w') => (sameBuddies_any A5 A1 xs.length xs.length c5 c1 xs xs w' ((p5.below hw' (Nat.le_refl _)).reads HA.out) ((o5.below hw' (Nat.le_refl _)).reads HA.out) (by omega) (by omega)).mono (R' := fun e w'' => e = .returned (.bool true) ∧ InY w5 w'') fun e w'' hh => ⟨by rw [decide_eq_true rfl] at hh; exact hh.1, hw'.call hh.2⟩)
      go_wp2_with fail
      refine wp_region_quiet (C := InY w5) (by kernel_rfl) (by kernel_rfl) (show InY w5 _ from (Below.refl _ _).drew) ?_
      repeat (
        refine wpQuiet_step (fun K hK => ?_)
        go_simp
        first
          | (refine hK _ ?_
             clear hK K)
          | ((with_reducible refine ⟨_, fun _ _ => rfl, hK _ ?_⟩)
             clear hK K)
          | ((with_reducible refine ⟨_, CV.out, hK _ ?_⟩)
             clear hK K)
          | ((with_reducible refine ⟨_, CF.out, hK _ ?_⟩)
             clear hK K)
          | ((with_reducible refine ⟨_, CG.out, hK _ ?_⟩)
             clear hK K)
          | ((with_reducible refine ⟨_, CS.out, hK _ ?_⟩)
             clear hK K))
      refine wpQuiet_nil ?_
      intro w6 hw6
      clear m1 wp1 wp2 tm
      go_wp2
      go_ret
      exact ⟨rfl, bb5.trans ((show Below w5.heap.size w5 w6 from hw6).mono bb5.size)⟩
  · go_enter Try.func5, Try.ntmps5
    go_wp2
    go_ret
    exact ⟨rfl, Below.refl _ _⟩
end Go.Proofs.Ythihaclhlmpioaa

namespace Go.Proofs.Ythihaclhlmpioaa
open Go.RowKit

/-- a later world -/
def InZ (w0 w : World) : Prop := Below w0.heap.size w0 w
theorem InZ.call {w0 w w' : World} (h : InZ w0 w) (hb : Below w.heap.size w w') : InZ w0 w' := Below.trans h (hb.mono (Below.size h))

set_option maxRecDepth 100000 in
set_option maxHeartbeats 8000000 in
theorem buddyGiveLaw_walk (A : Option Addr) (n c : Nat) (w : World) (h : Bytes w w.heap.size A n) (hc : n ≤ c) (hn : n ≤ 9223372036854775807) :
    Calls Try.prog 6 #[.slice A n c] w fun e w' => e = .returned (.bool true) ∧ Below w.heap.size w w' := by
  by_cases hs : n ≤ 1048576
  · have hs' : decide ((1048576 : Int) < (n : Int)) = false := by simp; omega
    go_enter Try.func6, Try.ntmps6
    go_wp2_with fail
    refine (drawBuddyGive_any _ _ _ _ h hc hn).mono ?_
    rintro e w1 ⟨v, xs, T, q, rfl, o1, ha, l1, l2, t1, t2, ⟨q1, q2⟩, b1⟩
    obtain ⟨A1, c1, rfl, f1⟩ := o1.form
    have hcap := o1.cap.2
    clear f1
    have HA := Lib.hid ha
    clear ha
    obtain ⟨ys, hys⟩ : ∃ ys, (if Bud.validY xs T = true then Bud.giveY xs T q else []) = ys := ⟨_, rfl⟩
    obtain ⟨ok, hok⟩ : ∃ ok, (Bud.validY xs T && Bud.okG xs q) = ok := ⟨_, rfl⟩
    have HCA := Lib.hid (Bud.give_casesY xs T q ys ok hys hok)
    have hla : AllI ys := by rw [← hys]; exact Bud.give_allY xs T q
    have hln : ys.length ≤ 256 := by rw [← hys]; exact Bud.give_lenY xs T q
    have HY := Lib.hid hys
    have HO := Lib.hid hok
    have HYA := Lib.hid hla
    clear hys hok hla
    go_wp2_with fail
    refine (buddyGive_any _ _ _ xs _ _ _ (o1.reads HA.out) (by omega) hcap).mono ?_
    rw [HY.out, HO.out]
    rintro e w2 ⟨v2, rfl, p2, b2⟩
    have bb2 := b1.trans (b2.mono b1.size)
    have o2 := o1.below b2 (Nat.le_refl _)
    clear o1
    go_wp2_with fail
    refine (mBuddyGive_any _ _ _ xs _ _ _ (o2.reads HA.out) (by omega)).mono ?_
    rw [HY.out, HO.out]
    rintro e w3 ⟨v3, rfl, p3, b3⟩
    have bb3 := bb2.trans (b3.mono bb2.size)
    have o3 := o2.below b3 (Nat.le_refl _)
    have p2 := p2.below b3 (Nat.le_refl _)
    obtain ⟨A2, c2, rfl, f2⟩ := p2.form
    obtain ⟨A3, c3, rfl, f3⟩ := p3.form
    have hcap2 := p2.cap.2
    clear f2 f3 o2
    go_wp2_with fail
    refine (sameBuddies_any _ _ _ _ _ _ ys ys _ (p2.reads HYA.out) (p3.reads HYA.out) (by omega) (by omega)).mono ?_
    rw [decide_eq_true rfl]
    rintro e w4 ⟨rfl, b4⟩
    have bb4 := bb3.trans (b4.mono bb3.size)
    have o4 := o3.below b4 (Nat.le_refl _)
    have p4 := p2.below b4 (Nat.le_refl _)
    clear o3 p2 p3 b2 b3 b4
    rcases HCA.out with ⟨rfl, rfl | rfl⟩ | ⟨rfl, P, f, g, rfl, hP, hxv, hyv, hfx, hfy, hlt, hg, hag, hend⟩
    · go_wp2_with fail
      refine (alive_any _).mono ?_
      rintro e w5 ⟨rfl, b5⟩
      go_wp2_with fail
      go_ret
      exact ⟨rfl, bb4.trans (b5.mono bb4.size)⟩
    · have hne : ((ys.length : Int) == 0) = false := by rw [beq_eq_false_iff_ne]; omega
      go_wp2_with fail
      refine (sameBuddies_any _ _ _ _ _ _ ys ys _ (p4.reads HYA.out) (o4.reads HYA.out) (by omega) (by omega)).mono ?_
      rw [decide_eq_true rfl]
      rintro e w5 ⟨rfl, b5⟩
      have bb5 := bb4.trans (b5.mono bb4.size)
      go_wp2_with fail
      refine (alive_any _).mono ?_
      rintro e w6 ⟨rfl, b6⟩
      go_wp2_with fail
      go_ret
      exact ⟨rfl, bb5.trans (b6.mono bb5.size)⟩
    · have HYV := Lib.hid hyv
      have HFX := Lib.hid hfx
      have HFY := Lib.hid hfy
      have HAG := Lib.hid (show (Bud.validY ys P && Bud.okG ys q) = false by rw [hyv, hag]; rfl)
      have HEND := Lib.hid hend
      have hltI : (f : Int) < g := by omega
      clear hxv hyv hfx hfy hag hend
      go_wp2_with fail
      refine (buddyGive_any _ _ _ ys _ _ _ (p4.reads HYA.out) (by omega) hcap2).mono ?_
      rw [HAG.out]
      rintro e w5 ⟨v5, rfl, p5, b5⟩
      have bb5 := bb4.trans (b5.mono bb4.size)
      have o5 := o4.below b5 (Nat.le_refl _)
      have p6 := p4.below b5 (Nat.le_refl _)
      clear o4 p4 b5 bb4 p5
      go_wp2_with fail
      refine (buddyFree_any _ _ _ ys _ _ (p6.reads HYA.out) (by omega)).mono ?_
      rw [HFY.out]
      rintro e w6 ⟨rfl, b6⟩
      have bb6 := bb5.trans (b6.mono bb5.size)
      have o7 := o5.below b6 (Nat.le_refl _)
      have p7 := p6.below b6 (Nat.le_refl _)
      clear o5 p6 b6 bb5
      obtain ⟨wp1, wp2⟩ := wrap_pow hP
      have m2 : ¬ ((P : Int) < 0) := by omega
      have CV := Lib.hid (fun w' (hw' : InZ w6 w') => (buddiesValid_any A2 ys.length c2 ys P w' ((p7.below hw' (Nat.le_refl _)).reads HYA.out) (by omega)).mono (R' := fun e w'' => e = .returned (.bool true) ∧ InZ w6 w'') fun e w'' hh => ⟨by rw [HYV.out] at hh; exact hh.1, hw'.call hh.2⟩)
      have CG := Lib.hid (fun w' (hw' : InZ w6 w') => (buddyFree_any A1 xs.length c1 xs P w' ((o7.below hw' (Nat.le_refl _)).reads HA.out) (by omega)).mono (R' := fun e w'' => e = .returned (.int .i64 f) ∧ InZ w6 w'') fun e w'' hh => ⟨by rw [HFX.out] at hh; exact hh.1, hw'.call hh.2⟩)
      have RD := Lib.hid (fun w' (hw' : InZ w6 w') => (p7.below hw' (Nat.le_refl _)).reads HYA.out)
      rcases HEND.out with ⟨hgp, b, hb, hbu⟩ | ⟨hgp, ⟨b, hb, hbu⟩ | hlen⟩
      · have hge : ((g : Int) == 2 ^ P) = true := by rw [beq_iff_eq, pow_int, hgp]
        have hle : (ys.length : Int) = 1 := by rw [hb]; rfl
        obtain ⟨ga, oa, xa, e1, hga, hxa, _, _, _, _, d3⟩ := (p7.reads HYA.out).at_ (k := 0) (by omega)
        obtain rfl : xa = b := by rw [hb] at hxa; exact (Option.some.inj hxa).symm
        rw [hbu] at d3
        subst e1
        have hcell : ∀ w', InZ w6 w' → w'.cell? ⟨ga, oa + 2, none⟩ = some (.bool false) := fun w' hw' => (Below.cell hw' (p := ⟨ga, oa + 2, none⟩) (by show ga < w6.heap.size; exact hga)).trans (by simpa using d3)
        have HCELL := Lib.hid hcell
        clear hcell d3 hxa hb hgp
        go_wp2_with fail
        refine wp_region_quiet (C := InZ w6) (by kernel_rfl) (by kernel_rfl) (show InZ w6 _ from (Below.refl _ _).drew) ?_
        repeat (
          refine wpQuiet_step (fun K hK => ?_)
          go_simp
          first
            | (refine hK _ ?_
               clear hK K)
            | ((with_reducible refine ⟨_, fun _ _ => rfl, hK _ ?_⟩)
               clear hK K)
            | ((with_reducible refine ⟨_, CV.out, hK _ ?_⟩)
               clear hK K)
            | ((with_reducible refine ⟨_, CG.out, hK _ ?_⟩)
               clear hK K)
            | (refine ⟨.bool false, fun w' hw' => ?_, hK _ ?_⟩
               have hcw := HCELL.out w' hw'
               go_simp
               clear hK K))
        refine wpQuiet_nil ?_
        intro w7 hw7
        clear wp1 wp2
        go_wp2
        go_ret
        exact ⟨rfl, bb6.trans ((show Below w6.heap.size w6 w7 from hw7).mono bb6.size)⟩
      · have hge : ((g : Int) == 2 ^ P) = false := by rw [beq_eq_false_iff_ne, pow_int]; omega
        have hle : (ys.length : Int) = 1 := by rw [hb]; rfl
        obtain ⟨ga, oa, xa, e1, hga, hxa, _, _, _, _, d3⟩ := (p7.reads HYA.out).at_ (k := 0) (by omega)
        obtain rfl : xa = b := by rw [hb] at hxa; exact (Option.some.inj hxa).symm
        rw [hbu] at d3
        subst e1
        have hcell : ∀ w', InZ w6 w' → w'.cell? ⟨ga, oa + 2, none⟩ = some (.bool true) := fun w' hw' => (Below.cell hw' (p := ⟨ga, oa + 2, none⟩) (by show ga < w6.heap.size; exact hga)).trans (by simpa using d3)
        have HCELL := Lib.hid hcell
        clear hcell d3 hxa hb hgp
        go_wp2_with fail
        refine wp_region_quiet (C := InZ w6) (by kernel_rfl) (by kernel_rfl) (show InZ w6 _ from (Below.refl _ _).drew) ?_
        repeat (
          refine wpQuiet_step (fun K hK => ?_)
          go_simp
          first
            | (refine hK _ ?_
               clear hK K)
            | ((with_reducible refine ⟨_, fun _ _ => rfl, hK _ ?_⟩)
               clear hK K)
            | ((with_reducible refine ⟨_, CV.out, hK _ ?_⟩)
               clear hK K)
            | ((with_reducible refine ⟨_, CG.out, hK _ ?_⟩)
               clear hK K)
            | (refine ⟨.bool true, fun w' hw' => ?_, hK _ ?_⟩
               have hcw := HCELL.out w' hw'
               go_simp
               clear hK K))
        refine wpQuiet_nil ?_
        intro w7 hw7
        clear wp1 wp2
        go_wp2
        go_ret
        exact ⟨rfl, bb6.trans ((show Below w6.heap.size w6 w7 from hw7).mono bb6.size)⟩
      · have hge : ((g : Int) == 2 ^ P) = false := by rw [beq_eq_false_iff_ne, pow_int]; omega
        have hle : ((ys.length : Int) == 1) = false := by rw [beq_eq_false_iff_ne]; omega
        clear hgp
        go_wp2_with fail
        refine wp_region_quiet (C := InZ w6) (by kernel_rfl) (by kernel_rfl) (show InZ w6 _ from (Below.refl _ _).drew) ?_
        repeat (
          refine wpQuiet_step (fun K hK => ?_)
          go_simp
          first
            | (refine hK _ ?_
               clear hK K)
            | ((with_reducible refine ⟨_, fun _ _ => rfl, hK _ ?_⟩)
               clear hK K)
            | ((with_reducible refine ⟨_, CV.out, hK _ ?_⟩)
               clear hK K)
            | ((with_reducible refine ⟨_, CG.out, hK _ ?_⟩)
               clear hK K))
        refine wpQuiet_nil ?_
        intro w7 hw7
        clear wp1 wp2
        go_wp2
        go_ret
        exact ⟨rfl, bb6.trans ((show Below w6.heap.size w6 w7 from hw7).mono bb6.size)⟩
  · go_enter Try.func6, Try.ntmps6
    go_wp2
    go_ret
    exact ⟨rfl, Below.refl _ _⟩

set_option maxRecDepth 100000 in
set_option maxHeartbeats 8000000 in
theorem buddyOrderLaw_walk (A : Option Addr) (n c : Nat) (w : World) (h : Bytes w w.heap.size A n) (hc : n ≤ c) (hn : n ≤ 9223372036854775807) :
    Calls Try.prog 8 #[.slice A n c] w fun e w' => e = .returned (.bool true) ∧ Below w.heap.size w w' := by
  by_cases hs : n ≤ 1048576
  · have hs' : decide ((1048576 : Int) < (n : Int)) = false := by simp; omega
    go_enter Try.func8, Try.ntmps8
    go_wp2_with fail
    refine (drawBuddyGive_any _ _ _ _ h hc hn).mono ?_
    rintro e w1 ⟨v, xs, T, q, rfl, o1, ha, l1, l2, t1, t2, ⟨q1, q2⟩, b1⟩
    obtain ⟨A1, c1, rfl, f1⟩ := o1.form
    have hcap := o1.cap.2
    clear f1
    have HA := Lib.hid ha
    clear ha
    obtain ⟨ys, hys⟩ : ∃ ys, (if Bud.validY xs T = true then Bud.giveY xs T q else []) = ys := ⟨_, rfl⟩
    obtain ⟨ok, hok⟩ : ∃ ok, (Bud.validY xs T && Bud.okG xs q) = ok := ⟨_, rfl⟩
    have hla : AllI ys := by rw [← hys]; exact Bud.give_allY xs T q
    have hln : ys.length ≤ 256 := by rw [← hys]; exact Bud.give_lenY xs T q
    have HY := Lib.hid hys
    have HO := Lib.hid hok
    have HYA := Lib.hid hla
    clear hys hok hla
    go_wp2_with fail
    refine (buddyGive_any _ _ _ xs _ _ _ (o1.reads HA.out) (by omega) hcap).mono ?_
    rw [HY.out, HO.out]
    rintro e w2 ⟨v2, rfl, p2, b2⟩
    have bb2 := b1.trans (b2.mono b1.size)
    have o2 := o1.below b2 (Nat.le_refl _)
    clear o1
    go_wp2_with fail
    refine (mBuddyGive_any _ _ _ xs _ _ _ (o2.reads HA.out) (by omega)).mono ?_
    rw [HY.out, HO.out]
    rintro e w3 ⟨v3, rfl, p3, b3⟩
    have bb3 := bb2.trans (b3.mono bb2.size)
    have o3 := o2.below b3 (Nat.le_refl _)
    have p2 := p2.below b3 (Nat.le_refl _)
    obtain ⟨A2, c2, rfl, f2⟩ := p2.form
    obtain ⟨A3, c3, rfl, f3⟩ := p3.form
    have hcap2 := p2.cap.2
    clear f2 f3 o2
    go_wp2_with fail
    refine (sameBuddies_any _ _ _ _ _ _ ys ys _ (p2.reads HYA.out) (p3.reads HYA.out) (by omega) (by omega)).mono ?_
    rw [decide_eq_true rfl]
    rintro e w4 ⟨rfl, b4⟩
    have bb4 := bb3.trans (b4.mono bb3.size)
    have o4 := o3.below b4 (Nat.le_refl _)
    have p4 := p2.below b4 (Nat.le_refl _)
    clear o3 p2 p3 b2 b3 b4
    cases ok
    · go_wp2_with fail
      refine (alive_any _).mono ?_
      rintro e w5 ⟨rfl, b5⟩
      go_wp2_with fail
      go_ret
      exact ⟨rfl, bb4.trans (b5.mono bb4.size)⟩
    · have hvo := HO.out
      rw [Bool.and_eq_true] at hvo
      have HV := Lib.hid hvo.1
      have HG := Lib.hid hvo.2
      have HYG := Lib.hid (show ys = Bud.giveY xs T q by rw [← HY.out, if_pos hvo.1])
      have HYV := Lib.hid (show Bud.validY ys T = true by rw [HYG.out]; exact Bud.giveY_valid hvo.1)
      have OO := Lib.hid o4
      have PP := Lib.hid p4
      clear hvo o4 p4
      go_wp2_with fail
      go_loopw [10] (fun i wr => ∃ k : Nat, k ≤ xs.length ∧ i = .int .i64 k ∧ Below w4.heap.size w4 wr) (fun i _ => xs.length - (intOf i).toNat)
      case atStart => exact ⟨0, Nat.zero_le _, rfl, Below.refl _ _⟩
      case round =>
        obtain ⟨k, hkk, rfl, hb⟩ := hrel
        by_cases hlt : k < xs.length
        · have hlt' : (k : Int) < xs.length := by omega
          have o5 := OO.out.below hb (Nat.le_refl _)
          have p5 := PP.out.below hb (Nat.le_refl _)
          obtain ⟨g, o, y, e1, hgl, hy, ⟨i1, i2⟩, _, d1, _, d3⟩ := (o5.reads HA.out).at_ hlt
          subst e1
          have HYY := Lib.hid hy
          clear hy
          by_cases hyq : y.s = q
          · have hke : (y.s == q) = true := by rw [beq_iff_eq]; exact hyq
            clear hyq
            go_wp2
            go_roundw
            case rel => exact ⟨k + 1, by omega, by go_num, hb⟩
            case measure => simp [intOf]; omega
          · have hke : (y.s == q) = false := by rw [beq_eq_false_iff_ne]; exact hyq
            cases huy : y.u
            · rw [huy] at d3
              clear huy hyq
              go_wp2
              go_roundw
              case rel => exact ⟨k + 1, by omega, by go_num, hb⟩
              case measure => simp [intOf]; omega
            · rw [huy] at d3
              obtain ⟨k1, k2, k3, hord⟩ := Bud.order_lawY HV.out HG.out HYY.out huy hyq
              rw [← HYG.out] at k1 hord
              obtain ⟨zs, hzs⟩ : ∃ zs, Bud.giveY xs T y.s = zs := ⟨_, rfl⟩
              have hzv : Bud.validY zs T = true := by rw [← hzs]; exact Bud.giveY_valid HV.out
              rw [hzs] at k3 hord
              have hzl := (Bud.validY_len hzv).2.1
              have ZA := Lib.hid (Bud.valid_allI hzv)
              obtain ⟨us, hus⟩ : ∃ us, Bud.giveY ys T y.s = us := ⟨_, rfl⟩
              have huv : Bud.validY us T = true := by rw [← hus]; exact Bud.giveY_valid HYV.out
              have hul := (Bud.validY_len huv).2.1
              have UA := Lib.hid (Bud.valid_allI huv)
              rw [hus] at hord
              have G1 := Lib.hid (show (if Bud.validY ys T = true then Bud.giveY ys T y.s else []) = us by rw [if_pos HYV.out]; exact hus)
              have G2 := Lib.hid (show (if Bud.validY xs T = true then Bud.giveY xs T y.s else []) = zs by rw [if_pos HV.out]; exact hzs)
              have G3 := Lib.hid (show (if Bud.validY zs T = true then Bud.giveY zs T q else []) = us by rw [if_pos hzv]; exact hord.symm)
              have KA := Lib.hid (show (Bud.validY ys T && Bud.okG ys y.s) = true by rw [HYV.out, k1]; rfl)
              have KB := Lib.hid (show (Bud.validY xs T && Bud.okG xs y.s) = true by rw [HV.out, k2]; rfl)
              have KC := Lib.hid (show (Bud.validY zs T && Bud.okG zs q) = true by rw [hzv, k3]; rfl)
              clear hord hzs hzv hus huv huy hyq k1 k2 k3
              go_wp2_with fail
              refine (buddyGive_any _ _ _ ys _ _ _ (p5.reads HYA.out) (by omega) hcap2).mono ?_
              rw [G1.out, KA.out]
              rintro e w6 ⟨v6, rfl, r6, b6⟩
              have bb6 := hb.trans (b6.mono hb.size)
              have o7 := o5.below b6 (Nat.le_refl _)
              obtain ⟨g', o', y', e1, _, hy', _, _, d1', _, _⟩ := (o7.reads HA.out).at_ hlt
              injection e1 with e1
              injection e1 with ea eb
              subst ea eb
              obtain rfl : y' = y := Option.some.inj (hy'.symm.trans HYY.out)
              clear p5 o5 b6 d1 d3 hy'
              go_wp2_with fail
              refine (buddyGive_any _ _ _ xs _ _ _ (o7.reads HA.out) (by omega) hcap).mono ?_
              rw [G2.out, KB.out]
              rintro e w7 ⟨v7, rfl, r7, b7⟩
              have bb7 := bb6.trans (b7.mono bb6.size)
              have r6 := r6.below b7 (Nat.le_refl _)
              obtain ⟨A7, c7, rfl, f7⟩ := r7.form
              have hcap7 := r7.cap.2
              clear f7 o7 b7 bb6 d1'
              go_wp2_with fail
              refine (buddyGive_any _ _ _ zs _ _ _ (r7.reads ZA.out) (by omega) hcap7).mono ?_
              rw [G3.out, KC.out]
              rintro e w9 ⟨v9, rfl, r9, b9⟩
              have bb9 := bb7.trans (b9.mono bb7.size)
              have r6 := r6.below b9 (Nat.le_refl _)
              obtain ⟨A6, c6, rfl, f6⟩ := r6.form
              obtain ⟨A9, c9, rfl, f9⟩ := r9.form
              clear f6 f9
              go_wp2_with fail
              refine (sameBuddies_any _ _ _ _ _ _ us us _ (r6.reads UA.out) (r9.reads UA.out) (by omega) (by omega)).mono ?_
              rw [decide_eq_true rfl]
              rintro e w10 ⟨rfl, b10⟩
              have bb10 := bb9.trans (b10.mono bb9.size)
              go_wp2
              go_roundw
              case rel => exact ⟨k + 1, by omega, by go_num, bb10⟩
              case measure => simp [intOf]; omega
        · go_wp2
          go_ret
          exact ⟨rfl, bb4.trans (hb.mono bb4.size)⟩
  · go_enter Try.func8, Try.ntmps8
    go_wp2
    go_ret
    exact ⟨rfl, Below.refl _ _⟩
end Go.Proofs.Ythihaclhlmpioaa
