/- What blockIs, and slices.Clone, slices.Grow and slices.Concat at blocks, return: for every slice of blocks. -/
import Derived.Test.YtkejbggffbkdaaaWi
import Derived.Lib.SliceRun
import Derived.Lib.AppendZerosOnto
namespace Go.Proofs.Ytkejbggffbkdaaa
open Go.RowKit

/-- there is a block with the number, used or free as asked -/
def isB (xs : List Bl) (num : Int) (u : Bool) : Bool :=
  decide (0 ≤ num) && match xs[num.toNat]? with
  | none => false
  | some b => b.u == u

theorem isB_at {xs : List Bl} {k : Nat} {x : Bl} (u : Bool) (hx : xs[k]? = some x) : isB xs k u = (x.u == u) := by simp [isB, hx]
theorem isB_neg {xs : List Bl} {num : Int} (u : Bool) (h : num < 0) : isB xs num u = false := by
  have : ¬ 0 ≤ num := by omega
  simp [isB, this]
theorem isB_out {xs : List Bl} {num : Int} (u : Bool) (h : xs.length ≤ num) : isB xs num u = false := by
  unfold isB
  rw [List.getElem?_eq_none (by omega)]
  simp
theorem canGive_isB (xs : List Bl) (num : Int) : Bks.canGive xs num = isB xs num true := by
  unfold Bks.canGive isB
  cases xs[num.toNat]? <;> simp

theorem blockIs_any (A : Option Addr) (n c : Nat) (xs : List Bl) (num : Int) (u : Bool) (w : World) (h : BS w w.heap.size A n xs) :
    Calls Try.prog 50 #[.slice A n c, .int .i64 num, .bool u] w fun e w' => e = .returned (.bool (isB xs num u)) ∧ w = w' := by
  have hlen := h.1
  by_cases h0 : 0 ≤ num
  · obtain ⟨k, rfl⟩ := Int.eq_ofNat_of_zero_le h0
    by_cases hk : k < n
    · obtain ⟨g, o, x, rfl, hg, hx, _, _, c1, c2, c3⟩ := h.at_ hk
      have HI := Lib.hid (isB_at u hx)
      clear hx hlen c1 c2
      go_enter Try.func50, Try.ntmps50
      go_wp2
      go_ret
      exact ⟨by rw [HI.out]; rfl, rfl⟩
    · have HI := Lib.hid (isB_out (xs := xs) (num := k) u (by omega))
      clear hlen
      have hk' : ¬ ((k : Int) < n) := by omega
      go_enter Try.func50, Try.ntmps50
      go_wp2
      go_ret
      exact ⟨by rw [HI.out]; rfl, rfl⟩
  · have HI := Lib.hid (isB_neg (xs := xs) u (show num < 0 by omega))
    clear hlen
    go_enter Try.func50, Try.ntmps50
    go_wp2
    go_ret
    exact ⟨by rw [HI.out]; rfl, rfl⟩

theorem clone_any (A : Option Addr) (n c : Nat) (xs : List Bl) (w : World) (h : BS w w.heap.size A n xs) (hn : n ≤ 1099511627776) :
    Calls Try.prog 38 #[.slice A n c] w (GaveB w xs) := by
  have q : ∀ (w : World) (a : Option Addr) (n c n' c' : Nat), (binOp .eql 23 (.slice a n c) (.slice none n' c')).run Try.prog w = .ok (.bool a.isNone) w := fun w a n c n' c' => Lib.run_eql_slice_nil w _ _ a n c n' c' Try.underlying23
  cases A with
  | none =>
    have h0 : n = 0 := by
      rcases Nat.eq_zero_or_pos n with h0 | h0
      · exact h0
      · obtain ⟨g, o, e, _⟩ := h.2.2 h0
        cases e
    have : xs = [] := List.eq_nil_of_length_eq_zero (h.1.trans h0)
    subst this h0
    go_enter Try.func38, Try.ntmps38
    go_wp2
    go_ret
    exact ⟨_, rfl, World.ownsRow_nil _ _ _ _, Below.refl _ _⟩
  | some a =>
    have o0 := own_none w w.heap.size (Nat.le_refl _)
    have bl0 : Below w.heap.size w (w.alloc (.cells #[] 32)) := (Below.refl _ _).alloc (Nat.le_refl _) _
    have r0 := h.below bl0
    go_enter Try.func38, Try.ntmps38
    go_wp2_with (at_builtin; refine wpList_appendB rfl (.tmp 5) (.tmp 6) rfl w.heap.size _ [] rfl o0 (some a) n c w.heap.size xs rfl r0 (by simp <;> omega) (by simp) ?_; intro v1 w1 o1 g1 s1)
    go_ret
    exact ⟨_, rfl, OwnB.cast (by simp) o1, bl0.grown g1 (by simp) (fun k hk => (World.ownsRow.lt o0 k hk).1)⟩

theorem grown_row (w : World) (n G : Nat) (h : n ≤ G) (hG : G ≤ maxLen) :
    OwnB (w.alloc (.cells (Builtin.zeroCells #[.int .i64 0, .int .i64 0, .bool false] n ++ Builtin.zeroCells #[.int .i64 0, .int .i64 0, .bool false] (G - n)) 32)).drew w.heap.size (.slice (some ⟨w.heap.size, 0, none⟩) 0 G) [] := by
  refine ⟨by simp [flat], .inr ⟨w.heap.size, G, Builtin.zeroCells #[.int .i64 0, .int .i64 0, .bool false] n ++ Builtin.zeroCells #[.int .i64 0, .int .i64 0, .bool false] (G - n), rfl, Nat.le_refl _, ?_, by simp, hG, ?_, by simp [flat]⟩⟩
  · show (w.heap.push _)[w.heap.size]? = _
    simp
  · simp [Builtin.zeroCells]
    omega

set_option maxHeartbeats 2000000 in
theorem grow_nil (n : Nat) (w : World) (hn : n ≤ 1099511627776) :
    Calls Try.prog 52 #[.slice none 0 0, .int .i64 n] w (GaveB w []) := by
  rcases Nat.eq_zero_or_pos n with h0 | h0
  · subst h0
    go_enter Try.func52, Try.ntmps52
    go_wp2
    go_ret
    exact ⟨_, rfl, World.ownsRow_nil _ _ _ _, Below.refl _ _⟩
  · obtain ⟨i0, hi0, hz0, hz1, hz2⟩ := info_parts info_block
    have hrz : ∀ ty, (Builtin.append_ #[23, 3] ty #[.slice none 0 0, .int .i64 n]).run Try.prog w =
        .ok (.slice (some ⟨w.heap.size, 0, none⟩) n (grownCap w n 0 32)) (w.drew.alloc (.cells (#[] ++ Builtin.zeroCells (Value.agg #[.int .i64 0, .int .i64 0, .bool false]).cells n ++ Builtin.zeroCells (Value.agg #[.int .i64 0, .int .i64 0, .bool false]).cells (grownCap w n 0 32 - n)) 32)) := fun ty => by
      have hx := Lib.run_append_grow_zeros w 23 3 ty 32 i0 _ .i64 .i64 Try.underlying23 Try.underlying3 hi0 hz0 none 0 0 [] (run_firstCells_none w.drew i0.size 0 0 0) n h0 (by omega) (by omega) (by omega) (by rw [hz2]; omega)
        (by rw [Nat.zero_add]; exact growslice_fits h0 (by rw [hz2]; omega))
      simpa using hx
    have hGn : n ≤ grownCap w n 0 32 := grownCap_ge w _ _ _
    have hG63 := grownCap_le_maxLen w n 0 32 (by unfold maxLen; omega)
    generalize grownCap w n 0 32 = G at hrz hGn hG63
    have HG := Lib.hid hG63
    unfold maxLen at hG63
    have hnn : ¬ ((n : Int) < 0) := by omega
    have hpos : (n : Int) > 0 := by omega
    clear hi0 hz0 hz1 hz2
    go_enter Try.func52, Try.ntmps52
    go_wp2_with (at_builtin; refine Lib.wpList_append_run _ rfl _ _ _ _ rfl _ _ rfl rfl _ _ (hrz _) ?_)
    go_ret
    exact ⟨_, rfl, grown_row w n G hGn HG.out, ((Below.refl w.heap.size w).alloc (Nat.le_refl _) _).drew⟩

/-- a slice that is a part of what is joined, and its blocks -/
structure Part where
  a : Option Addr
  n : Nat
  c : Nat
  xs : List Bl

def catP : List Part → List Bl
  | [] => []
  | p :: ps => p.xs ++ catP ps

theorem catP_append (ps qs : List Part) : catP (ps ++ qs) = catP ps ++ catP qs := by
  induction ps with
  | nil => rfl
  | cons p ps ih => simp [catP, ih]

theorem catP_succ {ps : List Part} {k : Nat} {p : Part} (h : ps[k]? = some p) : catP (ps.take (k + 1)) = catP (ps.take k) ++ p.xs := by
  rw [List.take_add_one, h, catP_append]
  simp [catP]

theorem catP_le (ps : List Part) (k : Nat) : (catP (ps.take k)).length ≤ (catP ps).length := by
  have := catP_append (ps.take k) (ps.drop k)
  rw [List.take_append_drop] at this
  rw [this]
  simp

def Parts (w : World) (B g : Nat) (ps : List Part) : Prop := ∀ (k : Nat) (p : Part), ps[k]? = some p → w.cell? ⟨g, k, none⟩ = some (.slice p.a p.n p.c) ∧ BS w B p.a p.n p.xs

theorem Parts.at_ {w : World} {B g k : Nat} {ps : List Part} (h : Parts w B g ps) (hk : k < ps.length) : ∃ p, ps[k]? = some p ∧ w.cell? ⟨g, k, none⟩ = some (.slice p.a p.n p.c) ∧ BS w B p.a p.n p.xs :=
  ⟨_, List.getElem?_eq_getElem hk, h k _ (List.getElem?_eq_getElem hk)⟩

end Go.Proofs.Ytkejbggffbkdaaa
