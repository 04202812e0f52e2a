/- Plain mathematics of blocks: what it means that blocks divide a memory, without any program. No conditions. How a slice of blocks lies in memory: 'BS' says that a slice value reads as a list of blocks; and how that is carried from world to world. No conditions. What wordsValid, l1In and the two BlocksValid return: for every slice of blocks and every total. What the helpers of the exact laws return: toBlock, toBlockS, szBlockS, eqBlock, eqBlockS; for every slice of blocks. The exact law of BlocksValid returns true: for every slice of blocks and every total. What FreeWords and LargestFree return, the program's and the model's: for every slice of blocks and every total. What BlockAt returns, the program's (by sort.Search) and the model's: for every slice of blocks, every total and every word. Slices of blocks that a call has made for itself: what it means that a value owns such blocks, and what the two helpers markBlockS and heldBlockS do to them. No conditions. What NewBlocks returns, the program's and the model's: for every number. Appending blocks to a slice of a call's own, and cutting slices of blocks. No conditions. How the laws' inputs are drawn from bytes: what the reader l20Rd is in memory, and what l20Open, pick and odd do. No conditions. What DrawNewBlocks, sameBlocks and alive return, and that the law of NewBlocks (P16) returns true; for every list of bytes. A region whose order is drawn, walked by what holds between its operations: each operation once, whatever the order. Tables of numbers that a call has laid. No conditions. -/
import Derived.Below
import Derived.Test.YtakdjiojahlnmaaRows
import Derived.WalkKit
import Derived.WalkSpells
import Derived.WalkLawsBesides
import Derived.Lib.Hide
import Derived.Laws.Rows
import Derived.Laws.MakeOwn
import Derived.StillTailTactics
import Derived.Deep.QuietTactic
import Derived.BigQuiet
import Derived.IntWalk
import Derived.Laws.OwnMore
import Derived.OwnWalk
import Derived.Maps.AppendAt
import Derived.RegionTactic
import Derived.Laws.BitsAllLaws
import Derived.Laws.BitsLemmas
import Derived.Deep.Slices
namespace Go.Proofs.Ytakdjiojahlnmaa
/-- a block: start, size, used -/
structure Bl where
  s : Int
  z : Int
  u : Bool
  deriving DecidableEq, Inhabited

namespace Bks
/-- the words of the first k blocks -/
def offs (xs : List Bl) (k : Nat) : Int := ((xs.take k).map (·.z)).sum

def stepOk (xs : List Bl) (k : Nat) : Bool :=
  match xs[k]? with
  | none => false
  | some x => decide (x.s = offs xs k) && decide (1 ≤ x.z) && decide (x.z ≤ 256) && (decide (k = 0) || x.u || match xs[k-1]? with | none => false | some y => y.u)

def validB (xs : List Bl) (t : Int) : Bool := (List.range xs.length).all (stepOk xs) && decide (1 ≤ t) && decide (t ≤ 256) && decide (offs xs xs.length = t)

theorem offs_zero (xs : List Bl) : offs xs 0 = 0 := by simp [offs]

theorem offs_succ (xs : List Bl) (k : Nat) (x : Bl) (h : xs[k]? = some x) : offs xs (k + 1) = offs xs k + x.z := by
  unfold offs
  rw [List.take_add_one, h]
  simp

theorem valid_iff (xs : List Bl) (t : Int) : validB xs t = true ↔ (∀ k, k < xs.length → stepOk xs k = true) ∧ 1 ≤ t ∧ t ≤ 256 ∧ offs xs xs.length = t := by
  unfold validB
  simp [and_assoc]

theorem stepOk_iff (xs : List Bl) (k : Nat) (x : Bl) (h : xs[k]? = some x) :
    stepOk xs k = true ↔ x.s = offs xs k ∧ 1 ≤ x.z ∧ x.z ≤ 256 ∧ (k = 0 ∨ x.u = true ∨ ∃ y, xs[k-1]? = some y ∧ y.u = true) := by
  unfold stepOk
  rw [h]
  cases hy : xs[k-1]? <;> simp [and_assoc, or_assoc]

/-- good up to k: the first k blocks are right -/
def okTo (xs : List Bl) (k : Nat) : Prop := ∀ j, j < k → stepOk xs j = true

theorem okTo_zero (xs : List Bl) : okTo xs 0 := fun j h => absurd h (by omega)
theorem okTo_succ {xs : List Bl} {k : Nat} (h : okTo xs k) (hk : stepOk xs k = true) : okTo xs (k + 1) := fun j hj => by
  rcases Nat.lt_or_ge j k with h1 | h1
  · exact h j h1
  · obtain rfl : j = k := by omega
    exact hk

/-- the words of the first blocks grow, by at least 1 and at most 256 a block -/
theorem offs_bounds {xs : List Bl} {k : Nat} (h : okTo xs k) (hk : k ≤ xs.length) : ∀ j, j ≤ k → offs xs j + ((k - j : Nat) : Int) ≤ offs xs k ∧ offs xs k ≤ offs xs j + 256 * ((k - j : Nat) : Int) := by
  induction k with
  | zero => intro j hj; obtain rfl : j = 0 := by omega
            simp
  | succ k ih =>
    intro j hj
    have hx : xs[k]? = some (xs[k]'(by omega)) := List.getElem?_eq_getElem (by omega)
    have hs := (stepOk_iff xs k _ hx).1 (h k (by omega))
    have ho := offs_succ xs k _ hx
    rcases Nat.lt_or_ge k j with h1 | h1
    · obtain rfl : j = k + 1 := by omega
      simp
    · have := ih (fun j hj => h j (by omega)) (by omega) j h1
      have e : k + 1 - j = (k - j) + 1 := by omega
      rw [e]
      omega

theorem offs_range {xs : List Bl} {k : Nat} (h : okTo xs k) (hk : k ≤ xs.length) : (k : Int) ≤ offs xs k ∧ offs xs k ≤ 256 * (k : Int) := by
  have := offs_bounds h hk 0 (by omega)
  rw [offs_zero] at this
  simp at this
  omega

theorem invalid_of_step {xs : List Bl} {k : Nat} {t : Int} (hk : k < xs.length) (h : stepOk xs k = false) : validB xs t = false := by
  cases hv : validB xs t
  · rfl
  · have := ((valid_iff xs t).1 hv).1 k hk
    rw [h] at this
    cases this

theorem invalid_of_total {xs : List Bl} {t : Int} (h : ¬ (1 ≤ t ∧ t ≤ 256)) : validB xs t = false := by
  cases hv : validB xs t
  · rfl
  · have := (valid_iff xs t).1 hv
    exact absurd ⟨this.2.1, this.2.2.1⟩ h

theorem invalid_of_over {xs : List Bl} {k : Nat} {t : Int} (hk : k < xs.length) (x : Bl) (hx : xs[k]? = some x) (h : t - offs xs k < x.z) : validB xs t = false := by
  cases hv : validB xs t
  · rfl
  · have hh := (valid_iff xs t).1 hv
    have hb := offs_bounds (k := xs.length) hh.1 (Nat.le_refl _) (k + 1) (by omega)
    have ho := offs_succ xs k x hx
    omega

theorem valid_of_all {xs : List Bl} {t : Int} (h : okTo xs xs.length) (h1 : 1 ≤ t) (h2 : t ≤ 256) : validB xs t = (offs xs xs.length == t) := by
  rw [Bool.eq_iff_iff, valid_iff]
  simp only [beq_iff_eq]
  exact ⟨fun hh => hh.2.2.2, fun hh => ⟨h, h1, h2, hh⟩⟩

/-- what one round of the program's loop decides -/
theorem round_true {xs : List Bl} {k : Nat} {t : Int} {x y : Bl} (hx : xs[k]? = some x) (hy : 0 < k → xs[k-1]? = some y) (h2 : t ≤ 256) (h0 : 0 ≤ offs xs k)
    (h : x.s = offs xs k ∧ 1 ≤ x.z ∧ x.z ≤ t - offs xs k ∧ (k = 0 ∨ x.u = true ∨ y.u = true)) : stepOk xs k = true := by
  rw [stepOk_iff xs k x hx]
  refine ⟨h.1, h.2.1, by omega, ?_⟩
  rcases h.2.2.2 with e | e | e
  · exact .inl e
  · exact .inr (.inl e)
  · rcases Nat.eq_zero_or_pos k with e0 | e0
    · exact .inl e0
    · exact .inr (.inr ⟨y, hy e0, e⟩)

theorem round_false {xs : List Bl} {k : Nat} {t : Int} {x y : Bl} (hk : k < xs.length) (hx : xs[k]? = some x) (hy : 0 < k → xs[k-1]? = some y)
    (h : ¬ (x.s = offs xs k ∧ 1 ≤ x.z ∧ x.z ≤ t - offs xs k ∧ (k = 0 ∨ x.u = true ∨ y.u = true))) : validB xs t = false := by
  cases hv : validB xs t
  · rfl
  · exfalso
    apply h
    have hh := (valid_iff xs t).1 hv
    have hs := (stepOk_iff xs k x hx).1 (hh.1 k hk)
    refine ⟨hs.1, hs.2.1, ?_, ?_⟩
    · rcases Int.lt_or_le (t - offs xs k) x.z with hlt | hle
      · have := invalid_of_over (t := t) hk x hx hlt
        rw [hv] at this
        cases this
      · exact hle
    · rcases hs.2.2.2 with e | e | ⟨y', e1, e2⟩
      · exact .inl e
      · exact .inr (.inl e)
      · rcases Nat.eq_zero_or_pos k with e0 | e0
        · exact .inl e0
        · have := hy e0
          rw [e1] at this
          injection this with this
          subst this
          exact .inr (.inr e2)

/-- what one round of the model's loop decides -/
theorem mround_true {xs : List Bl} {k : Nat} {x y : Bl} (hx : xs[k]? = some x) (hy : 0 < k → xs[k-1]? = some y)
    (h : x.s = offs xs k ∧ 1 ≤ x.z ∧ x.z ≤ 256 ∧ (k = 0 ∨ x.u = true ∨ y.u = true)) : stepOk xs k = true := by
  rw [stepOk_iff xs k x hx]
  refine ⟨h.1, h.2.1, h.2.2.1, ?_⟩
  rcases h.2.2.2 with e | e | e
  · exact .inl e
  · exact .inr (.inl e)
  · rcases Nat.eq_zero_or_pos k with e0 | e0
    · exact .inl e0
    · exact .inr (.inr ⟨y, hy e0, e⟩)

theorem mround_false {xs : List Bl} {k : Nat} {t : Int} {x y : Bl} (hk : k < xs.length) (hx : xs[k]? = some x) (hy : 0 < k → xs[k-1]? = some y)
    (h : ¬ (x.s = offs xs k ∧ 1 ≤ x.z ∧ x.z ≤ 256 ∧ (k = 0 ∨ x.u = true ∨ y.u = true))) : validB xs t = false := by
  cases hv : validB xs t
  · rfl
  · exfalso
    apply h
    have hh := (valid_iff xs t).1 hv
    have hs := (stepOk_iff xs k x hx).1 (hh.1 k hk)
    refine ⟨hs.1, hs.2.1, hs.2.2.1, ?_⟩
    rcases hs.2.2.2 with e | e | ⟨y', e1, e2⟩
    · exact .inl e
    · exact .inr (.inl e)
    · rcases Nat.eq_zero_or_pos k with e0 | e0
      · exact .inl e0
      · have := hy e0
        rw [e1] at this
        injection this with this
        subst this
        exact .inr (.inr e2)

theorem valid_all {xs : List Bl} (t : Int) (h : okTo xs xs.length) : validB xs t = (decide (1 ≤ t) && decide (t ≤ 256) && (offs xs xs.length == t)) := by
  rw [Bool.eq_iff_iff, valid_iff]
  simp only [Bool.and_eq_true, decide_eq_true_eq, beq_iff_eq, and_assoc]
  exact ⟨fun hh => hh.2, fun hh => ⟨h, hh⟩⟩

/-- the free words of the first k blocks -/
def freeTo (xs : List Bl) (k : Nat) : Int := ((xs.take k).map (fun x => if x.u then 0 else x.z)).sum
/-- the largest free one of the first k blocks -/
def maxTo (xs : List Bl) (k : Nat) : Int := (xs.take k).foldl (fun m x => if x.u then m else max m x.z) 0

theorem freeTo_zero (xs : List Bl) : freeTo xs 0 = 0 := by simp [freeTo]
theorem maxTo_zero (xs : List Bl) : maxTo xs 0 = 0 := by simp [maxTo]
theorem freeTo_succ (xs : List Bl) (k : Nat) (x : Bl) (h : xs[k]? = some x) : freeTo xs (k + 1) = freeTo xs k + if x.u = true then 0 else x.z := by
  unfold freeTo
  rw [List.take_add_one, h]
  simp
theorem maxTo_succ (xs : List Bl) (k : Nat) (x : Bl) (h : xs[k]? = some x) : maxTo xs (k + 1) = if x.u = true then maxTo xs k else max (maxTo xs k) x.z := by
  unfold maxTo
  rw [List.take_add_one, h]
  simp

/-- what is known of each block of valid blocks -/
theorem valid_at {xs : List Bl} {t : Int} (hv : validB xs t = true) {k : Nat} {x : Bl} (hx : xs[k]? = some x) :
    x.s = offs xs k ∧ 1 ≤ x.z ∧ x.z ≤ 256 ∧ (k : Int) ≤ offs xs k ∧ offs xs k + x.z ≤ t ∧ offs xs (k + 1) = offs xs k + x.z ∧ t ≤ 256 := by
  have hh := (valid_iff xs t).1 hv
  have hk : k < xs.length := (List.getElem?_eq_some_iff.1 hx).1
  have hs := (stepOk_iff xs k x hx).1 (hh.1 k hk)
  have ho := offs_succ xs k x hx
  have hb := offs_bounds (k := xs.length) hh.1 (Nat.le_refl _) (k + 1) (by omega)
  have hr := offs_range (k := k) (fun j hj => hh.1 j (by omega)) (by omega)
  exact ⟨hs.1, hs.2.1, hs.2.2.1, hr.1, by omega, ho, hh.2.2.1⟩

theorem valid_len {xs : List Bl} {t : Int} (hv : validB xs t = true) : 1 ≤ xs.length ∧ xs.length ≤ 256 ∧ 1 ≤ t ∧ t ≤ 256 ∧ offs xs xs.length = t := by
  have hh := (valid_iff xs t).1 hv
  have hr := offs_range (k := xs.length) hh.1 (Nat.le_refl _)
  refine ⟨?_, by omega, hh.2.1, hh.2.2.1, hh.2.2.2⟩
  rcases Nat.eq_zero_or_pos xs.length with h0 | h0
  · have := hh.2.2.2
    rw [h0, offs_zero] at this
    omega
  · exact h0

theorem free_range {xs : List Bl} {t : Int} (hv : validB xs t = true) : ∀ k, k ≤ xs.length → 0 ≤ freeTo xs k ∧ freeTo xs k ≤ offs xs k ∧ 0 ≤ maxTo xs k ∧ maxTo xs k ≤ freeTo xs k ∧ offs xs k ≤ 256 := by
  intro k
  induction k with
  | zero => intro _; rw [freeTo_zero, maxTo_zero, offs_zero]; omega
  | succ k ih =>
    intro hk
    have hx : xs[k]? = some (xs[k]'(by omega)) := List.getElem?_eq_getElem (by omega)
    have hi := ih (by omega)
    have ha := valid_at hv hx
    rw [freeTo_succ xs k _ hx, maxTo_succ xs k _ hx]
    generalize xs[k] = x at *
    by_cases hu : x.u = true
    · rw [if_pos hu, if_pos hu]
      omega
    · rw [if_neg hu, if_neg hu]
      omega

/-- FreeWords and LargestFree -/
def freeW (xs : List Bl) (t : Int) : Int := if validB xs t = true then freeTo xs xs.length else -1
def largeW (xs : List Bl) (t : Int) : Int := if validB xs t = true then maxTo xs xs.length else -1

/-- how many blocks begin at or before word q -/
def cnt (xs : List Bl) (q : Int) : Nat := (xs.takeWhile (fun x => decide (x.s ≤ q))).length
/-- BlockAt -/
def atW (xs : List Bl) (t q : Int) : Int := if validB xs t = true ∧ 0 ≤ q ∧ q < t then (cnt xs q : Int) - 1 else -1

theorem cnt_eq : ∀ (xs : List Bl) (q : Int) (i : Nat), i ≤ xs.length → (∀ (k : Nat) (x : Bl), k < i → xs[k]? = some x → x.s ≤ q) → (∀ x : Bl, xs[i]? = some x → q < x.s) → cnt xs q = i
  | [], q, i, hi, _, _ => by
    simp at hi
    subst hi
    rfl
  | y :: ys, q, 0, _, _, h2 => by
    have := h2 y rfl
    simp [cnt, List.takeWhile_cons]
    omega
  | y :: ys, q, i + 1, hi, h1, h2 => by
    have h0 := h1 0 y (by omega) rfl
    have := cnt_eq ys q i (by simpa using hi) (fun k x hk hx => h1 (k + 1) x (by omega) (by simpa using hx)) (fun x hx => h2 x (by simpa using hx))
    simp [cnt, h0] at this ⊢
    exact this

theorem offs_mono {xs : List Bl} {t : Int} (hv : validB xs t = true) {i j : Nat} (hij : i ≤ j) (hj : j ≤ xs.length) : offs xs i + ((j - i : Nat) : Int) ≤ offs xs j := by
  have hh := (valid_iff xs t).1 hv
  exact (offs_bounds (k := j) (fun m hm => hh.1 m (by omega)) hj i hij).1

/-- block k holds word q -/
theorem cnt_at {xs : List Bl} {t q : Int} (hv : validB xs t = true) {k : Nat} (hk : k < xs.length) (h1 : offs xs k ≤ q) (h2 : q < offs xs (k + 1)) : cnt xs q = k + 1 := by
  refine cnt_eq xs q (k + 1) (by omega) (fun m x hm hx => ?_) (fun x hx => ?_)
  · have ha := valid_at hv hx
    have := offs_mono hv (i := m) (j := k) (by omega) (by omega)
    omega
  · have ha := valid_at hv hx
    omega
end Bks
end Go.Proofs.Ytakdjiojahlnmaa

namespace Go.Proofs.Ytakdjiojahlnmaa
open Go.RowKit

def I64 (n : Int) : Prop := -9223372036854775808 ≤ n ∧ n ≤ 9223372036854775807

/-- the slice value '.slice A n _' reads as the blocks xs, and lies below block B -/
def BS (w : World) (B : Nat) (A : Option Addr) (n : Nat) (xs : List Bl) : Prop :=
  xs.length = n ∧ (∀ (k : Nat) (x : Bl), xs[k]? = some x → I64 x.s ∧ I64 x.z) ∧
  (0 < n → ∃ g o, A = some ⟨g, o, none⟩ ∧ g < B ∧ ∀ (k : Nat) (x : Bl), xs[k]? = some x →
    w.cell? ⟨g, o + k * 3, none⟩ = some (.int .i64 x.s) ∧ w.cell? ⟨g, o + k * 3 + 1, none⟩ = some (.int .i64 x.z) ∧ w.cell? ⟨g, o + k * 3 + 2, none⟩ = some (.bool x.u))

section
variable {w w' : World} {B B' n : Nat} {A : Option Addr} {xs : List Bl}
theorem BS.keep (h : BS w B A n xs) (hk : ∀ p : Addr, p.block < B → w'.cell? p = w.cell? p) : BS w' B A n xs :=
  ⟨h.1, h.2.1, fun hn => by
    obtain ⟨g, o, e, hb, hc⟩ := h.2.2 hn
    exact ⟨g, o, e, hb, fun k x hx => by
      obtain ⟨h1, h2, h3⟩ := hc k x hx
      exact ⟨(hk _ hb).trans h1, (hk _ hb).trans h2, (hk _ hb).trans h3⟩⟩⟩
theorem BS.more (h : BS w B A n xs) (hB : B ≤ B') : BS w B' A n xs :=
  ⟨h.1, h.2.1, fun hn => by
    obtain ⟨g, o, e, hb, hc⟩ := h.2.2 hn
    exact ⟨g, o, e, by omega, hc⟩⟩
theorem BS.below (h : BS w B A n xs) (hb : Below B w w') : BS w' B A n xs := h.keep fun _ hp => hb.cell hp
theorem BS.at_ {k : Nat} (h : BS w B A n xs) (hk : k < n) : ∃ g o x, A = some ⟨g, o, none⟩ ∧ g < B ∧ xs[k]? = some x ∧ I64 x.s ∧ I64 x.z ∧
    w.cell? ⟨g, o + k * 3, none⟩ = some (.int .i64 x.s) ∧ w.cell? ⟨g, o + k * 3 + 1, none⟩ = some (.int .i64 x.z) ∧ w.cell? ⟨g, o + k * 3 + 2, none⟩ = some (.bool x.u) := by
  obtain ⟨g, o, e, hb, hc⟩ := h.2.2 (by omega)
  have hl : k < xs.length := by have := h.1; omega
  have hx := List.getElem?_eq_getElem hl
  obtain ⟨i1, i2⟩ := h.2.1 k _ hx
  obtain ⟨h1, h2, h3⟩ := hc k _ hx
  exact ⟨g, o, _, e, hb, hx, i1, i2, h1, h2, h3⟩
/-- the block before the k-th one, if there is one -/
theorem BS.prev {k : Nat} {g o : Nat} (h : BS w B (some ⟨g, o, none⟩) n xs) (hk : k < n) : ∃ y : Bl, 0 < k → xs[k-1]? = some y ∧ w.cell? ⟨g, o + (k - 1) * 3 + 2, none⟩ = some (.bool y.u) := by
  by_cases h0 : 0 < k
  · obtain ⟨g', o', y, e, _, hy, _, _, _, _, hc⟩ := h.at_ (k := k - 1) (by omega)
    injection e with e
    injection e with e1 e2
    subst e1 e2
    exact ⟨y, fun _ => ⟨hy, hc⟩⟩
  · exact ⟨⟨0, 0, true⟩, fun h => absurd h h0⟩
end

/-- block g holds just the cells cs, of element type t; none is frozen -/
def Rw (w : World) (g : Nat) (t : TypeId) (cs : Array Value) : Prop := w.heap[g]? = some (.cells cs t (0, 0))

section
variable {w w' : World} {g : Nat} {t : TypeId} {cs : Array Value}
theorem Rw.lt (h : Rw w g t cs) : g < w.heap.size := by
  unfold Rw at h
  exact (Array.getElem?_eq_some_iff.1 h).1
theorem Rw.cell (h : Rw w g t cs) (i : Nat) : w.cell? ⟨g, i, none⟩ = cs[i]? := cell_of_row w g i cs t (0, 0) h
theorem Rw.frozen (h : Rw w g t cs) (i : Nat) : w.frozen? ⟨g, i, none⟩ = false := by
  unfold Rw at h
  simp [World.frozen?, h]
theorem Rw.some_ (h : Rw w g t cs) {i : Nat} (hi : i < cs.size) : ∃ v, w.cell? ⟨g, i, none⟩ = some v := ⟨cs[i], (h.cell i).trans (Array.getElem?_eq_getElem hi)⟩
theorem Rw.new (w : World) (t : TypeId) (cs : Array Value) : Rw (w.alloc (.cells cs t)) w.heap.size t cs := by
  show (w.heap.push _)[w.heap.size]? = _
  simp
theorem Rw.keep (h : Rw w g t cs) {B : Nat} (hb : Below B w w') (hg : g < B) : Rw w' g t cs := (hb.block g hg).trans h
theorem Rw.alloc (h : Rw w g t cs) (o : Obj) : Rw (w.alloc o) g t cs := (Below.heap_alloc w o g h.lt).trans h
theorem Rw.put (h : Rw w g t cs) (i : Nat) (u : Value) : Rw (w.setCell ⟨g, i, none⟩ u) g t (cs.setIfInBounds i u) := by
  unfold Rw at h ⊢
  simp [World.setCell, Array.getElem?_modify, h]
end

/-- the cells cs begin with the blocks xs -/
def Cs (cs : Array Value) (xs : List Bl) : Prop := ∀ (k : Nat) (x : Bl), xs[k]? = some x →
  cs[k * 3]? = some (.int .i64 x.s) ∧ cs[k * 3 + 1]? = some (.int .i64 x.z) ∧ cs[k * 3 + 2]? = some (.bool x.u)

theorem Cs.take_succ {cs : Array Value} {xs : List Bl} {k : Nat} {x : Bl} (h : Cs cs (xs.take k)) (hx : xs[k]? = some x) (hsz : k * 3 + 2 < cs.size) :
    Cs (((cs.setIfInBounds (k * 3) (.int .i64 x.s)).setIfInBounds (k * 3 + 1) (.int .i64 x.z)).setIfInBounds (k * 3 + 2) (.bool x.u)) (xs.take (k + 1)) := by
  intro j y hy
  rw [List.getElem?_take] at hy
  split at hy
  · rcases Nat.lt_or_ge j k with hj | hj
    · have := h j y (by rw [List.getElem?_take, if_pos hj]; exact hy)
      simp only [Array.getElem?_setIfInBounds]
      rw [if_neg (by omega), if_neg (by omega), if_neg (by omega), if_neg (by omega), if_neg (by omega), if_neg (by omega), if_neg (by omega), if_neg (by omega), if_neg (by omega)]
      exact this
    · obtain rfl : j = k := by omega
      rw [hx] at hy
      injection hy with hy
      subst hy
      simp only [Array.getElem?_setIfInBounds, Array.size_setIfInBounds]
      refine ⟨?_, ?_, ?_⟩
      · rw [if_neg (by omega), if_neg (by omega), if_pos True.intro, if_pos (by omega)]
      · rw [if_neg (by omega), if_pos True.intro, if_pos (by omega)]
      · rw [if_pos True.intro, if_pos (by omega)]
  · cases hy

theorem BS.of_row {w : World} {g B : Nat} {t : TypeId} {cs : Array Value} {xs : List Bl} (h : Rw w g t cs) (hc : Cs cs xs) (hg : g < B) (hi : ∀ (k : Nat) (x : Bl), xs[k]? = some x → I64 x.s ∧ I64 x.z) : BS w B (some ⟨g, 0, none⟩) xs.length xs :=
  ⟨rfl, hi, fun _ => ⟨g, 0, rfl, hg, fun k x hx => by
    obtain ⟨h1, h2, h3⟩ := hc k x hx
    refine ⟨?_, ?_, ?_⟩ <;> rw [h.cell] <;> simpa using (by assumption)⟩⟩
end Go.Proofs.Ytakdjiojahlnmaa

namespace Go.Proofs.Ytakdjiojahlnmaa
open Go.RowKit

theorem ret_bool {a b : Bool} (h : a = b) : Ending.returned (.bool a) = .returned (.bool b) := by rw [h]

theorem wordsValid_any (t : Int) (w : World) : Calls Try.prog 103 #[.int .i64 t] w fun e w' => e = .returned (.bool (decide (1 ≤ t) && decide (t ≤ 256))) ∧ w = w' := by
  go_enter Try.func103, Try.ntmps103
  go_wp2
  · go_ret
    exact ⟨ret_bool (by simp [*]), rfl⟩
  · go_ret
    exact ⟨ret_bool (by simp; omega), rfl⟩

set_option maxHeartbeats 1000000 in
theorem blocksValid_any (A : Option Addr) (n c : Nat) (xs : List Bl) (t : Int) (w : World) (h : BS w w.heap.size A n xs) (hn : n ≤ 1099511627776) :
    Calls Try.prog 85 #[.slice A n c, .int .i64 t] w fun e w' => e = .returned (.bool (Bks.validB xs t)) ∧ Below w.heap.size w w' := by
  have hlen := h.1
  by_cases ht : 1 ≤ t ∧ t ≤ 256
  · obtain ⟨h1, h2⟩ := ht
    have HL := Lib.hid hlen
    clear hlen
    go_enter Try.func85, Try.ntmps85
    go_wp2_with (go_at_call 103; refine (wordsValid_any _ _).mono ?_; rintro e w' ⟨rfl, rfl⟩)
    go_loopw [5, 13] (fun a i wr => ∃ k : Nat, k ≤ n ∧ i = .int .i64 k ∧ a = .int .i64 (Bks.offs xs k) ∧ Bks.okTo xs k ∧ Bks.offs xs k ≤ t ∧ Below w.heap.size w wr) (fun _ i _ => n - (intOf i).toNat)
    case atStart => exact ⟨0, Nat.zero_le _, rfl, rfl, Bks.okTo_zero _, by rw [Bks.offs_zero]; omega, Below.refl _ _⟩
    case round =>
      obtain ⟨k, hk, rfl, rfl, hok, hle, hb⟩ := hrel
      have hr := Bks.offs_range hok (by rw [HL.out]; exact hk)
      by_cases hlt : k < n
      · obtain ⟨g, o, x, rfl, hg, hx, ⟨i1, i2⟩, ⟨i3, i4⟩, c1, c2, c3⟩ := (h.below hb).at_ hlt
        obtain ⟨y, hy⟩ := (h.below hb).prev hlt
        have hgr : g < wr.heap.size := Nat.lt_of_lt_of_le hg hb.size
        have cp : 0 < k → wr.cell? ⟨g, o + (k - 1) * 3 + 2, none⟩ = some (.bool y.u) := fun h0 => (hy h0).2
        have HF := Lib.hid (Bks.round_false (t := t) (by rw [HL.out]; exact hlt) hx (fun h0 => (hy h0).1))
        have HT := Lib.hid (fun hh => Bks.round_true (t := t) hx (fun h0 => (hy h0).1) h2 (by omega) hh)
        have HO := Lib.hid (Bks.offs_succ xs k x hx)
        clear hx hy
        go_wp2
        all_goals first
          | (go_ret; exact ⟨ret_bool (HF.out (by rintro ⟨a1, a2, a3, a4⟩; first | contradiction | omega | (rcases a4 with a4 | a4 | a4 <;> simp_all))).symm, hb.alloc hb.size _⟩)
          | (go_roundw
             case rel => exact ⟨k + 1, by omega, by go_num, by rw [HO.out], Bks.okTo_succ hok (HT.out ⟨by assumption, by omega, by omega, by first | (left; omega) | (right; left; assumption) | (right; right; simp_all)⟩), by rw [HO.out]; omega, hb.alloc hb.size _⟩
             case measure => simp [intOf]; omega)
      · have hkn : k = n := by omega
        have HK := Lib.hid hkn
        clear hkn
        go_wp2
        go_ret
        refine ⟨ret_bool ?_, hb⟩
        have e := HK.out
        have e2 := HL.out
        subst e
        rw [← e2] at hok ⊢
        exact (Bks.valid_of_all hok h1 h2).symm
  · have hf : (decide (1 ≤ t) && decide (t ≤ 256)) = false := by simpa using ht
    have Hv := Lib.hid (Bks.invalid_of_total (xs := xs) ht)
    clear ht
    go_enter Try.func85, Try.ntmps85
    go_wp2_with (go_at_call 103; refine (wordsValid_any _ _).mono ?_; rintro e w' ⟨rfl, rfl⟩)
    go_ret
    exact ⟨ret_bool Hv.out.symm, Below.refl _ _⟩

theorem l1In_any (n lo hi : Int) (w : World) : Calls Try.prog 45 #[.int .i64 n, .int .i64 lo, .int .i64 hi] w fun e w' => e = .returned (.bool (decide (lo ≤ n) && decide (n ≤ hi))) ∧ w = w' := by
  go_enter Try.func45, Try.ntmps45
  go_wp2
  · go_ret
    exact ⟨ret_bool (by simp [*]), rfl⟩
  · go_ret
    exact ⟨ret_bool (by simp; omega), rfl⟩

end Go.Proofs.Ytakdjiojahlnmaa

namespace Go.Proofs.Ytakdjiojahlnmaa
open Go.RowKit

theorem ret_int {k : IntKind} {a b : Int} (h : a = b) : Ending.returned (.int k a) = .returned (.int k b) := by rw [h]

theorem info_block : (Try.prog.info? 75).map (fun i => (i.zero, i.size, i.bytes)) = some (some (.agg #[.int .i64 0, .int .i64 0, .bool false]), 3, 24) := by kernel_rfl

/-- the blocks have been copied into a row of their own -/
def MadeBS (w : World) (xs : List Bl) (e : Ending) (w' : World) : Prop :=
  ∃ cs : Array Value, e = .returned (.slice (some ⟨w.heap.size, 0, none⟩) xs.length xs.length) ∧ Rw w' w.heap.size 75 cs ∧ Cs cs xs ∧ cs.size = xs.length * 3 ∧ Below w.heap.size w w'

def eqB (x y : Bl) : Bool := decide (x = y)

theorem eqB_eq (x y : Bl) : eqB x y = (x.s == y.s && x.z == y.z && x.u == y.u) := by
  obtain ⟨a, b, c⟩ := x
  obtain ⟨a', b', c'⟩ := y
  rw [Bool.eq_iff_iff]
  simp [eqB, and_assoc]

theorem take_eq_succ {xs ys : List Bl} {k : Nat} {x y : Bl} (h : xs.take k = ys.take k) (hx : xs[k]? = some x) (hy : ys[k]? = some y) (he : eqB x y = true) : xs.take (k + 1) = ys.take (k + 1) := by
  rw [List.take_add_one, List.take_add_one, h, hx, hy]
  have : x = y := by simpa [eqB] using he
  rw [this]
theorem ne_of_at {xs ys : List Bl} {k : Nat} {x y : Bl} (hx : xs[k]? = some x) (hy : ys[k]? = some y) (he : eqB x y = false) : decide (xs = ys) = false := by
  have hne : x ≠ y := by simpa [eqB] using he
  simp
  rintro rfl
  rw [hx] at hy
  injection hy with hy
  exact hne hy

end Go.Proofs.Ytakdjiojahlnmaa

namespace Go.Proofs.Ytakdjiojahlnmaa
open Go.RowKit

theorem MadeBS.reads {w w' : World} {xs : List Bl} {e : Ending} (h : MadeBS w xs e w') (hi : ∀ (k : Nat) (x : Bl), xs[k]? = some x → I64 x.s ∧ I64 x.z) :
    e = .returned (.slice (some ⟨w.heap.size, 0, none⟩) xs.length xs.length) ∧ BS w' w'.heap.size (some ⟨w.heap.size, 0, none⟩) xs.length xs ∧ Below w.heap.size w w' := by
  obtain ⟨cs, he, hr, hc, hs, hb⟩ := h
  exact ⟨he, BS.of_row hr hc hr.lt hi, hb⟩

theorem BS.up {w w' : World} {n : Nat} {A : Option Addr} {xs : List Bl} (h : BS w w.heap.size A n xs) (hb : Below w.heap.size w w') : BS w' w'.heap.size A n xs := (h.below hb).more hb.size

end Go.Proofs.Ytakdjiojahlnmaa

namespace Go.Proofs.Ytakdjiojahlnmaa
open Go.RowKit

set_option maxHeartbeats 1000000 in
theorem freeWords_any (A : Option Addr) (n c : Nat) (xs : List Bl) (t : Int) (w : World) (h : BS w w.heap.size A n xs) (hn : n ≤ 1099511627776) :
    Calls Try.prog 47 #[.slice A n c, .int .i64 t] w fun e w' => e = .returned (.int .i64 (Bks.freeW xs t)) ∧ Below w.heap.size w w' := by
  cases hv : Bks.validB xs t
  · have HR := Lib.hid (show Bks.freeW xs t = -1 by simp [Bks.freeW, hv])
    have HV := Lib.hid hv
    clear hv
    go_enter Try.func47, Try.ntmps47
    go_wp2_with fail
    refine (blocksValid_any _ _ _ xs _ _ h hn).mono ?_
    rw [HV.out]
    rintro e w1 ⟨rfl, b1⟩
    go_wp2_with fail
    go_ret
    exact ⟨by rw [HR.out]; rfl, b1⟩
  · have HR := Lib.hid (show Bks.freeW xs t = Bks.freeTo xs xs.length by simp [Bks.freeW, hv])
    have HV := Lib.hid hv
    have hlen := h.1
    clear hv
    subst hlen
    go_enter Try.func47, Try.ntmps47
    go_wp2_with fail
    refine (blocksValid_any _ _ _ xs _ _ h hn).mono ?_
    rw [HV.out]
    rintro e w1 ⟨rfl, b1⟩
    go_wp2_with fail
    go_loopw [5, 14] (fun a i wr => ∃ k : Nat, k ≤ xs.length ∧ i = .int .i64 k ∧ a = .int .i64 (Bks.freeTo xs k) ∧ Below w.heap.size w wr) (fun _ i _ => xs.length - (intOf i).toNat)
    case atStart => exact ⟨0, Nat.zero_le _, rfl, rfl, b1⟩
    case round =>
      obtain ⟨k, hk, rfl, rfl, hb⟩ := hrel
      obtain ⟨f0, f1, f3, f4, f2⟩ := Bks.free_range HV.out k hk
      by_cases hlt : k < xs.length
      · obtain ⟨g, o, x, rfl, hg, hx, ⟨i1, i2⟩, ⟨i3, i4⟩, c1, c2, c3⟩ := (h.below hb).at_ hlt
        obtain ⟨_, z1, z2, _⟩ := Bks.valid_at HV.out hx
        have HO := Lib.hid (Bks.freeTo_succ xs k x hx)
        clear hx
        cases hu : x.u
        all_goals
          rw [hu] at c3
          have HU := Lib.hid hu
          clear hu
          go_wp2
          go_roundw
          case rel => exact ⟨k + 1, by omega, by go_num, by rw [HO.out, HU.out]; simp <;> (split <;> omega), hb.alloc hb.size _⟩
          case measure => simp [intOf]; omega
      · have hkn : k = xs.length := by omega
        have HK := Lib.hid hkn
        clear hkn
        go_wp2
        go_ret
        exact ⟨by rw [HR.out, ← HK.out]; rfl, hb⟩

end Go.Proofs.Ytakdjiojahlnmaa

namespace Go.Proofs.Ytakdjiojahlnmaa
open Go.RowKit

theorem below_drewN {B : Nat} {a w : World} (h : Below B a w) (n : Nat) : Below B a (w.drewN n) := ⟨h.os, h.tape, h.output, h.size, h.block⟩

theorem atW_not {xs : List Bl} {t v : Int} (h : ¬ (Bks.validB xs t = true ∧ 0 ≤ v ∧ v < t)) : Bks.atW xs t v = -1 := by rw [Bks.atW, if_neg h]
theorem atW_yes {xs : List Bl} {t v : Int} (h : Bks.validB xs t = true ∧ 0 ≤ v ∧ v < t) : Bks.atW xs t v = (Bks.cnt xs v : Int) - 1 := by rw [Bks.atW, if_pos h]

theorem cnt_le (xs : List Bl) (v : Int) : Bks.cnt xs v ≤ xs.length := (List.takeWhile_prefix _).length_le

theorem l1In_quiet (n lo hi : Int) (w : World) (k : Nat) : Calls Try.prog 45 #[.int .i64 n, .int .i64 lo, .int .i64 hi] (w.drewN k) fun e w' => e = .returned (.bool (decide (lo ≤ n) && decide (n ≤ hi))) ∧ ∃ m, w' = w.drewN m :=
  (l1In_any n lo hi _).mono fun _ _ ⟨he, hw⟩ => ⟨he, k, hw.symm⟩

end Go.Proofs.Ytakdjiojahlnmaa

namespace Go.Proofs.Ytakdjiojahlnmaa
open Go.RowKit

/-- the cells of blocks -/
def flat : List Bl → List Value
  | [] => []
  | x :: xs => .int .i64 x.s :: .int .i64 x.z :: .bool x.u :: flat xs

theorem flat_length : ∀ xs : List Bl, (flat xs).length = xs.length * 3
  | [] => rfl
  | x :: xs => by simp [flat, flat_length xs]; omega

theorem flat_at : ∀ (xs : List Bl) (k : Nat) (x : Bl), xs[k]? = some x → (flat xs)[k * 3]? = some (.int .i64 x.s) ∧ (flat xs)[k * 3 + 1]? = some (.int .i64 x.z) ∧ (flat xs)[k * 3 + 2]? = some (.bool x.u)
  | [], k, x, h => by simp at h
  | y :: ys, 0, x, h => by
    simp at h
    subst h
    simp [flat]
  | y :: ys, k + 1, x, h => by
    have := flat_at ys k x (by simpa using h)
    have e : (k + 1) * 3 = k * 3 + 3 := by omega
    rw [e]
    simpa [flat] using this

theorem flat_set : ∀ (xs : List Bl) (k : Nat) (x : Bl), k < xs.length → (((flat xs).set (k * 3) (.int .i64 x.s)).set (k * 3 + 1) (.int .i64 x.z)).set (k * 3 + 2) (.bool x.u) = flat (xs.set k x)
  | [], k, x, h => by simp at h
  | y :: ys, 0, x, h => by simp [flat]
  | y :: ys, k + 1, x, h => by
    have := flat_set ys k x (by simpa using h)
    have e : (k + 1) * 3 = k * 3 + 3 := by omega
    rw [e]
    simpa [flat] using this

theorem flat_inj : ∀ (xs ys : List Bl), flat xs = flat ys → xs = ys
  | [], [], _ => rfl
  | [], _ :: _, h => by simp [flat] at h
  | _ :: _, [], h => by simp [flat] at h
  | x :: xs, y :: ys, h => by
    obtain ⟨a, b, c⟩ := x
    obtain ⟨a', b', c'⟩ := y
    simp [flat] at h
    obtain ⟨rfl, rfl, rfl, h⟩ := h
    rw [flat_inj xs ys h]

theorem flat_append (xs ys : List Bl) : flat (xs ++ ys) = flat xs ++ flat ys := by
  induction xs with
  | nil => rfl
  | cons x xs ih => simp [flat, ih]

theorem flat_oneCell : ∀ (xs : List Bl), ∀ u ∈ flat xs, u.oneCell' = true
  | [], u, h => by simp [flat] at h
  | x :: xs, u, h => by
    simp [flat] at h
    rcases h with rfl | rfl | rfl | h
    · rfl
    · rfl
    · rfl
    · exact flat_oneCell xs u h

/-- the value v owns the blocks xs, in a row of blocks from 'base' on -/
def OwnB (w : World) (base : Nat) (v : Value) (xs : List Bl) : Prop := w.ownsRow base 75 3 v xs.length (flat xs)

def AllI (xs : List Bl) : Prop := ∀ (k : Nat) (x : Bl), xs[k]? = some x → I64 x.s ∧ I64 x.z

theorem OwnB.form {w : World} {base : Nat} {v : Value} {xs : List Bl} (h : OwnB w base v xs) : ∃ A c, v = .slice A xs.length c ∧ (0 < xs.length → ∃ g, A = some ⟨g, 0, none⟩ ∧ base ≤ g ∧ g < w.heap.size) := by
  rcases h.2 with ⟨rfl, h0⟩ | ⟨g, cap, cur, rfl, hb, hh, _⟩
  · exact ⟨none, 0, by rw [h0], fun h => by omega⟩
  · exact ⟨some ⟨g, 0, none⟩, cap, rfl, fun _ => ⟨g, rfl, hb, (Array.getElem?_eq_some_iff.1 hh).1⟩⟩

theorem OwnB.reads {w : World} {base n c : Nat} {A : Option Addr} {xs : List Bl} (h : OwnB w base (.slice A n c) xs) (hi : AllI xs) : BS w w.heap.size A n xs := by
  rcases h.2 with ⟨e, h0⟩ | ⟨g, cap, cur, e, hb, hh, _⟩
  · injection e with e1 e2 e3
    subst e2
    have : xs = [] := List.eq_nil_of_length_eq_zero h0
    subst this
    exact ⟨rfl, hi, fun h => by omega⟩
  · injection e with e1 e2 e3
    subst e1 e2 e3
    refine ⟨rfl, hi, fun hn => ⟨g, 0, rfl, (Array.getElem?_eq_some_iff.1 hh).1, fun k x hx => ?_⟩⟩
    have hk : k < xs.length := (List.getElem?_eq_some_iff.1 hx).1
    obtain ⟨f1, f2, f3⟩ := flat_at xs k x hx
    have c1 := World.ownsRow.cellAt h (k * 3) (by omega)
    have c2 := World.ownsRow.cellAt h (k * 3 + 1) (by omega)
    have c3 := World.ownsRow.cellAt h (k * 3 + 2) (by omega)
    simp only [Nat.zero_add]
    exact ⟨c1.trans f1, c2.trans f2, c3.trans f3⟩

theorem OwnB.below {w w' : World} {base B : Nat} {v : Value} {xs : List Bl} (h : OwnB w base v xs) (hb : Below B w w') (hB : w.heap.size ≤ B) : OwnB w' base v xs := by
  refine ⟨h.1, ?_⟩
  rcases h.2 with h0 | ⟨g, cap, cur, e, hb', hh, hr⟩
  · exact .inl h0
  · exact .inr ⟨g, cap, cur, e, hb', (hb.block g (Nat.lt_of_lt_of_le (Array.getElem?_eq_some_iff.1 hh).1 hB)).trans hh, hr⟩

theorem OwnB.base {w : World} {base base' : Nat} {v : Value} {xs : List Bl} (h : OwnB w base v xs) (hb : base' ≤ base) : OwnB w base' v xs := by
  refine ⟨h.1, ?_⟩
  rcases h.2 with h0 | ⟨g, cap, cur, e, hb', hh, hr⟩
  · exact .inl h0
  · exact .inr ⟨g, cap, cur, e, by omega, hh, hr⟩

theorem OwnB.far {w w' : World} {base : Nat} {v : Value} {xs : List Bl} {row : Option Nat} (h : OwnB w base v xs) (hg : w.grownBy w' row) (hne : v.ownBlock = none ∨ v.ownBlock ≠ row) : OwnB w' base v xs := World.ownsRow.kept h hg hne

/-- two rows, the one made before the other, lie apart -/
theorem sep_of {w1 w2 : World} {b1 b2 : Nat} {v0 v1 : Value} {xs ys : List Bl} (h0 : OwnB w1 b1 v0 xs) (h1 : OwnB w2 b2 v1 ys) (hb : w1.heap.size ≤ b2) : v0.ownBlock = none ∨ v0.ownBlock ≠ v1.ownBlock := by
  cases e0 : v0.ownBlock with
  | none => exact .inl rfl
  | some k =>
    right
    intro e
    have a := (World.ownsRow.lt h0 k e0).2
    have b := (World.ownsRow.lt h1 k e.symm).1
    omega

/-- the k-th mark and all of them -/
def markB (k : Int) (i : Nat) : Bl := ⟨k + 3 * i, k + 3 * i + 1, (k + 3 * i + 1 + 1) % 3 == 0⟩
def marks (k : Int) (n : Nat) : List Bl := (List.range n).map (markB k)

theorem marks_at (k : Int) (n i : Nat) (h : i < n) : (marks k n)[i]? = some (markB k i) := by simp [marks, h]
theorem marks_len (k : Int) (n : Nat) : (marks k n).length = n := by simp [marks]

theorem set_marks (k : Int) (xs : List Bl) (i : Nat) (h : i < xs.length) : (marks k i ++ xs.drop i).set i (markB k i) = marks k (i + 1) ++ xs.drop (i + 1) := by
  have e1 : xs.drop i = xs[i] :: xs.drop (i + 1) := List.drop_eq_getElem_cons h
  rw [e1, List.set_append_right _ _ (by simp [marks])]
  have e2 : i - (marks k i).length = 0 := by simp [marks]
  rw [e2, List.set_cons_zero]
  simp [marks, List.range_succ]

theorem only_put {a w : World} {g : Nat} (h : a.grownBy w (some g)) (i : Nat) (u : Value) : a.grownBy (w.setCell ⟨g, i, none⟩ u) (some g) :=
  ⟨h.os, h.tape, h.output, by simpa [World.setCell] using h.size, fun j hj hne => (Below.heap_setCell w _ u j (by rintro rfl; exact hne rfl)).trans (h.block j hj hne)⟩

theorem int_eq {a b : Int} (h : a = b) : Value.int .i64 a = .int .i64 b := by rw [h]

theorem own_marked {wr : World} {base g c i : Nat} {k : Int} {xs : List Bl} (hl : (marks k i ++ xs.drop i).length = xs.length)
    (ho : wr.ownsRow base 75 3 (.slice (some ⟨g, 0, none⟩) xs.length c) xs.length (flat (marks k i ++ xs.drop i))) (hi : i < xs.length) :
    OwnB (((wr.setCell ⟨g, i * 3, none⟩ (.int .i64 (k + 3 * i))).setCell ⟨g, i * 3 + 1, none⟩ (.int .i64 (k + 3 * i + 1))).setCell ⟨g, i * 3 + 2, none⟩ (.bool ((k + 3 * i + 1 + 1) % 3 == 0))) base
      (.slice (some ⟨g, 0, none⟩) xs.length c) (marks k (i + 1) ++ xs.drop (i + 1)) := by
  have q := (((ho.stored (i * 3) (.int .i64 (k + 3 * i))).1.stored (i * 3 + 1) (.int .i64 (k + 3 * i + 1))).1.stored (i * 3 + 2) (.bool ((k + 3 * i + 1 + 1) % 3 == 0))).1
  have e := flat_set (marks k i ++ xs.drop i) i (markB k i) (by omega)
  rw [set_marks k xs i hi] at e
  have e2 : (marks k (i + 1) ++ xs.drop (i + 1)).length = xs.length := by simp [marks]; omega
  unfold OwnB
  rw [e2, ← e]
  exact q

theorem marks_all (k : Int) (n : Nat) (hk : 0 ≤ k) (hk2 : k ≤ 1099511627776) (hn : n ≤ 1099511627776) : AllI (marks k n) := by
  intro i x hx
  have hi : i < n := by
    have := (List.getElem?_eq_some_iff.1 hx).1
    simpa [marks] using this
  rw [marks_at k n i hi] at hx
  injection hx with hx
  subst hx
  unfold I64 markB
  constructor <;> constructor <;> simp <;> omega
end Go.Proofs.Ytakdjiojahlnmaa

namespace Go.Proofs.Ytakdjiojahlnmaa
open Go.RowKit

def newB (t : Int) : List Bl := if 1 ≤ t ∧ t ≤ 256 then [⟨0, t, false⟩] else []

/-- the call has made a slice of its own that holds the blocks xs -/
def GaveB (w : World) (xs : List Bl) (e : Ending) (w' : World) : Prop := ∃ v, e = .returned v ∧ OwnB w' w.heap.size v xs ∧ Below w.heap.size w w'

theorem own_one (w : World) (a b : Int) (u : Bool) (base : Nat) (hb : base ≤ w.heap.size) : OwnB (w.alloc (.cells #[.int .i64 a, .int .i64 b, .bool u] 75)) base (.slice (some ⟨w.heap.size, 0, none⟩) 1 1) [⟨a, b, u⟩] := by
  have := World.ownsRow_lit (base := base) (e := 75) (size := 3) w #[.int .i64 a, .int .i64 b, .bool u] 1 hb (by unfold maxLen; omega) rfl
  exact this

theorem newB_all (t : Int) : AllI (newB t) := by
  intro k x hx
  unfold newB at hx
  split at hx
  · match k, hx with
    | 0, hx =>
      simp at hx
      subst hx
      unfold I64
      constructor <;> constructor <;> simp <;> omega
    | k + 1, hx => simp at hx
  · simp at hx
theorem newB_len (t : Int) : (newB t).length ≤ 1 := by
  unfold newB
  split <;> simp
end Go.Proofs.Ytakdjiojahlnmaa

namespace Go.Proofs.Ytakdjiojahlnmaa
open Go.RowKit

theorem BS.cells {w : World} {B g o n : Nat} {ys : List Bl} (h : BS w B (some ⟨g, o, none⟩) n ys) (j : Nat) (u : Value) (hj : (flat ys)[j]? = some u) : w.cell? ⟨g, o + j, none⟩ = some u := by
  have hl : j < (flat ys).length := (List.getElem?_eq_some_iff.1 hj).1
  rw [flat_length] at hl
  have hk : j / 3 < ys.length := by omega
  have hx : ys[j / 3]? = some ys[j / 3] := List.getElem?_eq_getElem hk
  obtain ⟨f1, f2, f3⟩ := flat_at ys (j / 3) _ hx
  have hn := h.1
  obtain ⟨g', o', e, _, hc⟩ := h.2.2 (by omega)
  injection e with e
  injection e with e1 e2
  subst e1 e2
  obtain ⟨c1, c2, c3⟩ := hc (j / 3) _ hx
  have hm : j % 3 = 0 ∨ j % 3 = 1 ∨ j % 3 = 2 := by omega
  rcases hm with hm | hm | hm
  · have e : j = j / 3 * 3 := by omega
    rw [e] at hj ⊢
    rw [f1] at hj
    replace hj := Option.some.inj hj
    rw [← hj]
    exact c1
  · have e : j = j / 3 * 3 + 1 := by omega
    rw [e] at hj ⊢
    rw [f2] at hj
    replace hj := Option.some.inj hj
    rw [← hj]
    exact c2
  · have e : j = j / 3 * 3 + 2 := by omega
    rw [e] at hj ⊢
    rw [f3] at hj
    replace hj := Option.some.inj hj
    rw [← hj]
    exact c3

theorem add_lit (g o j : Nat) : (⟨g, o, none⟩ : Addr).add j = ⟨g, o + j, none⟩ := by
  unfold Addr.add
  split
  · next h => subst h; rfl
  · rfl

theorem run_appendB (w : World) (base : Nat) (v : Value) (xs : List Bl) (hown : OwnB w base v xs) (A : Option Addr) (m c B : Nat) (ys : List Bl) (hr : BS w B A m ys) (hn : xs.length + m ≤ 1099511627776) (hbase : base ≤ w.heap.size) (ty : TypeId) :
    ∃ v' w', (Builtin.append_ #[76, 76] ty #[v, .slice A m c]).run Try.prog w = .ok v' w' ∧ OwnB w' base v' (xs ++ ys) ∧ w.grownBy w' v.ownBlock ∧ (v'.ownBlock = v.ownBlock ∨ v'.ownBlock = some w.heap.size) := by
  obtain ⟨i0, hi0, hz0, hz1, hz2⟩ := info_parts info_block
  have hm := hr.1
  rcases A with _ | ad
  · have h0 : m = 0 := by
      rcases Nat.eq_zero_or_pos m with h0 | h0
      · exact h0
      · obtain ⟨g, o, e, _⟩ := hr.2.2 h0
        cases e
    subst h0
    have : ys = [] := List.eq_nil_of_length_eq_zero hm
    subst this
    refine ⟨v, w, ?_, by simpa using hown, World.grownBy.refl _ _, .inl rfl⟩
    rcases hown.2 with ⟨rfl, _⟩ | ⟨g, cap, cur, rfl, _, _, hnc, _⟩
    · simp [Builtin.append_, run_underlying Try.underlying76, sizeOf, typeInfo, hi0, Builtin.lenOf, Builtin.firstCells]
    · simp [Builtin.append_, run_underlying Try.underlying76, sizeOf, typeInfo, hi0, Builtin.lenOf, Builtin.firstCells, hnc, storeCells]
  · have hcells : ∀ j u, (flat ys)[j]? = some u → w.cell? (ad.add j) = some u := by
      intro j u hj
      rcases Nat.eq_zero_or_pos m with h0 | h0
      · subst h0
        have : ys = [] := List.eq_nil_of_length_eq_zero hm
        subst this
        simp [flat] at hj
      · obtain ⟨g, o, e, _⟩ := hr.2.2 h0
        replace e := Option.some.inj e
        subst e
        rw [add_lit]
        exact hr.cells j u hj
    obtain ⟨v', w', hrun, h2, h3, _, h5⟩ := run_append_own_at (P := Try.prog) w base 76 ty 75 i0 _ 3 24 Try.underlying76 hi0 hz0 hz1 hz2 rfl (by omega) v xs.length (flat xs) hown ad m c (flat ys)
      (by rw [flat_length, hm]) hcells (flat_oneCell ys) (by unfold maxLen; omega) (by omega) hbase
    refine ⟨v', w', hrun, ?_, h3, h5⟩
    unfold OwnB
    rw [flat_append, List.length_append, hm]
    exact h2

theorem wpList_appendB {w : World} {ops : Array Oper} {rest : List Oper} {o : Oper} {a : Act} {Q : Exit → Act → World → Prop} (hgd : o.guard = none) (s x : Operand)
    (ho : o.op = .call { callee := .builtin .append, args := #[s, x], argTypes := #[76, 76] })
    (base : Nat) (v : Value) (xs : List Bl) (hs : a.eval s = v) (hown : OwnB w base v xs) (A : Option Addr) (m c B : Nat) (ys : List Bl) (hx : a.eval x = .slice A m c) (hr : BS w B A m ys)
    (hn : xs.length + m ≤ 1099511627776) (hbase : base ≤ w.heap.size)
    (h : ∀ v' w', OwnB w' base v' (xs ++ ys) → w.grownBy w' v.ownBlock → (v'.ownBlock = v.ownBlock ∨ v'.ownBlock = some w.heap.size) → wpList Try.prog ops Q rest (a.put o.dst v') w') : wpList Try.prog ops Q (o :: rest) a w :=
  wpList_plain hgd fun _ hK => by
    obtain ⟨v', w', hrun, h2, h3, h4⟩ := run_appendB w base v xs hown A m c B ys hr hn hbase o.type
    unfold Oper.wp execOp
    simp only [ho, resolve, invoke, builtin, Sem.run_bind, Sem.run_pure, Result.andThen_ok, List.map_toArray, List.map_cons, List.map_nil, hs, hx, hrun]
    exact hK _ _ (h v' w' h2 h3 h4)

theorem AllI.append {xs ys : List Bl} (h : AllI xs) (h' : AllI ys) : AllI (xs ++ ys) := by
  intro k x hx
  rcases Nat.lt_or_ge k xs.length with hk | hk
  · rw [List.getElem?_append_left hk] at hx
    exact h k x hx
  · rw [List.getElem?_append_right hk] at hx
    exact h' _ x hx

/-- the first k blocks -/
theorem BS.take {w : World} {B n k : Nat} {A : Option Addr} {xs : List Bl} (h : BS w B A n xs) (hk : k ≤ n) : BS w B A k (xs.take k) := by
  have hl := h.1
  refine ⟨by rw [List.length_take]; omega, fun j x hx => ?_, fun h0 => ?_⟩
  · rw [List.getElem?_take] at hx
    split at hx
    · exact h.2.1 j x hx
    · cases hx
  · obtain ⟨g, o, e, hb, hc⟩ := h.2.2 (by omega)
    refine ⟨g, o, e, hb, fun j x hx => ?_⟩
    rw [List.getElem?_take] at hx
    split at hx
    · exact hc j x hx
    · cases hx

/-- the blocks from the k-th on -/
theorem BS.drop {w : World} {B n k g o : Nat} {xs : List Bl} (h : BS w B (some ⟨g, o, none⟩) n xs) (hk : k ≤ n) : BS w B (some ⟨g, o + k * 3, none⟩) (n - k) (xs.drop k) := by
  have hl := h.1
  refine ⟨by rw [List.length_drop]; omega, fun j x hx => ?_, fun h0 => ?_⟩
  · rw [List.getElem?_drop] at hx
    exact h.2.1 _ x hx
  · obtain ⟨g', o', e, hb, hc⟩ := h.2.2 (by omega)
    injection e with e
    injection e with e1 e2
    subst e1 e2
    refine ⟨g, o + k * 3, rfl, hb, fun j x hx => ?_⟩
    rw [List.getElem?_drop] at hx
    have := hc (k + j) x hx
    rw [show o + k * 3 + j * 3 = o + (k + j) * 3 by omega]
    exact this

/-- a slice without blocks reads as none, wherever it lies -/
theorem BS.none_ (w : World) (B : Nat) (A : Option Addr) : BS w B A 0 [] := ⟨rfl, fun k x hx => by simp at hx, fun h => absurd h (by omega)⟩

theorem OwnB.cap {w : World} {base n c : Nat} {A : Option Addr} {xs : List Bl} (h : OwnB w base (.slice A n c) xs) : n = xs.length ∧ n ≤ c := by
  rcases h.2 with ⟨e, h0⟩ | ⟨g, cap, cur, e, _, _, hc, _⟩
  · injection e with e1 e2 e3
    omega
  · injection e with e1 e2 e3
    omega
end Go.Proofs.Ytakdjiojahlnmaa

namespace Go.Proofs.Ytakdjiojahlnmaa
open Go.RowKit

/-- a slice of bytes that lies below block B -/
def Bytes (w : World) (B : Nat) (A : Option Addr) (m : Nat) : Prop :=
  0 < m → ∃ b o, A = some ⟨b, o, none⟩ ∧ b < B ∧ ∀ i, i < m → ∃ v : Int, 0 ≤ v ∧ v ≤ 255 ∧ w.cell? ⟨b, o + i, none⟩ = some (.int .u8 v)

theorem Bytes.keep {w w' : World} {B m : Nat} {A : Option Addr} (h : Bytes w B A m) (hk : ∀ p : Addr, p.block < B → w'.cell? p = w.cell? p) : Bytes w' B A m := fun hm => by
  obtain ⟨b, o, e, hb, hc⟩ := h hm
  refine ⟨b, o, e, hb, fun i hi => ?_⟩
  obtain ⟨v, h0, h1, h2⟩ := hc i hi
  exact ⟨v, h0, h1, (hk _ hb).trans h2⟩

/-- block g holds a reader that has read at most N times -/
def Rd (w : World) (g N : Nat) : Prop := ∃ (A : Option Addr) (m c p : Nat), Rw w g 108 #[.slice A m c, .int .i64 p] ∧ m ≤ 2000 ∧ p ≤ N ∧ Bytes w g A m

theorem Rd.lt {w : World} {g N : Nat} (h : Rd w g N) : g < w.heap.size := by
  obtain ⟨_, _, _, _, h, _⟩ := h
  exact h.lt
theorem Rd.more {w : World} {g N N' : Nat} (h : Rd w g N) (hN : N ≤ N') : Rd w g N' := by
  obtain ⟨A, m, c, p, h, h1, h2, h3⟩ := h
  exact ⟨A, m, c, p, h, h1, by omega, h3⟩
theorem Rd.below {w w' : World} {g N B : Nat} (h : Rd w g N) (hb : Below B w w') (hB : g < B) : Rd w' g N := by
  obtain ⟨A, m, c, p, h, h1, h2, h3⟩ := h
  exact ⟨A, m, c, p, h.keep hb hB, h1, h2, h3.keep fun q hq => hb.cell (by omega)⟩

/-- a number below n has been read; nothing but the reader has changed -/
def Picked (w : World) (g : Nat) (n : Int) (N : Nat) (e : Ending) (w' : World) : Prop :=
  ∃ r : Int, e = .returned (.int .i64 r) ∧ 0 ≤ r ∧ (r < n ∨ (n < 1 ∧ r = 0)) ∧ Rd w' g (N + 1) ∧ w.grownBy w' (some g)

/-- a reader whose bytes are told by F -/
def RdX (w : World) (g : Nat) (A : Option Addr) (m c p : Nat) (F : Nat → Int) : Prop :=
  Rw w g 108 #[.slice A m c, .int .i64 p] ∧ m ≤ 2000 ∧ (0 < m → ∃ b o, A = some ⟨b, o, none⟩ ∧ b < g ∧ ∀ i, i < m → 0 ≤ F i ∧ F i ≤ 255 ∧ w.cell? ⟨b, o + i, none⟩ = some (.int .u8 (F i)))

theorem Rd.told {w : World} {g N : Nat} (h : Rd w g N) : ∃ A m c p F, RdX w g A m c p F ∧ p ≤ N := by
  obtain ⟨A, m, c, p, hr, hm, hp, hb⟩ := h
  rcases Nat.eq_zero_or_pos m with h0 | h0
  · exact ⟨A, m, c, p, fun _ => 0, ⟨hr, hm, fun h => by omega⟩, hp⟩
  · obtain ⟨b, o, e, hbg, hc⟩ := hb h0
    obtain ⟨F, hF⟩ := Deep.choose_lt hc
    exact ⟨A, m, c, p, F, ⟨hr, hm, fun _ => ⟨b, o, e, hbg, hF⟩⟩, hp⟩

theorem RdX.rd {w : World} {g m c p N : Nat} {A : Option Addr} {F : Nat → Int} (h : RdX w g A m c p F) (hp : p ≤ N) : Rd w g N := by
  refine ⟨A, m, c, p, h.1, h.2.1, hp, fun h0 => ?_⟩
  obtain ⟨b, o, e, hb, hc⟩ := h.2.2 h0
  exact ⟨b, o, e, hb, fun i hi => ⟨F i, hc i hi⟩⟩

theorem RdX.below {w w' : World} {g m c p B : Nat} {A : Option Addr} {F : Nat → Int} (h : RdX w g A m c p F) (hb : Below B w w') (hB : g < B) : RdX w' g A m c p F := by
  refine ⟨h.1.keep hb hB, h.2.1, fun h0 => ?_⟩
  obtain ⟨b, o, e, hbg, hc⟩ := h.2.2 h0
  refine ⟨b, o, e, hbg, fun i hi => ?_⟩
  obtain ⟨h1, h2, h3⟩ := hc i hi
  exact ⟨h1, h2, (hb.cell (p := ⟨b, o + i, none⟩) (by show b < B; omega)).trans h3⟩

/-- what pick returns -/
def mixV (F : Nat → Int) (m p : Nat) : Int := F (p % m) * 131 + F ((p * 7 + 3) % m) * 1117 + p * 29 + (p / m : Nat) * 53
def pickV (F : Nat → Int) (m p : Nat) (n : Int) : Int :=
  if n < 1 ∨ m = 0 then 0 else if p < m then F p % n else (bits .xor .i64 (mixV F m p) (mixV F m p / 64)).tmod n

def PickedX (w : World) (g : Nat) (A : Option Addr) (m c p : Nat) (F : Nat → Int) (n : Int) (e : Ending) (w' : World) : Prop :=
  e = .returned (.int .i64 (pickV F m p n)) ∧ RdX w' g A m c (p + 1) F ∧ w.grownBy w' (some g)

theorem pickedX_of {w w' : World} {g m c p : Nat} {n : Int} {A : Option Addr} {F : Nat → Int} {r : Int} {k : Nat} (h : RdX w g A m c p F)
    (hr : r = pickV F m p n) (hw : w' = (w.setCell ⟨g, 1, none⟩ (.int .i64 ((p + 1 : Nat) : Int))).drewN k) : PickedX w g A m c p F n (.returned (.int .i64 r)) w' := by
  subst hw
  have hrow : Rw (w.setCell ⟨g, 1, none⟩ (.int .i64 ((p + 1 : Nat) : Int))) g 108 #[.slice A m c, .int .i64 ((p + 1 : Nat) : Int)] := h.1.put 1 _
  have hg : w.grownBy (w.setCell ⟨g, 1, none⟩ (.int .i64 ((p + 1 : Nat) : Int))) (some g) := only_put (World.grownBy.refl _ _) 1 _
  refine ⟨by rw [hr], ⟨hrow, h.2.1, fun h0 => ?_⟩, ⟨hg.os, hg.tape, hg.output, hg.size, hg.block⟩⟩
  obtain ⟨b, o, e, hbg, hc⟩ := h.2.2 h0
  refine ⟨b, o, e, hbg, fun i hi => ?_⟩
  obtain ⟨h1, h2, h3⟩ := hc i hi
  exact ⟨h1, h2, (World.cell?_setCell_other w ⟨g, 1, none⟩ ⟨b, o + i, none⟩ _ (fun e => by injection e with e1; omega)).trans h3⟩

theorem xor_nonneg (x y : Int) (hx : 0 ≤ x) (hx' : x < 9223372036854775808) (hy : 0 ≤ y) (hy' : y < 9223372036854775808) : 0 ≤ bits .xor .i64 x y := by
  obtain ⟨a, rfl⟩ := Int.eq_ofNat_of_zero_le hx
  obtain ⟨b, rfl⟩ := Int.eq_ofNat_of_zero_le hy
  have ea : (BitVec.ofInt 64 (a : Int)).toNat = a := by rw [BitVec.ofInt_natCast, BitVec.toNat_ofNat]; exact Nat.mod_eq_of_lt (by omega)
  have eb : (BitVec.ofInt 64 (b : Int)).toNat = b := by rw [BitVec.ofInt_natCast, BitVec.toNat_ofNat]; exact Nat.mod_eq_of_lt (by omega)
  have hlt : a ^^^ b < 2 ^ 63 := Nat.xor_lt_two_pow (by omega) (by omega)
  show 0 ≤ IntKind.i64.wrap ((BitVec.ofInt 64 (a : Int) ^^^ BitVec.ofInt 64 (b : Int)).toNat : Int)
  rw [BitVec.toNat_xor, ea, eb, IntKind.wrap_i64]
  omega

set_option maxHeartbeats 1000000 in
theorem pick_exact (g : Nat) (A : Option Addr) (m c p : Nat) (F : Nat → Int) (n : Int) (w : World) (hX : RdX w g A m c p F) (hp : p ≤ 1099511627776) (hn : n ≤ 1099511627776) :
    Calls Try.prog 77 #[.pointer (some ⟨g, 0, none⟩), .int .i64 n] w (PickedX w g A m c p F n) := by
  have HX := Lib.hid hX
  obtain ⟨hr, hm, hb⟩ := hX
  have c0 := hr.cell 0
  have c1 := hr.cell 1
  have f1 := hr.frozen 1
  simp at c0 c1
  by_cases hn1 : n < 1
  · go_enter Try.func77, Try.ntmps77
    go_wp2
    go_ret
    exact pickedX_of (k := 0) HX.out (by rw [pickV, if_pos (.inl hn1)]) rfl
  · rcases Nat.eq_zero_or_pos m with hm0 | hm0
    · subst hm0
      go_enter Try.func77, Try.ntmps77
      go_wp2
      go_ret
      exact pickedX_of (k := 0) HX.out (by rw [pickV, if_pos (.inr rfl)]) rfl
    · obtain ⟨b, o, rfl, hbg, hc⟩ := hb hm0
      have hmb : ((m : Int) == 0) = false := beq_eq_false_iff_ne.2 (by omega)
      have hnb : (n == 0) = false := beq_eq_false_iff_ne.2 (by omega)
      have hbne : b ≠ g := by omega
      by_cases hpm : p < m
      · have HV := Lib.hid (show pickV F m p n = F p % n by rw [pickV, if_neg (by omega), if_pos hpm])
        obtain ⟨v0, v1, hv⟩ := hc p hpm
        clear hc hb
        generalize F p = v at HV v0 v1 hv
        go_enter Try.func77, Try.ntmps77
        go_wp2
        go_ret
        exact pickedX_of (k := 0) HX.out HV.out.symm rfl
      · have HV := Lib.hid (show pickV F m p n = (bits .xor .i64 (mixV F m p) (mixV F m p / 64)).tmod n by rw [pickV, if_neg (by omega), if_neg hpm])
        have HM := Lib.hid (show mixV F m p = F (p % m) * 131 + F ((p * 7 + 3) % m) * 1117 + p * 29 + (p / m : Nat) * 53 from rfl)
        have l0 : p % m < m := Nat.mod_lt _ hm0
        have l1 : (p * 7 + 3) % m < m := Nat.mod_lt _ hm0
        have l2 : p / m ≤ p := Nat.div_le_self _ _
        have e1 : ((p : Int)).tmod m = (p % m : Nat) := by rw [Int.tmod_eq_emod_of_nonneg (by omega)]; omega
        have e4 : ((p : Int) * 7 + 3).tmod m = ((p * 7 + 3) % m : Nat) := by rw [Int.tmod_eq_emod_of_nonneg (by omega)]; rw [Int.natCast_emod]; congr 1
        have e5 : ((p : Int)).tdiv m = (p / m : Nat) := by rw [Int.tdiv_eq_ediv_of_nonneg (by omega)]; omega
        generalize p % m = i0 at l0 e1 HM
        generalize (p * 7 + 3) % m = i1 at l1 e4 HM
        generalize p / m = i2 at l2 e5 HM
        obtain ⟨v0, v1, hv⟩ := hc i0 l0
        obtain ⟨u0, u1, hu⟩ := hc i1 l1
        clear hc hb
        generalize F i0 = v at HM v0 v1 hv
        generalize F i1 = u at HM u0 u1 hu
        have l0' : (i0 : Int) < m := by omega
        have l1' : (i1 : Int) < m := by omega
        have e2 : IntKind.i64.wrap ((p : Int) * 7) = p * 7 := IntWalk.i64_in _ (by omega)
        have e3 : IntKind.i64.wrap ((p : Int) * 7 + 3) = p * 7 + 3 := IntWalk.i64_in _ (by omega)
        have e6 : IntKind.i64.wrap (v * 131) = v * 131 := IntWalk.i64_in _ (by omega)
        have e7 : IntKind.i64.wrap (u * 1117) = u * 1117 := IntWalk.i64_in _ (by omega)
        have e8 : IntKind.i64.wrap (v * 131 + u * 1117) = v * 131 + u * 1117 := IntWalk.i64_in _ (by omega)
        have e9 : IntKind.i64.wrap ((p : Int) * 29) = p * 29 := IntWalk.i64_in _ (by omega)
        have e10 : IntKind.i64.wrap (v * 131 + u * 1117 + p * 29) = v * 131 + u * 1117 + p * 29 := IntWalk.i64_in _ (by omega)
        have e11 : IntKind.i64.wrap ((i2 : Int) * 53) = i2 * 53 := IntWalk.i64_in _ (by omega)
        have e12 : IntKind.i64.wrap (v * 131 + u * 1117 + p * 29 + i2 * 53) = v * 131 + u * 1117 + p * 29 + i2 * 53 := IntWalk.i64_in _ (by omega)
        go_enter Try.func77, Try.ntmps77
        go_wp2_with fail
        go_quiet (fail)
        clear e1 e2 e3 e4 e5 e6 e7 e8 e9 e10 e11 e12
        go_wp2_with fail
        go_ret
        exact pickedX_of (k := nq) HX.out (by rw [HV.out, HM.out]) rfl

theorem pickV_range {w : World} {g m c p : Nat} {A : Option Addr} {F : Nat → Int} (h : RdX w g A m c p F) (hp : p ≤ 1099511627776) (n : Int) : 0 ≤ pickV F m p n ∧ (pickV F m p n < n ∨ (n < 1 ∧ pickV F m p n = 0)) := by
  unfold pickV
  split
  · next h0 => omega
  · next h0 =>
    have hm0 : 0 < m := by omega
    obtain ⟨b, o, _, _, hc⟩ := h.2.2 hm0
    split
    · exact ⟨Int.emod_nonneg _ (by omega), .inl (Int.emod_lt_of_pos _ (by omega))⟩
    · have f0 := hc (p % m) (Nat.mod_lt _ hm0)
      have f1 := hc ((p * 7 + 3) % m) (Nat.mod_lt _ hm0)
      have f2 : p / m ≤ p := Nat.div_le_self _ _
      have hmix : 0 ≤ mixV F m p ∧ mixV F m p < 4611686018427387904 := by
        unfold mixV
        generalize p / m = q at f2
        omega
      have hx := xor_nonneg (mixV F m p) (mixV F m p / 64) (by omega) (by omega) (by omega) (by omega)
      exact ⟨Int.tmod_nonneg _ hx, .inl (Int.tmod_lt_of_pos _ (by omega))⟩

theorem pick_any (g N : Nat) (n : Int) (w : World) (h : Rd w g N) (hN : N ≤ 1099511627776) (hn : n ≤ 1099511627776) :
    Calls Try.prog 77 #[.pointer (some ⟨g, 0, none⟩), .int .i64 n] w (Picked w g n N) := by
  obtain ⟨A, m, c, p, F, hX, hp⟩ := h.told
  refine (pick_exact g A m c p F n w hX (by omega) hn).mono ?_
  rintro e w' ⟨rfl, hX', hg⟩
  have hr := pickV_range hX (by omega) n
  exact ⟨_, rfl, hr.1, hr.2, hX'.rd (by omega), hg⟩

/-- whether an odd case is drawn -/
def Odded (w : World) (g : Nat) (N : Nat) (e : Ending) (w' : World) : Prop :=
  ∃ b : Bool, e = .returned (.bool b) ∧ Rd w' g (N + 1) ∧ w.grownBy w' (some g)

theorem odd_any (g N : Nat) (n : Int) (w : World) (h : Rd w g N) (hN : N ≤ 1099511627776) (hn1 : 1 ≤ n) (hn : n ≤ 1099511627776) :
    Calls Try.prog 79 #[.pointer (some ⟨g, 0, none⟩), .int .i64 n] w (Odded w g N) := by
  go_enter Try.func79, Try.ntmps79
  go_wp2_with fail
  refine (pick_any g N n _ h hN hn).mono ?_
  rintro e w1 ⟨r, rfl, r0, r1, hr, hg⟩
  have HR := Lib.hid r1
  clear r1
  go_wp2
  go_ret
  exact ⟨_, rfl, hr, hg⟩

/-- a reader of its own has been made -/
def Opened (w : World) (e : Ending) (w' : World) : Prop := e = .returned (.pointer (some ⟨w.heap.size, 0, none⟩)) ∧ Rd w' w.heap.size 0 ∧ Below w.heap.size w w'

theorem open_any (A : Option Addr) (n c : Nat) (w : World) (h : Bytes w w.heap.size A n) (hc : n ≤ c) (hn : n ≤ 9223372036854775807) :
    Calls Try.prog 38 #[.slice A n c] w (Opened w) := by
  by_cases h2 : n ≤ 2000
  · go_enter Try.func38, Try.ntmps38
    go_wp2
    go_ret
    exact ⟨rfl, ⟨A, n, c, 0, Rw.new _ _ _, h2, Nat.le_refl _, h.keep fun p hp => ((Below.refl w.heap.size w).alloc (Nat.le_refl _) _).cell hp⟩, (Below.refl _ _).alloc (Nat.le_refl _) _⟩
  · obtain ⟨b, o, rfl, hb, hcell⟩ := h (by omega)
    have HC := Lib.hid hcell
    clear hcell
    go_enter Try.func38, Try.ntmps38
    go_wp2
    go_ret
    exact ⟨rfl, ⟨_, 2000, c, 0, Rw.new _ _ _, Nat.le_refl _, Nat.le_refl _, fun _ => ⟨b, o, rfl, hb, fun i hi => by
      obtain ⟨v, a0, a1, a2⟩ := HC.out i (by omega)
      exact ⟨v, a0, a1, (((Below.refl w.heap.size w).alloc (Nat.le_refl _) _).cell (p := ⟨b, o + i, none⟩) hb).trans a2⟩⟩⟩, (Below.refl _ _).alloc (Nat.le_refl _) _⟩
end Go.Proofs.Ytakdjiojahlnmaa

namespace Go.Proofs.Ytakdjiojahlnmaa
open Go.RowKit

/-- a number between lo and hi -/
def SomeInt (w : World) (lo hi : Int) (e : Ending) (w' : World) : Prop := ∃ t : Int, e = .returned (.int .i64 t) ∧ lo ≤ t ∧ t ≤ hi ∧ Below w.heap.size w w'

theorem grown_cell {w w' : World} {g : Nat} (hg : w.grownBy w' (some g)) (b o : Nat) (hb : b < w.heap.size) (hne : b ≠ g) : w'.cell? ⟨b, o, none⟩ = w.cell? ⟨b, o, none⟩ :=
  World.cell?_of_block (hg.block b hb (fun e => hne (by injection e)))

/-- '!=' on two blocks -/
theorem run_neq_block (x y : Bl) (w : World) : (binOp .neq 75 (.agg #[.int .i64 x.s, .int .i64 x.z, .bool x.u]) (.agg #[.int .i64 y.s, .int .i64 y.z, .bool y.u])).run Try.prog w = .ok (.bool (!eqB x y)) w := by
  have u3 := Try.underlying3
  have a3 := Try.isAgg3
  have z3 := Try.sizeOf3
  have u4 := Try.underlying4
  have a4 := Try.isAgg4
  have z4 := Try.sizeOf4
  have hS : Try.prog.underlying 75 = some (.struct (Try.prog.fieldsOf 75)) := by kernel_rfl
  have hp : Try.prog.stoodInHeld 75 = false := by kernel_rfl
  rw [run_neq_struct, show (10000 : Nat) = 9999 + 1 from rfl, run_equalIn_agg w 9999 75 _ _ hS hp, eqB_eq]
  simp only [Program.fieldsOf, Try.underlying75]
  go_simp
  by_cases h1 : x.s = y.s <;> by_cases h2 : x.z = y.z <;> by_cases h3 : x.u = y.u <;> simp [h1, h2, h3]

theorem alive_any (w : World) : Calls Try.prog 15 #[] w fun e w' => e = .returned (.bool true) ∧ Below w.heap.size w w' := by
  have ho := own_one w 0 3 false w.heap.size (Nat.le_refl _)
  have hi : AllI [⟨0, 3, false⟩] := by
    intro k x hx
    match k, hx with
    | 0, hx =>
      simp at hx
      subst hx
      unfold I64
      constructor <;> constructor <;> simp
    | k + 1, hx => simp at hx
  have hf : Bks.freeW [⟨0, 3, false⟩] 3 = 3 := by decide
  have HF := Lib.hid hf
  clear hf
  go_enter Try.func15, Try.ntmps15
  go_wp2_with fail
  refine (freeWords_any _ _ _ [⟨0, 3, false⟩] _ _ (ho.reads hi) (by omega)).mono ?_
  rw [HF.out]
  rintro e w1 ⟨rfl, b1⟩
  go_wp2_with fail
  go_ret
  exact ⟨rfl, ((Below.refl w.heap.size w).alloc (Nat.le_refl _) _).trans (b1.mono (by simp))⟩

theorem one_valid (t : Int) (h1 : 1 ≤ t) (h2 : t ≤ 256) : Bks.validB [⟨0, t, false⟩] t = true := by
  rw [Bks.valid_iff]
  refine ⟨fun k hk => ?_, h1, h2, by simp [Bks.offs]⟩
  have : k = 0 := by simpa using hk
  subst this
  rw [Bks.stepOk_iff _ 0 ⟨0, t, false⟩ rfl]
  exact ⟨by simp [Bks.offs], h1, h2, .inl rfl⟩

end Go.Proofs.Ytakdjiojahlnmaa

namespace Go.Proofs.Ytakdjiojahlnmaa
open Go.RowKit

def upd (L : Nat → Bool) (i k : Nat) : Bool := if k = i then true else L k
theorem upd_ne {L : Nat → Bool} {i k : Nat} (h : upd L i k = true) (hne : k ≠ i) : L k = true := by
  unfold upd at h
  rw [if_neg hne] at h
  exact h
theorem upd_other {L : Nat → Bool} {i k : Nat} (hne : k ≠ i) : upd L i k = L k := by
  unfold upd
  rw [if_neg hne]
theorem upd_self {L : Nat → Bool} {i : Nat} : upd L i i = true := by simp [upd]

/-- a fact about an operation that is carried out stays behind another one -/
theorem kp {L : Nat → Bool} {i k : Nat} {P : Prop} (f : L k = true → P) (hne : k ≠ i := by decide) (h : upd L i k = true) : P := f (upd_ne h hne)
def depsB (ops : Array Oper) : Bool := (List.range ops.size).all fun i => ((ops[i]?).map (·.after.all fun e => !Region.binds .any e || decide (e.on < i))).getD true

section
variable {P : Program} {ops : Array Oper} {Q : Exit → Act → World → Prop}

def unl (listed : Array Bool) (n : Nat) : List Nat := (List.range n).filter fun i => !listed.getD i true

theorem ready_unl {listed : Array Bool} {i : Nat} (h : i ∈ Region.ready .any ops listed) : i ∈ unl listed ops.size := by
  unfold Region.ready at h
  unfold unl
  rw [List.mem_filter] at h ⊢
  refine ⟨h.1, ?_⟩
  have := h.2
  simp at this
  simp [this.1]

theorem all_listed (hd : depsB ops = true) {listed : Array Bool} (hs : listed.size = ops.size) (hr : Region.ready .any ops listed = []) : ∀ i, i < ops.size → listed.getD i false = true := by
  intro i
  induction i using Nat.strongRecOn with
  | _ i ih =>
    intro hi
    cases hl : listed.getD i false
    · exfalso
      have hmem : i ∈ Region.ready .any ops listed := by
        unfold Region.ready
        rw [List.mem_filter]
        refine ⟨by simpa using hi, ?_⟩
        have e1 : listed.getD i true = false := by
          rw [Array.getD_eq_getD_getElem?] at hl ⊢
          rw [Array.getElem?_eq_getElem (by omega)] at hl ⊢
          simpa using hl
        rw [e1]
        simp only [Bool.not_false, Bool.true_and]
        unfold depsB at hd
        rw [List.all_eq_true] at hd
        have := hd i (by simpa using hi)
        rw [Array.getElem?_eq_getElem hi] at this ⊢
        simp only [Option.map_some, Option.getD_some] at this ⊢
        rw [Array.all_eq_true_iff_forall_mem] at this ⊢
        intro e he
        have hb := this e he
        cases hbi : Region.binds .any e
        · rfl
        · rw [hbi] at hb
          simp at hb
          simp only [Bool.not_true, Bool.false_or]
          exact ih e.on hb (by omega)
      rw [hr] at hmem
      cases hmem
    · rfl

theorem unl_set {listed : Array Bool} {n i : Nat} (h : i ∈ unl listed n) (hs : listed.size = n) : (unl (listed.setIfInBounds i true) n).length < (unl listed n).length := by
  have hsub : unl (listed.setIfInBounds i true) n = (unl listed n).filter (fun j => decide (j ≠ i)) := by
    unfold unl
    rw [List.filter_filter]
    apply List.filter_congr
    intro j hj
    have hj' : j < n := by simpa using hj
    rw [Array.getD_eq_getD_getElem?, Array.getD_eq_getD_getElem?, Array.getElem?_setIfInBounds]
    by_cases e : i = j
    · subst e
      simp [hs, hj']
    · rw [if_neg e]
      have e' : ¬ j = i := fun h => e h.symm
      simp [e']
  rw [hsub]
  exact List.length_filter_lt_length_iff_exists.2 ⟨i, h, by simp⟩

theorem wpAny_inv (hd : depsB ops = true) (Inv : (Nat → Bool) → Act → World → Prop)
    (hstep : ∀ (L : Nat → Bool) (a : Act) (w : World) (i : Nat) (o : Oper), ops[i]? = some o → L i = false → (∀ e ∈ o.after, Region.binds .any e = true → L e.on = true) → Inv L a w → wpOp P ops Q i (Inv (upd L i)) a w)
    (hdone : ∀ (L : Nat → Bool) (a : Act) (w : World), (∀ i, i < ops.size → L i = true) → Inv L a w → Q .normal a w) :
    ∀ (fuel : Nat) (listed : Array Bool) (a : Act) (w : World), listed.size = ops.size → (unl listed ops.size).length ≤ fuel → Inv (fun i => listed.getD i false) a w → wpAny P .any ops Q fuel listed a w
  | 0, listed, a, w, hs, hf, hI => by
    have hr : Region.ready .any ops listed = [] := by
      cases h : Region.ready .any ops listed with
      | nil => rfl
      | cons i is =>
        have := ready_unl (ops := ops) (listed := listed) (i := i) (by rw [h]; simp)
        have hz : unl listed ops.size = [] := List.eq_nil_of_length_eq_zero (by omega)
        rw [hz] at this
        cases this
    exact ⟨hr, hdone _ a w (all_listed hd hs hr) hI⟩
  | fuel + 1, listed, a, w, hs, hf, hI => by
    refine ⟨fun hr => hdone _ a w (all_listed hd hs hr) hI, fun i hi => ?_⟩
    have hu := ready_unl hi
    have hlt := unl_set hu hs
    unfold Region.ready at hi
    rw [List.mem_filter] at hi
    obtain ⟨hi1, hi2⟩ := hi
    have hi1' : i < ops.size := by simpa using hi1
    rw [Array.getElem?_eq_getElem hi1'] at hi2
    simp only [Option.map_some, Option.getD_some, Bool.and_eq_true, Bool.not_eq_true'] at hi2
    refine wpOp_mono (K := Inv (upd (fun i => listed.getD i false) i)) (fun a' w' h' => ?_) (hstep _ a w i ops[i] (Array.getElem?_eq_getElem hi1') ?_ ?_ hI)
    · refine wpAny_inv hd Inv hstep hdone fuel _ a' w' (by simpa using hs) (by omega) ?_
      have e : (fun j => (listed.setIfInBounds i true).getD j false) = upd (fun i => listed.getD i false) i := by
        funext j
        unfold upd
        rw [Array.getD_eq_getD_getElem?, Array.getElem?_setIfInBounds]
        by_cases e : i = j
        · subst e
          simp [hs, hi1']
        · rw [if_neg e, if_neg (fun h => e h.symm), ← Array.getD_eq_getD_getElem?]
      rw [e]
      exact h'
    · have := hi2.1
      rw [Array.getD_eq_getD_getElem?, Array.getElem?_eq_getElem (by omega)] at this ⊢
      simpa using this
    · intro e he hb
      have := (Array.all_eq_true_iff_forall_mem.1 hi2.2) e he
      rw [hb] at this
      simpa using this

/-- a region, by what holds between its operations -/
theorem wp_region_inv {id : Nat} {a : Act} {w : World} (hm : P.follows .mixedOrders = true) (hd : depsB ops = true) (Inv : (Nat → Bool) → Act → World → Prop)
    (h0 : Inv (fun _ => false) a w.drew)
    (hstep : ∀ (L : Nat → Bool) (a : Act) (w : World) (i : Nat) (o : Oper), ops[i]? = some o → L i = false → (∀ e ∈ o.after, Region.binds .any e = true → L e.on = true) → Inv L a w → wpOp P ops Q i (Inv (upd L i)) a w)
    (hdone : ∀ (L : Nat → Bool) (a : Act) (w : World), (∀ i, i < ops.size → L i = true) → Inv L a w → Q .normal a w) : (Code.region id ops true).wp P Q a w := by
  refine wp_region_any hm (wpAny_inv hd Inv hstep hdone _ _ _ _ (by simp) ?_ ?_)
  · unfold unl
    exact Nat.le_trans (List.length_filter_le _ _) (by simp)
  · have e : (fun i => (Array.replicate ops.size false).getD i false) = fun _ => false := by
      funext j
      rw [Array.getD_eq_getD_getElem?]
      rcases Nat.lt_or_ge j ops.size with h | h
      · simp [h]
      · rw [Array.getElem?_eq_none (by simpa using h)]
        rfl
    rw [e]
    exact h0
end

/-- a row of n numbers in lo..hi, in block g, which is not the reader's -/
def Tbl (w : World) (gr g n : Nat) (lo hi : Int) : Prop := g ≠ gr ∧ g < w.heap.size ∧ ∀ j, j < n → ∃ q : Int, w.cell? ⟨g, j, none⟩ = some (.int .i64 q) ∧ lo ≤ q ∧ q ≤ hi

theorem Tbl.alloc {w : World} {gr g n : Nat} {lo hi : Int} (h : Tbl w gr g n lo hi) (o : Obj) : Tbl (w.alloc o) gr g n lo hi := by
  refine ⟨h.1, by have := h.2.1; simp; omega, fun j hj => ?_⟩
  obtain ⟨q, hq, hb⟩ := h.2.2 j hj
  exact ⟨q, (((Below.refl w.heap.size w).alloc (Nat.le_refl _) o).cell (p := ⟨g, j, none⟩) h.2.1).trans hq, hb⟩
theorem Tbl.pick {w w' : World} {gr g n : Nat} {lo hi : Int} (h : Tbl w gr g n lo hi) (hg : w.grownBy w' (some gr)) : Tbl w' gr g n lo hi := by
  refine ⟨h.1, Nat.lt_of_lt_of_le h.2.1 hg.size, fun j hj => ?_⟩
  obtain ⟨q, hq, hb⟩ := h.2.2 j hj
  exact ⟨q, (World.cell?_of_block (hg.block g h.2.1 (fun e => h.1 (by injection e)))).trans hq, hb⟩
theorem Tbl.new (w : World) (gr : Nat) (t : TypeId) (qs : List Int) (lo hi : Int) (hgr : gr < w.heap.size) (h : ∀ q ∈ qs, lo ≤ q ∧ q ≤ hi) (cs : Array Value) (hc : cs = (qs.map (Value.int .i64)).toArray) : Tbl (w.alloc (.cells cs t)) gr w.heap.size qs.length lo hi := by
  subst hc
  refine ⟨by omega, by simp, fun j hj => ⟨qs[j], ?_, h _ (List.getElem_mem hj)⟩⟩
  rw [(Rw.new w t _).cell j]
  simp [hj]

/-- the relations that a slot's value may bear -/
def IntIn (lo hi : Int) (v : Value) : Prop := ∃ q : Int, v = .int .i64 q ∧ lo ≤ q ∧ q ≤ hi
def TblOf (w : World) (gr n : Nat) (lo hi : Int) (v : Value) : Prop := ∃ g, v = .slice (some ⟨g, 0, none⟩) n n ∧ Tbl w gr g n lo hi
def PtrOf (w : World) (gr n : Nat) (lo hi : Int) (v : Value) : Prop := ∃ g j, v = .pointer (some ⟨g, j, none⟩) ∧ j < n ∧ Tbl w gr g n lo hi
theorem TblOf.alloc {w : World} {gr n : Nat} {lo hi : Int} {v : Value} (h : TblOf w gr n lo hi v) (o : Obj) : TblOf (w.alloc o) gr n lo hi v := by
  obtain ⟨g, e, h⟩ := h
  exact ⟨g, e, h.alloc o⟩
theorem TblOf.pick {w w' : World} {gr n : Nat} {lo hi : Int} {v : Value} (h : TblOf w gr n lo hi v) (hg : w.grownBy w' (some gr)) : TblOf w' gr n lo hi v := by
  obtain ⟨g, e, h⟩ := h
  exact ⟨g, e, h.pick hg⟩
theorem PtrOf.alloc {w : World} {gr n : Nat} {lo hi : Int} {v : Value} (h : PtrOf w gr n lo hi v) (o : Obj) : PtrOf (w.alloc o) gr n lo hi v := by
  obtain ⟨g, j, e, hj, h⟩ := h
  exact ⟨g, j, e, hj, h.alloc o⟩
theorem PtrOf.pick {w w' : World} {gr n : Nat} {lo hi : Int} {v : Value} (h : PtrOf w gr n lo hi v) (hg : w.grownBy w' (some gr)) : PtrOf w' gr n lo hi v := by
  obtain ⟨g, j, e, hj, h⟩ := h
  exact ⟨g, j, e, hj, h.pick hg⟩
end Go.Proofs.Ytakdjiojahlnmaa
