/- What the claim LLazyTake stands on, part 1 of 6: texts of one seat put together, with what the claim needs of them. No conditions. -/
import Derived.Below
import Derived.Test.YtakdjiojahlnmaaRows
import Derived.WalkKit
import Derived.WalkSpells
import Derived.WalkLawsBesides
import Derived.Lib.Hide
import Derived.Laws.Rows
import Derived.Laws.MakeOwn
import Derived.StillTailTactics
import Derived.Deep.QuietTactic
import Derived.BigQuiet
import Derived.IntWalk
import Derived.Laws.OwnMore
import Derived.OwnWalk
import Derived.Maps.AppendAt
import Derived.RegionTactic
import Derived.Laws.BitsAllLaws
import Derived.Laws.BitsLemmas
import Derived.Deep.Slices
import Derived.BigRegion
import Derived.Deep.Cut
import Derived.Deep.CutBlock
import Derived.Deep.DeepMust
import Derived.Lib.TrailingZeros
import Derived.Laws.CopyOwn
import Derived.ProofKit
import Derived.OpenShut
import Derived.JoinedCond
import Derived.Carry
namespace Go.Proofs.Ytakdjiojahlnmaa
/-- a block: start, size, used -/
structure Bl where
  s : Int
  z : Int
  u : Bool
  deriving DecidableEq, Inhabited
namespace Bks
/-- the words of the first k blocks -/
def offs (xs : List Bl) (k : Nat) : Int := ((xs.take k).map (·.z)).sum
def stepOk (xs : List Bl) (k : Nat) : Bool :=
  match xs[k]? with
  | none => false
  | some x => decide (x.s = offs xs k) && decide (1 ≤ x.z) && decide (x.z ≤ 256) && (decide (k = 0) || x.u || match xs[k-1]? with | none => false | some y => y.u)
def validB (xs : List Bl) (t : Int) : Bool := (List.range xs.length).all (stepOk xs) && decide (1 ≤ t) && decide (t ≤ 256) && decide (offs xs xs.length = t)
theorem offs_zero (xs : List Bl) : offs xs 0 = 0 := by simp [offs]
theorem offs_succ (xs : List Bl) (k : Nat) (x : Bl) (h : xs[k]? = some x) : offs xs (k + 1) = offs xs k + x.z := by
  unfold offs
  rw [List.take_add_one, h]
  simp
theorem valid_iff (xs : List Bl) (t : Int) : validB xs t = true ↔ (∀ k, k < xs.length → stepOk xs k = true) ∧ 1 ≤ t ∧ t ≤ 256 ∧ offs xs xs.length = t := by
  unfold validB
  simp [and_assoc]
theorem stepOk_iff (xs : List Bl) (k : Nat) (x : Bl) (h : xs[k]? = some x) :
    stepOk xs k = true ↔ x.s = offs xs k ∧ 1 ≤ x.z ∧ x.z ≤ 256 ∧ (k = 0 ∨ x.u = true ∨ ∃ y, xs[k-1]? = some y ∧ y.u = true) := by
  unfold stepOk
  rw [h]
  cases hy : xs[k-1]? <;> simp [and_assoc, or_assoc]
/-- good up to k: the first k blocks are right -/
def okTo (xs : List Bl) (k : Nat) : Prop := ∀ j, j < k → stepOk xs j = true
theorem okTo_zero (xs : List Bl) : okTo xs 0 := fun j h => absurd h (by omega)
theorem okTo_succ {xs : List Bl} {k : Nat} (h : okTo xs k) (hk : stepOk xs k = true) : okTo xs (k + 1) := fun j hj => by
  rcases Nat.lt_or_ge j k with h1 | h1
  · exact h j h1
  · obtain rfl : j = k := by omega
    exact hk
/-- the words of the first blocks grow, by at least 1 and at most 256 a block -/
theorem offs_bounds {xs : List Bl} {k : Nat} (h : okTo xs k) (hk : k ≤ xs.length) : ∀ j, j ≤ k → offs xs j + ((k - j : Nat) : Int) ≤ offs xs k ∧ offs xs k ≤ offs xs j + 256 * ((k - j : Nat) : Int) := by
  induction k with
  | zero => intro j hj; obtain rfl : j = 0 := by omega
            simp
  | succ k ih =>
    intro j hj
    have hx : xs[k]? = some (xs[k]'(by omega)) := List.getElem?_eq_getElem (by omega)
    have hs := (stepOk_iff xs k _ hx).1 (h k (by omega))
    have ho := offs_succ xs k _ hx
    rcases Nat.lt_or_ge k j with h1 | h1
    · obtain rfl : j = k + 1 := by omega
      simp
    · have := ih (fun j hj => h j (by omega)) (by omega) j h1
      have e : k + 1 - j = (k - j) + 1 := by omega
      rw [e]
      omega
theorem offs_range {xs : List Bl} {k : Nat} (h : okTo xs k) (hk : k ≤ xs.length) : (k : Int) ≤ offs xs k ∧ offs xs k ≤ 256 * (k : Int) := by
  have := offs_bounds h hk 0 (by omega)
  rw [offs_zero] at this
  simp at this
  omega
theorem invalid_of_total {xs : List Bl} {t : Int} (h : ¬ (1 ≤ t ∧ t ≤ 256)) : validB xs t = false := by
  cases hv : validB xs t
  · rfl
  · have := (valid_iff xs t).1 hv
    exact absurd ⟨this.2.1, this.2.2.1⟩ h
theorem invalid_of_over {xs : List Bl} {k : Nat} {t : Int} (hk : k < xs.length) (x : Bl) (hx : xs[k]? = some x) (h : t - offs xs k < x.z) : validB xs t = false := by
  cases hv : validB xs t
  · rfl
  · have hh := (valid_iff xs t).1 hv
    have hb := offs_bounds (k := xs.length) hh.1 (Nat.le_refl _) (k + 1) (by omega)
    have ho := offs_succ xs k x hx
    omega
theorem valid_of_all {xs : List Bl} {t : Int} (h : okTo xs xs.length) (h1 : 1 ≤ t) (h2 : t ≤ 256) : validB xs t = (offs xs xs.length == t) := by
  rw [Bool.eq_iff_iff, valid_iff]
  simp only [beq_iff_eq]
  exact ⟨fun hh => hh.2.2.2, fun hh => ⟨h, h1, h2, hh⟩⟩
/-- what one round of the program's loop decides -/
theorem round_true {xs : List Bl} {k : Nat} {t : Int} {x y : Bl} (hx : xs[k]? = some x) (hy : 0 < k → xs[k-1]? = some y) (h2 : t ≤ 256) (h0 : 0 ≤ offs xs k)
    (h : x.s = offs xs k ∧ 1 ≤ x.z ∧ x.z ≤ t - offs xs k ∧ (k = 0 ∨ x.u = true ∨ y.u = true)) : stepOk xs k = true := by
  rw [stepOk_iff xs k x hx]
  refine ⟨h.1, h.2.1, by omega, ?_⟩
  rcases h.2.2.2 with e | e | e
  · exact .inl e
  · exact .inr (.inl e)
  · rcases Nat.eq_zero_or_pos k with e0 | e0
    · exact .inl e0
    · exact .inr (.inr ⟨y, hy e0, e⟩)
theorem round_false {xs : List Bl} {k : Nat} {t : Int} {x y : Bl} (hk : k < xs.length) (hx : xs[k]? = some x) (hy : 0 < k → xs[k-1]? = some y)
    (h : ¬ (x.s = offs xs k ∧ 1 ≤ x.z ∧ x.z ≤ t - offs xs k ∧ (k = 0 ∨ x.u = true ∨ y.u = true))) : validB xs t = false := by
  cases hv : validB xs t
  · rfl
  · exfalso
    apply h
    have hh := (valid_iff xs t).1 hv
    have hs := (stepOk_iff xs k x hx).1 (hh.1 k hk)
    refine ⟨hs.1, hs.2.1, ?_, ?_⟩
    · rcases Int.lt_or_le (t - offs xs k) x.z with hlt | hle
      · have := invalid_of_over (t := t) hk x hx hlt
        rw [hv] at this
        cases this
      · exact hle
    · rcases hs.2.2.2 with e | e | ⟨y', e1, e2⟩
      · exact .inl e
      · exact .inr (.inl e)
      · rcases Nat.eq_zero_or_pos k with e0 | e0
        · exact .inl e0
        · have := hy e0
          rw [e1] at this
          injection this with this
          subst this
          exact .inr (.inr e2)
theorem valid_all {xs : List Bl} (t : Int) (h : okTo xs xs.length) : validB xs t = (decide (1 ≤ t) && decide (t ≤ 256) && (offs xs xs.length == t)) := by
  rw [Bool.eq_iff_iff, valid_iff]
  simp only [Bool.and_eq_true, decide_eq_true_eq, beq_iff_eq, and_assoc]
  exact ⟨fun hh => hh.2, fun hh => ⟨h, hh⟩⟩
/-- the free words of the first k blocks -/
def freeTo (xs : List Bl) (k : Nat) : Int := ((xs.take k).map (fun x => if x.u then 0 else x.z)).sum
/-- the largest free one of the first k blocks -/
def maxTo (xs : List Bl) (k : Nat) : Int := (xs.take k).foldl (fun m x => if x.u then m else max m x.z) 0
theorem freeTo_zero (xs : List Bl) : freeTo xs 0 = 0 := by simp [freeTo]
theorem maxTo_zero (xs : List Bl) : maxTo xs 0 = 0 := by simp [maxTo]
theorem freeTo_succ (xs : List Bl) (k : Nat) (x : Bl) (h : xs[k]? = some x) : freeTo xs (k + 1) = freeTo xs k + if x.u = true then 0 else x.z := by
  unfold freeTo
  rw [List.take_add_one, h]
  simp
theorem maxTo_succ (xs : List Bl) (k : Nat) (x : Bl) (h : xs[k]? = some x) : maxTo xs (k + 1) = if x.u = true then maxTo xs k else max (maxTo xs k) x.z := by
  unfold maxTo
  rw [List.take_add_one, h]
  simp
/-- what is known of each block of valid blocks -/
theorem valid_at {xs : List Bl} {t : Int} (hv : validB xs t = true) {k : Nat} {x : Bl} (hx : xs[k]? = some x) :
    x.s = offs xs k ∧ 1 ≤ x.z ∧ x.z ≤ 256 ∧ (k : Int) ≤ offs xs k ∧ offs xs k + x.z ≤ t ∧ offs xs (k + 1) = offs xs k + x.z ∧ t ≤ 256 := by
  have hh := (valid_iff xs t).1 hv
  have hk : k < xs.length := (List.getElem?_eq_some_iff.1 hx).1
  have hs := (stepOk_iff xs k x hx).1 (hh.1 k hk)
  have ho := offs_succ xs k x hx
  have hb := offs_bounds (k := xs.length) hh.1 (Nat.le_refl _) (k + 1) (by omega)
  have hr := offs_range (k := k) (fun j hj => hh.1 j (by omega)) (by omega)
  exact ⟨hs.1, hs.2.1, hs.2.2.1, hr.1, by omega, ho, hh.2.2.1⟩
theorem free_range {xs : List Bl} {t : Int} (hv : validB xs t = true) : ∀ k, k ≤ xs.length → 0 ≤ freeTo xs k ∧ freeTo xs k ≤ offs xs k ∧ 0 ≤ maxTo xs k ∧ maxTo xs k ≤ freeTo xs k ∧ offs xs k ≤ 256 := by
  intro k
  induction k with
  | zero => intro _; rw [freeTo_zero, maxTo_zero, offs_zero]; omega
  | succ k ih =>
    intro hk
    have hx : xs[k]? = some (xs[k]'(by omega)) := List.getElem?_eq_getElem (by omega)
    have hi := ih (by omega)
    have ha := valid_at hv hx
    rw [freeTo_succ xs k _ hx, maxTo_succ xs k _ hx]
    generalize xs[k] = x at *
    by_cases hu : x.u = true
    · rw [if_pos hu, if_pos hu]
      omega
    · rw [if_neg hu, if_neg hu]
      omega
/-- FreeWords and LargestFree -/
def freeW (xs : List Bl) (t : Int) : Int := if validB xs t = true then freeTo xs xs.length else -1
/-- how many blocks begin at or before word q -/
def cnt (xs : List Bl) (q : Int) : Nat := (xs.takeWhile (fun x => decide (x.s ≤ q))).length
/-- BlockAt -/
def atW (xs : List Bl) (t q : Int) : Int := if validB xs t = true ∧ 0 ≤ q ∧ q < t then (cnt xs q : Int) - 1 else -1
end Bks
end Go.Proofs.Ytakdjiojahlnmaa
namespace Go.Proofs.Ytakdjiojahlnmaa
open Go.RowKit
def I64 (n : Int) : Prop := -9223372036854775808 ≤ n ∧ n ≤ 9223372036854775807
/-- the slice value '.slice A n _' reads as the blocks xs, and lies below block B -/
def BS (w : World) (B : Nat) (A : Option Addr) (n : Nat) (xs : List Bl) : Prop :=
  xs.length = n ∧ (∀ (k : Nat) (x : Bl), xs[k]? = some x → I64 x.s ∧ I64 x.z) ∧
  (0 < n → ∃ g o, A = some ⟨g, o, none⟩ ∧ g < B ∧ ∀ (k : Nat) (x : Bl), xs[k]? = some x →
    w.cell? ⟨g, o + k * 3, none⟩ = some (.int .i64 x.s) ∧ w.cell? ⟨g, o + k * 3 + 1, none⟩ = some (.int .i64 x.z) ∧ w.cell? ⟨g, o + k * 3 + 2, none⟩ = some (.bool x.u))
section
variable {w w' : World} {B B' n : Nat} {A : Option Addr} {xs : List Bl}
theorem BS.keep (h : BS w B A n xs) (hk : ∀ p : Addr, p.block < B → w'.cell? p = w.cell? p) : BS w' B A n xs :=
  ⟨h.1, h.2.1, fun hn => by
    obtain ⟨g, o, e, hb, hc⟩ := h.2.2 hn
    exact ⟨g, o, e, hb, fun k x hx => by
      obtain ⟨h1, h2, h3⟩ := hc k x hx
      exact ⟨(hk _ hb).trans h1, (hk _ hb).trans h2, (hk _ hb).trans h3⟩⟩⟩
theorem BS.more (h : BS w B A n xs) (hB : B ≤ B') : BS w B' A n xs :=
  ⟨h.1, h.2.1, fun hn => by
    obtain ⟨g, o, e, hb, hc⟩ := h.2.2 hn
    exact ⟨g, o, e, by omega, hc⟩⟩
theorem BS.below (h : BS w B A n xs) (hb : Below B w w') : BS w' B A n xs := h.keep fun _ hp => hb.cell hp
theorem BS.at_ {k : Nat} (h : BS w B A n xs) (hk : k < n) : ∃ g o x, A = some ⟨g, o, none⟩ ∧ g < B ∧ xs[k]? = some x ∧ I64 x.s ∧ I64 x.z ∧
    w.cell? ⟨g, o + k * 3, none⟩ = some (.int .i64 x.s) ∧ w.cell? ⟨g, o + k * 3 + 1, none⟩ = some (.int .i64 x.z) ∧ w.cell? ⟨g, o + k * 3 + 2, none⟩ = some (.bool x.u) := by
  obtain ⟨g, o, e, hb, hc⟩ := h.2.2 (by omega)
  have hl : k < xs.length := by have := h.1; omega
  have hx := List.getElem?_eq_getElem hl
  obtain ⟨i1, i2⟩ := h.2.1 k _ hx
  obtain ⟨h1, h2, h3⟩ := hc k _ hx
  exact ⟨g, o, _, e, hb, hx, i1, i2, h1, h2, h3⟩
/-- the block before the k-th one, if there is one -/
theorem BS.prev {k : Nat} {g o : Nat} (h : BS w B (some ⟨g, o, none⟩) n xs) (hk : k < n) : ∃ y : Bl, 0 < k → xs[k-1]? = some y ∧ w.cell? ⟨g, o + (k - 1) * 3 + 2, none⟩ = some (.bool y.u) := by
  by_cases h0 : 0 < k
  · obtain ⟨g', o', y, e, _, hy, _, _, _, _, hc⟩ := h.at_ (k := k - 1) (by omega)
    injection e with e
    injection e with e1 e2
    subst e1 e2
    exact ⟨y, fun _ => ⟨hy, hc⟩⟩
  · exact ⟨⟨0, 0, true⟩, fun h => absurd h h0⟩
end
/-- block g holds just the cells cs, of element type t; none is frozen -/
def Rw (w : World) (g : Nat) (t : TypeId) (cs : Array Value) : Prop := w.heap[g]? = some (.cells cs t (0, 0))
section
variable {w w' : World} {g : Nat} {t : TypeId} {cs : Array Value}
theorem Rw.lt (h : Rw w g t cs) : g < w.heap.size := by
  unfold Rw at h
  exact (Array.getElem?_eq_some_iff.1 h).1
theorem Rw.cell (h : Rw w g t cs) (i : Nat) : w.cell? ⟨g, i, none⟩ = cs[i]? := cell_of_row w g i cs t (0, 0) h
theorem Rw.frozen (h : Rw w g t cs) (i : Nat) : w.frozen? ⟨g, i, none⟩ = false := by
  unfold Rw at h
  simp [World.frozen?, h]
theorem Rw.new (w : World) (t : TypeId) (cs : Array Value) : Rw (w.alloc (.cells cs t)) w.heap.size t cs := by
  show (w.heap.push _)[w.heap.size]? = _
  simp
theorem Rw.keep (h : Rw w g t cs) {B : Nat} (hb : Below B w w') (hg : g < B) : Rw w' g t cs := (hb.block g hg).trans h
theorem Rw.alloc (h : Rw w g t cs) (o : Obj) : Rw (w.alloc o) g t cs := (Below.heap_alloc w o g h.lt).trans h
theorem Rw.put (h : Rw w g t cs) (i : Nat) (u : Value) : Rw (w.setCell ⟨g, i, none⟩ u) g t (cs.setIfInBounds i u) := by
  unfold Rw at h ⊢
  simp [World.setCell, Array.getElem?_modify, h]
end
/-- the cells cs begin with the blocks xs -/
def Cs (cs : Array Value) (xs : List Bl) : Prop := ∀ (k : Nat) (x : Bl), xs[k]? = some x →
  cs[k * 3]? = some (.int .i64 x.s) ∧ cs[k * 3 + 1]? = some (.int .i64 x.z) ∧ cs[k * 3 + 2]? = some (.bool x.u)
theorem BS.of_row {w : World} {g B : Nat} {t : TypeId} {cs : Array Value} {xs : List Bl} (h : Rw w g t cs) (hc : Cs cs xs) (hg : g < B) (hi : ∀ (k : Nat) (x : Bl), xs[k]? = some x → I64 x.s ∧ I64 x.z) : BS w B (some ⟨g, 0, none⟩) xs.length xs :=
  ⟨rfl, hi, fun _ => ⟨g, 0, rfl, hg, fun k x hx => by
    obtain ⟨h1, h2, h3⟩ := hc k x hx
    refine ⟨?_, ?_, ?_⟩ <;> rw [h.cell] <;> simpa using (by assumption)⟩⟩
end Go.Proofs.Ytakdjiojahlnmaa
namespace Go.Proofs.Ytakdjiojahlnmaa
open Go.RowKit
theorem ret_bool {a b : Bool} (h : a = b) : Ending.returned (.bool a) = .returned (.bool b) := by rw [h]
theorem wordsValid_any (t : Int) (w : World) : Calls Try.prog 103 #[.int .i64 t] w fun e w' => e = .returned (.bool (decide (1 ≤ t) && decide (t ≤ 256))) ∧ w = w' := by
  go_enter Try.func103, Try.ntmps103
  go_wp2
  · go_ret
    exact ⟨ret_bool (by simp [*]), rfl⟩
  · go_ret
    exact ⟨ret_bool (by simp; omega), rfl⟩
set_option maxHeartbeats 1000000 in
theorem blocksValid_any (A : Option Addr) (n c : Nat) (xs : List Bl) (t : Int) (w : World) (h : BS w w.heap.size A n xs) (hn : n ≤ 1099511627776) :
    Calls Try.prog 85 #[.slice A n c, .int .i64 t] w fun e w' => e = .returned (.bool (Bks.validB xs t)) ∧ Below w.heap.size w w' := by
  have hlen := h.1
  by_cases ht : 1 ≤ t ∧ t ≤ 256
  · obtain ⟨h1, h2⟩ := ht
    have HL := Lib.hid hlen
    clear hlen
    go_enter Try.func85, Try.ntmps85
    go_wp2_with (go_at_call 103; refine (wordsValid_any _ _).mono ?_; rintro e w' ⟨rfl, rfl⟩)
    go_loopw [5, 13] (fun a i wr => ∃ k : Nat, k ≤ n ∧ i = .int .i64 k ∧ a = .int .i64 (Bks.offs xs k) ∧ Bks.okTo xs k ∧ Bks.offs xs k ≤ t ∧ Below w.heap.size w wr) (fun _ i _ => n - (intOf i).toNat)
    case atStart => exact ⟨0, Nat.zero_le _, rfl, rfl, Bks.okTo_zero _, by rw [Bks.offs_zero]; omega, Below.refl _ _⟩
    case round =>
      obtain ⟨k, hk, rfl, rfl, hok, hle, hb⟩ := hrel
      have hr := Bks.offs_range hok (by rw [HL.out]; exact hk)
      by_cases hlt : k < n
      · obtain ⟨g, o, x, rfl, hg, hx, ⟨i1, i2⟩, ⟨i3, i4⟩, c1, c2, c3⟩ := (h.below hb).at_ hlt
        obtain ⟨y, hy⟩ := (h.below hb).prev hlt
        have hgr : g < wr.heap.size := Nat.lt_of_lt_of_le hg hb.size
        have cp : 0 < k → wr.cell? ⟨g, o + (k - 1) * 3 + 2, none⟩ = some (.bool y.u) := fun h0 => (hy h0).2
        have HF := Lib.hid (Bks.round_false (t := t) (by rw [HL.out]; exact hlt) hx (fun h0 => (hy h0).1))
        have HT := Lib.hid (fun hh => Bks.round_true (t := t) hx (fun h0 => (hy h0).1) h2 (by omega) hh)
        have HO := Lib.hid (Bks.offs_succ xs k x hx)
        clear hx hy
        go_wp2
        all_goals first
          | (go_ret; exact ⟨ret_bool (HF.out (by rintro ⟨a1, a2, a3, a4⟩; first | contradiction | omega | (rcases a4 with a4 | a4 | a4 <;> simp_all))).symm, hb.alloc hb.size _⟩)
          | (go_roundw
             case rel => exact ⟨k + 1, by omega, by go_num, by rw [HO.out], Bks.okTo_succ hok (HT.out ⟨by assumption, by omega, by omega, by first | (left; omega) | (right; left; assumption) | (right; right; simp_all)⟩), by rw [HO.out]; omega, hb.alloc hb.size _⟩
             case measure => simp [intOf]; omega)
      · have hkn : k = n := by omega
        have HK := Lib.hid hkn
        clear hkn
        go_wp2
        go_ret
        refine ⟨ret_bool ?_, hb⟩
        have e := HK.out
        have e2 := HL.out
        subst e
        rw [← e2] at hok ⊢
        exact (Bks.valid_of_all hok h1 h2).symm
  · have hf : (decide (1 ≤ t) && decide (t ≤ 256)) = false := by simpa using ht
    have Hv := Lib.hid (Bks.invalid_of_total (xs := xs) ht)
    clear ht
    go_enter Try.func85, Try.ntmps85
    go_wp2_with (go_at_call 103; refine (wordsValid_any _ _).mono ?_; rintro e w' ⟨rfl, rfl⟩)
    go_ret
    exact ⟨ret_bool Hv.out.symm, Below.refl _ _⟩
theorem l1In_any (n lo hi : Int) (w : World) : Calls Try.prog 45 #[.int .i64 n, .int .i64 lo, .int .i64 hi] w fun e w' => e = .returned (.bool (decide (lo ≤ n) && decide (n ≤ hi))) ∧ w = w' := by
  go_enter Try.func45, Try.ntmps45
  go_wp2
  · go_ret
    exact ⟨ret_bool (by simp [*]), rfl⟩
  · go_ret
    exact ⟨ret_bool (by simp; omega), rfl⟩
end Go.Proofs.Ytakdjiojahlnmaa
namespace Go.Proofs.Ytakdjiojahlnmaa
open Go.RowKit
/-- the blocks have been copied into a row of their own -/
def MadeBS (w : World) (xs : List Bl) (e : Ending) (w' : World) : Prop :=
  ∃ cs : Array Value, e = .returned (.slice (some ⟨w.heap.size, 0, none⟩) xs.length xs.length) ∧ Rw w' w.heap.size 75 cs ∧ Cs cs xs ∧ cs.size = xs.length * 3 ∧ Below w.heap.size w w'
end Go.Proofs.Ytakdjiojahlnmaa
namespace Go.Proofs.Ytakdjiojahlnmaa
open Go.RowKit
theorem MadeBS.reads {w w' : World} {xs : List Bl} {e : Ending} (h : MadeBS w xs e w') (hi : ∀ (k : Nat) (x : Bl), xs[k]? = some x → I64 x.s ∧ I64 x.z) :
    e = .returned (.slice (some ⟨w.heap.size, 0, none⟩) xs.length xs.length) ∧ BS w' w'.heap.size (some ⟨w.heap.size, 0, none⟩) xs.length xs ∧ Below w.heap.size w w' := by
  obtain ⟨cs, he, hr, hc, hs, hb⟩ := h
  exact ⟨he, BS.of_row hr hc hr.lt hi, hb⟩
theorem BS.up {w w' : World} {n : Nat} {A : Option Addr} {xs : List Bl} (h : BS w w.heap.size A n xs) (hb : Below w.heap.size w w') : BS w' w'.heap.size A n xs := (h.below hb).more hb.size
end Go.Proofs.Ytakdjiojahlnmaa
namespace Go.Proofs.Ytakdjiojahlnmaa
open Go.RowKit
set_option maxHeartbeats 1000000 in
theorem freeWords_any (A : Option Addr) (n c : Nat) (xs : List Bl) (t : Int) (w : World) (h : BS w w.heap.size A n xs) (hn : n ≤ 1099511627776) :
    Calls Try.prog 47 #[.slice A n c, .int .i64 t] w fun e w' => e = .returned (.int .i64 (Bks.freeW xs t)) ∧ Below w.heap.size w w' := by
  cases hv : Bks.validB xs t
  · have HR := Lib.hid (show Bks.freeW xs t = -1 by simp [Bks.freeW, hv])
    have HV := Lib.hid hv
    clear hv
    go_enter Try.func47, Try.ntmps47
    go_wp2_with fail
    refine (blocksValid_any _ _ _ xs _ _ h hn).mono ?_
    rw [HV.out]
    rintro e w1 ⟨rfl, b1⟩
    go_wp2_with fail
    go_ret
    exact ⟨by rw [HR.out]; rfl, b1⟩
  · have HR := Lib.hid (show Bks.freeW xs t = Bks.freeTo xs xs.length by simp [Bks.freeW, hv])
    have HV := Lib.hid hv
    have hlen := h.1
    clear hv
    subst hlen
    go_enter Try.func47, Try.ntmps47
    go_wp2_with fail
    refine (blocksValid_any _ _ _ xs _ _ h hn).mono ?_
    rw [HV.out]
    rintro e w1 ⟨rfl, b1⟩
    go_wp2_with fail
    go_loopw [5, 14] (fun a i wr => ∃ k : Nat, k ≤ xs.length ∧ i = .int .i64 k ∧ a = .int .i64 (Bks.freeTo xs k) ∧ Below w.heap.size w wr) (fun _ i _ => xs.length - (intOf i).toNat)
    case atStart => exact ⟨0, Nat.zero_le _, rfl, rfl, b1⟩
    case round =>
      obtain ⟨k, hk, rfl, rfl, hb⟩ := hrel
      obtain ⟨f0, f1, f3, f4, f2⟩ := Bks.free_range HV.out k hk
      by_cases hlt : k < xs.length
      · obtain ⟨g, o, x, rfl, hg, hx, ⟨i1, i2⟩, ⟨i3, i4⟩, c1, c2, c3⟩ := (h.below hb).at_ hlt
        obtain ⟨_, z1, z2, _⟩ := Bks.valid_at HV.out hx
        have HO := Lib.hid (Bks.freeTo_succ xs k x hx)
        clear hx
        cases hu : x.u
        all_goals
          rw [hu] at c3
          have HU := Lib.hid hu
          clear hu
          go_wp2
          go_roundw
          case rel => exact ⟨k + 1, by omega, by go_num, by rw [HO.out, HU.out]; simp <;> (split <;> omega), hb.alloc hb.size _⟩
          case measure => simp [intOf]; omega
      · have hkn : k = xs.length := by omega
        have HK := Lib.hid hkn
        clear hkn
        go_wp2
        go_ret
        exact ⟨by rw [HR.out, ← HK.out]; rfl, hb⟩
end Go.Proofs.Ytakdjiojahlnmaa
namespace Go.Proofs.Ytakdjiojahlnmaa
open Go.RowKit
theorem below_drewN {B : Nat} {a w : World} (h : Below B a w) (n : Nat) : Below B a (w.drewN n) := ⟨h.os, h.tape, h.output, h.size, h.block⟩
end Go.Proofs.Ytakdjiojahlnmaa
namespace Go.Proofs.Ytakdjiojahlnmaa
open Go.RowKit
/-- the cells of blocks -/
def flat : List Bl → List Value
  | [] => []
  | x :: xs => .int .i64 x.s :: .int .i64 x.z :: .bool x.u :: flat xs
theorem flat_length : ∀ xs : List Bl, (flat xs).length = xs.length * 3
  | [] => rfl
  | x :: xs => by simp [flat, flat_length xs]; omega
theorem flat_at : ∀ (xs : List Bl) (k : Nat) (x : Bl), xs[k]? = some x → (flat xs)[k * 3]? = some (.int .i64 x.s) ∧ (flat xs)[k * 3 + 1]? = some (.int .i64 x.z) ∧ (flat xs)[k * 3 + 2]? = some (.bool x.u)
  | [], k, x, h => by simp at h
  | y :: ys, 0, x, h => by
    simp at h
    subst h
    simp [flat]
  | y :: ys, k + 1, x, h => by
    have := flat_at ys k x (by simpa using h)
    have e : (k + 1) * 3 = k * 3 + 3 := by omega
    rw [e]
    simpa [flat] using this
/-- the value v owns the blocks xs, in a row of blocks from 'base' on -/
def OwnB (w : World) (base : Nat) (v : Value) (xs : List Bl) : Prop := w.ownsRow base 75 3 v xs.length (flat xs)
def AllI (xs : List Bl) : Prop := ∀ (k : Nat) (x : Bl), xs[k]? = some x → I64 x.s ∧ I64 x.z
theorem OwnB.form {w : World} {base : Nat} {v : Value} {xs : List Bl} (h : OwnB w base v xs) : ∃ A c, v = .slice A xs.length c ∧ (0 < xs.length → ∃ g, A = some ⟨g, 0, none⟩ ∧ base ≤ g ∧ g < w.heap.size) := by
  rcases h.2 with ⟨rfl, h0⟩ | ⟨g, cap, cur, rfl, hb, hh, _⟩
  · exact ⟨none, 0, by rw [h0], fun h => by omega⟩
  · exact ⟨some ⟨g, 0, none⟩, cap, rfl, fun _ => ⟨g, rfl, hb, (Array.getElem?_eq_some_iff.1 hh).1⟩⟩
theorem OwnB.reads {w : World} {base n c : Nat} {A : Option Addr} {xs : List Bl} (h : OwnB w base (.slice A n c) xs) (hi : AllI xs) : BS w w.heap.size A n xs := by
  rcases h.2 with ⟨e, h0⟩ | ⟨g, cap, cur, e, hb, hh, _⟩
  · injection e with e1 e2 e3
    subst e2
    have : xs = [] := List.eq_nil_of_length_eq_zero h0
    subst this
    exact ⟨rfl, hi, fun h => by omega⟩
  · injection e with e1 e2 e3
    subst e1 e2 e3
    refine ⟨rfl, hi, fun hn => ⟨g, 0, rfl, (Array.getElem?_eq_some_iff.1 hh).1, fun k x hx => ?_⟩⟩
    have hk : k < xs.length := (List.getElem?_eq_some_iff.1 hx).1
    obtain ⟨f1, f2, f3⟩ := flat_at xs k x hx
    have c1 := World.ownsRow.cellAt h (k * 3) (by omega)
    have c2 := World.ownsRow.cellAt h (k * 3 + 1) (by omega)
    have c3 := World.ownsRow.cellAt h (k * 3 + 2) (by omega)
    simp only [Nat.zero_add]
    exact ⟨c1.trans f1, c2.trans f2, c3.trans f3⟩
theorem OwnB.below {w w' : World} {base B : Nat} {v : Value} {xs : List Bl} (h : OwnB w base v xs) (hb : Below B w w') (hB : w.heap.size ≤ B) : OwnB w' base v xs := by
  refine ⟨h.1, ?_⟩
  rcases h.2 with h0 | ⟨g, cap, cur, e, hb', hh, hr⟩
  · exact .inl h0
  · exact .inr ⟨g, cap, cur, e, hb', (hb.block g (Nat.lt_of_lt_of_le (Array.getElem?_eq_some_iff.1 hh).1 hB)).trans hh, hr⟩
theorem OwnB.base {w : World} {base base' : Nat} {v : Value} {xs : List Bl} (h : OwnB w base v xs) (hb : base' ≤ base) : OwnB w base' v xs := by
  refine ⟨h.1, ?_⟩
  rcases h.2 with h0 | ⟨g, cap, cur, e, hb', hh, hr⟩
  · exact .inl h0
  · exact .inr ⟨g, cap, cur, e, by omega, hh, hr⟩
theorem OwnB.far {w w' : World} {base : Nat} {v : Value} {xs : List Bl} {row : Option Nat} (h : OwnB w base v xs) (hg : w.grownBy w' row) (hne : v.ownBlock = none ∨ v.ownBlock ≠ row) : OwnB w' base v xs := World.ownsRow.kept h hg hne
/-- the k-th mark and all of them -/
def markB (k : Int) (i : Nat) : Bl := ⟨k + 3 * i, k + 3 * i + 1, (k + 3 * i + 1 + 1) % 3 == 0⟩
def marks (k : Int) (n : Nat) : List Bl := (List.range n).map (markB k)
theorem only_put {a w : World} {g : Nat} (h : a.grownBy w (some g)) (i : Nat) (u : Value) : a.grownBy (w.setCell ⟨g, i, none⟩ u) (some g) :=
  ⟨h.os, h.tape, h.output, by simpa [World.setCell] using h.size, fun j hj hne => (Below.heap_setCell w _ u j (by rintro rfl; exact hne rfl)).trans (h.block j hj hne)⟩
theorem int_eq {a b : Int} (h : a = b) : Value.int .i64 a = .int .i64 b := by rw [h]
end Go.Proofs.Ytakdjiojahlnmaa
namespace Go.Proofs.Ytakdjiojahlnmaa
open Go.RowKit
theorem own_one (w : World) (a b : Int) (u : Bool) (base : Nat) (hb : base ≤ w.heap.size) : OwnB (w.alloc (.cells #[.int .i64 a, .int .i64 b, .bool u] 75)) base (.slice (some ⟨w.heap.size, 0, none⟩) 1 1) [⟨a, b, u⟩] := by
  have := World.ownsRow_lit (base := base) (e := 75) (size := 3) w #[.int .i64 a, .int .i64 b, .bool u] 1 hb (by unfold maxLen; omega) rfl
  exact this
end Go.Proofs.Ytakdjiojahlnmaa
namespace Go.Proofs.Ytakdjiojahlnmaa
open Go.RowKit
theorem BS.cells {w : World} {B g o n : Nat} {ys : List Bl} (h : BS w B (some ⟨g, o, none⟩) n ys) (j : Nat) (u : Value) (hj : (flat ys)[j]? = some u) : w.cell? ⟨g, o + j, none⟩ = some u := by
  have hl : j < (flat ys).length := (List.getElem?_eq_some_iff.1 hj).1
  rw [flat_length] at hl
  have hk : j / 3 < ys.length := by omega
  have hx : ys[j / 3]? = some ys[j / 3] := List.getElem?_eq_getElem hk
  obtain ⟨f1, f2, f3⟩ := flat_at ys (j / 3) _ hx
  have hn := h.1
  obtain ⟨g', o', e, _, hc⟩ := h.2.2 (by omega)
  injection e with e
  injection e with e1 e2
  subst e1 e2
  obtain ⟨c1, c2, c3⟩ := hc (j / 3) _ hx
  have hm : j % 3 = 0 ∨ j % 3 = 1 ∨ j % 3 = 2 := by omega
  rcases hm with hm | hm | hm
  · have e : j = j / 3 * 3 := by omega
    rw [e] at hj ⊢
    rw [f1] at hj
    replace hj := Option.some.inj hj
    rw [← hj]
    exact c1
  · have e : j = j / 3 * 3 + 1 := by omega
    rw [e] at hj ⊢
    rw [f2] at hj
    replace hj := Option.some.inj hj
    rw [← hj]
    exact c2
  · have e : j = j / 3 * 3 + 2 := by omega
    rw [e] at hj ⊢
    rw [f3] at hj
    replace hj := Option.some.inj hj
    rw [← hj]
    exact c3
theorem add_lit (g o j : Nat) : (⟨g, o, none⟩ : Addr).add j = ⟨g, o + j, none⟩ := by
  unfold Addr.add
  split
  · next h => subst h; rfl
  · rfl
theorem AllI.append {xs ys : List Bl} (h : AllI xs) (h' : AllI ys) : AllI (xs ++ ys) := by
  intro k x hx
  rcases Nat.lt_or_ge k xs.length with hk | hk
  · rw [List.getElem?_append_left hk] at hx
    exact h k x hx
  · rw [List.getElem?_append_right hk] at hx
    exact h' _ x hx
/-- the first k blocks -/
theorem BS.take {w : World} {B n k : Nat} {A : Option Addr} {xs : List Bl} (h : BS w B A n xs) (hk : k ≤ n) : BS w B A k (xs.take k) := by
  have hl := h.1
  refine ⟨by rw [List.length_take]; omega, fun j x hx => ?_, fun h0 => ?_⟩
  · rw [List.getElem?_take] at hx
    split at hx
    · exact h.2.1 j x hx
    · cases hx
  · obtain ⟨g, o, e, hb, hc⟩ := h.2.2 (by omega)
    refine ⟨g, o, e, hb, fun j x hx => ?_⟩
    rw [List.getElem?_take] at hx
    split at hx
    · exact hc j x hx
    · cases hx
/-- the blocks from the k-th on -/
theorem BS.drop {w : World} {B n k g o : Nat} {xs : List Bl} (h : BS w B (some ⟨g, o, none⟩) n xs) (hk : k ≤ n) : BS w B (some ⟨g, o + k * 3, none⟩) (n - k) (xs.drop k) := by
  have hl := h.1
  refine ⟨by rw [List.length_drop]; omega, fun j x hx => ?_, fun h0 => ?_⟩
  · rw [List.getElem?_drop] at hx
    exact h.2.1 _ x hx
  · obtain ⟨g', o', e, hb, hc⟩ := h.2.2 (by omega)
    injection e with e
    injection e with e1 e2
    subst e1 e2
    refine ⟨g, o + k * 3, rfl, hb, fun j x hx => ?_⟩
    rw [List.getElem?_drop] at hx
    have := hc (k + j) x hx
    rw [show o + k * 3 + j * 3 = o + (k + j) * 3 by omega]
    exact this
theorem OwnB.cap {w : World} {base n c : Nat} {A : Option Addr} {xs : List Bl} (h : OwnB w base (.slice A n c) xs) : n = xs.length ∧ n ≤ c := by
  rcases h.2 with ⟨e, h0⟩ | ⟨g, cap, cur, e, _, _, hc, _⟩
  · injection e with e1 e2 e3
    omega
  · injection e with e1 e2 e3
    omega
end Go.Proofs.Ytakdjiojahlnmaa
namespace Go.Proofs.Ytakdjiojahlnmaa
open Go.RowKit
/-- a slice of bytes that lies below block B -/
def Bytes (w : World) (B : Nat) (A : Option Addr) (m : Nat) : Prop :=
  0 < m → ∃ b o, A = some ⟨b, o, none⟩ ∧ b < B ∧ ∀ i, i < m → ∃ v : Int, 0 ≤ v ∧ v ≤ 255 ∧ w.cell? ⟨b, o + i, none⟩ = some (.int .u8 v)
theorem Bytes.keep {w w' : World} {B m : Nat} {A : Option Addr} (h : Bytes w B A m) (hk : ∀ p : Addr, p.block < B → w'.cell? p = w.cell? p) : Bytes w' B A m := fun hm => by
  obtain ⟨b, o, e, hb, hc⟩ := h hm
  refine ⟨b, o, e, hb, fun i hi => ?_⟩
  obtain ⟨v, h0, h1, h2⟩ := hc i hi
  exact ⟨v, h0, h1, (hk _ hb).trans h2⟩
/-- block g holds a reader that has read at most N times -/
def Rd (w : World) (g N : Nat) : Prop := ∃ (A : Option Addr) (m c p : Nat), Rw w g 108 #[.slice A m c, .int .i64 p] ∧ m ≤ 2000 ∧ p ≤ N ∧ Bytes w g A m
theorem Rd.lt {w : World} {g N : Nat} (h : Rd w g N) : g < w.heap.size := by
  obtain ⟨_, _, _, _, h, _⟩ := h
  exact h.lt
theorem Rd.more {w : World} {g N N' : Nat} (h : Rd w g N) (hN : N ≤ N') : Rd w g N' := by
  obtain ⟨A, m, c, p, h, h1, h2, h3⟩ := h
  exact ⟨A, m, c, p, h, h1, by omega, h3⟩
theorem Rd.below {w w' : World} {g N B : Nat} (h : Rd w g N) (hb : Below B w w') (hB : g < B) : Rd w' g N := by
  obtain ⟨A, m, c, p, h, h1, h2, h3⟩ := h
  exact ⟨A, m, c, p, h.keep hb hB, h1, h2, h3.keep fun q hq => hb.cell (by omega)⟩
/-- a number below n has been read; nothing but the reader has changed -/
def Picked (w : World) (g : Nat) (n : Int) (N : Nat) (e : Ending) (w' : World) : Prop :=
  ∃ r : Int, e = .returned (.int .i64 r) ∧ 0 ≤ r ∧ (r < n ∨ (n < 1 ∧ r = 0)) ∧ Rd w' g (N + 1) ∧ w.grownBy w' (some g)
/-- a reader whose bytes are told by F -/
def RdX (w : World) (g : Nat) (A : Option Addr) (m c p : Nat) (F : Nat → Int) : Prop :=
  Rw w g 108 #[.slice A m c, .int .i64 p] ∧ m ≤ 2000 ∧ (0 < m → ∃ b o, A = some ⟨b, o, none⟩ ∧ b < g ∧ ∀ i, i < m → 0 ≤ F i ∧ F i ≤ 255 ∧ w.cell? ⟨b, o + i, none⟩ = some (.int .u8 (F i)))
theorem Rd.told {w : World} {g N : Nat} (h : Rd w g N) : ∃ A m c p F, RdX w g A m c p F ∧ p ≤ N := by
  obtain ⟨A, m, c, p, hr, hm, hp, hb⟩ := h
  rcases Nat.eq_zero_or_pos m with h0 | h0
  · exact ⟨A, m, c, p, fun _ => 0, ⟨hr, hm, fun h => by omega⟩, hp⟩
  · obtain ⟨b, o, e, hbg, hc⟩ := hb h0
    obtain ⟨F, hF⟩ := Deep.choose_lt hc
    exact ⟨A, m, c, p, F, ⟨hr, hm, fun _ => ⟨b, o, e, hbg, hF⟩⟩, hp⟩
theorem RdX.rd {w : World} {g m c p N : Nat} {A : Option Addr} {F : Nat → Int} (h : RdX w g A m c p F) (hp : p ≤ N) : Rd w g N := by
  refine ⟨A, m, c, p, h.1, h.2.1, hp, fun h0 => ?_⟩
  obtain ⟨b, o, e, hb, hc⟩ := h.2.2 h0
  exact ⟨b, o, e, hb, fun i hi => ⟨F i, hc i hi⟩⟩
theorem RdX.below {w w' : World} {g m c p B : Nat} {A : Option Addr} {F : Nat → Int} (h : RdX w g A m c p F) (hb : Below B w w') (hB : g < B) : RdX w' g A m c p F := by
  refine ⟨h.1.keep hb hB, h.2.1, fun h0 => ?_⟩
  obtain ⟨b, o, e, hbg, hc⟩ := h.2.2 h0
  refine ⟨b, o, e, hbg, fun i hi => ?_⟩
  obtain ⟨h1, h2, h3⟩ := hc i hi
  exact ⟨h1, h2, (hb.cell (p := ⟨b, o + i, none⟩) (by show b < B; omega)).trans h3⟩
/-- what pick returns -/
def mixV (F : Nat → Int) (m p : Nat) : Int := F (p % m) * 131 + F ((p * 7 + 3) % m) * 1117 + p * 29 + (p / m : Nat) * 53
def pickV (F : Nat → Int) (m p : Nat) (n : Int) : Int :=
  if n < 1 ∨ m = 0 then 0 else if p < m then F p % n else (bits .xor .i64 (mixV F m p) (mixV F m p / 64)).tmod n
def PickedX (w : World) (g : Nat) (A : Option Addr) (m c p : Nat) (F : Nat → Int) (n : Int) (e : Ending) (w' : World) : Prop :=
  e = .returned (.int .i64 (pickV F m p n)) ∧ RdX w' g A m c (p + 1) F ∧ w.grownBy w' (some g)
theorem pickedX_of {w w' : World} {g m c p : Nat} {n : Int} {A : Option Addr} {F : Nat → Int} {r : Int} {k : Nat} (h : RdX w g A m c p F)
    (hr : r = pickV F m p n) (hw : w' = (w.setCell ⟨g, 1, none⟩ (.int .i64 ((p + 1 : Nat) : Int))).drewN k) : PickedX w g A m c p F n (.returned (.int .i64 r)) w' := by
  subst hw
  have hrow : Rw (w.setCell ⟨g, 1, none⟩ (.int .i64 ((p + 1 : Nat) : Int))) g 108 #[.slice A m c, .int .i64 ((p + 1 : Nat) : Int)] := h.1.put 1 _
  have hg : w.grownBy (w.setCell ⟨g, 1, none⟩ (.int .i64 ((p + 1 : Nat) : Int))) (some g) := only_put (World.grownBy.refl _ _) 1 _
  refine ⟨by rw [hr], ⟨hrow, h.2.1, fun h0 => ?_⟩, ⟨hg.os, hg.tape, hg.output, hg.size, hg.block⟩⟩
  obtain ⟨b, o, e, hbg, hc⟩ := h.2.2 h0
  refine ⟨b, o, e, hbg, fun i hi => ?_⟩
  obtain ⟨h1, h2, h3⟩ := hc i hi
  exact ⟨h1, h2, (World.cell?_setCell_other w ⟨g, 1, none⟩ ⟨b, o + i, none⟩ _ (fun e => by injection e with e1; omega)).trans h3⟩
theorem xor_nonneg (x y : Int) (hx : 0 ≤ x) (hx' : x < 9223372036854775808) (hy : 0 ≤ y) (hy' : y < 9223372036854775808) : 0 ≤ bits .xor .i64 x y := by
  obtain ⟨a, rfl⟩ := Int.eq_ofNat_of_zero_le hx
  obtain ⟨b, rfl⟩ := Int.eq_ofNat_of_zero_le hy
  have ea : (BitVec.ofInt 64 (a : Int)).toNat = a := by rw [BitVec.ofInt_natCast, BitVec.toNat_ofNat]; exact Nat.mod_eq_of_lt (by omega)
  have eb : (BitVec.ofInt 64 (b : Int)).toNat = b := by rw [BitVec.ofInt_natCast, BitVec.toNat_ofNat]; exact Nat.mod_eq_of_lt (by omega)
  have hlt : a ^^^ b < 2 ^ 63 := Nat.xor_lt_two_pow (by omega) (by omega)
  show 0 ≤ IntKind.i64.wrap ((BitVec.ofInt 64 (a : Int) ^^^ BitVec.ofInt 64 (b : Int)).toNat : Int)
  rw [BitVec.toNat_xor, ea, eb, IntKind.wrap_i64]
  omega
set_option maxHeartbeats 1000000 in
theorem pick_exact (g : Nat) (A : Option Addr) (m c p : Nat) (F : Nat → Int) (n : Int) (w : World) (hX : RdX w g A m c p F) (hp : p ≤ 1099511627776) (hn : n ≤ 1099511627776) :
    Calls Try.prog 77 #[.pointer (some ⟨g, 0, none⟩), .int .i64 n] w (PickedX w g A m c p F n) := by
  have HX := Lib.hid hX
  obtain ⟨hr, hm, hb⟩ := hX
  have c0 := hr.cell 0
  have c1 := hr.cell 1
  have f1 := hr.frozen 1
  simp at c0 c1
  by_cases hn1 : n < 1
  · go_enter Try.func77, Try.ntmps77
    go_wp2
    go_ret
    exact pickedX_of (k := 0) HX.out (by rw [pickV, if_pos (.inl hn1)]) rfl
  · rcases Nat.eq_zero_or_pos m with hm0 | hm0
    · subst hm0
      go_enter Try.func77, Try.ntmps77
      go_wp2
      go_ret
      exact pickedX_of (k := 0) HX.out (by rw [pickV, if_pos (.inr rfl)]) rfl
    · obtain ⟨b, o, rfl, hbg, hc⟩ := hb hm0
      have hmb : ((m : Int) == 0) = false := beq_eq_false_iff_ne.2 (by omega)
      have hnb : (n == 0) = false := beq_eq_false_iff_ne.2 (by omega)
      have hbne : b ≠ g := by omega
      by_cases hpm : p < m
      · have HV := Lib.hid (show pickV F m p n = F p % n by rw [pickV, if_neg (by omega), if_pos hpm])
        obtain ⟨v0, v1, hv⟩ := hc p hpm
        clear hc hb
        generalize F p = v at HV v0 v1 hv
        go_enter Try.func77, Try.ntmps77
        go_wp2
        go_ret
        exact pickedX_of (k := 0) HX.out HV.out.symm rfl
      · have HV := Lib.hid (show pickV F m p n = (bits .xor .i64 (mixV F m p) (mixV F m p / 64)).tmod n by rw [pickV, if_neg (by omega), if_neg hpm])
        have HM := Lib.hid (show mixV F m p = F (p % m) * 131 + F ((p * 7 + 3) % m) * 1117 + p * 29 + (p / m : Nat) * 53 from rfl)
        have l0 : p % m < m := Nat.mod_lt _ hm0
        have l1 : (p * 7 + 3) % m < m := Nat.mod_lt _ hm0
        have l2 : p / m ≤ p := Nat.div_le_self _ _
        have e1 : ((p : Int)).tmod m = (p % m : Nat) := by rw [Int.tmod_eq_emod_of_nonneg (by omega)]; omega
        have e4 : ((p : Int) * 7 + 3).tmod m = ((p * 7 + 3) % m : Nat) := by rw [Int.tmod_eq_emod_of_nonneg (by omega)]; rw [Int.natCast_emod]; congr 1
        have e5 : ((p : Int)).tdiv m = (p / m : Nat) := by rw [Int.tdiv_eq_ediv_of_nonneg (by omega)]; omega
        generalize p % m = i0 at l0 e1 HM
        generalize (p * 7 + 3) % m = i1 at l1 e4 HM
        generalize p / m = i2 at l2 e5 HM
        obtain ⟨v0, v1, hv⟩ := hc i0 l0
        obtain ⟨u0, u1, hu⟩ := hc i1 l1
        clear hc hb
        generalize F i0 = v at HM v0 v1 hv
        generalize F i1 = u at HM u0 u1 hu
        have l0' : (i0 : Int) < m := by omega
        have l1' : (i1 : Int) < m := by omega
        have e2 : IntKind.i64.wrap ((p : Int) * 7) = p * 7 := IntWalk.i64_in _ (by omega)
        have e3 : IntKind.i64.wrap ((p : Int) * 7 + 3) = p * 7 + 3 := IntWalk.i64_in _ (by omega)
        have e6 : IntKind.i64.wrap (v * 131) = v * 131 := IntWalk.i64_in _ (by omega)
        have e7 : IntKind.i64.wrap (u * 1117) = u * 1117 := IntWalk.i64_in _ (by omega)
        have e8 : IntKind.i64.wrap (v * 131 + u * 1117) = v * 131 + u * 1117 := IntWalk.i64_in _ (by omega)
        have e9 : IntKind.i64.wrap ((p : Int) * 29) = p * 29 := IntWalk.i64_in _ (by omega)
        have e10 : IntKind.i64.wrap (v * 131 + u * 1117 + p * 29) = v * 131 + u * 1117 + p * 29 := IntWalk.i64_in _ (by omega)
        have e11 : IntKind.i64.wrap ((i2 : Int) * 53) = i2 * 53 := IntWalk.i64_in _ (by omega)
        have e12 : IntKind.i64.wrap (v * 131 + u * 1117 + p * 29 + i2 * 53) = v * 131 + u * 1117 + p * 29 + i2 * 53 := IntWalk.i64_in _ (by omega)
        go_enter Try.func77, Try.ntmps77
        go_wp2_with fail
        go_quiet (fail)
        clear e1 e2 e3 e4 e5 e6 e7 e8 e9 e10 e11 e12
        go_wp2_with fail
        go_ret
        exact pickedX_of (k := nq) HX.out (by rw [HV.out, HM.out]) rfl
theorem pickV_range {w : World} {g m c p : Nat} {A : Option Addr} {F : Nat → Int} (h : RdX w g A m c p F) (hp : p ≤ 1099511627776) (n : Int) : 0 ≤ pickV F m p n ∧ (pickV F m p n < n ∨ (n < 1 ∧ pickV F m p n = 0)) := by
  unfold pickV
  split
  · next h0 => omega
  · next h0 =>
    have hm0 : 0 < m := by omega
    obtain ⟨b, o, _, _, hc⟩ := h.2.2 hm0
    split
    · exact ⟨Int.emod_nonneg _ (by omega), .inl (Int.emod_lt_of_pos _ (by omega))⟩
    · have f0 := hc (p % m) (Nat.mod_lt _ hm0)
      have f1 := hc ((p * 7 + 3) % m) (Nat.mod_lt _ hm0)
      have f2 : p / m ≤ p := Nat.div_le_self _ _
      have hmix : 0 ≤ mixV F m p ∧ mixV F m p < 4611686018427387904 := by
        unfold mixV
        generalize p / m = q at f2
        omega
      have hx := xor_nonneg (mixV F m p) (mixV F m p / 64) (by omega) (by omega) (by omega) (by omega)
      exact ⟨Int.tmod_nonneg _ hx, .inl (Int.tmod_lt_of_pos _ (by omega))⟩
theorem pick_any (g N : Nat) (n : Int) (w : World) (h : Rd w g N) (hN : N ≤ 1099511627776) (hn : n ≤ 1099511627776) :
    Calls Try.prog 77 #[.pointer (some ⟨g, 0, none⟩), .int .i64 n] w (Picked w g n N) := by
  obtain ⟨A, m, c, p, F, hX, hp⟩ := h.told
  refine (pick_exact g A m c p F n w hX (by omega) hn).mono ?_
  rintro e w' ⟨rfl, hX', hg⟩
  have hr := pickV_range hX (by omega) n
  exact ⟨_, rfl, hr.1, hr.2, hX'.rd (by omega), hg⟩
/-- whether an odd case is drawn -/
def Odded (w : World) (g : Nat) (N : Nat) (e : Ending) (w' : World) : Prop :=
  ∃ b : Bool, e = .returned (.bool b) ∧ Rd w' g (N + 1) ∧ w.grownBy w' (some g)
theorem odd_any (g N : Nat) (n : Int) (w : World) (h : Rd w g N) (hN : N ≤ 1099511627776) (hn1 : 1 ≤ n) (hn : n ≤ 1099511627776) :
    Calls Try.prog 79 #[.pointer (some ⟨g, 0, none⟩), .int .i64 n] w (Odded w g N) := by
  go_enter Try.func79, Try.ntmps79
  go_wp2_with fail
  refine (pick_any g N n _ h hN hn).mono ?_
  rintro e w1 ⟨r, rfl, r0, r1, hr, hg⟩
  have HR := Lib.hid r1
  clear r1
  go_wp2
  go_ret
  exact ⟨_, rfl, hr, hg⟩
/-- a reader of its own has been made -/
def Opened (w : World) (e : Ending) (w' : World) : Prop := e = .returned (.pointer (some ⟨w.heap.size, 0, none⟩)) ∧ Rd w' w.heap.size 0 ∧ Below w.heap.size w w'
theorem open_any (A : Option Addr) (n c : Nat) (w : World) (h : Bytes w w.heap.size A n) (hc : n ≤ c) (hn : n ≤ 9223372036854775807) :
    Calls Try.prog 38 #[.slice A n c] w (Opened w) := by
  by_cases h2 : n ≤ 2000
  · go_enter Try.func38, Try.ntmps38
    go_wp2
    go_ret
    exact ⟨rfl, ⟨A, n, c, 0, Rw.new _ _ _, h2, Nat.le_refl _, h.keep fun p hp => ((Below.refl w.heap.size w).alloc (Nat.le_refl _) _).cell hp⟩, (Below.refl _ _).alloc (Nat.le_refl _) _⟩
  · obtain ⟨b, o, rfl, hb, hcell⟩ := h (by omega)
    have HC := Lib.hid hcell
    clear hcell
    go_enter Try.func38, Try.ntmps38
    go_wp2
    go_ret
    exact ⟨rfl, ⟨_, 2000, c, 0, Rw.new _ _ _, Nat.le_refl _, Nat.le_refl _, fun _ => ⟨b, o, rfl, hb, fun i hi => by
      obtain ⟨v, a0, a1, a2⟩ := HC.out i (by omega)
      exact ⟨v, a0, a1, (((Below.refl w.heap.size w).alloc (Nat.le_refl _) _).cell (p := ⟨b, o + i, none⟩) hb).trans a2⟩⟩⟩, (Below.refl _ _).alloc (Nat.le_refl _) _⟩
end Go.Proofs.Ytakdjiojahlnmaa
namespace Go.Proofs.Ytakdjiojahlnmaa
open Go.RowKit
theorem alive_any (w : World) : Calls Try.prog 15 #[] w fun e w' => e = .returned (.bool true) ∧ Below w.heap.size w w' := by
  have ho := own_one w 0 3 false w.heap.size (Nat.le_refl _)
  have hi : AllI [⟨0, 3, false⟩] := by
    intro k x hx
    match k, hx with
    | 0, hx =>
      simp at hx
      subst hx
      unfold I64
      constructor <;> constructor <;> simp
    | k + 1, hx => simp at hx
  have hf : Bks.freeW [⟨0, 3, false⟩] 3 = 3 := by decide
  have HF := Lib.hid hf
  clear hf
  go_enter Try.func15, Try.ntmps15
  go_wp2_with fail
  refine (freeWords_any _ _ _ [⟨0, 3, false⟩] _ _ (ho.reads hi) (by omega)).mono ?_
  rw [HF.out]
  rintro e w1 ⟨rfl, b1⟩
  go_wp2_with fail
  go_ret
  exact ⟨rfl, ((Below.refl w.heap.size w).alloc (Nat.le_refl _) _).trans (b1.mono (by simp))⟩
end Go.Proofs.Ytakdjiojahlnmaa
namespace Go.Proofs.Ytakdjiojahlnmaa
open Go.RowKit
def upd (L : Nat → Bool) (i k : Nat) : Bool := if k = i then true else L k
theorem upd_ne {L : Nat → Bool} {i k : Nat} (h : upd L i k = true) (hne : k ≠ i) : L k = true := by
  unfold upd at h
  rw [if_neg hne] at h
  exact h
theorem upd_other {L : Nat → Bool} {i k : Nat} (hne : k ≠ i) : upd L i k = L k := by
  unfold upd
  rw [if_neg hne]
theorem upd_self {L : Nat → Bool} {i : Nat} : upd L i i = true := by simp [upd]
/-- a fact about an operation that is carried out stays behind another one -/
theorem kp {L : Nat → Bool} {i k : Nat} {P : Prop} (f : L k = true → P) (hne : k ≠ i := by decide) (h : upd L i k = true) : P := f (upd_ne h hne)
def depsB (ops : Array Oper) : Bool := (List.range ops.size).all fun i => ((ops[i]?).map (·.after.all fun e => !Region.binds .any e || decide (e.on < i))).getD true
section
variable {P : Program} {ops : Array Oper} {Q : Exit → Act → World → Prop}
def unl (listed : Array Bool) (n : Nat) : List Nat := (List.range n).filter fun i => !listed.getD i true
theorem ready_unl {listed : Array Bool} {i : Nat} (h : i ∈ Region.ready .any ops listed) : i ∈ unl listed ops.size := by
  unfold Region.ready at h
  unfold unl
  rw [List.mem_filter] at h ⊢
  refine ⟨h.1, ?_⟩
  have := h.2
  simp at this
  simp [this.1]
theorem all_listed (hd : depsB ops = true) {listed : Array Bool} (hs : listed.size = ops.size) (hr : Region.ready .any ops listed = []) : ∀ i, i < ops.size → listed.getD i false = true := by
  intro i
  induction i using Nat.strongRecOn with
  | _ i ih =>
    intro hi
    cases hl : listed.getD i false
    · exfalso
      have hmem : i ∈ Region.ready .any ops listed := by
        unfold Region.ready
        rw [List.mem_filter]
        refine ⟨by simpa using hi, ?_⟩
        have e1 : listed.getD i true = false := by
          rw [Array.getD_eq_getD_getElem?] at hl ⊢
          rw [Array.getElem?_eq_getElem (by omega)] at hl ⊢
          simpa using hl
        rw [e1]
        simp only [Bool.not_false, Bool.true_and]
        unfold depsB at hd
        rw [List.all_eq_true] at hd
        have := hd i (by simpa using hi)
        rw [Array.getElem?_eq_getElem hi] at this ⊢
        simp only [Option.map_some, Option.getD_some] at this ⊢
        rw [Array.all_eq_true_iff_forall_mem] at this ⊢
        intro e he
        have hb := this e he
        cases hbi : Region.binds .any e
        · rfl
        · rw [hbi] at hb
          simp at hb
          simp only [Bool.not_true, Bool.false_or]
          exact ih e.on hb (by omega)
      rw [hr] at hmem
      cases hmem
    · rfl
theorem unl_set {listed : Array Bool} {n i : Nat} (h : i ∈ unl listed n) (hs : listed.size = n) : (unl (listed.setIfInBounds i true) n).length < (unl listed n).length := by
  have hsub : unl (listed.setIfInBounds i true) n = (unl listed n).filter (fun j => decide (j ≠ i)) := by
    unfold unl
    rw [List.filter_filter]
    apply List.filter_congr
    intro j hj
    have hj' : j < n := by simpa using hj
    rw [Array.getD_eq_getD_getElem?, Array.getD_eq_getD_getElem?, Array.getElem?_setIfInBounds]
    by_cases e : i = j
    · subst e
      simp [hs, hj']
    · rw [if_neg e]
      have e' : ¬ j = i := fun h => e h.symm
      simp [e']
  rw [hsub]
  exact List.length_filter_lt_length_iff_exists.2 ⟨i, h, by simp⟩
theorem wpAny_inv (hd : depsB ops = true) (Inv : (Nat → Bool) → Act → World → Prop)
    (hstep : ∀ (L : Nat → Bool) (a : Act) (w : World) (i : Nat) (o : Oper), ops[i]? = some o → L i = false → (∀ e ∈ o.after, Region.binds .any e = true → L e.on = true) → Inv L a w → wpOp P ops Q i (Inv (upd L i)) a w)
    (hdone : ∀ (L : Nat → Bool) (a : Act) (w : World), (∀ i, i < ops.size → L i = true) → Inv L a w → Q .normal a w) :
    ∀ (fuel : Nat) (listed : Array Bool) (a : Act) (w : World), listed.size = ops.size → (unl listed ops.size).length ≤ fuel → Inv (fun i => listed.getD i false) a w → wpAny P .any ops Q fuel listed a w
  | 0, listed, a, w, hs, hf, hI => by
    have hr : Region.ready .any ops listed = [] := by
      cases h : Region.ready .any ops listed with
      | nil => rfl
      | cons i is =>
        have := ready_unl (ops := ops) (listed := listed) (i := i) (by rw [h]; simp)
        have hz : unl listed ops.size = [] := List.eq_nil_of_length_eq_zero (by omega)
        rw [hz] at this
        cases this
    exact ⟨hr, hdone _ a w (all_listed hd hs hr) hI⟩
  | fuel + 1, listed, a, w, hs, hf, hI => by
    refine ⟨fun hr => hdone _ a w (all_listed hd hs hr) hI, fun i hi => ?_⟩
    have hu := ready_unl hi
    have hlt := unl_set hu hs
    unfold Region.ready at hi
    rw [List.mem_filter] at hi
    obtain ⟨hi1, hi2⟩ := hi
    have hi1' : i < ops.size := by simpa using hi1
    rw [Array.getElem?_eq_getElem hi1'] at hi2
    simp only [Option.map_some, Option.getD_some, Bool.and_eq_true, Bool.not_eq_true'] at hi2
    refine wpOp_mono (K := Inv (upd (fun i => listed.getD i false) i)) (fun a' w' h' => ?_) (hstep _ a w i ops[i] (Array.getElem?_eq_getElem hi1') ?_ ?_ hI)
    · refine wpAny_inv hd Inv hstep hdone fuel _ a' w' (by simpa using hs) (by omega) ?_
      have e : (fun j => (listed.setIfInBounds i true).getD j false) = upd (fun i => listed.getD i false) i := by
        funext j
        unfold upd
        rw [Array.getD_eq_getD_getElem?, Array.getElem?_setIfInBounds]
        by_cases e : i = j
        · subst e
          simp [hs, hi1']
        · rw [if_neg e, if_neg (fun h => e h.symm), ← Array.getD_eq_getD_getElem?]
      rw [e]
      exact h'
    · have := hi2.1
      rw [Array.getD_eq_getD_getElem?, Array.getElem?_eq_getElem (by omega)] at this ⊢
      simpa using this
    · intro e he hb
      have := (Array.all_eq_true_iff_forall_mem.1 hi2.2) e he
      rw [hb] at this
      simpa using this
/-- a region, by what holds between its operations -/
theorem wp_region_inv {id : Nat} {a : Act} {w : World} (hm : P.follows .mixedOrders = true) (hd : depsB ops = true) (Inv : (Nat → Bool) → Act → World → Prop)
    (h0 : Inv (fun _ => false) a w.drew)
    (hstep : ∀ (L : Nat → Bool) (a : Act) (w : World) (i : Nat) (o : Oper), ops[i]? = some o → L i = false → (∀ e ∈ o.after, Region.binds .any e = true → L e.on = true) → Inv L a w → wpOp P ops Q i (Inv (upd L i)) a w)
    (hdone : ∀ (L : Nat → Bool) (a : Act) (w : World), (∀ i, i < ops.size → L i = true) → Inv L a w → Q .normal a w) : (Code.region id ops true).wp P Q a w := by
  refine wp_region_any hm (wpAny_inv hd Inv hstep hdone _ _ _ _ (by simp) ?_ ?_)
  · unfold unl
    exact Nat.le_trans (List.length_filter_le _ _) (by simp)
  · have e : (fun i => (Array.replicate ops.size false).getD i false) = fun _ => false := by
      funext j
      rw [Array.getD_eq_getD_getElem?]
      rcases Nat.lt_or_ge j ops.size with h | h
      · simp [h]
      · rw [Array.getElem?_eq_none (by simpa using h)]
        rfl
    rw [e]
    exact h0
end
/-- a row of n numbers in lo..hi, in block g, which is not the reader's -/
def Tbl (w : World) (gr g n : Nat) (lo hi : Int) : Prop := g ≠ gr ∧ g < w.heap.size ∧ ∀ j, j < n → ∃ q : Int, w.cell? ⟨g, j, none⟩ = some (.int .i64 q) ∧ lo ≤ q ∧ q ≤ hi
theorem Tbl.alloc {w : World} {gr g n : Nat} {lo hi : Int} (h : Tbl w gr g n lo hi) (o : Obj) : Tbl (w.alloc o) gr g n lo hi := by
  refine ⟨h.1, by have := h.2.1; simp; omega, fun j hj => ?_⟩
  obtain ⟨q, hq, hb⟩ := h.2.2 j hj
  exact ⟨q, (((Below.refl w.heap.size w).alloc (Nat.le_refl _) o).cell (p := ⟨g, j, none⟩) h.2.1).trans hq, hb⟩
theorem Tbl.pick {w w' : World} {gr g n : Nat} {lo hi : Int} (h : Tbl w gr g n lo hi) (hg : w.grownBy w' (some gr)) : Tbl w' gr g n lo hi := by
  refine ⟨h.1, Nat.lt_of_lt_of_le h.2.1 hg.size, fun j hj => ?_⟩
  obtain ⟨q, hq, hb⟩ := h.2.2 j hj
  exact ⟨q, (World.cell?_of_block (hg.block g h.2.1 (fun e => h.1 (by injection e)))).trans hq, hb⟩
theorem Tbl.new (w : World) (gr : Nat) (t : TypeId) (qs : List Int) (lo hi : Int) (hgr : gr < w.heap.size) (h : ∀ q ∈ qs, lo ≤ q ∧ q ≤ hi) (cs : Array Value) (hc : cs = (qs.map (Value.int .i64)).toArray) : Tbl (w.alloc (.cells cs t)) gr w.heap.size qs.length lo hi := by
  subst hc
  refine ⟨by omega, by simp, fun j hj => ⟨qs[j], ?_, h _ (List.getElem_mem hj)⟩⟩
  rw [(Rw.new w t _).cell j]
  simp [hj]
/-- the relations that a slot's value may bear -/
def IntIn (lo hi : Int) (v : Value) : Prop := ∃ q : Int, v = .int .i64 q ∧ lo ≤ q ∧ q ≤ hi
def TblOf (w : World) (gr n : Nat) (lo hi : Int) (v : Value) : Prop := ∃ g, v = .slice (some ⟨g, 0, none⟩) n n ∧ Tbl w gr g n lo hi
def PtrOf (w : World) (gr n : Nat) (lo hi : Int) (v : Value) : Prop := ∃ g j, v = .pointer (some ⟨g, j, none⟩) ∧ j < n ∧ Tbl w gr g n lo hi
theorem TblOf.alloc {w : World} {gr n : Nat} {lo hi : Int} {v : Value} (h : TblOf w gr n lo hi v) (o : Obj) : TblOf (w.alloc o) gr n lo hi v := by
  obtain ⟨g, e, h⟩ := h
  exact ⟨g, e, h.alloc o⟩
theorem TblOf.pick {w w' : World} {gr n : Nat} {lo hi : Int} {v : Value} (h : TblOf w gr n lo hi v) (hg : w.grownBy w' (some gr)) : TblOf w' gr n lo hi v := by
  obtain ⟨g, e, h⟩ := h
  exact ⟨g, e, h.pick hg⟩
theorem PtrOf.alloc {w : World} {gr n : Nat} {lo hi : Int} {v : Value} (h : PtrOf w gr n lo hi v) (o : Obj) : PtrOf (w.alloc o) gr n lo hi v := by
  obtain ⟨g, j, e, hj, h⟩ := h
  exact ⟨g, j, e, hj, h.alloc o⟩
theorem PtrOf.pick {w w' : World} {gr n : Nat} {lo hi : Int} {v : Value} (h : PtrOf w gr n lo hi v) (hg : w.grownBy w' (some gr)) : PtrOf w' gr n lo hi v := by
  obtain ⟨g, j, e, hj, h⟩ := h
  exact ⟨g, j, e, hj, h.pick hg⟩
end Go.Proofs.Ytakdjiojahlnmaa

namespace Go.Proofs.Ytakdjiojahlnmaa
open Go.RowKit
/-- the slice value '.slice A n _' reads as the numbers xs, and lies below block B -/
def IS (w : World) (B : Nat) (A : Option Addr) (n : Nat) (xs : List Int) : Prop :=
  xs.length = n ∧ (0 < n → ∃ g o, A = some ⟨g, o, none⟩ ∧ g < B ∧ ∀ (k : Nat) (b : Int), xs[k]? = some b → w.cell? ⟨g, o + k, none⟩ = some (.int .i64 b))
section
variable {w w' : World} {B B' n : Nat} {A : Option Addr} {xs : List Int}
theorem IS.keep (h : IS w B A n xs) (hk : ∀ p : Addr, p.block < B → w'.cell? p = w.cell? p) : IS w' B A n xs :=
  ⟨h.1, fun hn => by
    obtain ⟨g, o, e, hb, hc⟩ := h.2 hn
    exact ⟨g, o, e, hb, fun k x hx => (hk _ hb).trans (hc k x hx)⟩⟩
theorem IS.more (h : IS w B A n xs) (hB : B ≤ B') : IS w B' A n xs :=
  ⟨h.1, fun hn => by
    obtain ⟨g, o, e, hb, hc⟩ := h.2 hn
    exact ⟨g, o, e, by omega, hc⟩⟩
theorem IS.below (h : IS w B A n xs) (hb : Below B w w') : IS w' B A n xs := h.keep fun _ hp => hb.cell hp
theorem IS.up {w w' : World} {n : Nat} {A : Option Addr} {xs : List Int} (h : IS w w.heap.size A n xs) (hb : Below w.heap.size w w') : IS w' w'.heap.size A n xs := (h.below hb).more hb.size
theorem IS.at_ {k : Nat} (h : IS w B A n xs) (hk : k < n) : ∃ g o b, A = some ⟨g, o, none⟩ ∧ g < B ∧ xs[k]? = some b ∧ w.cell? ⟨g, o + k, none⟩ = some (.int .i64 b) := by
  obtain ⟨g, o, e, hb, hc⟩ := h.2 (by omega)
  have hl : k < xs.length := by have := h.1; omega
  have hx := List.getElem?_eq_getElem hl
  exact ⟨g, o, _, e, hb, hx, hc k _ hx⟩
end
/-- the value v owns the numbers xs, in a row from block 'base' on -/
def OwnI (w : World) (base : Nat) (v : Value) (xs : List Int) : Prop := w.ownsRow base 3 1 v xs.length (xs.map (.int .i64))
theorem OwnI.form {w : World} {base : Nat} {v : Value} {xs : List Int} (h : OwnI w base v xs) : ∃ A c, v = .slice A xs.length c ∧ (0 < xs.length → ∃ g, A = some ⟨g, 0, none⟩ ∧ base ≤ g ∧ g < w.heap.size) := by
  rcases h.2 with ⟨rfl, h0⟩ | ⟨g, cap, cur, rfl, hb, hh, _⟩
  · exact ⟨none, 0, by rw [h0], fun h => by omega⟩
  · exact ⟨some ⟨g, 0, none⟩, cap, rfl, fun _ => ⟨g, rfl, hb, (Array.getElem?_eq_some_iff.1 hh).1⟩⟩
theorem OwnI.reads {w : World} {base n c : Nat} {A : Option Addr} {xs : List Int} (h : OwnI w base (.slice A n c) xs) : IS w w.heap.size A n xs := by
  rcases h.2 with ⟨e, h0⟩ | ⟨g, cap, cur, e, hb, hh, _⟩
  · injection e with e1 e2 e3
    subst e2
    have : xs = [] := List.eq_nil_of_length_eq_zero h0
    subst this
    exact ⟨rfl, fun h => by omega⟩
  · injection e with e1 e2 e3
    subst e1 e2 e3
    refine ⟨rfl, fun hn => ⟨g, 0, rfl, (Array.getElem?_eq_some_iff.1 hh).1, fun k x hx => ?_⟩⟩
    have hk : k < xs.length := (List.getElem?_eq_some_iff.1 hx).1
    have c1 := World.ownsRow.cellAt h k (by omega)
    rw [Nat.zero_add]
    refine c1.trans ?_
    rw [List.getElem?_map, hx]
    rfl
theorem OwnI.below {w w' : World} {base B : Nat} {v : Value} {xs : List Int} (h : OwnI w base v xs) (hb : Below B w w') (hB : w.heap.size ≤ B) : OwnI w' base v xs := by
  refine ⟨h.1, ?_⟩
  rcases h.2 with h0 | ⟨g, cap, cur, e, hb', hh, hr⟩
  · exact .inl h0
  · exact .inr ⟨g, cap, cur, e, hb', (hb.block g (Nat.lt_of_lt_of_le (Array.getElem?_eq_some_iff.1 hh).1 hB)).trans hh, hr⟩
theorem OwnI.base {w : World} {base base' : Nat} {v : Value} {xs : List Int} (h : OwnI w base v xs) (hb : base' ≤ base) : OwnI w base' v xs := by
  refine ⟨h.1, ?_⟩
  rcases h.2 with h0 | ⟨g, cap, cur, e, hb', hh, hr⟩
  · exact .inl h0
  · exact .inr ⟨g, cap, cur, e, by omega, hh, hr⟩
theorem OwnI.far {w w' : World} {base : Nat} {v : Value} {xs : List Int} {row : Option Nat} (h : OwnI w base v xs) (hg : w.grownBy w' row) (hne : v.ownBlock = none ∨ v.ownBlock ≠ row) : OwnI w' base v xs := World.ownsRow.kept h hg hne
theorem OwnI.cast {w : World} {base : Nat} {v : Value} {xs ys : List Int} (e : xs = ys) (h : OwnI w base v xs) : OwnI w base v ys := e ▸ h
theorem OwnI.cap {w : World} {base n c : Nat} {A : Option Addr} {xs : List Int} (h : OwnI w base (.slice A n c) xs) : n = xs.length ∧ n ≤ c := by
  rcases h.2 with ⟨e, h0⟩ | ⟨g, cap, cur, e, _, _, hc, _⟩
  · injection e with e1 e2 e3
    omega
  · injection e with e1 e2 e3
    omega
theorem own_noneI (w : World) (base : Nat) (hb : base ≤ w.heap.size) : OwnI (w.alloc (.cells #[] 3)) base (.slice (some ⟨w.heap.size, 0, none⟩) 0 0) [] :=
  World.ownsRow_lit (base := base) (e := 3) (size := 1) w #[] 0 hb (by unfold maxLen; omega) rfl
theorem own_oneI (w : World) (b : Int) (base : Nat) (hb : base ≤ w.heap.size) : OwnI (w.alloc (.cells #[.int .i64 b] 3)) base (.slice (some ⟨w.heap.size, 0, none⟩) 1 1) [b] :=
  World.ownsRow_lit (base := base) (e := 3) (size := 1) w #[.int .i64 b] 1 hb (by unfold maxLen; omega) rfl
/-- all numbers fit -/
def AllN (xs : List Int) : Prop := ∀ (k : Nat) (v : Int), xs[k]? = some v → I64 v
theorem AllN.append {xs ys : List Int} (h : AllN xs) (h2 : AllN ys) : AllN (xs ++ ys) := by
  intro k v hv
  rcases Nat.lt_or_ge k xs.length with h1 | h1
  · rw [List.getElem?_append_left h1] at hv
    exact h k v hv
  · rw [List.getElem?_append_right h1] at hv
    exact h2 _ v hv
/-- one word of an owned row is written -/
theorem OwnI.put {w : World} {base g c j : Nat} {xs : List Int} (h : OwnI w base (.slice (some ⟨g, 0, none⟩) xs.length c) xs) (b : Int) :
    OwnI (w.setCell ⟨g, j, none⟩ (.int .i64 b)) base (.slice (some ⟨g, 0, none⟩) xs.length c) (xs.set j b) := by
  have := (World.ownsRow.stored h j (.int .i64 b)).1
  unfold OwnI
  rw [List.length_set, List.map_set]
  exact this
theorem info_int : (Try.prog.info? 3).map (fun i => (i.zero, i.size, i.bytes)) = some (some (.int .i64 0), 1, 8) := by kernel_rfl
theorem run_appendI (w : World) (base : Nat) (v : Value) (xs : List Int) (hown : OwnI w base v xs) (A : Option Addr) (m c B : Nat) (ys : List Int) (hr : IS w B A m ys) (hn : xs.length + m ≤ 1099511627776) (hbase : base ≤ w.heap.size) (ty : TypeId) :
    ∃ v' w', (Builtin.append_ #[24, 24] ty #[v, .slice A m c]).run Try.prog w = .ok v' w' ∧ OwnI w' base v' (xs ++ ys) ∧ w.grownBy w' v.ownBlock ∧ (v'.ownBlock = v.ownBlock ∨ v'.ownBlock = some w.heap.size) := by
  obtain ⟨i0, hi0, hz0, hz1, hz2⟩ := info_parts info_int
  have hm := hr.1
  rcases A with _ | ad
  · have h0 : m = 0 := by
      rcases Nat.eq_zero_or_pos m with h0 | h0
      · exact h0
      · obtain ⟨g, o, e, _⟩ := hr.2 h0
        cases e
    subst h0
    have : ys = [] := List.eq_nil_of_length_eq_zero hm
    subst this
    refine ⟨v, w, ?_, by simpa using hown, World.grownBy.refl _ _, .inl rfl⟩
    rcases hown.2 with ⟨rfl, _⟩ | ⟨g, cap, cur, rfl, _, _, hnc, _⟩
    · simp [Builtin.append_, run_underlying Try.underlying24, sizeOf, typeInfo, hi0, Builtin.lenOf, Builtin.firstCells]
    · simp [Builtin.append_, run_underlying Try.underlying24, sizeOf, typeInfo, hi0, Builtin.lenOf, Builtin.firstCells, hnc, storeCells]
  · have hcells : ∀ j u, (ys.map (Value.int .i64))[j]? = some u → w.cell? (ad.add j) = some u := by
      intro j u hj
      rcases Nat.eq_zero_or_pos m with h0 | h0
      · subst h0
        have : ys = [] := List.eq_nil_of_length_eq_zero hm
        subst this
        simp at hj
      · obtain ⟨g, o, e, _, hc⟩ := hr.2 h0
        replace e := Option.some.inj e
        subst e
        rw [add_lit]
        rw [List.getElem?_map] at hj
        cases hy : ys[j]? with
        | none => rw [hy] at hj; cases hj
        | some b =>
          rw [hy] at hj
          replace hj := Option.some.inj hj
          subst hj
          exact hc j b hy
    obtain ⟨v', w', hrun, h2, h3, _, h5⟩ := run_append_own_at (P := Try.prog) w base 24 ty 3 i0 _ 1 8 Try.underlying24 hi0 hz0 hz1 hz2 rfl (by omega) v xs.length (xs.map (.int .i64)) hown ad m c (ys.map (.int .i64))
      (by rw [List.length_map, hm]; omega) hcells (by intro u hu; obtain ⟨b, _, rfl⟩ := List.mem_map.1 hu; rfl) (by unfold maxLen; omega) (by omega) hbase
    refine ⟨v', w', hrun, ?_, h3, h5⟩
    unfold OwnI
    rw [List.map_append, List.length_append, hm]
    exact h2
theorem wpList_appendI {w : World} {ops : Array Oper} {rest : List Oper} {o : Oper} {a : Act} {Q : Exit → Act → World → Prop} (hgd : o.guard = none) (s x : Operand)
    (ho : o.op = .call { callee := .builtin .append, args := #[s, x], argTypes := #[24, 24] })
    (base : Nat) (v : Value) (xs : List Int) (hs : a.eval s = v) (hown : OwnI w base v xs) (A : Option Addr) (m c B : Nat) (ys : List Int) (hx : a.eval x = .slice A m c) (hr : IS w B A m ys)
    (hn : xs.length + m ≤ 1099511627776) (hbase : base ≤ w.heap.size)
    (h : ∀ v' w', OwnI w' base v' (xs ++ ys) → w.grownBy w' v.ownBlock → (v'.ownBlock = v.ownBlock ∨ v'.ownBlock = some w.heap.size) → wpList Try.prog ops Q rest (a.put o.dst v') w') : wpList Try.prog ops Q (o :: rest) a w :=
  wpList_plain hgd fun _ hK => by
    obtain ⟨v', w', hrun, h2, h3, h4⟩ := run_appendI w base v xs hown A m c B ys hr hn hbase o.type
    unfold Oper.wp execOp
    simp only [ho, resolve, invoke, builtin, Sem.run_bind, Sem.run_pure, Result.andThen_ok, List.map_toArray, List.map_cons, List.map_nil, hs, hx, hrun]
    exact hK _ _ (h v' w' h2 h3 h4)
/-- numbers of the call's own -/
def GaveI (w : World) (xs : List Int) (e : Ending) (w' : World) : Prop := ∃ v, e = .returned v ∧ OwnI w' w.heap.size v xs ∧ Below w.heap.size w w'
theorem take_eq_succI {xs ys : List Int} {k : Nat} {a : Int} (h : xs.take k = ys.take k) (hx : xs[k]? = some a) (hy : ys[k]? = some a) : xs.take (k + 1) = ys.take (k + 1) := by
  rw [List.take_add_one, List.take_add_one, h, hx, hy]
theorem sameInts_any (A B : Option Addr) (n m c d : Nat) (xs ys : List Int) (w : World) (h : IS w w.heap.size A n xs) (h' : IS w w.heap.size B m ys) (hn : n ≤ 1099511627776) (hm : m ≤ 1099511627776) :
    Calls Try.prog 48 #[.slice A n c, .slice B m d] w fun e w' => e = .returned (.bool (decide (xs = ys))) ∧ Below w.heap.size w w' := by
  have HL := Lib.hid h.1
  have HL' := Lib.hid h'.1
  by_cases hnm : n = m
  · subst hnm
    go_enter Try.func48, Try.ntmps48
    go_wp2
    go_loopw [5] (fun i wr => ∃ (k : Nat), k ≤ n ∧ i = .int .i64 k ∧ Hid (xs.take k = ys.take k) ∧ Below w.heap.size w wr) (fun i _ => n - (intOf i).toNat)
    case atStart => exact ⟨0, Nat.zero_le _, rfl, by simp [Hid], Below.refl _ _⟩
    case round =>
      obtain ⟨k, hk, rfl, hpre, hb⟩ := hrel
      by_cases hlt : k < n
      · obtain ⟨g, o, x, rfl, hg, hx, c1⟩ := (h.below hb).at_ hlt
        obtain ⟨g', o', y, rfl, hg', hx', c1'⟩ := (h'.below hb).at_ hlt
        have HX := Lib.hid hx
        have HX' := Lib.hid hx'
        have hlt' : (k : Int) < n := by omega
        clear hx hx'
        by_cases hxy : x = y
        · subst hxy
          go_wp2_with fail
          go_quiet (fail)
          go_wp2
          go_roundw
          case rel => exact ⟨k + 1, by omega, by go_num, Lib.hid (take_eq_succI hpre.out HX.out HX'.out), below_drewN hb _⟩
          case measure => simp [intOf]; omega
        · have hne : (x == y) = false := by rw [beq_eq_false_iff_ne]; exact hxy
          have hne2 : (x != y) = true := by rw [bne_iff_ne]; exact hxy
          have HNE := Lib.hid (show xs ≠ ys from fun e => hxy (by
            have a := HX.out
            have b := HX'.out
            rw [e, b] at a
            exact (Option.some.inj a).symm))
          clear hxy
          go_wp2_with fail
          go_quiet (fail)
          go_wp2
          go_ret
          exact ⟨ret_bool (decide_eq_false HNE.out).symm, below_drewN hb _⟩
      · have hkn : k = n := by omega
        have HK := Lib.hid hkn
        clear hkn
        go_wp2
        go_ret
        refine ⟨ret_bool ?_, hb⟩
        have hp := hpre.out
        rw [HK.out, List.take_of_length_le (by rw [HL.out]; omega), List.take_of_length_le (by rw [HL'.out]; omega)] at hp
        simp [hp]
  · have hne : ((n : Int) != m) = true := by rw [bne_iff_ne]; omega
    have HN := Lib.hid hnm
    clear hnm
    go_enter Try.func48, Try.ntmps48
    go_wp2
    go_ret
    refine ⟨ret_bool ?_, Below.refl _ _⟩
    simp
    rintro rfl
    exact HN.out (HL.out.symm.trans HL'.out)
theorem OwnI.put' {w : World} {base g c j n : Nat} {xs : List Int} (h : OwnI w base (.slice (some ⟨g, 0, none⟩) n c) xs) (hn : xs.length = n) (b : Int) :
    OwnI (w.setCell ⟨g, j, none⟩ (.int .i64 b)) base (.slice (some ⟨g, 0, none⟩) n c) (xs.set j b) := by
  subst hn
  exact h.put b
theorem OwnI.frozen {w : World} {base g c n : Nat} {xs : List Int} (h : OwnI w base (.slice (some ⟨g, 0, none⟩) n c) xs) (hn : xs.length = n) (i : Nat) : w.frozen? ⟨g, i, none⟩ = false := by
  subst hn
  exact World.ownsRow.frozenAt h i
theorem madeI_eq (n : Nat) : madeCells (Value.int .i64 0).cells n = Array.replicate n (.int .i64 0) := by
  apply Array.ext
  · simp [madeCells, Value.cells]
  · intro i h1 h2
    simp [madeCells, Value.cells, Nat.mod_one]
theorem makeI (W : World) (n : Nat) (hn : n ≤ 1099511627776) : (Instr.makeSlice 24 (.int .i64 n) (.int .i64 n)).run Try.prog W = .ok (.slice (some ⟨W.heap.size, 0, none⟩) n n) (W.alloc (.cells (Array.replicate n (.int .i64 0)) 3)) := by
  obtain ⟨i0, hi0, hz0, hz1, hz2⟩ := info_parts info_int
  have := run_make (P := Try.prog) W 24 3 i0 _ Try.underlying24 hi0 hz0 .i64 .i64 n n (by omega) (by omega) (by rw [hz2]; omega) (by omega)
  rw [hz1] at this
  rw [← madeI_eq]
  simpa using this
end Go.Proofs.Ytakdjiojahlnmaa
namespace Go.Proofs.Ytakdjiojahlnmaa
/-- a cell: whether it is used, its number, its references -/
structure Cl where
  u : Bool
  d : Int
  r : List Int
  deriving DecidableEq, Inhabited
/-- a heap: its cells and its roots -/
structure Hp where
  cs : List Cl
  rt : List Int
  deriving DecidableEq, Inhabited
namespace Hps
/-- the cell is there and is used -/
def usedAt (cs : List Cl) (n : Nat) : Bool := match cs[n]? with
  | some c => c.u
  | none => false
theorem usedAt_iff {cs : List Cl} {n : Nat} : usedAt cs n = true ↔ ∃ c, cs[n]? = some c ∧ c.u = true := by
  unfold usedAt
  cases h : cs[n]? with
  | none => simp
  | some c => simp
theorem usedAt_lt {cs : List Cl} {n : Nat} (h : usedAt cs n = true) : n < cs.length := by
  obtain ⟨c, h1, _⟩ := usedAt_iff.1 h
  exact (List.getElem?_eq_some_iff.1 h1).1
/-- -1, or the number of a used cell -/
def okRef (cs : List Cl) (n : Int) : Bool := n == -1 || (decide (0 ≤ n) && usedAt cs n.toNat)
theorem okRef_iff {cs : List Cl} {n : Int} : okRef cs n = true ↔ n = -1 ∨ (0 ≤ n ∧ usedAt cs n.toNat = true) := by simp [okRef]
theorem okRef_nat {cs : List Cl} {n : Int} (h : okRef cs n = true) (h0 : 0 ≤ n) : ∃ k : Nat, n = k ∧ k < cs.length ∧ usedAt cs k = true := by
  rcases okRef_iff.1 h with h1 | ⟨_, h2⟩
  · omega
  · exact ⟨n.toNat, by omega, usedAt_lt h2, h2⟩
theorem okRef_lo {cs : List Cl} {n : Int} (h : okRef cs n = true) : -1 ≤ n ∧ n < cs.length := by
  rcases okRef_iff.1 h with h1 | ⟨h2, h3⟩
  · omega
  · have := usedAt_lt h3
    omega
def okRefs (cs : List Cl) (rs : List Int) : Bool := rs.all (okRef cs)
theorem okRefs_iff {cs : List Cl} {rs : List Int} : okRefs cs rs = true ↔ ∀ n ∈ rs, okRef cs n = true := by simp [okRefs]
theorem okRefs_at {cs : List Cl} {rs : List Int} (h : okRefs cs rs = true) {k : Nat} {n : Int} (hn : rs[k]? = some n) : okRef cs n = true := okRefs_iff.1 h n (List.mem_of_getElem? hn)
def okCell (cs : List Cl) (c : Cl) : Bool := (c.u || (c.d == 0 && decide (c.r.length = 0))) && (decide (0 ≤ c.d) && decide (c.d ≤ 99)) && decide (c.r.length ≤ 3) && okRefs cs c.r
theorem okCell_iff {cs : List Cl} {c : Cl} : okCell cs c = true ↔ (c.u = true ∨ (c.d = 0 ∧ c.r = [])) ∧ (0 ≤ c.d ∧ c.d ≤ 99) ∧ c.r.length ≤ 3 ∧ okRefs cs c.r = true := by
  simp [okCell, and_assoc]
def validH (h : Hp) : Bool := h.cs.all (okCell h.cs) && (decide (h.cs.length ≤ 40) && decide (h.rt.length = 4) && okRefs h.cs h.rt)
theorem valid_iff {h : Hp} : validH h = true ↔ (∀ c ∈ h.cs, okCell h.cs c = true) ∧ h.cs.length ≤ 40 ∧ h.rt.length = 4 ∧ okRefs h.cs h.rt = true := by
  simp [validH, and_assoc]
theorem valid_cell {h : Hp} (hv : validH h = true) {k : Nat} {c : Cl} (hc : h.cs[k]? = some c) : okCell h.cs c = true := (valid_iff.1 hv).1 c (List.mem_of_getElem? hc)
theorem valid_ref {h : Hp} (hv : validH h = true) {k j : Nat} {c : Cl} {n : Int} (hc : h.cs[k]? = some c) (hn : c.r[j]? = some n) : okRef h.cs n = true := okRefs_at (okCell_iff.1 (valid_cell hv hc)).2.2.2 hn
theorem valid_root {h : Hp} (hv : validH h = true) {j : Nat} {n : Int} (hn : h.rt[j]? = some n) : okRef h.cs n = true := okRefs_at (valid_iff.1 hv).2.2.2 hn
/-- the heap without cells -/
def emptyH : Hp := ⟨[], [-1, -1, -1, -1]⟩
theorem empty_valid : validH emptyH = true := by decide
/-- what can be reached from a list of numbers -/
inductive Rch (cs : List Cl) (from_ : List Int) : Nat → Prop
  | root {k : Nat} : ((k : Int) ∈ from_) → Rch cs from_ k
  | step {k m : Nat} {c : Cl} : Rch cs from_ k → cs[k]? = some c → ((m : Int) ∈ c.r) → Rch cs from_ m
theorem Rch.mono {cs : List Cl} {a b : List Int} (h : ∀ k : Nat, (k : Int) ∈ a → Rch cs b k) {k : Nat} (hr : Rch cs a k) : Rch cs b k := by
  induction hr with
  | root hk => exact h _ hk
  | step _ hc hm ih => exact .step ih hc hm
/-- a set that has the roots and leads on holds all that can be reached -/
theorem Rch.inside {cs : List Cl} {a : List Int} {S : Nat → Prop} (h0 : ∀ k : Nat, (k : Int) ∈ a → S k) (h1 : ∀ (k m : Nat) (c : Cl), S k → cs[k]? = some c → (m : Int) ∈ c.r → S m) {k : Nat} (hr : Rch cs a k) : S k := by
  induction hr with
  | root hk => exact h0 _ hk
  | step _ hc hm ih => exact h1 _ _ _ ih hc hm
theorem Rch.used {cs : List Cl} {a : List Int} (ha : okRefs cs a = true) (hc : ∀ c ∈ cs, okRefs cs c.r = true) {k : Nat} (hr : Rch cs a k) : usedAt cs k = true := by
  refine Rch.inside (S := fun k => usedAt cs k = true) (fun k hk => ?_) (fun k m c _ hcc hm => ?_) hr
  · rcases okRef_iff.1 (okRefs_iff.1 ha _ hk) with h | ⟨_, h⟩
    · omega
    · simpa using h
  · rcases okRef_iff.1 (okRefs_iff.1 (hc c (List.mem_of_getElem? hcc)) _ hm) with h | ⟨_, h⟩
    · omega
    · simpa using h
theorem valid_refs {h : Hp} (hv : validH h = true) : ∀ c ∈ h.cs, okRefs h.cs c.r = true := fun c hc => (okCell_iff.1 ((valid_iff.1 hv).1 c hc)).2.2.2
theorem Rch.live {h : Hp} (hv : validH h = true) {k : Nat} (hr : Rch h.cs h.rt k) : usedAt h.cs k = true := hr.used (valid_iff.1 hv).2.2.2 (valid_refs hv)
open Classical in
/-- for every cell whether it can be reached -/
noncomputable def reachL (cs : List Cl) (a : List Int) : List Bool := (List.range cs.length).map fun k => decide (Rch cs a k)
theorem reachL_len (cs : List Cl) (a : List Int) : (reachL cs a).length = cs.length := by simp [reachL]
open Classical in
theorem reachL_at {cs : List Cl} {a : List Int} {k : Nat} (hk : k < cs.length) : (reachL cs a)[k]? = some (decide (Rch cs a k)) := by
  simp [reachL, hk]
theorem reachL_true {cs : List Cl} {a : List Int} {k : Nat} (hk : k < cs.length) : (reachL cs a)[k]? = some true ↔ Rch cs a k := by
  rw [reachL_at hk]
  simp
/-- marks that hold what can be reached and nothing else are the marks -/
theorem reachL_eq {cs : List Cl} {a : List Int} {out : List Bool} (hl : out.length = cs.length) (h : ∀ k, k < cs.length → (out[k]? = some true ↔ Rch cs a k)) : out = reachL cs a := by
  apply List.ext_getElem?
  intro k
  rcases Nat.lt_or_ge k cs.length with hk | hk
  · have h1 := h k hk
    rw [← reachL_true hk] at h1
    rw [List.getElem?_eq_getElem (show k < out.length by omega)] at h1 ⊢
    rw [List.getElem?_eq_getElem (show k < (reachL cs a).length by rw [reachL_len]; omega)] at h1 ⊢
    simp only [Option.some.injEq] at h1
    congr 1
    rw [Bool.eq_iff_iff]
    exact h1
  · rw [List.getElem?_eq_none (by omega), List.getElem?_eq_none (by rw [reachL_len]; omega)]
noncomputable def reachH (h : Hp) : List Bool := if validH h = true then reachL h.cs h.rt else []
/-- all references: the roots', then the cells' -/
def refsOf (h : Hp) : List Int := h.rt ++ (h.cs.map (·.r)).flatten
def countsL (h : Hp) : List Int := (List.range h.cs.length).map fun (k : Nat) => (((refsOf h).count (k : Int) : Nat) : Int)
end Hps
end Go.Proofs.Ytakdjiojahlnmaa
namespace Go.Proofs.Ytakdjiojahlnmaa
open Go.RowKit
theorem Rw.far {w w' : World} {g : Nat} {t : TypeId} {cs : Array Value} {row : Option Nat} (h : Rw w g t cs) (hg : w.grownBy w' row) (hne : some g ≠ row) : Rw w' g t cs := (hg.block g h.lt hne).trans h
theorem grown_below {w a b : World} {row : Option Nat} (h : w.grownBy a row) (hb : Below w.heap.size a b) : w.grownBy b row :=
  ⟨hb.os.trans h.os, hb.tape.trans h.tape, hb.output.trans h.output, Nat.le_trans h.size hb.size, fun i hi hne => (hb.block i hi).trans (h.block i hi hne)⟩
theorem Bytes.more {w : World} {B B' m : Nat} {A : Option Addr} (h : Bytes w B A m) (hB : B ≤ B') : Bytes w B' A m := fun hm => by
  obtain ⟨b, o, e, hb, hc⟩ := h hm
  exact ⟨b, o, e, by omega, hc⟩
theorem Rw.other {w : World} {g g' i : Nat} {t : TypeId} {cs : Array Value} (h : Rw w g t cs) (hne : g ≠ g') (v : Value) : Rw (w.setCell ⟨g', i, none⟩ v) g t cs := (Below.heap_setCell _ _ _ _ hne).trans h
end Go.Proofs.Ytakdjiojahlnmaa
namespace Go.Proofs.Ytakdjiojahlnmaa
open Go.RowKit
/-- the values of cells in a row; vs: the slices of their references -/
def flatC : List Cl → List Value → List Value
  | c :: cs, v :: vs => .bool c.u :: .int .i64 c.d :: v :: flatC cs vs
  | _, _ => []
theorem flatC_length : ∀ (cs : List Cl) (vs : List Value), vs.length = cs.length → (flatC cs vs).length = cs.length * 3
  | [], _, _ => by simp [flatC]
  | c :: cs, [], h => by simp at h
  | c :: cs, v :: vs, h => by
    have := flatC_length cs vs (by simpa using h)
    simp [flatC, this]
    omega
theorem flatC_at : ∀ (cs : List Cl) (vs : List Value) (k : Nat) (c : Cl) (v : Value), cs[k]? = some c → vs[k]? = some v → (flatC cs vs)[k * 3]? = some (.bool c.u) ∧ (flatC cs vs)[k * 3 + 1]? = some (.int .i64 c.d) ∧ (flatC cs vs)[k * 3 + 2]? = some v
  | [], _, k, c, v, h, _ => by simp at h
  | _ :: _, [], k, c, v, _, h => by simp at h
  | c' :: cs, v' :: vs, 0, c, v, h1, h2 => by
    simp at h1 h2
    subst h1 h2
    simp [flatC]
  | c' :: cs, v' :: vs, k + 1, c, v, h1, h2 => by
    have := flatC_at cs vs k c v (by simpa using h1) (by simpa using h2)
    rw [show (k + 1) * 3 = k * 3 + 3 by omega]
    simpa [flatC] using this
theorem flatC_append : ∀ (cs : List Cl) (vs : List Value) (ds : List Cl) (ws : List Value), vs.length = cs.length → flatC (cs ++ ds) (vs ++ ws) = flatC cs vs ++ flatC ds ws
  | [], [], ds, ws, _ => by simp [flatC]
  | [], v :: vs, _, _, h => by simp at h
  | c :: cs, [], _, _, h => by simp at h
  | c :: cs, v :: vs, ds, ws, h => by
    have := flatC_append cs vs ds ws (by simpa using h)
    simp [flatC, this]
theorem flatC_set_u : ∀ (cs : List Cl) (vs : List Value) (k : Nat) (c : Cl) (b : Bool), vs.length = cs.length → cs[k]? = some c → (flatC cs vs).set (k * 3) (.bool b) = flatC (cs.set k ⟨b, c.d, c.r⟩) vs
  | [], _, k, c, b, _, h => by simp at h
  | _ :: _, [], k, c, b, h, _ => by simp at h
  | c' :: cs, v' :: vs, 0, c, b, _, h1 => by
    simp at h1
    subst h1
    simp [flatC]
  | c' :: cs, v' :: vs, k + 1, c, b, h, h1 => by
    have := flatC_set_u cs vs k c b (by simpa using h) (by simpa using h1)
    rw [show (k + 1) * 3 = k * 3 + 3 by omega]
    simp [flatC, this]
theorem flatC_set_d : ∀ (cs : List Cl) (vs : List Value) (k : Nat) (c : Cl) (d : Int), vs.length = cs.length → cs[k]? = some c → (flatC cs vs).set (k * 3 + 1) (.int .i64 d) = flatC (cs.set k ⟨c.u, d, c.r⟩) vs
  | [], _, k, c, b, _, h => by simp at h
  | _ :: _, [], k, c, b, h, _ => by simp at h
  | c' :: cs, v' :: vs, 0, c, b, _, h1 => by
    simp at h1
    subst h1
    simp [flatC]
  | c' :: cs, v' :: vs, k + 1, c, b, h, h1 => by
    have := flatC_set_d cs vs k c b (by simpa using h) (by simpa using h1)
    rw [show (k + 1) * 3 + 1 = (k * 3 + 1) + 3 by omega]
    simp [flatC, this]
theorem flatC_set_r : ∀ (cs : List Cl) (vs : List Value) (k : Nat) (c : Cl) (v : Value) (r : List Int), vs.length = cs.length → cs[k]? = some c → (flatC cs vs).set (k * 3 + 2) v = flatC (cs.set k ⟨c.u, c.d, r⟩) (vs.set k v)
  | [], _, k, c, b, _, _, h => by simp at h
  | _ :: _, [], k, c, b, _, h, _ => by simp at h
  | c' :: cs, v' :: vs, 0, c, b, _, _, h1 => by
    simp at h1
    subst h1
    simp [flatC]
  | c' :: cs, v' :: vs, k + 1, c, b, r, h, h1 => by
    have := flatC_set_r cs vs k c b r (by simpa using h) (by simpa using h1)
    rw [show (k + 1) * 3 + 2 = (k * 3 + 2) + 3 by omega]
    simp [flatC, this]
/-- the references of a cell do not lie in its row -/
theorem flatC_refs : ∀ (cs : List Cl) (vs : List Value) (k : Nat) (c : Cl) (r : List Int), cs[k]? = some c → flatC (cs.set k ⟨c.u, c.d, r⟩) vs = flatC cs vs
  | [], _, k, c, r, h => by simp at h
  | _ :: _, [], k, c, r, _ => by cases k <;> simp [flatC]
  | c' :: cs, v' :: vs, 0, c, r, h1 => by
    simp at h1
    subst h1
    simp [flatC]
  | c' :: cs, v' :: vs, k + 1, c, r, h1 => by
    have := flatC_refs cs vs k c r (by simpa using h1)
    simp [flatC, this]
/-- the slice value '.slice A n _' reads as the cells cs, and lies below block B -/
def CS (w : World) (B : Nat) (A : Option Addr) (n : Nat) (cs : List Cl) : Prop :=
  cs.length = n ∧ (0 < n → ∃ g o, A = some ⟨g, o, none⟩ ∧ g < B ∧ ∀ (k : Nat) (c : Cl), cs[k]? = some c →
    w.cell? ⟨g, o + k * 3, none⟩ = some (.bool c.u) ∧ w.cell? ⟨g, o + k * 3 + 1, none⟩ = some (.int .i64 c.d) ∧ ∃ A' m cc, w.cell? ⟨g, o + k * 3 + 2, none⟩ = some (.slice A' m cc) ∧ m ≤ cc ∧ IS w B A' m c.r)
section
variable {w w' : World} {B B' n : Nat} {A : Option Addr} {cs : List Cl}
theorem CS.keep (h : CS w B A n cs) (hk : ∀ p : Addr, p.block < B → w'.cell? p = w.cell? p) : CS w' B A n cs :=
  ⟨h.1, fun hn => by
    obtain ⟨g, o, e, hb, hc⟩ := h.2 hn
    refine ⟨g, o, e, hb, fun k c hkc => ?_⟩
    obtain ⟨c1, c2, A', m, cc, c3, hm, hi⟩ := hc k c hkc
    exact ⟨(hk _ hb).trans c1, (hk _ hb).trans c2, A', m, cc, (hk _ hb).trans c3, hm, hi.keep hk⟩⟩
theorem CS.more (h : CS w B A n cs) (hB : B ≤ B') : CS w B' A n cs :=
  ⟨h.1, fun hn => by
    obtain ⟨g, o, e, hb, hc⟩ := h.2 hn
    refine ⟨g, o, e, by omega, fun k c hkc => ?_⟩
    obtain ⟨c1, c2, A', m, cc, c3, hm, hi⟩ := hc k c hkc
    exact ⟨c1, c2, A', m, cc, c3, hm, hi.more hB⟩⟩
theorem CS.below (h : CS w B A n cs) (hb : Below B w w') : CS w' B A n cs := h.keep fun _ hp => hb.cell hp
theorem CS.up {w w' : World} {n : Nat} {A : Option Addr} {cs : List Cl} (h : CS w w.heap.size A n cs) (hb : Below w.heap.size w w') : CS w' w'.heap.size A n cs := (h.below hb).more hb.size
theorem CS.at_ {k : Nat} (h : CS w B A n cs) (hk : k < n) : ∃ g o c A' m cc, A = some ⟨g, o, none⟩ ∧ g < B ∧ cs[k]? = some c ∧ w.cell? ⟨g, o + k * 3, none⟩ = some (.bool c.u) ∧ w.cell? ⟨g, o + k * 3 + 1, none⟩ = some (.int .i64 c.d) ∧ w.cell? ⟨g, o + k * 3 + 2, none⟩ = some (.slice A' m cc) ∧ m ≤ cc ∧ IS w B A' m c.r := by
  obtain ⟨g, o, e, hb, hc⟩ := h.2 (by omega)
  have hl : k < cs.length := by have := h.1; omega
  have hx := List.getElem?_eq_getElem hl
  obtain ⟨c1, c2, A', m, cc, c3, hm, hi⟩ := hc k _ hx
  exact ⟨g, o, _, A', m, cc, e, hb, hx, c1, c2, c3, hm, hi⟩
end
/-- two slices read as a heap -/
structure HS (w : World) (B : Nat) (A : Option Addr) (n : Nat) (R : Option Addr) (m : Nat) (h : Hp) : Prop where
  cells : CS w B A n h.cs
  roots : IS w B R m h.rt
section
variable {w w' : World} {B B' n m : Nat} {A R : Option Addr} {h : Hp}
theorem HS.below (hs : HS w B A n R m h) (hb : Below B w w') : HS w' B A n R m h := ⟨hs.cells.below hb, hs.roots.below hb⟩
theorem HS.more (hs : HS w B A n R m h) (hB : B ≤ B') : HS w B' A n R m h := ⟨hs.cells.more hB, hs.roots.more hB⟩
theorem HS.up {w w' : World} {n m : Nat} {A R : Option Addr} {h : Hp} (hs : HS w w.heap.size A n R m h) (hb : Below w.heap.size w w') : HS w' w'.heap.size A n R m h := (hs.below hb).more hb.size
end
/-- no two of the values lie in one block -/
def Sep (l : List Value) : Prop := l.Pairwise fun a b => a.ownBlock = none ∨ a.ownBlock ≠ b.ownBlock
/-- a heap of the call's own: the slices of cells and of roots, and of every cell's references; rvs: the latter -/
structure OwnHx (w : World) (base : Nat) (vc vr : Value) (rvs : List Value) (h : Hp) : Prop where
  len : rvs.length = h.cs.length
  row : w.ownsRow base 45 3 vc h.cs.length (flatC h.cs rvs)
  refs : ∀ (k : Nat) (c : Cl) (v : Value), h.cs[k]? = some c → rvs[k]? = some v → OwnI w base v c.r
  roots : OwnI w base vr h.rt
  sep : Sep (vc :: vr :: rvs)
def OwnH (w : World) (base : Nat) (vc vr : Value) (h : Hp) : Prop := ∃ rvs, OwnHx w base vc vr rvs h
theorem OwnHx.form {w : World} {base : Nat} {vc vr : Value} {rvs : List Value} {h : Hp} (ho : OwnHx w base vc vr rvs h) : ∃ A c R d, vc = .slice A h.cs.length c ∧ vr = .slice R h.rt.length d ∧ h.cs.length ≤ c ∧ h.rt.length ≤ d ∧ (0 < h.cs.length → ∃ g, A = some ⟨g, 0, none⟩ ∧ base ≤ g ∧ g < w.heap.size) ∧ (0 < h.rt.length → ∃ g, R = some ⟨g, 0, none⟩ ∧ base ≤ g ∧ g < w.heap.size) := by
  obtain ⟨R, d, rfl, hR⟩ := ho.roots.form
  have hd := ho.roots.cap.2
  rcases ho.row.2 with ⟨e, h0⟩ | ⟨g, cap, cur, e, hb, hh, hc, _⟩
  · exact ⟨none, 0, R, d, by rw [e, h0], rfl, by omega, hd, fun h => by omega, hR⟩
  · exact ⟨some ⟨g, 0, none⟩, cap, R, d, e, rfl, hc, hd, fun _ => ⟨g, rfl, hb, (Array.getElem?_eq_some_iff.1 hh).1⟩, hR⟩
theorem OwnHx.ref {w : World} {base : Nat} {vc vr : Value} {rvs : List Value} {h : Hp} (ho : OwnHx w base vc vr rvs h) {k : Nat} {c : Cl} (hc : h.cs[k]? = some c) : ∃ v, rvs[k]? = some v ∧ OwnI w base v c.r := by
  have hk := (List.getElem?_eq_some_iff.1 hc).1
  have hv := List.getElem?_eq_getElem (show k < rvs.length by rw [ho.len]; exact hk)
  exact ⟨_, hv, ho.refs k c _ hc hv⟩
theorem OwnHx.reads {w : World} {base n c m d : Nat} {A R : Option Addr} {rvs : List Value} {h : Hp} (ho : OwnHx w base (.slice A n c) (.slice R m d) rvs h) : HS w w.heap.size A n R m h := by
  refine ⟨?_, ho.roots.reads⟩
  rcases ho.row.2 with ⟨e, h0⟩ | ⟨g, cap, cur, e, hb, hh, _⟩
  · injection e with e1 e2 e3
    subst e2
    exact ⟨h0, fun h => by omega⟩
  · injection e with e1 e2 e3
    subst e1 e2 e3
    refine ⟨rfl, fun hn => ⟨g, 0, rfl, (Array.getElem?_eq_some_iff.1 hh).1, fun k c hc => ?_⟩⟩
    have hk : k < h.cs.length := (List.getElem?_eq_some_iff.1 hc).1
    obtain ⟨v, hv, hi⟩ := ho.ref hc
    obtain ⟨f1, f2, f3⟩ := flatC_at _ _ _ _ _ hc hv
    obtain ⟨A', cc, rfl, _⟩ := hi.form
    have hcap := hi.cap.2
    rw [Nat.zero_add]
    exact ⟨(World.ownsRow.cellAt ho.row _ (by omega)).trans f1, (World.ownsRow.cellAt ho.row _ (by omega)).trans f2, A', _, cc, (World.ownsRow.cellAt ho.row _ (by omega)).trans f3, hcap, hi.reads⟩
theorem OwnHx.below {w w' : World} {base B : Nat} {vc vr : Value} {rvs : List Value} {h : Hp} (ho : OwnHx w base vc vr rvs h) (hb : Below B w w') (hB : w.heap.size ≤ B) : OwnHx w' base vc vr rvs h := by
  refine ⟨ho.len, ⟨ho.row.1, ?_⟩, fun k c v hc hv => (ho.refs k c v hc hv).below hb hB, ho.roots.below hb hB, ho.sep⟩
  rcases ho.row.2 with h0 | ⟨g, cap, cur, e, hb', hh, hr⟩
  · exact .inl h0
  · exact .inr ⟨g, cap, cur, e, hb', (hb.block g (Nat.lt_of_lt_of_le (Array.getElem?_eq_some_iff.1 hh).1 hB)).trans hh, hr⟩
theorem row_base {w : World} {base base' n : Nat} {e : TypeId} {s : Nat} {v : Value} {xs : List Value} (h : w.ownsRow base e s v n xs) (hb : base' ≤ base) : w.ownsRow base' e s v n xs := by
  refine ⟨h.1, ?_⟩
  rcases h.2 with h0 | ⟨g, cap, cur, e, hb', hh, hr⟩
  · exact .inl h0
  · exact .inr ⟨g, cap, cur, e, by omega, hh, hr⟩
theorem OwnHx.base {w : World} {base base' : Nat} {vc vr : Value} {rvs : List Value} {h : Hp} (ho : OwnHx w base vc vr rvs h) (hb : base' ≤ base) : OwnHx w base' vc vr rvs h :=
  ⟨ho.len, row_base ho.row hb, fun k c v hc hv => (ho.refs k c v hc hv).base hb, ho.roots.base hb, ho.sep⟩
/-- nothing that is the heap's is written -/
def Apart (row : Option Nat) (l : List Value) : Prop := ∀ v ∈ l, v.ownBlock = none ∨ v.ownBlock ≠ row
theorem OwnHx.far {w w' : World} {base : Nat} {vc vr : Value} {rvs : List Value} {h : Hp} {row : Option Nat} (ho : OwnHx w base vc vr rvs h) (hg : w.grownBy w' row) (ha : Apart row (vc :: vr :: rvs)) : OwnHx w' base vc vr rvs h :=
  ⟨ho.len, World.ownsRow.kept ho.row hg (ha vc (by simp)), fun k c v hc hv => (ho.refs k c v hc hv).far hg (ha v (by simp [List.mem_of_getElem? hv])), ho.roots.far hg (ha vr (by simp)), ho.sep⟩
/-- every block of the heap is of its own and old enough -/
theorem OwnHx.blocks {w : World} {base : Nat} {vc vr : Value} {rvs : List Value} {h : Hp} (ho : OwnHx w base vc vr rvs h) {v : Value} (hv : v ∈ vc :: vr :: rvs) {k : Nat} (hk : v.ownBlock = some k) : base ≤ k ∧ k < w.heap.size := by
  simp only [List.mem_cons] at hv
  rcases hv with rfl | rfl | hv
  · exact World.ownsRow.lt ho.row k hk
  · exact World.ownsRow.lt ho.roots k hk
  · obtain ⟨i, hi⟩ := List.mem_iff_getElem?.1 hv
    have hlt := (List.getElem?_eq_some_iff.1 hi).1
    have hc := List.getElem?_eq_getElem (show i < h.cs.length by rw [← ho.len]; exact hlt)
    exact World.ownsRow.lt (ho.refs i _ v hc hi) k hk
theorem OwnHx.apart_below {w : World} {base b : Nat} {vc vr : Value} {rvs : List Value} {h : Hp} (ho : OwnHx w base vc vr rvs h) (hb : b < base) : Apart (some b) (vc :: vr :: rvs) := fun v hv => by
  cases e : v.ownBlock with
  | none => exact .inl rfl
  | some k =>
    right
    have := (ho.blocks hv e).1
    intro he
    injection he with he
    omega
theorem OwnHx.apart_new {w : World} {base b : Nat} {vc vr : Value} {rvs : List Value} {h : Hp} (ho : OwnHx w base vc vr rvs h) (hb : w.heap.size ≤ b) : Apart (some b) (vc :: vr :: rvs) := fun v hv => by
  cases e : v.ownBlock with
  | none => exact .inl rfl
  | some k =>
    right
    have := (ho.blocks hv e).2
    intro he
    injection he with he
    omega
end Go.Proofs.Ytakdjiojahlnmaa
namespace Go.Proofs.Ytakdjiojahlnmaa
namespace Hps
/-- marks and a list of the marked ones -/
structure Wk (cs : List Cl) (a : List Int) (out : List Bool) (l : List Int) : Prop where
  len : out.length = cs.length
  mem : ∀ k : Nat, out[k]? = some true ↔ (k : Int) ∈ l
  cnt : l.length = out.count true
  rch : ∀ k : Nat, (k : Int) ∈ l → Rch cs a k
  nat : ∀ n ∈ l, ∃ k : Nat, n = k ∧ k < cs.length
theorem Wk.le {cs : List Cl} {a : List Int} {out : List Bool} {l : List Int} (h : Wk cs a out l) : l.length ≤ cs.length := by
  rw [h.cnt, ← h.len]
  exact List.count_le_length
theorem Wk.start (cs : List Cl) (a : List Int) : Wk cs a (List.replicate cs.length false) [] := by
  refine ⟨by simp, fun k => ?_, by simp [List.count_replicate], fun k hk => by simp at hk, fun n hn => by simp at hn⟩
  simp [List.getElem?_replicate]
theorem Wk.mark {cs : List Cl} {a : List Int} {out : List Bool} {l : List Int} (h : Wk cs a out l) {n : Nat} (hn : out[n]? = some false) (hr : Rch cs a n) : Wk cs a (out.set n true) (l ++ [(n : Int)]) := by
  obtain ⟨hlt, he⟩ := List.getElem?_eq_some_iff.1 hn
  refine ⟨by simp [h.len], fun k => ?_, ?_, fun k hk => ?_, fun m hm => ?_⟩
  · rw [List.getElem?_set, List.mem_append]
    by_cases hk : n = k
    · subst hk
      simp [hlt]
    · rw [if_neg hk, h.mem]
      have : ¬ (k : Int) = n := by omega
      simp [this]
  · rw [List.length_append, List.length_singleton, h.cnt, List.count_set hlt, he]
    simp
  · rw [List.mem_append] at hk
    rcases hk with hk | hk
    · exact h.rch k hk
    · simp at hk
      have : k = n := by omega
      rw [this]
      exact hr
  · rw [List.mem_append] at hm
    rcases hm with hm | hm
    · exact h.nat m hm
    · simp at hm
      exact ⟨n, hm, by rw [← h.len]; exact hlt⟩
/-- what stays marked -/
theorem set_true {out : List Bool} {n k : Nat} (h : out[k]? = some true) : (out.set n true)[k]? = some true := by
  rw [List.getElem?_set]
  by_cases hk : n = k
  · subst hk
    simp [(List.getElem?_eq_some_iff.1 h).1]
  · rw [if_neg hk]
    exact h
/-- the numbers xs that are at least 0 are marked -/
def Marked (out : List Bool) (xs : List Int) : Prop := ∀ k : Nat, (k : Int) ∈ xs → out[k]? = some true
theorem Marked.nil (out : List Bool) : Marked out [] := fun k hk => by simp at hk
theorem Marked.set {out : List Bool} {xs : List Int} (h : Marked out xs) (n : Nat) : Marked (out.set n true) xs := fun k hk => set_true (h k hk)
theorem Marked.snoc {out : List Bool} {xs : List Int} (h : Marked out xs) {n : Int} (hn : 0 ≤ n → out[n.toNat]? = some true) : Marked out (xs ++ [n]) := fun k hk => by
  rw [List.mem_append] at hk
  rcases hk with hk | hk
  · exact h k hk
  · simp at hk
    have := hn (by omega)
    rwa [← hk] at this
/-- the first k of the list have been worked off -/
def Done (cs : List Cl) (out : List Bool) (l : List Int) (k : Nat) : Prop := ∀ (i : Nat) (n : Nat) (c : Cl), i < k → l[i]? = some (n : Int) → cs[n]? = some c → Marked out c.r
theorem Done.zero (cs : List Cl) (out : List Bool) (l : List Int) : Done cs out l 0 := fun i n c h => by omega
theorem Done.more {cs : List Cl} {out : List Bool} {l : List Int} {k n : Nat} {m : Int} (h : Done cs out l k) (hk : k ≤ l.length) : Done cs (out.set n true) (l ++ [m]) k := fun i n' c hi hl hc => by
  rw [List.getElem?_append_left (by omega)] at hl
  exact (h i n' c hi hl hc).set n
theorem Done.succ {cs : List Cl} {out : List Bool} {l : List Int} {k n : Nat} {c : Cl} (h : Done cs out l k) (hl : l[k]? = some (n : Int)) (hc : cs[n]? = some c) (hm : Marked out c.r) : Done cs out l (k + 1) := fun i n' c' hi hl' hc' => by
  rcases Nat.lt_or_ge i k with h1 | h1
  · exact h i n' c' h1 hl' hc'
  · obtain rfl : i = k := by omega
    rw [hl] at hl'
    have : n = n' := by
      injection hl' with hl'
      omega
    subst this
    rw [hc] at hc'
    injection hc' with hc'
    subst hc'
    exact hm
/-- all worked off: the marks are right -/
theorem Wk.fin {cs : List Cl} {a : List Int} {out : List Bool} {l : List Int} (h : Wk cs a out l) (hr : Marked out a) (hd : Done cs out l l.length) : out = reachL cs a := by
  refine reachL_eq h.len fun k hk => ⟨fun hm => h.rch k ((h.mem k).1 hm), fun hr' => ?_⟩
  refine Rch.inside (S := fun k => out[k]? = some true) hr (fun k m c hk hc hm => ?_) hr'
  have hl := (h.mem k).1 hk
  obtain ⟨i, hi⟩ := List.mem_iff_getElem?.1 hl
  exact hd i k c (List.getElem?_eq_some_iff.1 hi).1 hi hc m hm
end Hps
end Go.Proofs.Ytakdjiojahlnmaa
namespace Go.Proofs.Ytakdjiojahlnmaa
namespace Bm
end Bm
end Go.Proofs.Ytakdjiojahlnmaa
namespace Go.Proofs.Ytakdjiojahlnmaa
open Go.RowKit
/-- the slice value '.slice A n _' reads as the bools xs, and lies below block B -/
def OS (w : World) (B : Nat) (A : Option Addr) (n : Nat) (xs : List Bool) : Prop :=
  xs.length = n ∧ (0 < n → ∃ g o, A = some ⟨g, o, none⟩ ∧ g < B ∧ ∀ (k : Nat) (b : Bool), xs[k]? = some b → w.cell? ⟨g, o + k, none⟩ = some (.bool b))
section
variable {w w' : World} {B B' n : Nat} {A : Option Addr} {xs : List Bool}
theorem OS.keep (h : OS w B A n xs) (hk : ∀ p : Addr, p.block < B → w'.cell? p = w.cell? p) : OS w' B A n xs :=
  ⟨h.1, fun hn => by
    obtain ⟨g, o, e, hb, hc⟩ := h.2 hn
    exact ⟨g, o, e, hb, fun k x hx => (hk _ hb).trans (hc k x hx)⟩⟩
theorem OS.more (h : OS w B A n xs) (hB : B ≤ B') : OS w B' A n xs :=
  ⟨h.1, fun hn => by
    obtain ⟨g, o, e, hb, hc⟩ := h.2 hn
    exact ⟨g, o, e, by omega, hc⟩⟩
theorem OS.below (h : OS w B A n xs) (hb : Below B w w') : OS w' B A n xs := h.keep fun _ hp => hb.cell hp
theorem OS.up {w w' : World} {n : Nat} {A : Option Addr} {xs : List Bool} (h : OS w w.heap.size A n xs) (hb : Below w.heap.size w w') : OS w' w'.heap.size A n xs := (h.below hb).more hb.size
theorem OS.at_ {k : Nat} (h : OS w B A n xs) (hk : k < n) : ∃ g o b, A = some ⟨g, o, none⟩ ∧ g < B ∧ xs[k]? = some b ∧ w.cell? ⟨g, o + k, none⟩ = some (.bool b) := by
  obtain ⟨g, o, e, hb, hc⟩ := h.2 (by omega)
  have hl : k < xs.length := by have := h.1; omega
  have hx := List.getElem?_eq_getElem hl
  exact ⟨g, o, _, e, hb, hx, hc k _ hx⟩
end
/-- the value v owns the bools xs, in a row from block 'base' on -/
def OwnO (w : World) (base : Nat) (v : Value) (xs : List Bool) : Prop := w.ownsRow base 4 1 v xs.length (xs.map .bool)
theorem OwnO.form {w : World} {base : Nat} {v : Value} {xs : List Bool} (h : OwnO w base v xs) : ∃ A c, v = .slice A xs.length c ∧ (0 < xs.length → ∃ g, A = some ⟨g, 0, none⟩ ∧ base ≤ g ∧ g < w.heap.size) := by
  rcases h.2 with ⟨rfl, h0⟩ | ⟨g, cap, cur, rfl, hb, hh, _⟩
  · exact ⟨none, 0, by rw [h0], fun h => by omega⟩
  · exact ⟨some ⟨g, 0, none⟩, cap, rfl, fun _ => ⟨g, rfl, hb, (Array.getElem?_eq_some_iff.1 hh).1⟩⟩
theorem OwnO.reads {w : World} {base n c : Nat} {A : Option Addr} {xs : List Bool} (h : OwnO w base (.slice A n c) xs) : OS w w.heap.size A n xs := by
  rcases h.2 with ⟨e, h0⟩ | ⟨g, cap, cur, e, hb, hh, _⟩
  · injection e with e1 e2 e3
    subst e2
    have : xs = [] := List.eq_nil_of_length_eq_zero h0
    subst this
    exact ⟨rfl, fun h => by omega⟩
  · injection e with e1 e2 e3
    subst e1 e2 e3
    refine ⟨rfl, fun hn => ⟨g, 0, rfl, (Array.getElem?_eq_some_iff.1 hh).1, fun k x hx => ?_⟩⟩
    have hk : k < xs.length := (List.getElem?_eq_some_iff.1 hx).1
    have c1 := World.ownsRow.cellAt h k (by omega)
    rw [Nat.zero_add]
    refine c1.trans ?_
    rw [List.getElem?_map, hx]
    rfl
theorem OwnO.below {w w' : World} {base B : Nat} {v : Value} {xs : List Bool} (h : OwnO w base v xs) (hb : Below B w w') (hB : w.heap.size ≤ B) : OwnO w' base v xs := by
  refine ⟨h.1, ?_⟩
  rcases h.2 with h0 | ⟨g, cap, cur, e, hb', hh, hr⟩
  · exact .inl h0
  · exact .inr ⟨g, cap, cur, e, hb', (hb.block g (Nat.lt_of_lt_of_le (Array.getElem?_eq_some_iff.1 hh).1 hB)).trans hh, hr⟩
theorem OwnO.base {w : World} {base base' : Nat} {v : Value} {xs : List Bool} (h : OwnO w base v xs) (hb : base' ≤ base) : OwnO w base' v xs := by
  refine ⟨h.1, ?_⟩
  rcases h.2 with h0 | ⟨g, cap, cur, e, hb', hh, hr⟩
  · exact .inl h0
  · exact .inr ⟨g, cap, cur, e, by omega, hh, hr⟩
theorem OwnO.far {w w' : World} {base : Nat} {v : Value} {xs : List Bool} {row : Option Nat} (h : OwnO w base v xs) (hg : w.grownBy w' row) (hne : v.ownBlock = none ∨ v.ownBlock ≠ row) : OwnO w' base v xs := World.ownsRow.kept h hg hne
theorem OwnO.cast {w : World} {base : Nat} {v : Value} {xs ys : List Bool} (e : xs = ys) (h : OwnO w base v xs) : OwnO w base v ys := e ▸ h
theorem OwnO.cap {w : World} {base n c : Nat} {A : Option Addr} {xs : List Bool} (h : OwnO w base (.slice A n c) xs) : n = xs.length ∧ n ≤ c := by
  rcases h.2 with ⟨e, h0⟩ | ⟨g, cap, cur, e, _, _, hc, _⟩
  · injection e with e1 e2 e3
    omega
  · injection e with e1 e2 e3
    omega
theorem own_noneO (w : World) (base : Nat) (hb : base ≤ w.heap.size) : OwnO (w.alloc (.cells #[] 4)) base (.slice (some ⟨w.heap.size, 0, none⟩) 0 0) [] :=
  World.ownsRow_lit (base := base) (e := 4) (size := 1) w #[] 0 hb (by unfold maxLen; omega) rfl
theorem own_oneO (w : World) (b : Bool) (base : Nat) (hb : base ≤ w.heap.size) : OwnO (w.alloc (.cells #[.bool b] 4)) base (.slice (some ⟨w.heap.size, 0, none⟩) 1 1) [b] :=
  World.ownsRow_lit (base := base) (e := 4) (size := 1) w #[.bool b] 1 hb (by unfold maxLen; omega) rfl
/-- one word of an owned row is written -/
theorem OwnO.put {w : World} {base g c j : Nat} {xs : List Bool} (h : OwnO w base (.slice (some ⟨g, 0, none⟩) xs.length c) xs) (b : Bool) :
    OwnO (w.setCell ⟨g, j, none⟩ (.bool b)) base (.slice (some ⟨g, 0, none⟩) xs.length c) (xs.set j b) := by
  have := (World.ownsRow.stored h j (.bool b)).1
  unfold OwnO
  rw [List.length_set, List.map_set]
  exact this
theorem info_bool : (Try.prog.info? 4).map (fun i => (i.zero, i.size, i.bytes)) = some (some (.bool false), 1, 1) := by kernel_rfl
theorem run_appendO (w : World) (base : Nat) (v : Value) (xs : List Bool) (hown : OwnO w base v xs) (A : Option Addr) (m c B : Nat) (ys : List Bool) (hr : OS w B A m ys) (hn : xs.length + m ≤ 1099511627776) (hbase : base ≤ w.heap.size) (ty : TypeId) :
    ∃ v' w', (Builtin.append_ #[28, 28] ty #[v, .slice A m c]).run Try.prog w = .ok v' w' ∧ OwnO w' base v' (xs ++ ys) ∧ w.grownBy w' v.ownBlock ∧ (v'.ownBlock = v.ownBlock ∨ v'.ownBlock = some w.heap.size) := by
  obtain ⟨i0, hi0, hz0, hz1, hz2⟩ := info_parts info_bool
  have hm := hr.1
  rcases A with _ | ad
  · have h0 : m = 0 := by
      rcases Nat.eq_zero_or_pos m with h0 | h0
      · exact h0
      · obtain ⟨g, o, e, _⟩ := hr.2 h0
        cases e
    subst h0
    have : ys = [] := List.eq_nil_of_length_eq_zero hm
    subst this
    refine ⟨v, w, ?_, by simpa using hown, World.grownBy.refl _ _, .inl rfl⟩
    rcases hown.2 with ⟨rfl, _⟩ | ⟨g, cap, cur, rfl, _, _, hnc, _⟩
    · simp [Builtin.append_, run_underlying Try.underlying28, sizeOf, typeInfo, hi0, Builtin.lenOf, Builtin.firstCells]
    · simp [Builtin.append_, run_underlying Try.underlying28, sizeOf, typeInfo, hi0, Builtin.lenOf, Builtin.firstCells, hnc, storeCells]
  · have hcells : ∀ j u, (ys.map Value.bool)[j]? = some u → w.cell? (ad.add j) = some u := by
      intro j u hj
      rcases Nat.eq_zero_or_pos m with h0 | h0
      · subst h0
        have : ys = [] := List.eq_nil_of_length_eq_zero hm
        subst this
        simp at hj
      · obtain ⟨g, o, e, _, hc⟩ := hr.2 h0
        replace e := Option.some.inj e
        subst e
        rw [add_lit]
        rw [List.getElem?_map] at hj
        cases hy : ys[j]? with
        | none => rw [hy] at hj; cases hj
        | some b =>
          rw [hy] at hj
          replace hj := Option.some.inj hj
          subst hj
          exact hc j b hy
    obtain ⟨v', w', hrun, h2, h3, _, h5⟩ := run_append_own_at (P := Try.prog) w base 28 ty 4 i0 _ 1 1 Try.underlying28 hi0 hz0 hz1 hz2 rfl (by omega) v xs.length (xs.map .bool) hown ad m c (ys.map .bool)
      (by rw [List.length_map, hm]; omega) hcells (by intro u hu; obtain ⟨b, _, rfl⟩ := List.mem_map.1 hu; rfl) (by unfold maxLen; omega) (by omega) hbase
    refine ⟨v', w', hrun, ?_, h3, h5⟩
    unfold OwnO
    rw [List.map_append, List.length_append, hm]
    exact h2
theorem wpList_appendO {w : World} {ops : Array Oper} {rest : List Oper} {o : Oper} {a : Act} {Q : Exit → Act → World → Prop} (hgd : o.guard = none) (s x : Operand)
    (ho : o.op = .call { callee := .builtin .append, args := #[s, x], argTypes := #[28, 28] })
    (base : Nat) (v : Value) (xs : List Bool) (hs : a.eval s = v) (hown : OwnO w base v xs) (A : Option Addr) (m c B : Nat) (ys : List Bool) (hx : a.eval x = .slice A m c) (hr : OS w B A m ys)
    (hn : xs.length + m ≤ 1099511627776) (hbase : base ≤ w.heap.size)
    (h : ∀ v' w', OwnO w' base v' (xs ++ ys) → w.grownBy w' v.ownBlock → (v'.ownBlock = v.ownBlock ∨ v'.ownBlock = some w.heap.size) → wpList Try.prog ops Q rest (a.put o.dst v') w') : wpList Try.prog ops Q (o :: rest) a w :=
  wpList_plain hgd fun _ hK => by
    obtain ⟨v', w', hrun, h2, h3, h4⟩ := run_appendO w base v xs hown A m c B ys hr hn hbase o.type
    unfold Oper.wp execOp
    simp only [ho, resolve, invoke, builtin, Sem.run_bind, Sem.run_pure, Result.andThen_ok, List.map_toArray, List.map_cons, List.map_nil, hs, hx, hrun]
    exact hK _ _ (h v' w' h2 h3 h4)
/-- bools of the call's own -/
def GaveO (w : World) (xs : List Bool) (e : Ending) (w' : World) : Prop := ∃ v, e = .returned v ∧ OwnO w' w.heap.size v xs ∧ Below w.heap.size w w'
theorem take_eq_succO {xs ys : List Bool} {k : Nat} {a : Bool} (h : xs.take k = ys.take k) (hx : xs[k]? = some a) (hy : ys[k]? = some a) : xs.take (k + 1) = ys.take (k + 1) := by
  rw [List.take_add_one, List.take_add_one, h, hx, hy]
theorem sameFlags_any (A B : Option Addr) (n m c d : Nat) (xs ys : List Bool) (w : World) (h : OS w w.heap.size A n xs) (h' : OS w w.heap.size B m ys) (hn : n ≤ 1099511627776) (hm : m ≤ 1099511627776) :
    Calls Try.prog 17 #[.slice A n c, .slice B m d] w fun e w' => e = .returned (.bool (decide (xs = ys))) ∧ Below w.heap.size w w' := by
  have HL := Lib.hid h.1
  have HL' := Lib.hid h'.1
  by_cases hnm : n = m
  · subst hnm
    go_enter Try.func17, Try.ntmps17
    go_wp2
    go_loopw [5] (fun i wr => ∃ (k : Nat), k ≤ n ∧ i = .int .i64 k ∧ Hid (xs.take k = ys.take k) ∧ Below w.heap.size w wr) (fun i _ => n - (intOf i).toNat)
    case atStart => exact ⟨0, Nat.zero_le _, rfl, by simp [Hid], Below.refl _ _⟩
    case round =>
      obtain ⟨k, hk, rfl, hpre, hb⟩ := hrel
      by_cases hlt : k < n
      · obtain ⟨g, o, x, rfl, hg, hx, c1⟩ := (h.below hb).at_ hlt
        obtain ⟨g', o', y, rfl, hg', hx', c1'⟩ := (h'.below hb).at_ hlt
        have HX := Lib.hid hx
        have HX' := Lib.hid hx'
        have hlt' : (k : Int) < n := by omega
        clear hx hx'
        by_cases hxy : x = y
        · subst hxy
          go_wp2_with fail
          go_quiet (fail)
          go_wp2
          go_roundw
          case rel => exact ⟨k + 1, by omega, by go_num, Lib.hid (take_eq_succO hpre.out HX.out HX'.out), below_drewN hb _⟩
          case measure => simp [intOf]; omega
        · have hne : (x == y) = false := by rw [beq_eq_false_iff_ne]; exact hxy
          have hne2 : (x != y) = true := by rw [bne_iff_ne]; exact hxy
          have HNE := Lib.hid (show xs ≠ ys from fun e => hxy (by
            have a := HX.out
            have b := HX'.out
            rw [e, b] at a
            exact (Option.some.inj a).symm))
          clear hxy
          go_wp2_with fail
          go_quiet (fail)
          go_wp2
          go_ret
          exact ⟨ret_bool (decide_eq_false HNE.out).symm, below_drewN hb _⟩
      · have hkn : k = n := by omega
        have HK := Lib.hid hkn
        clear hkn
        go_wp2
        go_ret
        refine ⟨ret_bool ?_, hb⟩
        have hp := hpre.out
        rw [HK.out, List.take_of_length_le (by rw [HL.out]; omega), List.take_of_length_le (by rw [HL'.out]; omega)] at hp
        simp [hp]
  · have hne : ((n : Int) != m) = true := by rw [bne_iff_ne]; omega
    have HN := Lib.hid hnm
    clear hnm
    go_enter Try.func17, Try.ntmps17
    go_wp2
    go_ret
    refine ⟨ret_bool ?_, Below.refl _ _⟩
    simp
    rintro rfl
    exact HN.out (HL.out.symm.trans HL'.out)
theorem OwnO.put' {w : World} {base g c j n : Nat} {xs : List Bool} (h : OwnO w base (.slice (some ⟨g, 0, none⟩) n c) xs) (hn : xs.length = n) (b : Bool) :
    OwnO (w.setCell ⟨g, j, none⟩ (.bool b)) base (.slice (some ⟨g, 0, none⟩) n c) (xs.set j b) := by
  subst hn
  exact h.put b
theorem OwnO.frozen {w : World} {base g c n : Nat} {xs : List Bool} (h : OwnO w base (.slice (some ⟨g, 0, none⟩) n c) xs) (hn : xs.length = n) (i : Nat) : w.frozen? ⟨g, i, none⟩ = false := by
  subst hn
  exact World.ownsRow.frozenAt h i
theorem madeO_eq (n : Nat) : madeCells (Value.bool false).cells n = Array.replicate n (.bool false) := by
  apply Array.ext
  · simp [madeCells, Value.cells]
  · intro i h1 h2
    simp [madeCells, Value.cells, Nat.mod_one]
theorem makeO (W : World) (n : Nat) (hn : n ≤ 1099511627776) : (Instr.makeSlice 28 (.int .i64 n) (.int .i64 n)).run Try.prog W = .ok (.slice (some ⟨W.heap.size, 0, none⟩) n n) (W.alloc (.cells (Array.replicate n (.bool false)) 4)) := by
  obtain ⟨i0, hi0, hz0, hz1, hz2⟩ := info_parts info_bool
  have := run_make (P := Try.prog) W 28 4 i0 _ Try.underlying28 hi0 hz0 .i64 .i64 n n (by omega) (by omega) (by rw [hz2]; omega) (by omega)
  rw [hz1] at this
  rw [← madeO_eq]
  simpa using this
theorem own_madeO (w : World) (n : Nat) (hn : n ≤ 1099511627776) : OwnO (w.alloc (.cells (Array.replicate n (.bool false)) 4)) w.heap.size (.slice (some ⟨w.heap.size, 0, none⟩) n n) (List.replicate n false) := by
  have := World.ownsRow_lit (base := w.heap.size) (e := 4) (size := 1) w (Array.replicate n (.bool false)) n (Nat.le_refl _) (by unfold maxLen; omega) (by simp)
  unfold OwnO
  simpa using this
end Go.Proofs.Ytakdjiojahlnmaa

namespace Go.Proofs.Ytakdjiojahlnmaa
open Go.RowKit
/-- a heap as a value -/
abbrev heapV (A : Option Addr) (n c : Nat) (R : Option Addr) (m d : Nat) : Value := .agg #[.slice A n c, .slice R m d]
theorem l1In_yes (n lo hi : Int) (w : World) (k : Nat) (h1 : lo ≤ n) (h2 : n ≤ hi) : Calls Try.prog 45 #[.int .i64 n, .int .i64 lo, .int .i64 hi] (w.drewN k) fun e w' => e = .returned (.bool true) ∧ ∃ m, w' = w.drewN m :=
  (l1In_any n lo hi _).mono fun _ _ ⟨he, hw⟩ => ⟨by rw [he, decide_eq_true h1, decide_eq_true h2]; rfl, k, hw.symm⟩
theorem l1In_no (n lo hi : Int) (w : World) (k : Nat) (h : ¬ (lo ≤ n ∧ n ≤ hi)) : Calls Try.prog 45 #[.int .i64 n, .int .i64 lo, .int .i64 hi] (w.drewN k) fun e w' => e = .returned (.bool false) ∧ ∃ m, w' = w.drewN m :=
  (l1In_any n lo hi _).mono fun _ _ ⟨he, hw⟩ => ⟨by rw [he]; congr 1; simp; omega, k, hw.symm⟩
namespace Hps
theorem okRefs_no {cs : List Cl} {rs : List Int} {k : Nat} {n : Int} (hn : rs[k]? = some n) (h : okRef cs n = false) : okRefs cs rs = false := by
  cases hh : okRefs cs rs
  · rfl
  · rw [okRefs_at hh hn] at h
    cases h
theorem okCell_no {cs : List Cl} {c : Cl} (h : (c.u = false ∧ (c.d ≠ 0 ∨ 0 < c.r.length)) ∨ ¬ (0 ≤ c.d ∧ c.d ≤ 99) ∨ 3 < c.r.length ∨ okRefs cs c.r = false) : okCell cs c = false := by
  cases hh : okCell cs c
  · rfl
  · obtain ⟨h1, h2, h3, h4⟩ := okCell_iff.1 hh
    rcases h with ⟨e1, e2⟩ | e | e | e
    · rcases h1 with h1 | ⟨h1, h5⟩
      · rw [h1] at e1; cases e1
      · rcases e2 with e2 | e2
        · exact absurd h1 e2
        · rw [h5] at e2; simp at e2
    · exact absurd h2 e
    · omega
    · rw [h4] at e; cases e
theorem invalid_cell {h : Hp} {k : Nat} {c : Cl} (hc : h.cs[k]? = some c) (hn : okCell h.cs c = false) : validH h = false := by
  cases hh : validH h
  · rfl
  · rw [valid_cell hh hc] at hn
    cases hn
theorem valid_all {h : Hp} (ha : ∀ c ∈ h.cs, okCell h.cs c = true) : validH h = (decide (h.cs.length ≤ 40) && decide (h.rt.length = 4) && okRefs h.cs h.rt) := by
  have : h.cs.all (okCell h.cs) = true := by simpa using ha
  rw [validH, this, Bool.true_and]
theorem okRef_out {cs : List Cl} {n : Int} (h1 : n ≠ -1) (h2 : ¬ (0 ≤ n ∧ n ≤ (cs.length : Int) - 1)) : okRef cs n = false := by
  cases hh : okRef cs n
  · rfl
  · have := okRef_lo hh
    omega
theorem okRef_at {cs : List Cl} {k : Nat} {c : Cl} (hc : cs[k]? = some c) : okRef cs (k : Int) = c.u := by
  have h1 : ((k : Int) == -1) = false := by rw [beq_eq_false_iff_ne]; omega
  have h2 : (0 : Int) ≤ k := by omega
  simp [okRef, h1, usedAt, hc]
end Hps
set_option maxHeartbeats 1000000 in
theorem l7Refs_any (A R F : Option Addr) (n c m d q e : Nat) (h : Hp) (rs : List Int) (w : World) (hs : HS w w.heap.size A n R m h) (hf : IS w w.heap.size F q rs) (hn : n ≤ 1099511627776) (hq : q ≤ 1099511627776) :
    Calls Try.prog 46 #[heapV A n c R m d, .slice F q e] w fun e w' => e = .returned (.bool (Hps.okRefs h.cs rs)) ∧ Below w.heap.size w w' := by
  have hlc := hs.cells.1
  have hlr := hf.1
  go_enter Try.func46, Try.ntmps46
  go_wp2_with fail
  go_loopw [5] (fun i wr => ∃ k : Nat, k ≤ q ∧ i = .int .i64 k ∧ Hid (∀ j x, j < k → rs[j]? = some x → Hps.okRef h.cs x = true) ∧ Below w.heap.size w wr ∧ Rw wr w.heap.size 26 #[.slice A n c, .slice R m d]) (fun i _ => q - (intOf i).toNat)
  case atStart => exact ⟨0, Nat.zero_le _, rfl, Lib.hid (fun j x hj => by omega), (Below.refl _ _).alloc (Nat.le_refl _) _, Rw.new _ _ _⟩
  case round =>
    obtain ⟨k, hk, rfl, HP, bb, hw⟩ := hrel
    have z0 : wr.cell? ⟨w.heap.size, 0, none⟩ = some (.slice A n c) := hw.cell 0
    by_cases hlt : k < q
    · obtain ⟨g, o, x, rfl, hg, hx, c1⟩ := (hf.below bb).at_ hlt
      have hlt' : (k : Int) < q := by omega
      have HN : Hps.okRef h.cs x = true → Hid (∀ j y, j < k + 1 → rs[j]? = some y → Hps.okRef h.cs y = true) := fun hok => Lib.hid fun j y hj hy => by
        rcases Nat.lt_or_ge j k with h1 | h1
        · exact HP.out j y h1 hy
        · obtain rfl : j = k := by omega
          rw [hx] at hy
          injection hy with hy
          rw [← hy]
          exact hok
      have HX := Lib.hid hx
      clear hx
      by_cases hm1 : x = -1
      · subst hm1
        have HN2 := HN (by simp [Hps.okRef])
        clear HN
        go_wp2_with fail
        go_big_quiet (fail)
        go_wp2
        go_roundw
        case rel => exact ⟨k + 1, by omega, by go_num, HN2, below_drewN bb _, hw⟩
        case measure => simp [intOf]; omega
      · have hne : (x != -1) = true := by rw [bne_iff_ne]; exact hm1
        by_cases hin : 0 ≤ x ∧ x ≤ (n : Int) - 1
        · obtain ⟨y, rfl⟩ := Int.eq_ofNat_of_zero_le hin.1
          obtain ⟨g', o', cl, A', m', cc, e1, hg', hcl, d1, d2, d3, _, _⟩ := (hs.cells.below bb).at_ (k := y) (by omega)
          subst e1
          have hok := Hps.okRef_at hcl
          have hyn : (y : Int) < n := by omega
          have hyp : (0 : Int) ≤ y := by omega
          have hy1 : (y : Int) ≤ n - 1 := by omega
          have hnw : IntKind.i64.wrap ((n : Int) - 1) = (n : Int) - 1 := IntWalk.i64_in _ (by omega)
          clear d2 d3 hin hm1
          cases hu : cl.u
          · have HR := Lib.hid (Hps.okRefs_no HX.out (by rw [hok, hu]))
            rw [hu] at d1
            clear hok hu hcl HN
            go_wp2_with fail
            go_big_quiet ((go_at_call 45; exact l1In_yes _ _ _ _ _ hyp hy1))
            go_wp2
            go_ret
            exact ⟨by rw [HR.out]; rfl, below_drewN bb _⟩
          · have HN2 := HN (by rw [hok, hu])
            rw [hu] at d1
            clear hok hu hcl HN
            go_wp2_with fail
            go_big_quiet ((go_at_call 45; exact l1In_yes _ _ _ _ _ hyp hy1))
            go_wp2
            go_roundw
            case rel => exact ⟨k + 1, by omega, by go_num, HN2, below_drewN bb _, hw⟩
            case measure => simp [intOf]; omega
        · have HR := Lib.hid (Hps.okRefs_no HX.out (Hps.okRef_out hm1 (by rw [hlc]; exact hin)))
          have hnw : IntKind.i64.wrap ((n : Int) - 1) = (n : Int) - 1 := IntWalk.i64_in _ (by omega)
          clear HN
          go_wp2_with fail
          go_big_quiet ((go_at_call 45; exact l1In_no _ _ _ _ _ hin))
          go_wp2
          go_ret
          exact ⟨by rw [HR.out]; rfl, below_drewN bb _⟩
    · obtain rfl : k = q := by omega
      have HR := Lib.hid (show Hps.okRefs h.cs rs = true by
        rw [Hps.okRefs_iff]
        intro x hx
        obtain ⟨j, hj⟩ := List.mem_iff_getElem?.1 hx
        exact HP.out j x (by rw [← hlr]; exact (List.getElem?_eq_some_iff.1 hj).1) hj)
      go_wp2_with fail
      go_ret
      exact ⟨by rw [HR.out]; rfl, bb⟩
set_option maxHeartbeats 1000000 in
theorem mHeapValid_any (A R : Option Addr) (n c m d : Nat) (h : Hp) (w : World) (hs : HS w w.heap.size A n R m h) (hn : n ≤ 1099511627776) (hm : m ≤ 1099511627776) :
    Calls Try.prog 14 #[heapV A n c R m d] w fun e w' => e = .returned (.bool (Hps.validH h)) ∧ Below w.heap.size w w' := by
  have hlc := hs.cells.1
  have hlr := hs.roots.1
  go_enter Try.func14, Try.ntmps14
  go_wp2_with fail
  go_loopw [3] (fun i wr => ∃ k : Nat, k ≤ n ∧ i = .int .i64 k ∧ Hid (∀ j cl, j < k → h.cs[j]? = some cl → Hps.okCell h.cs cl = true) ∧ Below w.heap.size w wr ∧ Rw wr w.heap.size 26 #[.slice A n c, .slice R m d]) (fun i _ => n - (intOf i).toNat)
  case atStart => exact ⟨0, Nat.zero_le _, rfl, Lib.hid (fun j x hj => by omega), (Below.refl _ _).alloc (Nat.le_refl _) _, Rw.new _ _ _⟩
  case round =>
    obtain ⟨k, hk, rfl, HP, bb, hw⟩ := hrel
    have z0 : wr.cell? ⟨w.heap.size, 0, none⟩ = some (.slice A n c) := hw.cell 0
    have z1 : wr.cell? ⟨w.heap.size, 1, none⟩ = some (.slice R m d) := hw.cell 1
    by_cases hlt : k < n
    · obtain ⟨g, o, cl, A', m', cc, e1, hg, hcl, d1, d2, d3, hmc, hi⟩ := (hs.cells.below bb).at_ hlt
      subst e1
      have hlt' : (k : Int) < n := by omega
      have hl3 := hi.1
      have HCL := Lib.hid hcl
      have hwl : w.heap.size < wr.heap.size := hw.lt
      have HN : Hps.okCell h.cs cl = true → Hid (∀ j c', j < k + 1 → h.cs[j]? = some c' → Hps.okCell h.cs c' = true) := fun hok => Lib.hid fun j y hj hy => by
        rcases Nat.lt_or_ge j k with h1 | h1
        · exact HP.out j y h1 hy
        · obtain rfl : j = k := by omega
          rw [HCL.out] at hy
          injection hy with hy
          rw [← hy]
          exact hok
      clear hcl
      cases hu : cl.u
      · rw [hu] at d1
        have bW : Below w.heap.size w (wr.alloc (.cells #[.bool false, .int .i64 cl.d, .slice A' m' cc] 45)) := bb.alloc bb.size _
        have hsW : HS (wr.alloc (.cells #[.bool false, .int .i64 cl.d, .slice A' m' cc] 45)) (wr.alloc (.cells #[.bool false, .int .i64 cl.d, .slice A' m' cc] 45)).heap.size (some ⟨g, o, none⟩) n R m h := (hs.below bW).more bW.size
        have hiW : IS (wr.alloc (.cells #[.bool false, .int .i64 cl.d, .slice A' m' cc] 45)) (wr.alloc (.cells #[.bool false, .int .i64 cl.d, .slice A' m' cc] 45)).heap.size A' m' cl.r := (hi.keep fun p hp => Below.cell ((Below.refl w.heap.size wr).alloc bb.size _) hp).more bW.size
        by_cases hd0 : cl.d = 0
        · have hd0' : (cl.d != 0) = false := by rw [bne_eq_false_iff_eq]; exact hd0
          have HD0 := Lib.hid hd0
          clear hd0
          by_cases hm0 : m' = 0
          · subst hm0
            have HNIL := Lib.hid (show cl.r = [] from List.eq_nil_of_length_eq_zero (by omega))
            go_wp2_with fail
            by_cases hd : 0 ≤ cl.d ∧ cl.d ≤ 99
            · have HD := Lib.hid (show (decide ((0 : Int) ≤ cl.d) && decide (cl.d ≤ 99)) = true by simp; omega)
              refine (l1In_any _ _ _ _).mono ?_
              rw [HD.out]
              rintro e w1 ⟨rfl, rfl⟩
              by_cases h3 : 0 ≤ 3
              · have h3' : decide ((3 : Int) < (0 : Int)) = false := decide_eq_false (by omega)
                go_wp2_with fail
                refine (l7Refs_any _ _ _ _ _ _ _ _ _ h cl.r _ hsW hiW hn (by omega)).mono ?_
                cases HO : Hps.okRefs h.cs cl.r
                · have HR := Lib.hid (Hps.invalid_cell HCL.out (Hps.okCell_no (.inr (.inr (.inr HO)))))
                  rintro e w2 ⟨rfl, b2⟩
                  have bW := bW.trans (b2.mono bW.size)
                  go_wp2_with fail
                  go_ret
                  exact ⟨by rw [HR.out]; rfl, bW⟩
                · have HN2 := HN (Hps.okCell_iff.2 ⟨.inr ⟨HD0.out, HNIL.out⟩, hd, by omega, HO⟩)
                  rintro e w2 ⟨rfl, b2⟩
                  have bW2 := bW.trans (b2.mono bW.size)
                  have hw2 := (hw.alloc (.cells #[.bool false, .int .i64 cl.d, .slice A' 0 cc] 45)).keep b2 (by simp; have := hw.lt; omega)
                  clear bW
                  go_wp2_with fail
                  go_roundw
                  case rel => exact ⟨k + 1, by omega, by go_num, HN2, bW2, hw2⟩
                  case measure => simp [intOf]; omega
              · exact absurd (Nat.zero_le _) h3
            · have HD := Lib.hid (show (decide ((0 : Int) ≤ cl.d) && decide (cl.d ≤ 99)) = false by simp; omega)
              have HR := Lib.hid (Hps.invalid_cell HCL.out (Hps.okCell_no (.inr (.inl hd))))
              refine (l1In_any _ _ _ _).mono ?_
              rw [HD.out]
              rintro e w1 ⟨rfl, rfl⟩
              go_wp2_with fail
              go_ret
              exact ⟨by rw [HR.out]; rfl, bW⟩
          · have hm0' : (0 : Int) < (m' : Int) := by omega
            have HR := Lib.hid (Hps.invalid_cell HCL.out (Hps.okCell_no (.inl ⟨hu, .inr (by omega)⟩)))
            go_wp2_with fail
            go_ret
            exact ⟨by rw [HR.out]; rfl, bW⟩
        · have hd0' : (cl.d != 0) = true := by rw [bne_iff_ne]; exact hd0
          have HR := Lib.hid (Hps.invalid_cell HCL.out (Hps.okCell_no (.inl ⟨hu, .inl hd0⟩)))
          go_wp2_with fail
          go_ret
          exact ⟨by rw [HR.out]; rfl, bW⟩
      · rw [hu] at d1
        have bW : Below w.heap.size w (wr.alloc (.cells #[.bool true, .int .i64 cl.d, .slice A' m' cc] 45)) := bb.alloc bb.size _
        have hsW : HS (wr.alloc (.cells #[.bool true, .int .i64 cl.d, .slice A' m' cc] 45)) (wr.alloc (.cells #[.bool true, .int .i64 cl.d, .slice A' m' cc] 45)).heap.size (some ⟨g, o, none⟩) n R m h := (hs.below bW).more bW.size
        have hiW : IS (wr.alloc (.cells #[.bool true, .int .i64 cl.d, .slice A' m' cc] 45)) (wr.alloc (.cells #[.bool true, .int .i64 cl.d, .slice A' m' cc] 45)).heap.size A' m' cl.r := (hi.keep fun p hp => Below.cell ((Below.refl w.heap.size wr).alloc bb.size _) hp).more bW.size
        go_wp2_with fail
        by_cases hd : 0 ≤ cl.d ∧ cl.d ≤ 99
        · have HD := Lib.hid (show (decide ((0 : Int) ≤ cl.d) && decide (cl.d ≤ 99)) = true by simp; omega)
          refine (l1In_any _ _ _ _).mono ?_
          rw [HD.out]
          rintro e w1 ⟨rfl, rfl⟩
          by_cases h3 : m' ≤ 3
          · have h3' : decide ((3 : Int) < ((m' : Nat) : Int)) = false := decide_eq_false (by omega)
            go_wp2_with fail
            refine (l7Refs_any _ _ _ _ _ _ _ _ _ h cl.r _ hsW hiW hn (by omega)).mono ?_
            cases HO : Hps.okRefs h.cs cl.r
            · have HR := Lib.hid (Hps.invalid_cell HCL.out (Hps.okCell_no (.inr (.inr (.inr HO)))))
              rintro e w2 ⟨rfl, b2⟩
              have bW := bW.trans (b2.mono bW.size)
              go_wp2_with fail
              go_ret
              exact ⟨by rw [HR.out]; rfl, bW⟩
            · have HN2 := HN (Hps.okCell_iff.2 ⟨.inl hu, hd, by omega, HO⟩)
              rintro e w2 ⟨rfl, b2⟩
              have bW2 := bW.trans (b2.mono bW.size)
              have hw2 := (hw.alloc (.cells #[.bool true, .int .i64 cl.d, .slice A' m' cc] 45)).keep b2 (by simp; have := hw.lt; omega)
              clear bW
              go_wp2_with fail
              go_roundw
              case rel => exact ⟨k + 1, by omega, by go_num, HN2, bW2, hw2⟩
              case measure => simp [intOf]; omega
          · have h3' : (3 : Int) < ((m' : Nat) : Int) := by omega
            have HR := Lib.hid (Hps.invalid_cell HCL.out (Hps.okCell_no (.inr (.inr (.inl (by omega))))))
            go_wp2_with fail
            go_ret
            exact ⟨by rw [HR.out]; rfl, bW⟩
        · have HD := Lib.hid (show (decide ((0 : Int) ≤ cl.d) && decide (cl.d ≤ 99)) = false by simp; omega)
          have HR := Lib.hid (Hps.invalid_cell HCL.out (Hps.okCell_no (.inr (.inl hd))))
          refine (l1In_any _ _ _ _).mono ?_
          rw [HD.out]
          rintro e w1 ⟨rfl, rfl⟩
          go_wp2_with fail
          go_ret
          exact ⟨by rw [HR.out]; rfl, bW⟩
    · obtain rfl : k = n := by omega
      have hall : ∀ cl ∈ h.cs, Hps.okCell h.cs cl = true := fun cl hcl => by
        obtain ⟨j, hj⟩ := List.mem_iff_getElem?.1 hcl
        exact HP.out j cl (by rw [← hlc]; exact (List.getElem?_eq_some_iff.1 hj).1) hj
      have HV := Lib.hid (Hps.valid_all hall)
      have HSW := Lib.hid ((hs.below bb).more bb.size)
      clear hall HP
      by_cases h40 : k ≤ 40
      · have h40' : (k : Int) ≤ 40 := by omega
        by_cases h4 : m = 4
        · subst h4
          go_wp2_with fail
          refine (l7Refs_any _ _ _ _ _ _ _ _ _ h h.rt _ HSW.out HSW.out.roots hn hm).mono ?_
          rintro e w2 ⟨rfl, b2⟩
          have HR := Lib.hid (show Hps.validH h = Hps.okRefs h.cs h.rt by rw [HV.out, hlc, hlr, decide_eq_true h40]; rfl)
          go_wp2_with fail
          go_ret
          exact ⟨by rw [HR.out]; rfl, bb.trans (b2.mono bb.size)⟩
        · have h4' : ((m : Int) == 4) = false := by rw [beq_eq_false_iff_ne]; omega
          have h4n : (m == 4) = false := by rw [beq_eq_false_iff_ne]; exact h4
          have HR := Lib.hid (show Hps.validH h = false by rw [HV.out, hlr, decide_eq_false h4]; simp)
          go_wp2_with fail
          go_ret
          exact ⟨by rw [HR.out]; rfl, bb⟩
      · have h40' : decide ((k : Int) ≤ 40) = false := decide_eq_false (by omega)
        have h40n : decide (k ≤ 40) = false := decide_eq_false h40
        have HR := Lib.hid (show Hps.validH h = false by rw [HV.out, hlc, decide_eq_false h40]; simp)
        go_wp2_with fail
        go_ret
        exact ⟨by rw [HR.out]; rfl, bb⟩
end Go.Proofs.Ytakdjiojahlnmaa

namespace Go.Proofs.Ytakdjiojahlnmaa
/-- an instruction -/
structure Cm where
  op : Int
  a : Int
  b : Int
  c : Int
  deriving DecidableEq, Inhabited
namespace Hps
def inR (n lo hi : Int) : Bool := decide (lo ≤ n) && decide (n ≤ hi)
theorem inR_iff {n lo hi : Int} : inR n lo hi = true ↔ lo ≤ n ∧ n ≤ hi := by simp [inR]
def okCm (o : Cm) : Bool :=
  if o.op = 1 then inR o.a 0 3 && inR o.b 0 3 && inR o.c 0 99
  else if o.op = 2 ∨ o.op = 3 then inR o.a 0 3 && inR o.b 0 3 && inR o.c 0 2
  else if o.op = 4 then inR o.a 0 3 && inR o.b 0 3 && decide (o.c = 0)
  else if o.op = 5 then inR o.a 0 3 && decide (o.b = 0) && decide (o.c = 0)
  else if o.op = 6 then inR o.a 0 3 && inR o.b 0 99 && decide (o.c = 0)
  else false
theorem okCm_op {o : Cm} (h : okCm o = true) : o.op = 1 ∨ o.op = 2 ∨ o.op = 3 ∨ o.op = 4 ∨ o.op = 5 ∨ o.op = 6 := by
  unfold okCm at h
  by_cases h1 : o.op = 1
  · omega
  rw [if_neg h1] at h
  by_cases h2 : o.op = 2 ∨ o.op = 3
  · omega
  rw [if_neg h2] at h
  by_cases h4 : o.op = 4
  · omega
  rw [if_neg h4] at h
  by_cases h5 : o.op = 5
  · omega
  rw [if_neg h5] at h
  by_cases h6 : o.op = 6
  · omega
  rw [if_neg h6] at h
  cases h
theorem okCm_new {o : Cm} (ho : o.op = 1) : okCm o = true ↔ (0 ≤ o.a ∧ o.a ≤ 3) ∧ (0 ≤ o.b ∧ o.b ≤ 3) ∧ (0 ≤ o.c ∧ o.c ≤ 99) := by
  simp [okCm, ho, inR_iff, and_assoc]
theorem okCm_get {o : Cm} (ho : o.op = 2 ∨ o.op = 3) : okCm o = true ↔ (0 ≤ o.a ∧ o.a ≤ 3) ∧ (0 ≤ o.b ∧ o.b ≤ 3) ∧ (0 ≤ o.c ∧ o.c ≤ 2) := by
  have h1 : ¬ o.op = 1 := by omega
  simp [okCm, ho, h1, inR_iff, and_assoc]
theorem okCm_copy {o : Cm} (ho : o.op = 4) : okCm o = true ↔ (0 ≤ o.a ∧ o.a ≤ 3) ∧ (0 ≤ o.b ∧ o.b ≤ 3) ∧ o.c = 0 := by
  simp [okCm, ho, inR_iff, and_assoc]
theorem okCm_drop {o : Cm} (ho : o.op = 5) : okCm o = true ↔ (0 ≤ o.a ∧ o.a ≤ 3) ∧ o.b = 0 ∧ o.c = 0 := by
  simp [okCm, ho, inR_iff, and_assoc]
theorem okCm_data {o : Cm} (ho : o.op = 6) : okCm o = true ↔ (0 ≤ o.a ∧ o.a ≤ 3) ∧ (0 ≤ o.b ∧ o.b ≤ 99) ∧ o.c = 0 := by
  simp [okCm, ho, inR_iff, and_assoc]
theorem okCm_a {o : Cm} (h : okCm o = true) : 0 ≤ o.a ∧ o.a ≤ 3 := by
  rcases okCm_op h with e | e | e | e | e | e
  · exact ((okCm_new e).1 h).1
  · exact ((okCm_get (.inl e)).1 h).1
  · exact ((okCm_get (.inr e)).1 h).1
  · exact ((okCm_copy e).1 h).1
  · exact ((okCm_drop e).1 h).1
  · exact ((okCm_data e).1 h).1
def okCms (l : List Cm) : Bool := l.all okCm && decide (l.length ≤ 40)
theorem okCms_iff {l : List Cm} : okCms l = true ↔ (∀ o ∈ l, okCm o = true) ∧ l.length ≤ 40 := by simp [okCms]
/-- the root with a number -/
def rootAt (h : Hp) (i : Int) : Int := (h.rt[i.toNat]?).getD (-1)
/-- the reference at a place of a cell -/
def refAt (cs : List Cl) (n p : Int) : Int := match cs[n.toNat]? with
  | some c => (c.r[p.toNat]?).getD (-1)
  | none => -1
/-- a cell with a reference at the place -/
def placeH (cs : List Cl) (n p : Int) : Bool := decide (0 ≤ n) && (match cs[n.toNat]? with
  | some c => decide (p < c.r.length)
  | none => false)
theorem placeH_iff {cs : List Cl} {n p : Int} : placeH cs n p = true ↔ ∃ (k : Nat) (c : Cl), n = k ∧ cs[k]? = some c ∧ p < c.r.length := by
  unfold placeH
  constructor
  · intro h
    rw [Bool.and_eq_true] at h
    obtain ⟨h1, h2⟩ := h
    have h1 := of_decide_eq_true h1
    cases e : cs[n.toNat]? with
    | none => rw [e] at h2; cases h2
    | some c => rw [e] at h2; exact ⟨n.toNat, c, by omega, e, of_decide_eq_true h2⟩
  · rintro ⟨k, c, rfl, hc, hp⟩
    simp [hc, hp]
def canH (h : Hp) (o : Cm) : Bool := validH h && okCm o && (if o.op = 2 then placeH h.cs (rootAt h o.b) o.c else if o.op = 3 then placeH h.cs (rootAt h o.a) o.c else if o.op = 6 then decide (0 ≤ rootAt h o.a) else true)
/-- the cell of OpNew -/
def newCl (o : Cm) : Cl := ⟨true, o.c, List.replicate o.b.toNat (-1)⟩
def putCl (cs : List Cl) (p : Nat) (c : Cl) : List Cl := if p = cs.length then cs ++ [c] else cs.set p c
def setRef (cs : List Cl) (k i : Nat) (x : Int) : List Cl := match cs[k]? with
  | some c => cs.set k ⟨c.u, c.d, c.r.set i x⟩
  | none => cs
def setDat (cs : List Cl) (k : Nat) (x : Int) : List Cl := match cs[k]? with
  | some c => cs.set k ⟨c.u, x, c.r⟩
  | none => cs
def doH (h : Hp) (o : Cm) (p : Nat) : Hp :=
  if o.op = 1 then ⟨putCl h.cs p (newCl o), h.rt.set o.a.toNat p⟩
  else if o.op = 2 then ⟨h.cs, h.rt.set o.a.toNat (refAt h.cs (rootAt h o.b) o.c)⟩
  else if o.op = 3 then ⟨setRef h.cs (rootAt h o.a).toNat o.c.toNat (rootAt h o.b), h.rt⟩
  else if o.op = 4 then ⟨h.cs, h.rt.set o.a.toNat (rootAt h o.b)⟩
  else if o.op = 5 then ⟨h.cs, h.rt.set o.a.toNat (-1)⟩
  else if o.op = 6 then ⟨setDat h.cs (rootAt h o.a).toNat o.b, h.rt⟩
  else h
def zeroH : Hp := ⟨[], []⟩
def stepH (h : Hp) (o : Cm) : Hp × Bool :=
  if validH h && okCm o then
    (if !canH h o || (decide (o.op = 1) && decide (h.cs.length = 40)) then (h, false) else (doH h o h.cs.length, true))
  else (zeroH, false)
def runFrom (h : Hp) (l : List Cm) : Hp := l.foldl (fun h o => (stepH h o).1) h
def runH (l : List Cm) : Hp := if okCms l = true then runFrom emptyH l else zeroH
/-- what is used stays used -/
theorem okRefs_mono {cs cs' : List Cl} (h : ∀ k, usedAt cs k = true → usedAt cs' k = true) {rs : List Int} (hr : okRefs cs rs = true) : okRefs cs' rs = true := by
  rw [okRefs_iff] at hr ⊢
  intro n hn
  have := hr n hn
  rw [okRef_iff] at this ⊢
  rcases this with e | ⟨e1, e2⟩
  · exact .inl e
  · exact .inr ⟨e1, h _ e2⟩
theorem okCell_mono {cs cs' : List Cl} (h : ∀ k, usedAt cs k = true → usedAt cs' k = true) {c : Cl} (hc : okCell cs c = true) : okCell cs' c = true := by
  rw [okCell_iff] at hc ⊢
  exact ⟨hc.1, hc.2.1, hc.2.2.1, okRefs_mono h hc.2.2.2⟩
theorem okRef_none (cs : List Cl) : okRef cs (-1) = true := by simp [okRef]
theorem okRefs_set {cs : List Cl} {rs : List Int} {i : Nat} {x : Int} (h : okRefs cs rs = true) (hx : okRef cs x = true) : okRefs cs (rs.set i x) = true := by
  rw [okRefs_iff] at h ⊢
  intro n hn
  rcases List.mem_or_eq_of_mem_set hn with h1 | rfl
  · exact h n h1
  · exact hx
theorem root_ok {h : Hp} (hv : validH h = true) (i : Int) : okRef h.cs (rootAt h i) = true := by
  unfold rootAt
  cases e : h.rt[i.toNat]? with
  | none => exact okRef_none _
  | some n => exact valid_root hv e
theorem ref_ok {h : Hp} (hv : validH h = true) (n p : Int) : okRef h.cs (refAt h.cs n p) = true := by
  unfold refAt
  cases e : h.cs[n.toNat]? with
  | none => exact okRef_none _
  | some c =>
    simp only
    cases e2 : c.r[p.toNat]? with
    | none => exact okRef_none _
    | some x => exact valid_ref hv e e2
theorem set_root_valid {h : Hp} (hv : validH h = true) (i : Nat) {x : Int} (hx : okRef h.cs x = true) : validH ⟨h.cs, h.rt.set i x⟩ = true := by
  obtain ⟨h1, h2, h3, h4⟩ := valid_iff.1 hv
  exact valid_iff.2 ⟨h1, h2, by simp [h3], okRefs_set h4 hx⟩
theorem used_set {cs : List Cl} {k : Nat} {c c' : Cl} (hc : cs[k]? = some c) (hu : c.u = true → c'.u = true) (j : Nat) (h : usedAt cs j = true) : usedAt (cs.set k c') j = true := by
  obtain ⟨x, h1, h2⟩ := usedAt_iff.1 h
  rw [usedAt_iff, List.getElem?_set]
  by_cases e : k = j
  · subst e
    rw [hc] at h1
    injection h1 with h1
    subst h1
    exact ⟨c', by simp [(List.getElem?_eq_some_iff.1 hc).1], hu h2⟩
  · exact ⟨x, by simp [e, h1], h2⟩
/-- a cell is put in the place of one that is used no more than it -/
theorem set_cell_valid {h : Hp} (hv : validH h = true) {k : Nat} {c c' : Cl} (hc : h.cs[k]? = some c) (hu : c.u = true → c'.u = true) (ho : okCell (h.cs.set k c') c' = true) : validH ⟨h.cs.set k c', h.rt⟩ = true := by
  obtain ⟨h1, h2, h3, h4⟩ := valid_iff.1 hv
  have hm := used_set hc hu
  refine valid_iff.2 ⟨fun x hx => ?_, by simp [h2], h3, okRefs_mono hm h4⟩
  rcases List.mem_or_eq_of_mem_set hx with hx | rfl
  · exact okCell_mono hm (h1 x hx)
  · exact ho
theorem used_append {cs : List Cl} (c : Cl) (j : Nat) (h : usedAt cs j = true) : usedAt (cs ++ [c]) j = true := by
  obtain ⟨x, h1, h2⟩ := usedAt_iff.1 h
  exact usedAt_iff.2 ⟨x, by rw [List.getElem?_append_left (List.getElem?_eq_some_iff.1 h1).1]; exact h1, h2⟩
theorem append_cell_valid {h : Hp} (hv : validH h = true) {c : Cl} (hl : h.cs.length < 40) (ho : okCell (h.cs ++ [c]) c = true) : validH ⟨h.cs ++ [c], h.rt⟩ = true := by
  obtain ⟨h1, h2, h3, h4⟩ := valid_iff.1 hv
  have hm := used_append (cs := h.cs) c
  refine valid_iff.2 ⟨fun x hx => ?_, by simp; omega, h3, okRefs_mono hm h4⟩
  rcases List.mem_append.1 hx with hx | hx
  · exact okCell_mono hm (h1 x hx)
  · rw [List.mem_singleton] at hx
    subst hx
    exact ho
theorem new_ok {o : Cm} (h1 : o.op = 1) (h : okCm o = true) (cs : List Cl) : okCell cs (newCl o) = true := by
  obtain ⟨_, hb, hc⟩ := (okCm_new h1).1 h
  refine okCell_iff.2 ⟨.inl rfl, hc, by simp [newCl]; omega, okRefs_iff.2 fun n hn => ?_⟩
  simp only [newCl, List.mem_replicate] at hn
  rw [hn.2]
  exact okRef_none _
theorem put_valid {h : Hp} (hv : validH h = true) {p : Nat} (hp : p ≤ h.cs.length) (h4 : p < 40) {c : Cl} (hu : c.u = true) (ho : ∀ cs, okCell cs c = true) : validH ⟨putCl h.cs p c, h.rt⟩ = true := by
  unfold putCl
  by_cases e : p = h.cs.length
  · rw [if_pos e]
    exact append_cell_valid hv (by omega) (ho _)
  · rw [if_neg e]
    exact set_cell_valid hv (List.getElem?_eq_getElem (show p < h.cs.length by omega)) (fun _ => hu) (ho _)
theorem put_used {cs : List Cl} {p : Nat} (hp : p ≤ cs.length) {c : Cl} (hu : c.u = true) : usedAt (putCl cs p c) p = true := by
  unfold putCl
  by_cases e : p = cs.length
  · rw [if_pos e, usedAt_iff]
    exact ⟨c, by simp [e], hu⟩
  · rw [if_neg e, usedAt_iff]
    exact ⟨c, by rw [List.getElem?_set]; simp; omega, hu⟩
theorem doH_valid {h : Hp} {o : Cm} {p : Nat} (hc : canH h o = true) (hp : o.op = 1 → p ≤ h.cs.length ∧ p < 40) : validH (doH h o p) = true := by
  unfold canH at hc
  rw [Bool.and_eq_true, Bool.and_eq_true] at hc
  obtain ⟨⟨hv, ho⟩, hc⟩ := hc
  unfold doH
  by_cases h1 : o.op = 1
  · rw [if_pos h1]
    obtain ⟨q1, q2⟩ := hp h1
    have v1 := put_valid hv q1 q2 (c := newCl o) rfl (new_ok h1 ho)
    exact set_root_valid v1 _ (okRef_iff.2 (.inr ⟨by omega, by simpa using put_used q1 (c := newCl o) rfl⟩))
  rw [if_neg h1]
  by_cases h2 : o.op = 2
  · rw [if_pos h2]
    exact set_root_valid hv _ (ref_ok hv _ _)
  rw [if_neg h2]
  by_cases h3 : o.op = 3
  · rw [if_pos h3]
    rw [if_neg h2, if_pos h3] at hc
    obtain ⟨k, c, e, hk, _⟩ := placeH_iff.1 hc
    rw [e, Int.toNat_natCast, setRef, hk]
    have ok := okCell_iff.1 (valid_cell hv hk)
    have hm := used_set (c' := ⟨c.u, c.d, c.r.set o.c.toNat (rootAt h o.b)⟩) hk (fun h => h)
    have hcu : c.u = true := by
      have := root_ok hv o.a
      rw [e, okRef_iff] at this
      rcases this with e' | ⟨_, e'⟩
      · omega
      · obtain ⟨x, hx, hxu⟩ := usedAt_iff.1 e'
        rw [Int.toNat_natCast, hk] at hx
        injection hx with hx
        rw [hx]
        exact hxu
    refine set_cell_valid hv hk (fun h => h) (okCell_iff.2 ⟨.inl hcu, ok.2.1, by simpa using ok.2.2.1, okRefs_mono hm (okRefs_set ok.2.2.2 (root_ok hv _))⟩)
  rw [if_neg h3]
  by_cases h4 : o.op = 4
  · rw [if_pos h4]
    exact set_root_valid hv _ (root_ok hv _)
  rw [if_neg h4]
  by_cases h5 : o.op = 5
  · rw [if_pos h5]
    exact set_root_valid hv _ (okRef_none _)
  rw [if_neg h5]
  by_cases h6 : o.op = 6
  · rw [if_pos h6]
    rw [if_neg h2, if_neg h3, if_pos h6] at hc
    have hc := of_decide_eq_true hc
    obtain ⟨k, e, hk, hku⟩ := okRef_nat (root_ok hv o.a) hc
    obtain ⟨c, hkc, hcu⟩ := usedAt_iff.1 hku
    rw [e, Int.toNat_natCast, setDat, hkc]
    have ok := okCell_iff.1 (valid_cell hv hkc)
    have hm := used_set (c' := ⟨c.u, o.b, c.r⟩) hkc (fun h => h)
    exact set_cell_valid hv hkc (fun h => h) (okCell_iff.2 ⟨.inl hcu, ((okCm_data h6).1 ho).2.1, ok.2.2.1, okRefs_mono hm ok.2.2.2⟩)
  rw [if_neg h6]
  exact hv
theorem stepH_valid {h : Hp} {o : Cm} (hv : validH h = true) (ho : okCm o = true) : validH (stepH h o).1 = true := by
  unfold stepH
  rw [hv, ho]
  simp only [Bool.and_self, if_true]
  split
  · exact hv
  · next hn =>
    simp only [Bool.or_eq_true, Bool.not_eq_true', Bool.and_eq_true, decide_eq_true_eq, not_or, Bool.not_eq_false, not_and] at hn
    exact doH_valid hn.1 fun h1 => ⟨Nat.le_refl _, by have := hn.2 h1; have := (valid_iff.1 hv).2.1; omega⟩
theorem runFrom_valid {l : List Cm} : ∀ {h : Hp}, validH h = true → (∀ o ∈ l, okCm o = true) → validH (runFrom h l) = true := by
  induction l with
  | nil => intro h hv _; exact hv
  | cons o l ih => intro h hv hl; exact ih (stepH_valid hv (hl o (by simp))) fun x hx => hl x (by simp [hx])
theorem runH_valid {l : List Cm} (h : okCms l = true) : validH (runH l) = true := by
  rw [runH, if_pos h]
  exact runFrom_valid empty_valid (okCms_iff.1 h).1
theorem runFrom_snoc (h : Hp) (l : List Cm) (o : Cm) : runFrom h (l ++ [o]) = (stepH (runFrom h l) o).1 := by simp [runFrom, List.foldl_append]
/-- cells that are dropped are empty -/
def zeroCl : Cl := ⟨false, 0, []⟩
def dropL : List Cl → List Bool → List Cl
  | c :: cs, b :: bs => (if b = true then zeroCl else c) :: dropL cs bs
  | cs, _ => cs
theorem dropL_nil (cs : List Cl) : dropL cs [] = cs := by cases cs <;> rfl
theorem dropL_len : ∀ (cs : List Cl) (bs : List Bool), (dropL cs bs).length = cs.length
  | [], [] => rfl
  | [], _ :: _ => rfl
  | _ :: _, [] => rfl
  | c :: cs, b :: bs => by simp [dropL, dropL_len cs bs]
theorem dropL_at : ∀ (cs : List Cl) (bs : List Bool) (k : Nat) (c : Cl), cs[k]? = some c → (dropL cs bs)[k]? = some (if bs[k]? = some true then zeroCl else c)
  | [], _, k, c, h => by simp at h
  | x :: cs, [], k, c, h => by simpa [dropL] using h
  | x :: cs, b :: bs, 0, c, h => by
    simp at h
    subst h
    simp [dropL]
  | x :: cs, b :: bs, k + 1, c, h => by
    have := dropL_at cs bs k c (by simpa using h)
    simpa [dropL] using this
theorem dropL_take {cs : List Cl} (bs : List Bool) (k : Nat) {j : Nat} {c : Cl} (h : cs[j]? = some c) : (dropL cs (bs.take k))[j]? = some (if j < k ∧ bs[j]? = some true then zeroCl else c) := by
  rw [dropL_at _ _ _ _ h, List.getElem?_take]
  by_cases e : j < k
  · simp [e]
  · simp [e]
theorem dropL_succ {cs : List Cl} {bs : List Bool} {k : Nat} {b : Bool} (hb : bs[k]? = some b) (hk : k < cs.length) : dropL cs (bs.take (k + 1)) = if b = true then (dropL cs (bs.take k)).set k zeroCl else dropL cs (bs.take k) := by
  apply List.ext_getElem?
  intro j
  rcases Nat.lt_or_ge j cs.length with hj | hj
  · have hc := List.getElem?_eq_getElem hj
    rw [dropL_take _ _ hc]
    by_cases e : j = k
    · subst e
      cases b
      · simp only [Bool.false_eq_true, if_false]
        rw [dropL_take _ _ hc, hb]
        simp
      · simp only [if_true]
        have hjl : j < (dropL cs (bs.take j)).length := by rw [dropL_len]; exact hj
        rw [if_pos ⟨by omega, hb⟩, List.getElem?_set, if_pos rfl, if_pos hjl]
    · have hR : (if b = true then (dropL cs (bs.take k)).set k zeroCl else dropL cs (bs.take k))[j]? = (dropL cs (bs.take k))[j]? := by
        cases b
        · rw [if_neg (by simp)]
        · rw [if_pos rfl, List.getElem?_set, if_neg (by omega)]
      rw [hR, dropL_take _ _ hc]
      have : j < k + 1 ↔ j < k := by omega
      simp only [this]
  · have hR : (if b = true then (dropL cs (bs.take k)).set k zeroCl else dropL cs (bs.take k)).length = cs.length := by
      cases b
      · rw [if_neg (by simp), dropL_len]
      · rw [if_pos rfl, List.length_set, dropL_len]
    rw [List.getElem?_eq_none (by rw [dropL_len]; omega), List.getElem?_eq_none (by omega)]
def dropH (h : Hp) (dead : List Bool) : Hp := ⟨dropL h.cs dead, h.rt⟩
/-- how many of the first k are used and not marked -/
def freedTo (cs : List Cl) (marks : List Bool) : Nat → Nat
  | 0 => 0
  | k + 1 => freedTo cs marks k + (if marks[k]? = some false ∧ usedAt cs k = true then 1 else 0)
theorem freedTo_le (cs : List Cl) (marks : List Bool) : ∀ k, freedTo cs marks k ≤ k
  | 0 => Nat.le_refl _
  | k + 1 => by
    have := freedTo_le cs marks k
    simp only [freedTo]
    split <;> omega
def sweepH (h : Hp) (marks : List Bool) : Hp × Int :=
  if validH h = true ∧ marks.length = h.cs.length then
    (if validH (dropH h (marks.map (!·))) = true then (dropH h (marks.map (!·)), (freedTo h.cs marks marks.length : Int)) else (zeroH, -1))
  else (zeroH, -1)
noncomputable def collectH (h : Hp) : Hp × Int := sweepH h (reachH h)
theorem reachH_len {h : Hp} (hv : validH h = true) : (reachH h).length = h.cs.length := by rw [reachH, if_pos hv, reachL_len]
/-- a used cell that is marked stays -/
theorem drop_used {cs : List Cl} {marks : List Bool} (hl : marks.length = cs.length) {k : Nat} : usedAt (dropL cs (marks.map (!·))) k = true ↔ usedAt cs k = true ∧ marks[k]? = some true := by
  rcases Nat.lt_or_ge k cs.length with hk | hk
  · have hc := List.getElem?_eq_getElem hk
    have hm := List.getElem?_eq_getElem (show k < marks.length by omega)
    rw [usedAt_iff, dropL_at _ _ _ _ hc, List.getElem?_map, hm, usedAt_iff, hc]
    cases marks[k] <;> simp [zeroCl]
  · constructor
    · intro h
      have := usedAt_lt h
      rw [dropL_len] at this
      omega
    · rintro ⟨h, _⟩
      have := usedAt_lt h
      omega
theorem collect_drop_valid {h : Hp} (hv : validH h = true) : validH (dropH h ((reachH h).map (!·))) = true := by
  obtain ⟨h1, h2, h3, h4⟩ := valid_iff.1 hv
  have hl := reachH_len hv
  have hr : ∀ {n : Int}, okRef h.cs n = true → (0 ≤ n → Rch h.cs h.rt n.toNat) → okRef (dropL h.cs ((reachH h).map (!·))) n = true := by
    intro n hn hR
    rw [okRef_iff] at hn ⊢
    rcases hn with e | ⟨e1, e2⟩
    · exact .inl e
    · refine .inr ⟨e1, (drop_used hl).2 ⟨e2, ?_⟩⟩
      rw [reachH, if_pos hv, reachL_true (usedAt_lt e2)]
      exact hR e1
  refine valid_iff.2 ⟨fun c hc => ?_, by simp [dropH, dropL_len, h2], h3, okRefs_iff.2 fun n hn => hr (okRefs_iff.1 h4 n hn) fun h0 => .root (by rw [Int.toNat_of_nonneg h0]; exact hn)⟩
  obtain ⟨k, hk⟩ := List.mem_iff_getElem?.1 hc
  have hkl := (List.getElem?_eq_some_iff.1 hk).1
  simp only [dropH] at hk hkl
  rw [dropL_len] at hkl
  have hkc := List.getElem?_eq_getElem hkl
  rw [dropL_at _ _ _ _ hkc] at hk
  injection hk with hk
  have hm := List.getElem?_eq_getElem (show k < (reachH h).length by omega)
  rw [List.getElem?_map, hm] at hk
  have ok := okCell_iff.1 (valid_cell hv hkc)
  cases e : (reachH h)[k]'(by omega) with
  | false =>
    rw [e] at hk
    simp at hk
    subst hk
    simp [okCell, zeroCl, okRefs]
  | true =>
    rw [e] at hk hm
    simp at hk
    subst hk
    refine okCell_iff.2 ⟨ok.1, ok.2.1, ok.2.2.1, okRefs_iff.2 fun n hn => hr (okRefs_iff.1 ok.2.2.2 n hn) fun h0 => ?_⟩
    rw [reachH, if_pos hv, reachL_true hkl] at hm
    exact .step hm hkc (by rw [Int.toNat_of_nonneg h0]; exact hn)
theorem collectH_eq {h : Hp} (hv : validH h = true) : collectH h = (dropH h ((reachH h).map (!·)), (freedTo h.cs (reachH h) (reachH h).length : Int)) := by
  rw [collectH, sweepH, if_pos ⟨hv, reachH_len hv⟩, if_pos (collect_drop_valid hv)]
theorem collectH_valid {h : Hp} (hv : validH h = true) : validH (collectH h).1 = true := by
  rw [collectH_eq hv]
  exact collect_drop_valid hv
end Hps
end Go.Proofs.Ytakdjiojahlnmaa
namespace Go.Proofs.Ytakdjiojahlnmaa
open Go.RowKit
/-- an instruction as a value -/
abbrev cmV (o : Cm) : Value := .agg #[.int .i64 o.op, .int .i64 o.a, .int .i64 o.b, .int .i64 o.c]
theorem l1In_is (n lo hi : Int) (x : Bool) (w : World) (h : Hps.inR n lo hi = x) : Calls Try.prog 45 #[.int .i64 n, .int .i64 lo, .int .i64 hi] w fun e w' => e = .returned (.bool x) ∧ w = w' :=
  (l1In_any n lo hi _).mono fun _ _ ⟨he, hw⟩ => ⟨by rw [he, ← h]; rfl, hw⟩
set_option maxHeartbeats 1000000 in
theorem mCV_new (a b c : Int) (w : World) (xa xb : Bool) (HA : Hid (Hps.inR a 0 3 = xa)) (HB : Hid (Hps.inR b 0 3 = xb)) (xc : Bool) (HC : Hid (Hps.inR c 0 99 = xc)) : Calls Try.prog 106 #[cmV ⟨1, a, b, c⟩] w fun e w' => e = .returned (.bool (xa && xb && xc)) ∧ Below w.heap.size w w' := by
  have bb : Below w.heap.size w (w.alloc (.cells #[.int .i64 1, .int .i64 a, .int .i64 b, .int .i64 c] 128)) := (Below.refl _ _).alloc (Nat.le_refl _) _
  go_enter Try.func106, Try.ntmps106
  go_wp2_with fail
  refine (l1In_is _ _ _ _ _ HA.out).mono ?_
  rintro e w1 ⟨rfl, rfl⟩
  go_wp2_with fail
  refine (l1In_is _ _ _ _ _ HB.out).mono ?_
  rintro e w1 ⟨rfl, rfl⟩
  cases xa
  · go_wp2_with fail
    go_ret
    exact ⟨rfl, bb⟩
  go_wp2_with fail
  refine (l1In_is _ _ _ _ _ HB.out).mono ?_
  rintro e w1 ⟨rfl, rfl⟩
  cases xb
  · go_wp2_with fail
    go_ret
    exact ⟨rfl, bb⟩
  go_wp2_with fail
  refine (l1In_is _ _ _ _ _ HC.out).mono ?_
  rintro e w1 ⟨rfl, rfl⟩
  go_wp2_with fail
  go_ret
  exact ⟨rfl, bb⟩
set_option maxHeartbeats 1000000 in
theorem mCV_get (a b c : Int) (w : World) (xa xb : Bool) (HA : Hid (Hps.inR a 0 3 = xa)) (HB : Hid (Hps.inR b 0 3 = xb)) (xc : Bool) (HC : Hid (Hps.inR c 0 2 = xc)) : Calls Try.prog 106 #[cmV ⟨2, a, b, c⟩] w fun e w' => e = .returned (.bool (xa && xb && xc)) ∧ Below w.heap.size w w' := by
  have bb : Below w.heap.size w (w.alloc (.cells #[.int .i64 2, .int .i64 a, .int .i64 b, .int .i64 c] 128)) := (Below.refl _ _).alloc (Nat.le_refl _) _
  go_enter Try.func106, Try.ntmps106
  go_wp2_with fail
  refine (l1In_is _ _ _ _ _ HA.out).mono ?_
  rintro e w1 ⟨rfl, rfl⟩
  go_wp2_with fail
  refine (l1In_is _ _ _ _ _ HB.out).mono ?_
  rintro e w1 ⟨rfl, rfl⟩
  cases xa
  · go_wp2_with fail
    go_ret
    exact ⟨rfl, bb⟩
  cases xb
  · go_wp2_with fail
    go_ret
    exact ⟨rfl, bb⟩
  go_wp2_with fail
  refine (l1In_is _ _ _ _ _ HC.out).mono ?_
  rintro e w1 ⟨rfl, rfl⟩
  go_wp2_with fail
  go_ret
  exact ⟨rfl, bb⟩
set_option maxHeartbeats 1000000 in
theorem mCV_set (a b c : Int) (w : World) (xa xb : Bool) (HA : Hid (Hps.inR a 0 3 = xa)) (HB : Hid (Hps.inR b 0 3 = xb)) (xc : Bool) (HC : Hid (Hps.inR c 0 2 = xc)) : Calls Try.prog 106 #[cmV ⟨3, a, b, c⟩] w fun e w' => e = .returned (.bool (xa && xb && xc)) ∧ Below w.heap.size w w' := by
  have bb : Below w.heap.size w (w.alloc (.cells #[.int .i64 3, .int .i64 a, .int .i64 b, .int .i64 c] 128)) := (Below.refl _ _).alloc (Nat.le_refl _) _
  go_enter Try.func106, Try.ntmps106
  go_wp2_with fail
  refine (l1In_is _ _ _ _ _ HA.out).mono ?_
  rintro e w1 ⟨rfl, rfl⟩
  go_wp2_with fail
  refine (l1In_is _ _ _ _ _ HB.out).mono ?_
  rintro e w1 ⟨rfl, rfl⟩
  cases xa
  · go_wp2_with fail
    go_ret
    exact ⟨rfl, bb⟩
  cases xb
  · go_wp2_with fail
    go_ret
    exact ⟨rfl, bb⟩
  go_wp2_with fail
  refine (l1In_is _ _ _ _ _ HC.out).mono ?_
  rintro e w1 ⟨rfl, rfl⟩
  go_wp2_with fail
  go_ret
  exact ⟨rfl, bb⟩
set_option maxHeartbeats 1000000 in
theorem mCV_copy (a b c : Int) (w : World) (xa xb : Bool) (HA : Hid (Hps.inR a 0 3 = xa)) (HB : Hid (Hps.inR b 0 3 = xb)) (xc : Bool) (hc : (c == 0) = xc) : Calls Try.prog 106 #[cmV ⟨4, a, b, c⟩] w fun e w' => e = .returned (.bool (xa && xb && xc)) ∧ Below w.heap.size w w' := by
  have bb : Below w.heap.size w (w.alloc (.cells #[.int .i64 4, .int .i64 a, .int .i64 b, .int .i64 c] 128)) := (Below.refl _ _).alloc (Nat.le_refl _) _
  go_enter Try.func106, Try.ntmps106
  go_wp2_with fail
  refine (l1In_is _ _ _ _ _ HA.out).mono ?_
  rintro e w1 ⟨rfl, rfl⟩
  go_wp2_with fail
  refine (l1In_is _ _ _ _ _ HB.out).mono ?_
  rintro e w1 ⟨rfl, rfl⟩
  cases xa
  · go_wp2_with fail
    go_ret
    exact ⟨rfl, bb⟩
  cases xb
  · go_wp2_with fail
    go_ret
    exact ⟨rfl, bb⟩
  go_wp2_with fail
  go_ret
  exact ⟨rfl, bb⟩
set_option maxHeartbeats 1000000 in
theorem mCV_drop (a b c : Int) (w : World) (xa xb : Bool) (HA : Hid (Hps.inR a 0 3 = xa)) (HB : Hid (Hps.inR b 0 3 = xb)) (xy xc : Bool) (hy : (b == 0) = xy) (hc : (c == 0) = xc) : Calls Try.prog 106 #[cmV ⟨5, a, b, c⟩] w fun e w' => e = .returned (.bool (xa && xy && xc)) ∧ Below w.heap.size w w' := by
  have bb : Below w.heap.size w (w.alloc (.cells #[.int .i64 5, .int .i64 a, .int .i64 b, .int .i64 c] 128)) := (Below.refl _ _).alloc (Nat.le_refl _) _
  go_enter Try.func106, Try.ntmps106
  go_wp2_with fail
  refine (l1In_is _ _ _ _ _ HA.out).mono ?_
  rintro e w1 ⟨rfl, rfl⟩
  go_wp2_with fail
  refine (l1In_is _ _ _ _ _ HB.out).mono ?_
  rintro e w1 ⟨rfl, rfl⟩
  cases xa
  · go_wp2_with fail
    go_ret
    exact ⟨rfl, bb⟩
  cases xy
  · go_wp2_with fail
    go_ret
    exact ⟨rfl, bb⟩
  go_wp2_with fail
  go_ret
  exact ⟨rfl, bb⟩
set_option maxHeartbeats 1000000 in
theorem mCV_data (a b c : Int) (w : World) (xa xb : Bool) (HA : Hid (Hps.inR a 0 3 = xa)) (HB : Hid (Hps.inR b 0 3 = xb)) (xy xc : Bool) (HY : Hid (Hps.inR b 0 99 = xy)) (hc : (c == 0) = xc) : Calls Try.prog 106 #[cmV ⟨6, a, b, c⟩] w fun e w' => e = .returned (.bool (xa && xy && xc)) ∧ Below w.heap.size w w' := by
  have bb : Below w.heap.size w (w.alloc (.cells #[.int .i64 6, .int .i64 a, .int .i64 b, .int .i64 c] 128)) := (Below.refl _ _).alloc (Nat.le_refl _) _
  go_enter Try.func106, Try.ntmps106
  go_wp2_with fail
  refine (l1In_is _ _ _ _ _ HA.out).mono ?_
  rintro e w1 ⟨rfl, rfl⟩
  go_wp2_with fail
  refine (l1In_is _ _ _ _ _ HB.out).mono ?_
  rintro e w1 ⟨rfl, rfl⟩
  cases xa
  · go_wp2_with fail
    go_ret
    exact ⟨rfl, bb⟩
  go_wp2_with fail
  refine (l1In_is _ _ _ _ _ HY.out).mono ?_
  rintro e w1 ⟨rfl, rfl⟩
  cases xy
  · go_wp2_with fail
    go_ret
    exact ⟨rfl, bb⟩
  go_wp2_with fail
  go_ret
  exact ⟨rfl, bb⟩
set_option maxHeartbeats 1000000 in
theorem mCV_none (op a b c : Int) (w : World) (xa xb : Bool) (HA : Hid (Hps.inR a 0 3 = xa)) (HB : Hid (Hps.inR b 0 3 = xb)) (h1 : ¬ op = 1) (h2 : ¬ op = 2) (h3 : ¬ op = 3) (h4 : ¬ op = 4) (h5 : ¬ op = 5) (h6 : ¬ op = 6) : Calls Try.prog 106 #[cmV ⟨op, a, b, c⟩] w fun e w' => e = .returned (.bool (false)) ∧ Below w.heap.size w w' := by
  have bb : Below w.heap.size w (w.alloc (.cells #[.int .i64 op, .int .i64 a, .int .i64 b, .int .i64 c] 128)) := (Below.refl _ _).alloc (Nat.le_refl _) _
  go_enter Try.func106, Try.ntmps106
  go_wp2_with fail
  refine (l1In_is _ _ _ _ _ HA.out).mono ?_
  rintro e w1 ⟨rfl, rfl⟩
  go_wp2_with fail
  refine (l1In_is _ _ _ _ _ HB.out).mono ?_
  rintro e w1 ⟨rfl, rfl⟩
  go_wp2_with fail
  go_ret
  exact ⟨rfl, bb⟩
theorem mCommandValid_any (o : Cm) (w : World) : Calls Try.prog 106 #[cmV o] w fun e w' => e = .returned (.bool (Hps.okCm o)) ∧ Below w.heap.size w w' := by
  obtain ⟨op, a, b, c⟩ := o
  have HA : Hid (Hps.inR a 0 3 = Hps.inR a 0 3) := Lib.hid rfl
  have HB : Hid (Hps.inR b 0 3 = Hps.inR b 0 3) := Lib.hid rfl
  have d0 : ∀ n : Int, (n == 0) = decide (n = 0) := fun _ => rfl
  by_cases h1 : op = 1
  · subst h1
    rw [show Hps.okCm ⟨1, a, b, c⟩ = (Hps.inR a 0 3 && Hps.inR b 0 3 && Hps.inR c 0 99) by simp [Hps.okCm]]
    exact mCV_new a b c w _ _ HA HB _ (Lib.hid rfl)
  by_cases h2 : op = 2
  · subst h2
    rw [show Hps.okCm ⟨2, a, b, c⟩ = (Hps.inR a 0 3 && Hps.inR b 0 3 && Hps.inR c 0 2) by simp [Hps.okCm]]
    exact mCV_get a b c w _ _ HA HB _ (Lib.hid rfl)
  by_cases h3 : op = 3
  · subst h3
    rw [show Hps.okCm ⟨3, a, b, c⟩ = (Hps.inR a 0 3 && Hps.inR b 0 3 && Hps.inR c 0 2) by simp [Hps.okCm]]
    exact mCV_set a b c w _ _ HA HB _ (Lib.hid rfl)
  by_cases h4 : op = 4
  · subst h4
    rw [show Hps.okCm ⟨4, a, b, c⟩ = (Hps.inR a 0 3 && Hps.inR b 0 3 && decide (c = 0)) by simp [Hps.okCm]]
    exact mCV_copy a b c w _ _ HA HB _ (d0 c)
  by_cases h5 : op = 5
  · subst h5
    rw [show Hps.okCm ⟨5, a, b, c⟩ = (Hps.inR a 0 3 && decide (b = 0) && decide (c = 0)) by simp [Hps.okCm]]
    exact mCV_drop a b c w _ _ HA HB _ _ (d0 b) (d0 c)
  by_cases h6 : op = 6
  · subst h6
    rw [show Hps.okCm ⟨6, a, b, c⟩ = (Hps.inR a 0 3 && Hps.inR b 0 99 && decide (c = 0)) by simp [Hps.okCm]]
    exact mCV_data a b c w _ _ HA HB _ _ (Lib.hid rfl) (d0 c)
  rw [show Hps.okCm ⟨op, a, b, c⟩ = false by simp [Hps.okCm, h1, h2, h3, h4, h5, h6]]
  exact mCV_none op a b c w _ _ HA HB h1 h2 h3 h4 h5 h6
end Go.Proofs.Ytakdjiojahlnmaa
namespace Go.Proofs.Ytakdjiojahlnmaa
open Go.RowKit
/-- the values of instructions in a row -/
def flatM : List Cm → List Value
  | [] => []
  | o :: l => .int .i64 o.op :: .int .i64 o.a :: .int .i64 o.b :: .int .i64 o.c :: flatM l
theorem flatM_length : ∀ l : List Cm, (flatM l).length = l.length * 4
  | [] => rfl
  | _ :: l => by simp [flatM, flatM_length l]; omega
theorem flatM_at : ∀ (l : List Cm) (k : Nat) (o : Cm), l[k]? = some o → (flatM l)[k * 4]? = some (.int .i64 o.op) ∧ (flatM l)[k * 4 + 1]? = some (.int .i64 o.a) ∧ (flatM l)[k * 4 + 2]? = some (.int .i64 o.b) ∧ (flatM l)[k * 4 + 3]? = some (.int .i64 o.c)
  | [], k, o, h => by simp at h
  | x :: l, 0, o, h => by
    simp at h
    subst h
    simp [flatM]
  | x :: l, k + 1, o, h => by
    have := flatM_at l k o (by simpa using h)
    rw [show (k + 1) * 4 = k * 4 + 4 by omega]
    simpa [flatM] using this
theorem flatM_append : ∀ (l m : List Cm), flatM (l ++ m) = flatM l ++ flatM m
  | [], m => rfl
  | x :: l, m => by simp [flatM, flatM_append l m]
theorem flatM_oneCell : ∀ (l : List Cm), ∀ u ∈ flatM l, u.oneCell' = true
  | [], u, h => by simp [flatM] at h
  | x :: l, u, h => by
    simp only [flatM, List.mem_cons] at h
    rcases h with rfl | rfl | rfl | rfl | h
    · rfl
    · rfl
    · rfl
    · rfl
    · exact flatM_oneCell l u h
/-- a slice of instructions that a call can read -/
def MS (w : World) (B : Nat) (A : Option Addr) (n : Nat) (l : List Cm) : Prop :=
  l.length = n ∧ (0 < n → ∃ g o, A = some ⟨g, o, none⟩ ∧ g < B ∧ ∀ (j : Nat) (u : Value), (flatM l)[j]? = some u → w.cell? ⟨g, o + j, none⟩ = some u)
section
variable {w w' : World} {B B' n : Nat} {A : Option Addr} {l : List Cm}
theorem MS.keep (h : MS w B A n l) (hk : ∀ p : Addr, p.block < B → w'.cell? p = w.cell? p) : MS w' B A n l :=
  ⟨h.1, fun hn => by
    obtain ⟨g, o, e, hb, hc⟩ := h.2 hn
    exact ⟨g, o, e, hb, fun k x hx => (hk _ hb).trans (hc k x hx)⟩⟩
theorem MS.more (h : MS w B A n l) (hB : B ≤ B') : MS w B' A n l :=
  ⟨h.1, fun hn => by
    obtain ⟨g, o, e, hb, hc⟩ := h.2 hn
    exact ⟨g, o, e, by omega, hc⟩⟩
theorem MS.below (h : MS w B A n l) (hb : Below B w w') : MS w' B A n l := h.keep fun _ hp => hb.cell hp
theorem MS.up {w w' : World} {n : Nat} {A : Option Addr} {l : List Cm} (h : MS w w.heap.size A n l) (hb : Below w.heap.size w w') : MS w' w'.heap.size A n l := (h.below hb).more hb.size
theorem MS.at_ {k : Nat} (h : MS w B A n l) (hk : k < n) : ∃ g o c, A = some ⟨g, o, none⟩ ∧ g < B ∧ l[k]? = some c ∧ w.cell? ⟨g, o + k * 4, none⟩ = some (.int .i64 c.op) ∧ w.cell? ⟨g, o + k * 4 + 1, none⟩ = some (.int .i64 c.a) ∧ w.cell? ⟨g, o + k * 4 + 2, none⟩ = some (.int .i64 c.b) ∧ w.cell? ⟨g, o + k * 4 + 3, none⟩ = some (.int .i64 c.c) := by
  obtain ⟨g, o, e, hb, hc⟩ := h.2 (by omega)
  have hl : k < l.length := by have := h.1; omega
  have hx := List.getElem?_eq_getElem hl
  obtain ⟨f1, f2, f3, f4⟩ := flatM_at l k _ hx
  exact ⟨g, o, _, e, hb, hx, hc _ _ f1, by rw [Nat.add_assoc]; exact hc _ _ f2, by rw [Nat.add_assoc]; exact hc _ _ f3, by rw [Nat.add_assoc]; exact hc _ _ f4⟩
theorem flatM_take : ∀ (l : List Cm) (k : Nat), flatM (l.take k) = (flatM l).take (k * 4)
  | [], k => by simp [flatM]
  | x :: l, 0 => by simp [flatM]
  | x :: l, k + 1 => by
    rw [show (k + 1) * 4 = k * 4 + 4 by omega]
    simp [flatM, flatM_take l k]
theorem MS.take {k : Nat} (h : MS w B A n l) (hk : k ≤ n) : MS w B A k (l.take k) := by
  refine ⟨by rw [List.length_take, h.1]; omega, fun h0 => ?_⟩
  obtain ⟨g, o, e, hb, hc⟩ := h.2 (by omega)
  refine ⟨g, o, e, hb, fun j u hj => ?_⟩
  rw [flatM_take, List.getElem?_take] at hj
  split at hj
  · exact hc j u hj
  · cases hj
end
/-- the value v owns the instructions l, in a row from block 'base' on -/
def OwnM (w : World) (base : Nat) (v : Value) (l : List Cm) : Prop := w.ownsRow base 128 4 v l.length (flatM l)
theorem OwnM.form {w : World} {base : Nat} {v : Value} {l : List Cm} (h : OwnM w base v l) : ∃ A c, v = .slice A l.length c ∧ (0 < l.length → ∃ g, A = some ⟨g, 0, none⟩ ∧ base ≤ g ∧ g < w.heap.size) := by
  rcases h.2 with ⟨rfl, h0⟩ | ⟨g, cap, cur, rfl, hb, hh, _⟩
  · exact ⟨none, 0, by rw [h0], fun h => by omega⟩
  · exact ⟨some ⟨g, 0, none⟩, cap, rfl, fun _ => ⟨g, rfl, hb, (Array.getElem?_eq_some_iff.1 hh).1⟩⟩
theorem OwnM.reads {w : World} {base n c : Nat} {A : Option Addr} {l : List Cm} (h : OwnM w base (.slice A n c) l) : MS w w.heap.size A n l := by
  rcases h.2 with ⟨e, h0⟩ | ⟨g, cap, cur, e, hb, hh, _⟩
  · injection e with e1 e2 e3
    subst e2
    have : l = [] := List.eq_nil_of_length_eq_zero h0
    subst this
    exact ⟨rfl, fun h => by omega⟩
  · injection e with e1 e2 e3
    subst e1 e2 e3
    refine ⟨rfl, fun hn => ⟨g, 0, rfl, (Array.getElem?_eq_some_iff.1 hh).1, fun k x hx => ?_⟩⟩
    have hk : k < (flatM l).length := (List.getElem?_eq_some_iff.1 hx).1
    rw [flatM_length] at hk
    rw [Nat.zero_add]
    exact (World.ownsRow.cellAt h k (by omega)).trans hx
theorem OwnM.below {w w' : World} {base B : Nat} {v : Value} {l : List Cm} (h : OwnM w base v l) (hb : Below B w w') (hB : w.heap.size ≤ B) : OwnM w' base v l := by
  refine ⟨h.1, ?_⟩
  rcases h.2 with h0 | ⟨g, cap, cur, e, hb', hh, hr⟩
  · exact .inl h0
  · exact .inr ⟨g, cap, cur, e, hb', (hb.block g (Nat.lt_of_lt_of_le (Array.getElem?_eq_some_iff.1 hh).1 hB)).trans hh, hr⟩
theorem OwnM.base {w : World} {base base' : Nat} {v : Value} {l : List Cm} (h : OwnM w base v l) (hb : base' ≤ base) : OwnM w base' v l := by
  refine ⟨h.1, ?_⟩
  rcases h.2 with h0 | ⟨g, cap, cur, e, hb', hh, hr⟩
  · exact .inl h0
  · exact .inr ⟨g, cap, cur, e, by omega, hh, hr⟩
theorem OwnM.far {w w' : World} {base : Nat} {v : Value} {l : List Cm} {row : Option Nat} (h : OwnM w base v l) (hg : w.grownBy w' row) (hne : v.ownBlock = none ∨ v.ownBlock ≠ row) : OwnM w' base v l := World.ownsRow.kept h hg hne
theorem OwnM.cast {w : World} {base : Nat} {v : Value} {l m : List Cm} (e : l = m) (h : OwnM w base v l) : OwnM w base v m := e ▸ h
theorem OwnM.cap {w : World} {base n c : Nat} {A : Option Addr} {l : List Cm} (h : OwnM w base (.slice A n c) l) : n = l.length ∧ n ≤ c := by
  rcases h.2 with ⟨e, h0⟩ | ⟨g, cap, cur, e, _, _, hc, _⟩
  · injection e with e1 e2 e3
    omega
  · injection e with e1 e2 e3
    omega
theorem own_noneM (w : World) (base : Nat) (hb : base ≤ w.heap.size) : OwnM (w.alloc (.cells #[] 128)) base (.slice (some ⟨w.heap.size, 0, none⟩) 0 0) [] :=
  World.ownsRow_lit (base := base) (e := 128) (size := 4) w #[] 0 hb (by unfold maxLen; omega) rfl
theorem own_oneM (w : World) (o : Cm) (base : Nat) (hb : base ≤ w.heap.size) : OwnM (w.alloc (.cells #[.int .i64 o.op, .int .i64 o.a, .int .i64 o.b, .int .i64 o.c] 128)) base (.slice (some ⟨w.heap.size, 0, none⟩) 1 1) [o] :=
  World.ownsRow_lit (base := base) (e := 128) (size := 4) w #[.int .i64 o.op, .int .i64 o.a, .int .i64 o.b, .int .i64 o.c] 1 hb (by unfold maxLen; omega) rfl
theorem info_command : (Try.prog.info? 128).map (fun i => (i.zero, i.size, i.bytes)) = some (some (.agg #[.int .i64 0, .int .i64 0, .int .i64 0, .int .i64 0]), 4, 32) := by kernel_rfl
theorem run_appendM (w : World) (base : Nat) (v : Value) (xs : List Cm) (hown : OwnM w base v xs) (A : Option Addr) (m c B : Nat) (ys : List Cm) (hr : MS w B A m ys) (hn : xs.length + m ≤ 1099511627776) (hbase : base ≤ w.heap.size) (ty : TypeId) :
    ∃ v' w', (Builtin.append_ #[101, 101] ty #[v, .slice A m c]).run Try.prog w = .ok v' w' ∧ OwnM w' base v' (xs ++ ys) ∧ w.grownBy w' v.ownBlock ∧ (v'.ownBlock = v.ownBlock ∨ v'.ownBlock = some w.heap.size) := by
  obtain ⟨i0, hi0, hz0, hz1, hz2⟩ := info_parts info_command
  have hm := hr.1
  rcases A with _ | ad
  · have h0 : m = 0 := by
      rcases Nat.eq_zero_or_pos m with h0 | h0
      · exact h0
      · obtain ⟨g, o, e, _⟩ := hr.2 h0
        cases e
    subst h0
    have : ys = [] := List.eq_nil_of_length_eq_zero hm
    subst this
    refine ⟨v, w, ?_, by simpa using hown, World.grownBy.refl _ _, .inl rfl⟩
    rcases hown.2 with ⟨rfl, _⟩ | ⟨g, cap, cur, rfl, _, _, hnc, _⟩
    · simp [Builtin.append_, run_underlying Try.underlying101, sizeOf, typeInfo, hi0, Builtin.lenOf, Builtin.firstCells]
    · simp [Builtin.append_, run_underlying Try.underlying101, sizeOf, typeInfo, hi0, Builtin.lenOf, Builtin.firstCells, hnc, storeCells]
  · have hcells : ∀ j u, (flatM ys)[j]? = some u → w.cell? (ad.add j) = some u := by
      intro j u hj
      rcases Nat.eq_zero_or_pos m with h0 | h0
      · subst h0
        have : ys = [] := List.eq_nil_of_length_eq_zero hm
        subst this
        simp [flatM] at hj
      · obtain ⟨g, o, e, _, hc⟩ := hr.2 h0
        replace e := Option.some.inj e
        subst e
        rw [add_lit]
        exact hc j u hj
    obtain ⟨v', w', hrun, h2, h3, _, h5⟩ := run_append_own_at (P := Try.prog) w base 101 ty 128 i0 _ 4 32 Try.underlying101 hi0 hz0 hz1 hz2 rfl (by omega) v xs.length (flatM xs) hown ad m c (flatM ys)
      (by rw [flatM_length, hm]) hcells (flatM_oneCell ys) (by unfold maxLen; omega) (by omega) hbase
    refine ⟨v', w', hrun, ?_, h3, h5⟩
    unfold OwnM
    rw [flatM_append, List.length_append, hm]
    exact h2
theorem wpList_appendM {w : World} {ops : Array Oper} {rest : List Oper} {o : Oper} {a : Act} {Q : Exit → Act → World → Prop} (hgd : o.guard = none) (s x : Operand)
    (ho : o.op = .call { callee := .builtin .append, args := #[s, x], argTypes := #[101, 101] })
    (base : Nat) (v : Value) (xs : List Cm) (hs : a.eval s = v) (hown : OwnM w base v xs) (A : Option Addr) (m c B : Nat) (ys : List Cm) (hx : a.eval x = .slice A m c) (hr : MS w B A m ys)
    (hn : xs.length + m ≤ 1099511627776) (hbase : base ≤ w.heap.size)
    (h : ∀ v' w', OwnM w' base v' (xs ++ ys) → w.grownBy w' v.ownBlock → (v'.ownBlock = v.ownBlock ∨ v'.ownBlock = some w.heap.size) → wpList Try.prog ops Q rest (a.put o.dst v') w') : wpList Try.prog ops Q (o :: rest) a w :=
  wpList_plain hgd fun _ hK => by
    obtain ⟨v', w', hrun, h2, h3, h4⟩ := run_appendM w base v xs hown A m c B ys hr hn hbase o.type
    unfold Oper.wp execOp
    simp only [ho, resolve, invoke, builtin, Sem.run_bind, Sem.run_pure, Result.andThen_ok, List.map_toArray, List.map_cons, List.map_nil, hs, hx, hrun]
    exact hK _ _ (h v' w' h2 h3 h4)
set_option maxHeartbeats 1000000 in
theorem mCommandsValid_any (A : Option Addr) (n c : Nat) (l : List Cm) (w : World) (h : MS w w.heap.size A n l) (hn : n ≤ 1099511627776) :
    Calls Try.prog 98 #[.slice A n c] w fun e w' => e = .returned (.bool (Hps.okCms l)) ∧ Below w.heap.size w w' := by
  have HL := Lib.hid h.1
  go_enter Try.func98, Try.ntmps98
  go_wp2_with fail
  go_loopw [3] (fun i wr => ∃ k : Nat, k ≤ n ∧ i = .int .i64 k ∧ Hid (∀ j o, j < k → l[j]? = some o → Hps.okCm o = true) ∧ Below w.heap.size w wr) (fun i _ => n - (intOf i).toNat)
  case atStart => exact ⟨0, Nat.zero_le _, rfl, Lib.hid (fun j x hj => by omega), Below.refl _ _⟩
  case round =>
    obtain ⟨k, hk, rfl, HP, bb⟩ := hrel
    by_cases hlt : k < n
    · obtain ⟨g, o, x, rfl, hg, hx, c0, c1, c2, c3⟩ := (h.below bb).at_ hlt
      have hlt' : (k : Int) < n := by omega
      have HX := Lib.hid hx
      clear hx
      go_wp2_with fail
      refine (mCommandValid_any x _).mono ?_
      cases he : Hps.okCm x
      · have R := Lib.hid (show Hps.okCms l = false by
          cases hh : Hps.okCms l
          · rfl
          · rw [(Hps.okCms_iff.1 hh).1 x (List.mem_of_getElem? HX.out)] at he
            cases he)
        rintro e w1 ⟨rfl, b1⟩
        have b2 := bb.trans (b1.mono bb.size)
        clear he
        go_wp2_with fail
        go_ret
        exact ⟨by rw [R.out]; rfl, b2⟩
      · have HN : Hid (∀ j y, j < k + 1 → l[j]? = some y → Hps.okCm y = true) := Lib.hid fun j y hj hy => by
          rcases Nat.lt_or_ge j k with h1 | h1
          · exact HP.out j y h1 hy
          · obtain rfl : j = k := by omega
            rw [HX.out] at hy
            injection hy with hy
            rw [← hy]
            exact he
        rintro e w1 ⟨rfl, b1⟩
        have b2 := bb.trans (b1.mono bb.size)
        clear he
        go_wp2_with fail
        go_roundw
        case rel => exact ⟨k + 1, by omega, by go_num, HN, b2⟩
        case measure => simp [intOf]; omega
    · obtain rfl : k = n := by omega
      have R := Lib.hid (show Hps.okCms l = decide (k ≤ 40) by
        have ha : l.all Hps.okCm = true := by
          rw [List.all_eq_true]
          intro x hx
          obtain ⟨j, hj⟩ := List.mem_iff_getElem?.1 hx
          exact HP.out j x (by rw [← HL.out]; exact (List.getElem?_eq_some_iff.1 hj).1) hj
        rw [Hps.okCms, ha, Bool.true_and, HL.out])
      go_wp2_with fail
      go_ret
      exact ⟨ret_bool (by rw [R.out, decide_eq_decide]; omega), bb⟩
end Go.Proofs.Ytakdjiojahlnmaa
namespace Go.Proofs.Ytakdjiojahlnmaa
open Go.RowKit
set_option maxRecDepth 100000
theorem flatM_set : ∀ (l : List Cm) (k : Nat) (o : Cm), k < l.length → ((((flatM l).set (k * 4) (.int .i64 o.op)).set (k * 4 + 1) (.int .i64 o.a)).set (k * 4 + 2) (.int .i64 o.b)).set (k * 4 + 3) (.int .i64 o.c) = flatM (l.set k o)
  | [], k, o, h => by simp at h
  | x :: l, 0, o, _ => by simp [flatM]
  | x :: l, k + 1, o, h => by
    have := flatM_set l k o (by simpa using h)
    rw [show (k + 1) * 4 = k * 4 + 4 by omega]
    simp [flatM, this]
/-- one instruction of an owned row is written -/
theorem OwnM.put {w : World} {base g c j n : Nat} {l : List Cm} (h : OwnM w base (.slice (some ⟨g, 0, none⟩) n c) l) (hn : l.length = n) (hj : j < n) (o : Cm) :
    OwnM ((((w.setCell ⟨g, j * 4, none⟩ (.int .i64 o.op)).setCell ⟨g, j * 4 + 1, none⟩ (.int .i64 o.a)).setCell ⟨g, j * 4 + 2, none⟩ (.int .i64 o.b)).setCell ⟨g, j * 4 + 3, none⟩ (.int .i64 o.c)) base (.slice (some ⟨g, 0, none⟩) n c) (l.set j o) := by
  subst hn
  have q := ((((World.ownsRow.stored h (j * 4) (.int .i64 o.op)).1.stored (j * 4 + 1) (.int .i64 o.a)).1.stored (j * 4 + 2) (.int .i64 o.b)).1.stored (j * 4 + 3) (.int .i64 o.c)).1
  unfold OwnM
  rw [List.length_set, ← flatM_set l j o hj]
  exact q
theorem OwnM.frozen {w : World} {base g c n : Nat} {l : List Cm} (h : OwnM w base (.slice (some ⟨g, 0, none⟩) n c) l) (hn : l.length = n) (i : Nat) : w.frozen? ⟨g, i, none⟩ = false := by
  subst hn
  exact World.ownsRow.frozenAt h i
end Go.Proofs.Ytakdjiojahlnmaa

namespace Go.Proofs.Ytakdjiojahlnmaa
open Go.RowKit
/-- the work list's state: the marks in block g, the list in blocks of its own behind it, the heap's box -/
structure RS (w wr : World) (box : Array Value) (n : Nat) (lv : Value) (cs : List Cl) (rs : List Int) (outs : List Bool) (l : List Int) : Prop where
  own : OwnO wr w.heap.size (.slice (some ⟨w.heap.size + 1, 0, none⟩) n n) outs
  lst : OwnI wr (w.heap.size + 2) lv l
  box : Rw wr w.heap.size 26 box
  bel : Below w.heap.size w wr
  wk : Hps.Wk cs rs outs l
  big : w.heap.size + 2 ≤ wr.heap.size
theorem RS.draws {w wr : World} {box : Array Value} {n : Nat} {lv : Value} {cs : List Cl} {rs : List Int} {outs : List Bool} {l : List Int} (h : RS w wr box n lv cs rs outs l) (k : Nat) : RS w (wr.drewN k) box n lv cs rs outs l :=
  ⟨h.own, h.lst, h.box, below_drewN h.bel k, h.wk, h.big⟩
theorem RS.pre {w wr : World} {box : Array Value} {n : Nat} {lv : Value} {cs : List Cl} {rs : List Int} {outs : List Bool} {l : List Int} (h : RS w wr box n lv cs rs outs l) (y : Nat) : OwnI ((wr.setCell ⟨w.heap.size + 1, y, none⟩ (.bool true)).alloc (.cells #[.int .i64 y] 3)) (w.heap.size + 2) lv l := by
  refine World.ownsRow.alloc (h.lst.far (only_put (World.grownBy.refl _ _) y (.bool true)) ?_) _
  cases e : lv.ownBlock with
  | none => exact .inl rfl
  | some kk =>
    right
    intro e'
    injection e' with e'
    have := (World.ownsRow.lt h.lst kk e).1
    omega
/-- one more is marked and listed -/
theorem RS.mark {w wr w5 : World} {box : Array Value} {n y : Nat} {lv v5 : Value} {cs : List Cl} {rs : List Int} {outs : List Bool} {l : List Int} (h : RS w wr box n lv cs rs outs l) (hn : outs.length = n)
    (hy : outs[y]? = some false) (hr : Hps.Rch cs rs y)
    (ho : OwnI w5 (w.heap.size + 2) v5 (l ++ [(y : Int)])) (hg : ((wr.setCell ⟨w.heap.size + 1, y, none⟩ (.bool true)).alloc (.cells #[.int .i64 y] 3)).grownBy w5 lv.ownBlock) : RS w w5 box n v5 cs rs (outs.set y true) (l ++ [(y : Int)]) := by
  have hlv : ∀ k, lv.ownBlock = some k → w.heap.size + 2 ≤ k := fun k hk => (World.ownsRow.lt h.lst k hk).1
  have o1 := h.own.put' (j := y) hn true
  have o2 := World.ownsRow.alloc o1 (.cells #[.int .i64 y] 3)
  have o3 : OwnO w5 w.heap.size (.slice (some ⟨w.heap.size + 1, 0, none⟩) n n) (outs.set y true) := World.ownsRow.kept o2 hg (by
    right
    intro e
    have := hlv (w.heap.size + 1) e.symm
    omega)
  have b1 := (h.bel.setCell (p := ⟨w.heap.size + 1, y, none⟩) (by simp) (.bool true)).alloc (by simp; have := h.bel.size; omega) (.cells #[.int .i64 y] 3)
  refine ⟨o3, ho, ?_, b1.grown hg (by simp; have := h.bel.size; omega) (fun k hk => by have := hlv k hk; omega), h.wk.mark hy hr, ?_⟩
  · exact Rw.far ((Rw.other (w := wr) h.box (by omega) _).alloc _) hg (fun e => by have := hlv w.heap.size e.symm; omega)
  · have := hg.size
    have := h.big
    simp at *
    omega
theorem take_snocI {xs : List Int} {k : Nat} {x : Int} (h : xs[k]? = some x) : xs.take (k + 1) = xs.take k ++ [x] := by
  rw [List.take_add_one, h]
  rfl
set_option maxHeartbeats 4000000 in
theorem l7Reach_any (A R F : Option Addr) (n c m d q e : Nat) (h : Hp) (rs : List Int) (w : World) (hs : HS w w.heap.size A n R m h) (hf : IS w w.heap.size F q rs) (hn : n ≤ 1000000) (hq : q ≤ 1000000)
    (ho : Hps.okRefs h.cs rs = true) (hr : ∀ cl ∈ h.cs, Hps.okRefs h.cs cl.r = true) (hb : ∀ cl ∈ h.cs, cl.r.length ≤ 1000000) :
    Calls Try.prog 56 #[heapV A n c R m d, .slice F q e] w (GaveO w (Hps.reachL h.cs rs)) := by
  have hlc := hs.cells.1
  have hlr := hf.1
  have HO := Lib.hid ho
  have HRF := Lib.hid hr
  have HB := Lib.hid hb
  clear ho hr hb
  have hmk := makeO (w.alloc (.cells #[.slice A n c, .slice R m d] 26)) n (by omega)
  have st : RS w (((w.alloc (.cells #[.slice A n c, .slice R m d] 26)).alloc (.cells (Array.replicate n (.bool false)) 4)).alloc (.cells #[] 3)) #[.slice A n c, .slice R m d] n (.slice (some ⟨w.heap.size + 2, 0, none⟩) 0 0) h.cs rs (List.replicate n false) [] := by
    refine ⟨?_, ?_, ((Rw.new w _ _).alloc _).alloc _, (((Below.refl w.heap.size w).alloc (Nat.le_refl _) _).alloc (by simp) _).alloc (by simp; omega) _, by rw [← hlc]; exact Hps.Wk.start _ _, by simp⟩
    · have := own_madeO (w.alloc (.cells #[.slice A n c, .slice R m d] 26)) n (by omega)
      rw [World.size_alloc] at this
      exact World.ownsRow.alloc (this.base (by omega)) _
    · have := own_noneI ((w.alloc (.cells #[.slice A n c, .slice R m d] 26)).alloc (.cells (Array.replicate n (.bool false)) 4)) (w.heap.size + 2) (by simp)
      simpa using this
  obtain ⟨w0, hw0⟩ : ∃ w0, (w.alloc (.cells #[.slice A n c, .slice R m d] 26)).alloc (.cells (Array.replicate n (.bool false)) 4) = w0 := ⟨_, rfl⟩
  have hsz0 : w0.heap.size = w.heap.size + 2 := by rw [← hw0]; simp
  rw [hw0] at hmk st
  simp at hmk
  clear hw0
  go_enter Try.func56, Try.ntmps56
  go_wp2
  clear hmk
  go_loopw [6, 7] (fun lv i wr => ∃ (k : Nat) (outs : List Bool) (l : List Int), k ≤ q ∧ i = .int .i64 k ∧ RS w wr #[.slice A n c, .slice R m d] n lv h.cs rs outs l ∧ Hid (Hps.Marked outs (rs.take k))) (fun _ i _ => q - (intOf i).toNat)
  case atStart => exact ⟨0, _, _, Nat.zero_le _, rfl, st, Lib.hid (by rw [List.take_zero]; exact Hps.Marked.nil _)⟩
  case round =>
    clear st hsz0
    obtain ⟨k, outs, l, hk, rfl, S, HM⟩ := hrel
    have hlen : outs.length = n := S.wk.len.trans hlc
    by_cases hlt : k < q
    · obtain ⟨g, o, x, rfl, hg, hx, d0⟩ := hf.at_ hlt
      have d1 := (S.bel.cell (p := ⟨g, o + k, none⟩) hg).trans d0
      have hlt' : (k : Int) < q := by omega
      have HT := Lib.hid (take_snocI hx)
      have hok := Hps.okRefs_at HO.out hx
      by_cases hx0 : 0 ≤ x
      · obtain ⟨y, rfl, hy, _⟩ := Hps.okRef_nat hok hx0
        have HRC := Lib.hid (Hps.Rch.root (cs := h.cs) (List.mem_of_getElem? hx))
        rw [hlc] at hy
        obtain ⟨g', o', b, e1, _, hbk, c1⟩ := S.own.reads.at_ (k := y) hy
        injection e1 with e1
        injection e1 with e2 e3
        subst e2 e3
        rw [Nat.zero_add] at c1
        have hy' : (y : Int) < n := by omega
        clear hx hok
        cases b
        · have HBK := Lib.hid hbk
          have fz : wr.frozen? ⟨w.heap.size + 1, y, none⟩ = false := S.own.frozen hlen y
          have d2 := ((S.bel.setCell (p := ⟨w.heap.size + 1, y, none⟩) (by simp) (.bool true)).cell (p := ⟨g, o + k, none⟩) hg).trans d0
          have ow := S.pre y
          have rr : IS ((wr.setCell ⟨w.heap.size + 1, y, none⟩ (.bool true)).alloc (.cells #[.int .i64 y] 3)) ((wr.setCell ⟨w.heap.size + 1, y, none⟩ (.bool true)).alloc (.cells #[.int .i64 y] 3)).heap.size (some ⟨(wr.setCell ⟨w.heap.size + 1, y, none⟩ (.bool true)).heap.size, 0, none⟩) 1 [(y : Int)] := (own_oneI _ (y : Int) 0 (Nat.zero_le _)).reads
          have hyn : l.length + 1 ≤ 1099511627776 := by have := S.wk.le; omega
          have hsz := S.big
          simp only [World.size_setCell] at rr
          clear hbk
          go_wp2_with (at_builtin; refine wpList_appendI rfl (.tmp 43) (.tmp 48) rfl (w.heap.size + 2) _ l rfl ow (some ⟨wr.heap.size, 0, none⟩) 1 1 _ [(y : Int)] rfl rr hyn (by simp; omega) ?_; intro v5 w5 o5 g5 s5)
          go_roundw
          case rel => exact ⟨k + 1, _, _, by omega, by go_num, S.mark hlen HBK.out HRC.out o5 g5, Lib.hid (by rw [HT.out]; exact (HM.out.set y).snoc fun _ => by simp [hlen, hy])⟩
          case measure => simp [intOf]; omega
        · have HBK := Lib.hid hbk
          clear hbk
          go_wp2_with fail
          go_roundw
          case rel => exact ⟨k + 1, _, _, by omega, by go_num, S, Lib.hid (by rw [HT.out]; exact HM.out.snoc fun _ => by simpa using HBK.out)⟩
          case measure => simp [intOf]; omega
      · have hx0' : decide ((0 : Int) ≤ x) = false := decide_eq_false hx0
        clear hx hok
        go_wp2_with fail
        go_roundw
        case rel => exact ⟨k + 1, _, _, by omega, by go_num, S, Lib.hid (by rw [HT.out]; exact HM.out.snoc fun hh => absurd hh hx0)⟩
        case measure => simp [intOf]; omega
    · obtain rfl : k = q := by omega
      rw [List.take_of_length_le (by omega)] at HM
      go_wp2_with fail
      go_loopw [6, 8] (fun lv i wr => ∃ (k : Nat) (outs : List Bool) (l : List Int), k ≤ l.length ∧ i = .int .i64 k ∧ RS w wr #[.slice A n c, .slice R m d] n lv h.cs rs outs l ∧ Hid (Hps.Marked outs rs) ∧ Hid (Hps.Done h.cs outs l k)) (fun _ i _ => n - (intOf i).toNat)
      case atStart => exact ⟨0, _, _, Nat.zero_le _, rfl, S, HM, Lib.hid (Hps.Done.zero _ _ _)⟩
      case round =>
        clear S HM hlen hk hlt
        obtain ⟨k, outs, l, hk, rfl, S, HM, HD⟩ := hrel
        obtain ⟨A6, c6, e6, f6⟩ := S.lst.form
        subst e6
        have hle := S.wk.le
        by_cases hlt : k < l.length
        · have hlt' : (k : Int) < l.length := by omega
          obtain ⟨g6, o6, yi, e6, hg6, hy6, d6⟩ := S.lst.reads.at_ (k := k) hlt
          subst e6
          obtain ⟨y, rfl, hy⟩ := S.wk.nat yi (List.mem_of_getElem? hy6)
          rw [hlc] at hy
          obtain ⟨g, o, cl, A', m', cc, e1, hg, hcl, d1, d2, d3, hmc, hi⟩ := hs.cells.at_ (k := y) hy
          subst e1
          have z0 : wr.cell? ⟨w.heap.size, 0, none⟩ = some (.slice (some ⟨g, o, none⟩) n c) := S.box.cell 0
          have d3' := (S.bel.cell (p := ⟨g, o + y * 3 + 2, none⟩) hg).trans d3
          have hy' : (y : Int) < n := by omega
          have hm3 : m' ≤ 1000000 := by have := HB.out cl (List.mem_of_getElem? hcl); have := hi.1; omega
          have HOK := Lib.hid (HRF.out cl (List.mem_of_getElem? hcl))
          have HRY := Lib.hid (S.wk.rch y (List.mem_of_getElem? hy6))
          have HY6 := Lib.hid hy6
          have HCL := Lib.hid hcl
          clear hy6 hcl d1 d2 d3 f6
          go_wp2_with fail
          go_big_quiet (fail)
          go_wp2
          go_loopw [6, 10] (fun lv i wr => ∃ (j : Nat) (outs : List Bool) (l : List Int), j ≤ m' ∧ i = .int .i64 j ∧ RS w wr #[.slice (some ⟨g, o, none⟩) n c, .slice R m d] n lv h.cs rs outs l ∧ Hid (Hps.Marked outs rs) ∧ Hid (Hps.Done h.cs outs l k) ∧ Hid (l[k]? = some (y : Int)) ∧ Hid (Hps.Marked outs (cl.r.take j))) (fun _ i _ => m' - (intOf i).toNat)
          case atStart => exact ⟨0, _, _, Nat.zero_le _, rfl, S.draws _, HM, HD, HY6, Lib.hid (by rw [List.take_zero]; exact Hps.Marked.nil _)⟩
          case round =>
            clear S HM HD HY6 d6 z0 d3' hle hlt hlt' hk
            obtain ⟨j, outs, l, hj, rfl, S, HM, HD, HY6, HMJ⟩ := hrel
            have hlen : outs.length = n := S.wk.len.trans hlc
            have hkl : k < l.length := (List.getElem?_eq_some_iff.1 HY6.out).1
            by_cases hlt : j < m'
            · obtain ⟨gr, or, x, e2, hgr, hx, d0⟩ := hi.at_ hlt
              subst e2
              have d1 := (S.bel.cell (p := ⟨gr, or + j, none⟩) hgr).trans d0
              have hlt' : (j : Int) < m' := by omega
              have HT := Lib.hid (take_snocI hx)
              have hok := Hps.okRefs_at HOK.out hx
              by_cases hx0 : 0 ≤ x
              · obtain ⟨z, rfl, hz, _⟩ := Hps.okRef_nat hok hx0
                have HRC := Lib.hid (Hps.Rch.step HRY.out HCL.out (List.mem_of_getElem? hx))
                rw [hlc] at hz
                obtain ⟨g', o', b, e1, _, hbk, c1⟩ := S.own.reads.at_ (k := z) hz
                injection e1 with e1
                injection e1 with e2 e3
                subst e2 e3
                rw [Nat.zero_add] at c1
                have hz' : (z : Int) < n := by omega
                clear hx hok
                cases b
                · have HBK := Lib.hid hbk
                  have fz : wr.frozen? ⟨w.heap.size + 1, z, none⟩ = false := S.own.frozen hlen z
                  have d2 := ((S.bel.setCell (p := ⟨w.heap.size + 1, z, none⟩) (by simp) (.bool true)).cell (p := ⟨gr, or + j, none⟩) hgr).trans d0
                  have ow := S.pre z
                  have rr : IS ((wr.setCell ⟨w.heap.size + 1, z, none⟩ (.bool true)).alloc (.cells #[.int .i64 z] 3)) ((wr.setCell ⟨w.heap.size + 1, z, none⟩ (.bool true)).alloc (.cells #[.int .i64 z] 3)).heap.size (some ⟨(wr.setCell ⟨w.heap.size + 1, z, none⟩ (.bool true)).heap.size, 0, none⟩) 1 [(z : Int)] := (own_oneI _ (z : Int) 0 (Nat.zero_le _)).reads
                  have hyn : l.length + 1 ≤ 1099511627776 := by have := S.wk.le; omega
                  have hsz := S.big
                  simp only [World.size_setCell] at rr
                  clear hbk
                  go_wp2_with (at_builtin; refine wpList_appendI rfl (.tmp 92) (.tmp 97) rfl (w.heap.size + 2) _ l rfl ow (some ⟨wr.heap.size, 0, none⟩) 1 1 _ [(z : Int)] rfl rr hyn (by simp; omega) ?_; intro v5 w5 o5 g5 s5)
                  go_roundw
                  case rel => exact ⟨j + 1, _, _, by omega, by go_num, S.mark hlen HBK.out HRC.out o5 g5, Lib.hid (HM.out.set z), Lib.hid (HD.out.more (by omega)), Lib.hid (by rw [List.getElem?_append_left hkl]; exact HY6.out), Lib.hid (by rw [HT.out]; exact (HMJ.out.set z).snoc fun _ => by simp [hlen, hz])⟩
                  case measure => simp [intOf]; omega
                · have HBK := Lib.hid hbk
                  clear hbk
                  go_wp2_with fail
                  go_roundw
                  case rel => exact ⟨j + 1, _, _, by omega, by go_num, S, HM, HD, HY6, Lib.hid (by rw [HT.out]; exact HMJ.out.snoc fun _ => by simpa using HBK.out)⟩
                  case measure => simp [intOf]; omega
              · have hx0' : decide ((0 : Int) ≤ x) = false := decide_eq_false hx0
                clear hx hok
                go_wp2_with fail
                go_roundw
                case rel => exact ⟨j + 1, _, _, by omega, by go_num, S, HM, HD, HY6, Lib.hid (by rw [HT.out]; exact HMJ.out.snoc fun hh => absurd hh hx0)⟩
                case measure => simp [intOf]; omega
            · obtain rfl : j = m' := by omega
              have HMJ2 := Lib.hid (show Hps.Marked outs cl.r by
                have := HMJ.out
                rwa [List.take_of_length_le (by have := hi.1; omega)] at this)
              have hle := S.wk.le
              go_wp2_with fail
              go_roundw
              case rel => exact ⟨k + 1, _, _, by omega, by go_num, S, HM, Lib.hid (HD.out.succ HY6.out HCL.out HMJ2.out)⟩
              case measure => simp [intOf]; omega
        · obtain rfl : k = l.length := by omega
          have HF := Lib.hid (S.wk.fin HM.out HD.out)
          go_wp2_with fail
          go_ret
          exact ⟨_, rfl, by rw [← HF.out]; exact S.own, S.bel⟩
end Go.Proofs.Ytakdjiojahlnmaa

namespace Go.Proofs.Ytakdjiojahlnmaa
open Go.RowKit
namespace Hps
theorem valid_small {h : Hp} (hv : validH h = true) : h.cs.length ≤ 40 ∧ h.rt.length = 4 ∧ ∀ cl ∈ h.cs, cl.r.length ≤ 3 :=
  ⟨(valid_iff.1 hv).2.1, (valid_iff.1 hv).2.2.1, fun cl hcl => (okCell_iff.1 ((valid_iff.1 hv).1 cl hcl)).2.2.1⟩
end Hps
set_option maxHeartbeats 1000000 in
theorem mReachable_any (A R : Option Addr) (n c m d : Nat) (h : Hp) (w : World) (hs : HS w w.heap.size A n R m h) (hn : n ≤ 1099511627776) (hm : m ≤ 1099511627776) :
    Calls Try.prog 44 #[heapV A n c R m d] w (GaveO w (Hps.reachH h)) := by
  have hlc := hs.cells.1
  have hlr := hs.roots.1
  have b0 : Below w.heap.size w (w.alloc (.cells #[.slice A n c, .slice R m d] 26)) := (Below.refl _ _).alloc (Nat.le_refl _) _
  have r0 := hs.up b0
  have hw0 := Rw.new w 26 #[.slice A n c, .slice R m d]
  cases hv : Hps.validH h
  · have HR := Lib.hid (show Hps.reachH h = [] by rw [Hps.reachH, hv]; rfl)
    have HV := Lib.hid hv
    clear hv
    go_enter Try.func44, Try.ntmps44
    go_wp2_with fail
    refine (mHeapValid_any _ _ _ _ _ _ h _ r0 hn hm).mono ?_
    rw [HV.out]
    rintro e w1 ⟨rfl, b1⟩
    have bb1 := b0.trans (b1.mono b0.size)
    have on := own_noneO w1 w.heap.size bb1.size
    have bl := bb1.alloc bb1.size (.cells #[] 4)
    go_wp2_with fail
    go_ret
    exact ⟨_, rfl, by rw [HR.out]; exact on, bl⟩
  · have HR := Lib.hid (show Hps.reachH h = Hps.reachL h.cs h.rt by rw [Hps.reachH, hv]; rfl)
    have HV := Lib.hid hv
    obtain ⟨s1, s2, s3⟩ := Hps.valid_small hv
    have HRF := Lib.hid (Hps.valid_refs hv)
    have HRO := Lib.hid (Hps.valid_iff.1 hv).2.2.2
    have HS3 := Lib.hid s3
    clear hv s3
    go_enter Try.func44, Try.ntmps44
    go_wp2_with fail
    refine (mHeapValid_any _ _ _ _ _ _ h _ r0 hn hm).mono ?_
    rw [HV.out]
    rintro e w1 ⟨rfl, b1⟩
    have bb1 := b0.trans (b1.mono b0.size)
    have r1 := r0.up b1
    have hw1 := hw0.keep b1 (by simp)
    have z0 : w1.cell? ⟨w.heap.size, 0, none⟩ = some (.slice A n c) := hw1.cell 0
    have z1 : w1.cell? ⟨w.heap.size, 1, none⟩ = some (.slice R m d) := hw1.cell 1
    clear r0 hw0
    go_wp2_with fail
    refine (l7Reach_any _ _ _ _ _ _ _ _ _ h h.rt _ r1 r1.roots (by omega) (by omega) HRO.out HRF.out (fun cl hcl => by have := HS3.out cl hcl; omega)).mono ?_
    rintro e w2 ⟨v2, rfl, o2, b2⟩
    go_wp2_with fail
    go_ret
    exact ⟨_, rfl, by rw [HR.out]; exact o2.base bb1.size, bb1.trans (b2.mono bb1.size)⟩
end Go.Proofs.Ytakdjiojahlnmaa

namespace Go.Proofs.Ytakdjiojahlnmaa
open Go.RowKit
namespace Hps
end Hps
namespace Hps
def usedTo (cs : List Cl) (k : Nat) : Nat := (cs.take k).countP (·.u)
theorem usedTo_le (cs : List Cl) (k : Nat) : usedTo cs k ≤ k := Nat.le_trans List.countP_le_length (by rw [List.length_take]; omega)
end Hps
end Go.Proofs.Ytakdjiojahlnmaa

namespace Go.Proofs.Ytakdjiojahlnmaa
open Go.RowKit
/-- a heap of the call's own -/
def GaveH (w : World) (h : Hp) (e : Ending) (w' : World) : Prop := ∃ vc vr, e = .returned (.agg #[vc, vr]) ∧ OwnH w' w.heap.size vc vr h ∧ Below w.heap.size w w'
theorem row_ne {w : World} {base b : Nat} {v : Value} {xs : List Int} (h : OwnI w base v xs) (hb : b < base) : some b ≠ v.ownBlock := fun e => by
  have := (World.ownsRow.lt h b e.symm).1
  omega
set_option maxHeartbeats 1000000 in
theorem mEmptyHeap_any (w : World) : Calls Try.prog 99 #[] w (GaveH w Hps.emptyH) := by
  go_enter Try.func99, Try.ntmps99
  go_wp2_with fail
  go_loopw [2] (fun i wr => ∃ (k : Nat) (vr : Value), k ≤ 4 ∧ i = .int .i64 k ∧ OwnI wr (w.heap.size + 2) vr (List.replicate k (-1)) ∧ Rw wr (w.heap.size + 1) 26 #[.slice none 0 0, vr] ∧ Rw wr w.heap.size 26 #[.slice none 0 0, .slice none 0 0] ∧ Below w.heap.size w wr ∧ w.heap.size + 2 ≤ wr.heap.size) (fun i _ => 4 - (intOf i).toNat)
  case atStart =>
    refine ⟨0, .slice none 0 0, by omega, rfl, World.ownsRow_nil _ _ _ _, ?_, (Rw.new w _ _).alloc _, ((Below.refl w.heap.size w).alloc (Nat.le_refl _) _).alloc (by simp) _, by simp⟩
    have := Rw.new (w.alloc (.cells #[.slice none 0 0, .slice none 0 0] 26)) 26 #[.slice none 0 0, .slice none 0 0]
    rw [World.size_alloc] at this
    exact this
  case round =>
    obtain ⟨k, vr, hk, rfl, ho, hx, hr, bb, hsz⟩ := hrel
    have x0 : wr.cell? ⟨w.heap.size + 1, 0, none⟩ = some (.slice none 0 0) := hx.cell 0
    have x1 : wr.cell? ⟨w.heap.size + 1, 1, none⟩ = some vr := hx.cell 1
    have y0 : wr.cell? ⟨w.heap.size, 0, none⟩ = some (.slice none 0 0) := hr.cell 0
    have y1 : wr.cell? ⟨w.heap.size, 1, none⟩ = some (.slice none 0 0) := hr.cell 1
    obtain ⟨A, c, e, hA⟩ := ho.form
    have hlen : (List.replicate k (-1 : Int)).length = k := by simp
    rw [hlen] at e hA
    subst e
    by_cases hlt : k < 4
    · have hlt' : (k : Int) < 4 := by omega
      have ow := World.ownsRow.alloc ho (.cells #[.int .i64 (-1)] 3)
      have rr : IS (wr.alloc (.cells #[.int .i64 (-1)] 3)) (wr.alloc (.cells #[.int .i64 (-1)] 3)).heap.size (some ⟨wr.heap.size, 0, none⟩) 1 [-1] := (own_oneI wr (-1) 0 (Nat.zero_le _)).reads
      have HS := Lib.hid (show List.replicate k (-1 : Int) ++ [-1] = List.replicate (k + 1) (-1) by rw [List.replicate_succ'])
      clear y0 y1 hlen
      go_wp2_with (at_builtin; refine wpList_appendI rfl (.tmp 9) (.tmp 10) rfl (w.heap.size + 2) _ (List.replicate k (-1)) rfl ow (some ⟨wr.heap.size, 0, none⟩) 1 1 _ [-1] rfl rr (by simp; omega) (by simp; omega) ?_; intro v5 w5 o5 g5 s5; have hx5 := Rw.far (hx.alloc (.cells #[.int .i64 (-1)] 3)) g5 (row_ne ho (by omega)); have hr5 := Rw.far (hr.alloc (.cells #[.int .i64 (-1)] 3)) g5 (row_ne ho (by omega)); have x0 := hx5.cell 0; have x1 := hx5.cell 1; have x2 := hx5.frozen 1; obtain ⟨A5, c5, e5, f5⟩ := o5.form; subst e5; clear f5)
      have o6 : OwnI w5 (w.heap.size + 2) (.slice A5 (k + 1) c5) (List.replicate (k + 1) (-1)) := by
        have := OwnI.cast HS.out o5
        simpa using this
      have b5 : Below w.heap.size w w5 := (bb.alloc bb.size _).grown g5 (by simp; omega) (fun kk hk => by have := (World.ownsRow.lt ho kk hk).1; omega)
      have s5' : w.heap.size + 2 ≤ w5.heap.size := by have := g5.size; simp at this; omega
      go_roundw
      case rel =>
        refine ⟨k + 1, .slice A5 (k + 1) c5, by omega, by go_num, ?_, hx5.put 1 _, Rw.other (w := w5) hr5 (by omega) _, b5.setCell (p := ⟨w.heap.size + 1, 1, none⟩) (by simp) _, by simpa using s5'⟩
        exact o6.far (only_put (World.grownBy.refl _ _) 1 _) (.inr fun e => row_ne o6 (by omega) e.symm)
      case measure => simp [intOf]; omega
    · obtain rfl : k = 4 := by omega
      have y2 := hr.frozen 0
      have y3 := hr.frozen 1
      have bn := (bb.setCell (p := ⟨w.heap.size, 0, none⟩) (Nat.le_refl _) (.slice none 0 0)).setCell (p := ⟨w.heap.size, 1, none⟩) (Nat.le_refl _) (.slice A 4 c)
      have q0 := ((hr.put 0 (.slice none 0 0)).put 1 (.slice A 4 c)).cell 0
      have q1 := ((hr.put 0 (.slice none 0 0)).put 1 (.slice A 4 c)).cell 1
      have oh : OwnH ((wr.setCell ⟨w.heap.size, 0, none⟩ (.slice none 0 0)).setCell ⟨w.heap.size, 1, none⟩ (.slice A 4 c)) w.heap.size (.slice none 0 0) (.slice A 4 c) Hps.emptyH := by
        refine ⟨[], rfl, World.ownsRow_nil _ _ _ _, fun k c v hc => by simp [Hps.emptyH] at hc, ?_, ?_⟩
        · have a1 := ho.far (only_put (g := w.heap.size) (World.grownBy.refl _ _) 0 (.slice none 0 0)) (.inr fun e => row_ne (b := w.heap.size) ho (by omega) e.symm)
          exact (a1.far (only_put (g := w.heap.size) (World.grownBy.refl _ _) 1 (.slice A 4 c)) (.inr fun e => row_ne (b := w.heap.size) ho (by omega) e.symm)).base (by omega)
        · simp [Sep, Value.ownBlock]
      clear hlen
      simp at q0 q1
      go_wp2_with fail
      exact bodyPost_ret (v := .agg #[.slice none 0 0, .slice A 4 c]) (by simp [results, Try.results99, go_sem, *]) rfl ⟨_, _, rfl, oh, bn⟩
end Go.Proofs.Ytakdjiojahlnmaa

namespace Go.Proofs.Ytakdjiojahlnmaa
open Go.RowKit
theorem upd_mono {L : Nat → Bool} {i k : Nat} (h : L k = true) : upd L i k = true := by
  unfold upd
  split
  · rfl
  · exact h
/-- what has been done, with all that it waits for -/
def Closed (ps : List (Nat × Nat)) (L : Nat → Bool) : Prop := ∀ p ∈ ps, L p.1 = true → L p.2 = true
theorem Closed.get {ps : List (Nat × Nat)} {L : Nat → Bool} {i j : Nat} (h : Closed ps L) (hp : (i, j) ∈ ps) (hi : L i = true) : L j = true := h _ hp hi
theorem Closed.step {ps : List (Nat × Nat)} {L : Nat → Bool} {i : Nat} (h : Closed ps L) (hd : ∀ p ∈ ps, p.1 = i → L p.2 = true) : Closed ps (upd L i) := by
  intro p hp hi
  by_cases e : p.1 = i
  · exact upd_mono (hd p hp e)
  · exact upd_mono (h p hp (upd_ne hi e))
theorem upd_all {L : Nat → Bool} {i n m : Nat} (h : L n = true → ∀ k, k < m → L k = true) (hne : n ≠ i) : upd L i n = true → ∀ k, k < m → upd L i k = true :=
  fun hn k hk => upd_mono (h (upd_ne hn hne) k hk)
theorem below_any {a w : World} (h : Below a.heap.size a w) (row : Option Nat) : a.grownBy w row := ⟨h.os, h.tape, h.output, h.size, fun i hi _ => h.block i hi⟩
theorem row_below {w w' : World} {base B n : Nat} {e : TypeId} {s : Nat} {v : Value} {xs : List Value} (h : w.ownsRow base e s v n xs) (hb : Below B w w') (hB : w.heap.size ≤ B) : w'.ownsRow base e s v n xs := by
  refine ⟨h.1, ?_⟩
  rcases h.2 with h0 | ⟨g, cap, cur, e, hb', hh, hr⟩
  · exact .inl h0
  · exact .inr ⟨g, cap, cur, e, hb', (hb.block g (Nat.lt_of_lt_of_le (Array.getElem?_eq_some_iff.1 hh).1 hB)).trans hh, hr⟩
theorem sep_new {v v' rv : Value} {N M : Nat} (hs : v'.ownBlock = v.ownBlock ∨ v'.ownBlock = some M) (e : v'.ownBlock = rv.ownBlock) (hr : ∀ k, rv.ownBlock = some k → N ≤ k ∧ k < M) (hv : ∀ k, v.ownBlock = some k → k < N) : rv.ownBlock = none := by
  cases h : rv.ownBlock with
  | none => rfl
  | some k =>
    exfalso
    have h1 := hr k h
    rw [h] at e
    rcases hs with hs | hs
    · have := hv k (hs.symm.trans e)
      omega
    · have : k = M := by rw [hs] at e; injection e with e; exact e.symm
      omega
/-- an append of numbers onto the call's own numbers -/
theorem app_stepI {w : World} {o : Oper} {a : Act} {K : Act → World → Prop} {Q : Exit → Act → World → Prop} (_hgd : o.guard = none) (s x : Operand)
    (ho : o.op = .call { callee := .builtin .append, args := #[s, x], argTypes := #[24, 24] })
    (base : Nat) (v : Value) (xs : List Int) (hs : a.eval s = v) (hown : OwnI w base v xs) (A : Option Addr) (m c B : Nat) (ys : List Int) (hx : a.eval x = .slice A m c) (hr : IS w B A m ys)
    (hn : xs.length + m ≤ 1099511627776) (hbase : base ≤ w.heap.size)
    (h : ∀ v' w', OwnI w' base v' (xs ++ ys) → w.grownBy w' v.ownBlock → (v'.ownBlock = v.ownBlock ∨ v'.ownBlock = some w.heap.size) → K (a.put o.dst v') w') : Oper.wp Try.prog o a w K Q := by
  obtain ⟨v', w', hrun, h2, h3, h4⟩ := run_appendI w base v xs hown A m c B ys hr hn hbase o.type
  unfold Oper.wp execOp
  simp only [ho, resolve, invoke, builtin, Sem.run_bind, Sem.run_pure, Result.andThen_ok, List.map_toArray, List.map_cons, List.map_nil, hs, hx, hrun]
  exact h v' w' h2 h3 h4
theorem info_cell : (Try.prog.info? 45).map (fun i => (i.zero, i.size, i.bytes)) = some (some (.agg #[.bool false, .int .i64 0, .slice none 0 0]), 3, 40) := by kernel_rfl
/-- an append of one cell onto the call's own cells -/
theorem app_stepC {w : World} {o : Oper} {a : Act} {K : Act → World → Prop} {Q : Exit → Act → World → Prop} (_hgd : o.guard = none) (s x : Operand)
    (ho : o.op = .call { callee := .builtin .append, args := #[s, x], argTypes := #[23, 23] })
    (base : Nat) (v : Value) (n : Nat) (vs : List Value) (hs : a.eval s = v) (hown : w.ownsRow base 45 3 v n vs) (gs : Nat) (u : Bool) (d : Int) (A8 : Option Addr) (m8 c8 : Nat) (hx : a.eval x = .slice (some ⟨gs, 0, none⟩) 1 1)
    (hr : Rw w gs 45 #[.bool u, .int .i64 d, .slice A8 m8 c8]) (hn : n + 1 ≤ 1099511627776) (hbase : base ≤ w.heap.size)
    (h : ∀ v' w' A9 c9, v' = .slice A9 (n + 1) c9 → w'.ownsRow base 45 3 v' (n + 1) (vs ++ [.bool u, .int .i64 d, .slice A8 m8 c8]) → w.grownBy w' v.ownBlock → (v'.ownBlock = v.ownBlock ∨ v'.ownBlock = some w.heap.size) → K (a.put o.dst v') w') : Oper.wp Try.prog o a w K Q := by
  obtain ⟨i0, hi0, hz0, hz1, hz2⟩ := info_parts info_cell
  obtain ⟨v', w', hrun, h2, h3, _, h5⟩ := run_append_own_at (P := Try.prog) w base 23 o.type 45 i0 _ 3 40 Try.underlying23 hi0 hz0 hz1 hz2 rfl (by omega) v n vs hown ⟨gs, 0, none⟩ 1 1 [.bool u, .int .i64 d, .slice A8 m8 c8]
      (by simp) (fun j y hj => by
        rw [add_lit, Nat.zero_add, hr.cell j]
        match j, hj with
        | 0, hj => simpa using hj
        | 1, hj => simpa using hj
        | 2, hj => simpa using hj
        | j + 3, hj => simp at hj) (by intro y hy; simp at hy; rcases hy with rfl | rfl | rfl <;> rfl) (by unfold maxLen; omega) (by omega) hbase
  unfold Oper.wp execOp
  simp only [ho, resolve, invoke, builtin, Sem.run_bind, Sem.run_pure, Result.andThen_ok, List.map_toArray, List.map_cons, List.map_nil, hs, hx, hrun]
  rcases h2.2 with ⟨e, h0⟩ | ⟨g, cap, cur, e, _⟩
  · omega
  · exact h v' w' (some ⟨g, 0, none⟩) cap e h2 h3 h5
/-- while a heap is copied: what is copied so far, in the box b, and the other boxes -/
structure CpSt (w wr : World) (b : Nat) (hb rb : Array Value) (vc vr : Value) (rvs : List Value) (h : Hp) : Prop where
  own : OwnHx wr (w.heap.size + 2) vc vr rvs h
  apart : Apart (some b) (vc :: vr :: rvs)
  box : Rw wr b 26 #[vc, vr]
  arg : Rw wr w.heap.size 26 hb
  res : Rw wr (w.heap.size + 1) 26 rb
  bel : Below w.heap.size w wr
  lo : w.heap.size + 2 ≤ b
theorem CpSt.next {w wr w1 : World} {b k n m' c9 c8 : Nat} {hb rb : Array Value} {vc vr : Value} {rvs : List Value} {h : Hp} {cl : Cl} {A9 A8 : Option Addr} (S : CpSt w wr b hb rb vc vr rvs ⟨h.cs.take k, h.rt⟩) (hlc : h.cs.length = n) (hlt : k < n) (hcl : h.cs[k]? = some cl)
    (hG : wr.grownBy w1 vc.ownBlock) (o9 : w1.ownsRow (w.heap.size + 2) 45 3 (.slice A9 (k + 1) c9) (k + 1) (flatC (h.cs.take k) rvs ++ [.bool cl.u, .int .i64 cl.d, .slice A8 m' c8]))
    (hsep : (Value.slice A9 (k + 1) c9).ownBlock = (Value.slice A8 m' c8).ownBlock → (Value.slice A8 m' c8).ownBlock = none)
    (q : (Value.slice A9 (k + 1) c9).ownBlock = vc.ownBlock ∨ ∃ b', (Value.slice A9 (k + 1) c9).ownBlock = some b' ∧ wr.heap.size ≤ b')
    (o8 : OwnI (w1.setCell ⟨b, 0, none⟩ (.slice A9 (k + 1) c9)) wr.heap.size (.slice A8 m' c8) cl.r) :
    CpSt w (w1.setCell ⟨b, 0, none⟩ (.slice A9 (k + 1) c9)) b hb rb (.slice A9 (k + 1) c9) vr (rvs ++ [.slice A8 m' c8]) ⟨h.cs.take (k + 1), h.rt⟩ := by
  obtain ⟨v9, hv9⟩ : ∃ v9, Value.slice A9 (k + 1) c9 = v9 := ⟨_, rfl⟩
  obtain ⟨v8, hv8⟩ : ∃ v8, Value.slice A8 m' c8 = v8 := ⟨_, rfl⟩
  rw [hv9] at o9 hsep q o8 ⊢
  rw [hv8] at o9 hsep o8 ⊢
  have hbl := S.box.lt
  have hlo := S.lo
  have hsp := S.own.sep
  unfold Sep at hsp
  simp only [List.pairwise_cons, List.mem_cons] at hsp
  obtain ⟨sp1, sp2, sp3⟩ := hsp
  have hvc : ∀ kk, vc.ownBlock = some kk → w.heap.size + 2 ≤ kk ∧ kk < wr.heap.size := fun kk hk => S.own.blocks (by simp) hk
  have hvr : ∀ kk, vr.ownBlock = some kk → kk < wr.heap.size := fun kk hk => (S.own.blocks (by simp) hk).2
  have hrv : ∀ v ∈ rvs, ∀ kk, v.ownBlock = some kk → kk < wr.heap.size := fun v hv kk hk => (S.own.blocks (by simp [hv]) hk).2
  have h8 : ∀ kk, v8.ownBlock = some kk → wr.heap.size ≤ kk := fun kk hk => (World.ownsRow.lt o8 kk hk).1
  have hvcb : vc.ownBlock ≠ some b := by
    rcases S.apart vc (by simp) with e | e
    · rw [e]; simp
    · exact e
  have swap : ∀ v : Value, (vc.ownBlock = none ∨ vc.ownBlock ≠ v.ownBlock) → v.ownBlock = none ∨ v.ownBlock ≠ vc.ownBlock := fun v hv => by
    rcases hv with e | e
    · cases e' : v.ownBlock with
      | none => exact .inl rfl
      | some kk => right; rw [e]; simp
    · exact .inr fun e' => e e'.symm
  have h9b : v9.ownBlock = none ∨ v9.ownBlock ≠ some b := by
    right
    rcases q with e | ⟨b', e, hb'⟩
    · rw [e]; exact hvcb
    · rw [e]; intro e'; injection e' with e'; omega
  have h9old : ∀ v : Value, (vc.ownBlock = none ∨ vc.ownBlock ≠ v.ownBlock) → (∀ kk, v.ownBlock = some kk → kk < wr.heap.size) → v9.ownBlock = none ∨ v9.ownBlock ≠ v.ownBlock := fun v hv hlt' => by
    rcases q with e | ⟨b', e, hb'⟩
    · rw [e]; exact hv
    · right
      rw [e]
      intro e'
      have := hlt' b' e'.symm
      omega
  have hput : ∀ W : World, W.grownBy (W.setCell ⟨b, 0, none⟩ v9) (some b) := fun W => only_put (World.grownBy.refl _ _) 0 v9
  have htk : (h.cs.take (k + 1)).length = k + 1 := by rw [List.length_take]; omega
  have htk0 : (h.cs.take k).length = k := by rw [List.length_take]; omega
  have hrl : rvs.length = k := by have := S.own.len; simp only [htk0] at this; exact this
  have htake : h.cs.take (k + 1) = h.cs.take k ++ [cl] := by rw [List.take_add_one, hcl]; rfl
  refine ⟨⟨by simp only [htk, List.length_append, List.length_singleton, hrl], ?_, ?_, ?_, ?_⟩, ?_, ?_, ?_, ?_, ?_, hlo⟩
  · simp only [htk]
    have e : flatC (h.cs.take (k + 1)) (rvs ++ [v8]) = flatC (h.cs.take k) rvs ++ [.bool cl.u, .int .i64 cl.d, v8] := by
      rw [htake, flatC_append _ _ _ _ (by rw [hrl, htk0])]
      simp [flatC]
    rw [e]
    exact World.ownsRow.kept o9 (hput w1) h9b
  · intro j c' v hc' hv
    simp only [htake] at hc'
    rcases Nat.lt_or_ge j k with hj | hj
    · rw [List.getElem?_append_left (by omega)] at hc' hv
      have hmem := List.mem_of_getElem? hv
      exact ((S.own.refs j c' v hc' hv).far hG (swap v (sp1 v (.inr hmem)))).far (hput w1) (S.apart v (by simp [hmem]))
    · rw [List.getElem?_append_right (by omega), htk0] at hc'
      rw [List.getElem?_append_right (by omega), hrl] at hv
      have hjk : j - k = 0 := by
        rcases Nat.eq_zero_or_pos (j - k) with e | e
        · exact e
        · rw [List.getElem?_eq_none (by simp; omega)] at hv; cases hv
      rw [hjk] at hc' hv
      simp at hc' hv
      subst hc' hv
      exact o8.base (by omega)
  · exact (S.own.roots.far hG (swap vr (sp1 vr (.inl rfl)))).far (hput w1) (S.apart vr (by simp))
  · unfold Sep
    simp only [List.pairwise_cons, List.mem_cons, List.mem_append, List.pairwise_append, List.not_mem_nil]
    refine ⟨fun v hv => ?_, fun v hv => ?_, sp3, ⟨by simp, List.Pairwise.nil⟩, fun a ha v hv => ?_⟩
    · rcases hv with rfl | hv | hv | hv
      · exact h9old v (sp1 v (.inl rfl)) hvr
      · exact h9old v (sp1 v (.inr hv)) (hrv v hv)
      · subst hv
        cases e : v9.ownBlock with
        | none => exact .inl rfl
        | some kk =>
          right
          intro e'
          have := hsep (e.trans e')
          rw [this] at e'
          cases e'
      · cases hv
    · rcases hv with hv | hv | hv
      · exact sp2 v hv
      · subst hv
        cases e : vr.ownBlock with
        | none => exact .inl rfl
        | some kk => right; intro e'; have := hvr kk e; have := h8 kk e'.symm; omega
      · cases hv
    · rcases hv with hv | hv
      · subst hv
        cases e : a.ownBlock with
        | none => exact .inl rfl
        | some kk => right; intro e'; have := hrv a ha kk e; have := h8 kk e'.symm; omega
      · cases hv
  · intro v hv
    simp only [List.mem_cons, List.mem_append, List.not_mem_nil, or_false] at hv
    rcases hv with rfl | rfl | hv | rfl
    · exact h9b
    · exact S.apart v (by simp)
    · exact S.apart v (by simp [hv])
    · cases e : v.ownBlock with
      | none => exact .inl rfl
      | some kk => right; intro e'; injection e' with e'; have := h8 kk e; omega
  · exact (Rw.far S.box hG (fun e => hvcb e.symm)).put 0 v9
  · exact Rw.other (Rw.far S.arg hG (fun e => by have := hvc _ e.symm; omega)) (by omega) _
  · exact Rw.other (Rw.far S.res hG (fun e => by have := hvc _ e.symm; omega)) (by omega) _
  · exact (S.bel.grown hG S.bel.size (fun kk hk => by have := hvc kk hk; omega)).setCell (p := ⟨b, 0, none⟩) (by simp; omega) _
set_option maxRecDepth 100000 in
set_option maxHeartbeats 8000000 in
theorem l7Copy_any (A R : Option Addr) (n c m d : Nat) (h : Hp) (w : World) (hs : HS w w.heap.size A n R m h) (hn : n ≤ 1000000) (hm : m ≤ 1000000) (hb : ∀ cl ∈ h.cs, cl.r.length ≤ 1000000) :
    Calls Try.prog 43 #[heapV A n c R m d] w (GaveH w h) := by
  have hlc := hs.cells.1
  have hlr := hs.roots.1
  have HB := Lib.hid hb
  clear hb
  have o0 := own_noneI ((w.alloc (.cells #[.slice A n c, .slice R m d] 26)).alloc (.cells #[.slice none 0 0, .slice none 0 0] 26)) (w.heap.size + 2) (by simp)
  have b0 : Below w.heap.size w (((w.alloc (.cells #[.slice A n c, .slice R m d] 26)).alloc (.cells #[.slice none 0 0, .slice none 0 0] 26)).alloc (.cells #[] 3)) := (((Below.refl w.heap.size w).alloc (Nat.le_refl _) _).alloc (by simp) _).alloc (by simp; omega) _
  have r0 := hs.roots.below b0
  have a0 := ((Rw.new w 26 #[.slice A n c, .slice R m d]).alloc (.cells #[.slice none 0 0, .slice none 0 0] 26)).alloc (.cells #[] 3)
  have a1 := (Rw.new (w.alloc (.cells #[.slice A n c, .slice R m d] 26)) 26 #[.slice none 0 0, .slice none 0 0]).alloc (.cells #[] 3)
  simp only [World.size_alloc] at o0 a1
  go_enter Try.func43, Try.ntmps43
  go_wp2_with (at_builtin; refine wpList_appendI rfl (.tmp 5) (.tmp 7) rfl (w.heap.size + 2) _ [] rfl o0 R m d w.heap.size h.rt rfl r0 (by simp <;> omega) (by simp) ?_; intro v5 w5 o5 g5 s5; rw [List.nil_append] at o5; obtain ⟨A5, c5, e5, f5⟩ := o5.form; rw [hlr] at e5; subst e5)
  have hrow5 : ∀ kk, (Value.slice (some ⟨w.heap.size + 1 + 1, 0, none⟩) 0 0).ownBlock = some kk → w.heap.size + 2 ≤ kk := fun kk hk => (World.ownsRow.lt o0 kk hk).1
  have st : CpSt w (w5.alloc (.cells #[.slice none 0 0, .slice A5 m c5] 26)) w5.heap.size #[.slice A n c, .slice R m d] #[.slice none 0 0, .slice none 0 0] (.slice none 0 0) (.slice A5 m c5) [] ⟨[], h.rt⟩ := by
    have hsz := g5.size
    simp at hsz
    refine ⟨⟨rfl, World.ownsRow_nil _ _ _ _, fun k c v hc => by simp at hc, World.ownsRow.alloc o5 _, by simp [Sep, Value.ownBlock]⟩, ?_, Rw.new _ _ _, (Rw.far a0 g5 (fun e => by have := hrow5 _ e.symm; omega)).alloc _, (Rw.far a1 g5 (fun e => by have := hrow5 _ e.symm; omega)).alloc _, ?_, by omega⟩
    · intro v hv
      simp at hv
      rcases hv with rfl | rfl
      · exact .inl rfl
      · cases e : (Value.slice A5 m c5).ownBlock with
        | none => exact .inl rfl
        | some kk =>
          right
          have := (World.ownsRow.lt o5 kk e).2
          intro e'
          injection e' with e'
          omega
    · exact (b0.grown g5 (by simp; omega) (fun kk hk => by have := hrow5 kk hk; omega)).alloc (by omega) _
  clear o0 b0 r0 a0 a1 o5 g5 s5 f5 hrow5
  go_loopw [4] (fun i wr => ∃ (k : Nat) (Av : Option Addr) (cv : Nat) (rvs : List Value), k ≤ n ∧ i = .int .i64 k ∧ CpSt w wr w5.heap.size #[.slice A n c, .slice R m d] #[.slice none 0 0, .slice none 0 0] (.slice Av k cv) (.slice A5 m c5) rvs ⟨h.cs.take k, h.rt⟩) (fun i _ => n - (intOf i).toNat)
  case atStart => exact ⟨0, none, 0, [], Nat.zero_le _, rfl, st⟩
  case round =>
    clear st
    obtain ⟨k, Av, cv, rvs, hk, rfl, S⟩ := hrel
    have z0 : wr.cell? ⟨w.heap.size, 0, none⟩ = some (.slice A n c) := S.arg.cell 0
    by_cases hlt : k < n
    · obtain ⟨g, o, cl, A', m', cc, e1, hg, hcl, d1, d2, d3, hmc, hi⟩ := hs.cells.at_ hlt
      subst e1
      have hlt' : (k : Int) < n := by omega
      have hl3 := hi.1
      have hm3 : m' ≤ 1000000 := by have := HB.out cl (List.mem_of_getElem? hcl); omega
      have HCL := Lib.hid hcl
      have htk : (h.cs.take k).length = k := by rw [List.length_take]; omega
      have hrow := S.own.row
      simp only [htk] at hrow
      have HROW := Lib.hid hrow
      have hbase : w.heap.size + 2 ≤ wr.heap.size := by have := S.lo; have := S.box.lt; omega
      have hvb : ∀ kk, (Value.slice Av k cv).ownBlock = some kk → w.heap.size + 2 ≤ kk ∧ kk < wr.heap.size := fun kk hk => World.ownsRow.lt hrow kk hk
      have hvx : (Value.slice Av k cv).ownBlock ≠ some w5.heap.size := by
        rcases S.apart (Value.slice Av k cv) (by simp) with e | e
        · rw [e]; simp
        · exact e
      have HI := Lib.hid ((hi.below S.bel).more S.bel.size)
      have HC := Lib.hid (fun ww (hG : wr.grownBy ww (Value.slice Av k cv).ownBlock) => (show ww.cell? ⟨w5.heap.size, 0, none⟩ = some (.slice Av k cv) ∧ ww.cell? ⟨w.heap.size, 0, none⟩ = some (.slice (some ⟨g, o, none⟩) n c) ∧ ww.cell? ⟨g, o + k * 3, none⟩ = some (.bool cl.u) ∧ ww.cell? ⟨g, o + k * 3 + 1, none⟩ = some (.int .i64 cl.d) ∧ ww.cell? ⟨g, o + k * 3 + 2, none⟩ = some (.slice A' m' cc) from by
        have hgl : g < wr.heap.size := Nat.lt_of_lt_of_le hg S.bel.size
        have hgn : some g ≠ (Value.slice Av k cv).ownBlock := fun e => by have := hvb g e.symm; omega
        have t := fun i => (World.cell?_of_block (hG.block g hgl hgn) : ww.cell? ⟨g, i, none⟩ = wr.cell? ⟨g, i, none⟩)
        refine ⟨(Rw.far S.box hG (fun e => hvx e.symm)).cell 0, (Rw.far S.arg hG (fun e => by have := hvb _ e.symm; omega)).cell 0, ?_, ?_, ?_⟩
        · exact (t _).trans ((S.bel.cell (p := ⟨g, o + k * 3, none⟩) hg).trans d1)
        · exact (t _).trans ((S.bel.cell (p := ⟨g, o + k * 3 + 1, none⟩) hg).trans d2)
        · exact (t _).trans ((S.bel.cell (p := ⟨g, o + k * 3 + 2, none⟩) hg).trans d3)))
      have HFZ := Lib.hid (fun ww (hG : wr.grownBy ww (Value.slice Av k cv).ownBlock) => (Rw.far S.box hG (fun e => hvx e.symm)).frozen 0)
      have APART := Lib.hid (fun (v : Value) (hv : ∀ kk, v.ownBlock = some kk → wr.heap.size ≤ kk) => (show v.ownBlock = none ∨ v.ownBlock ≠ (Value.slice Av k cv).ownBlock from by
        cases e : v.ownBlock with
        | none => exact .inl rfl
        | some kk => right; intro e'; have := hv kk e; have := hvb kk e'.symm; omega))
      have APB := Lib.hid (fun (v : Value) (hv : ∀ kk, v.ownBlock = some kk → wr.heap.size ≤ kk) => (show v.ownBlock = none ∨ v.ownBlock ≠ some w5.heap.size from by
        cases e : v.ownBlock with
        | none => exact .inl rfl
        | some kk => right; intro e'; injection e' with e'; have := hv kk e; have := S.box.lt; omega))
      have HS := Lib.hid S
      clear hcl hi d1 d2 d3 hvb hvx hrow S
      go_wp2_with fail
      clear z0
      refine wp_region_inv (by kernel_rfl) (by kernel_rfl) (fun L ac ww => ∃ t17 t18 t19 t20 t21 t22 t23 t24 t25 t26 t27 t28 t29 t30 t31 t32 t33 t34 t35 t36 t37 t38 t39 t40 t41 t42 : Value, ac = { tmps := #[(heapV (some ⟨g, o, none⟩) n c R m d), (.pointer (some ⟨w.heap.size, 0, none⟩)), (.pointer (some ⟨w.heap.size + 1, 0, none⟩)), (.pointer (some ⟨w5.heap.size, 0, none⟩)), (.int .i64 k), (.slice (some ⟨w.heap.size + 1 + 1, 0, none⟩) 0 0), (.pointer (some ⟨w.heap.size, 1, none⟩)), (.slice R m d), (.slice A5 m c5), (.agg #[.slice none 0 0, .slice A5 m c5]), (.int .i64 k), (.pointer (some ⟨w.heap.size, 0, none⟩)), (.slice (some ⟨g, o, none⟩) n c), (.int .i64 n), (.bool true), u15, u16, t17, t18, t19, t20, t21, t22, t23, t24, t25, t26, t27, t28, t29, t30, t31, t32, t33, t34, t35, t36, t37, t38, t39, t40, t41, t42, undef], defers := [] } ∧ (L 26 = true → ∀ i, i < 26 → L i = true) ∧ (L 26 = false → wr.grownBy ww (Value.slice Av k cv).ownBlock) ∧ (L 24 = false → Below wr.heap.size wr ww) ∧ (L 21 = true → L 14 = true) ∧ (L 23 = true → L 21 = true) ∧ (L 24 = true → L 23 = true) ∧ (L 22 = true → L 21 = true) ∧ (L 0 = true → t17 = (.pointer (some ⟨w5.heap.size, 0, none⟩))) ∧ (L 1 = true → t18 = (.slice Av k cv)) ∧ (L 2 = true → t19 = (.pointer (some ⟨w.heap.size, 0, none⟩))) ∧ (L 3 = true → t20 = (.slice (some ⟨g, o, none⟩) n c)) ∧ (L 4 = true → t21 = (.int .i64 k)) ∧ (L 5 = true → t22 = (.pointer (some ⟨g, o + k * 3, none⟩))) ∧ (L 6 = true → t23 = (.pointer (some ⟨g, o + k * 3, none⟩))) ∧ (L 7 = true → t24 = (.bool cl.u)) ∧ (L 8 = true → t25 = (.pointer (some ⟨w.heap.size, 0, none⟩))) ∧ (L 9 = true → t26 = (.slice (some ⟨g, o, none⟩) n c)) ∧ (L 10 = true → t27 = (.int .i64 k)) ∧ (L 11 = true → t28 = (.pointer (some ⟨g, o + k * 3, none⟩))) ∧ (L 12 = true → t29 = (.pointer (some ⟨g, o + k * 3 + 1, none⟩))) ∧ (L 13 = true → t30 = (.int .i64 cl.d)) ∧ (L 14 = true → ∃ gs, t31 = .slice (some ⟨gs, 0, none⟩) 0 0 ∧ (L 21 = false → OwnI ww wr.heap.size t31 [])) ∧ (L 15 = true → t32 = (.pointer (some ⟨w.heap.size, 0, none⟩))) ∧ (L 16 = true → t33 = (.slice (some ⟨g, o, none⟩) n c)) ∧ (L 17 = true → t34 = (.int .i64 k)) ∧ (L 18 = true → t35 = (.pointer (some ⟨g, o + k * 3, none⟩))) ∧ (L 19 = true → t36 = (.pointer (some ⟨g, o + k * 3 + 2, none⟩))) ∧ (L 20 = true → t37 = (.slice A' m' cc)) ∧ (L 21 = true → ∃ A8 c8, t38 = .slice A8 m' c8 ∧ OwnI ww wr.heap.size t38 cl.r) ∧ (L 22 = true → t39 = .agg #[.bool cl.u, .int .i64 cl.d, t38]) ∧ (L 23 = true → ∃ gs, t40 = .slice (some ⟨gs, 0, none⟩) 1 1 ∧ (L 24 = false → Rw ww gs 45 #[.bool cl.u, .int .i64 cl.d, t38])) ∧ (L 24 = true → ∃ A9 c9, t41 = .slice A9 (k + 1) c9 ∧ (t41.ownBlock = (Value.slice Av k cv).ownBlock ∨ ∃ b', t41.ownBlock = some b' ∧ wr.heap.size ≤ b') ∧ (L 26 = false → ww.ownsRow (w.heap.size + 2) 45 3 t41 (k + 1) (flatC (h.cs.take k) rvs ++ [.bool cl.u, .int .i64 cl.d, t38]) ∧ (t41.ownBlock = t38.ownBlock → t38.ownBlock = none))) ∧ (L 25 = true → t42 = (.pointer (some ⟨w5.heap.size, 0, none⟩))) ∧ (L 26 = true → ∃ w1, ww = w1.setCell ⟨w5.heap.size, 0, none⟩ t41 ∧ wr.grownBy w1 (Value.slice Av k cv).ownBlock ∧ w1.ownsRow (w.heap.size + 2) 45 3 t41 (k + 1) (flatC (h.cs.take k) rvs ++ [.bool cl.u, .int .i64 cl.d, t38]) ∧ (t41.ownBlock = t38.ownBlock → t38.ownBlock = none))) ?h0 ?hstep ?hdone
      case h0 => exact ⟨_, _, _, _, _, _, _, _, _, _, _, _, _, _, _, _, _, _, _, _, _, _, _, _, _, _, rfl, (fun h => absurd h Bool.false_ne_true), fun _ => below_any ((Below.refl _ _).drew) _, fun _ => (Below.refl _ _).drew, (fun h => absurd h Bool.false_ne_true), (fun h => absurd h Bool.false_ne_true), (fun h => absurd h Bool.false_ne_true), (fun h => absurd h Bool.false_ne_true), (fun h => absurd h Bool.false_ne_true), (fun h => absurd h Bool.false_ne_true), (fun h => absurd h Bool.false_ne_true), (fun h => absurd h Bool.false_ne_true), (fun h => absurd h Bool.false_ne_true), (fun h => absurd h Bool.false_ne_true), (fun h => absurd h Bool.false_ne_true), (fun h => absurd h Bool.false_ne_true), (fun h => absurd h Bool.false_ne_true), (fun h => absurd h Bool.false_ne_true), (fun h => absurd h Bool.false_ne_true), (fun h => absurd h Bool.false_ne_true), (fun h => absurd h Bool.false_ne_true), (fun h => absurd h Bool.false_ne_true), (fun h => absurd h Bool.false_ne_true), (fun h => absurd h Bool.false_ne_true), (fun h => absurd h Bool.false_ne_true), (fun h => absurd h Bool.false_ne_true), (fun h => absurd h Bool.false_ne_true), (fun h => absurd h Bool.false_ne_true), (fun h => absurd h Bool.false_ne_true), (fun h => absurd h Bool.false_ne_true), (fun h => absurd h Bool.false_ne_true), (fun h => absurd h Bool.false_ne_true), (fun h => absurd h Bool.false_ne_true), (fun h => absurd h Bool.false_ne_true), (fun h => absurd h Bool.false_ne_true)⟩
      case hstep =>
        rintro L ac ww i o ho hL hd ⟨t17, t18, t19, t20, t21, t22, t23, t24, t25, t26, t27, t28, t29, t30, t31, t32, t33, t34, t35, t36, t37, t38, t39, t40, t41, t42, rfl, I0, I1, I2, I3, I4, I5, I6, f0, f1, f2, f3, f4, f5, f6, f7, f8, f9, f10, f11, f12, f13, f14, f15, f16, f17, f18, f19, f20, f21, f22, f23, f24, f25, f26⟩
        have hi : i < 27 := (Array.getElem?_eq_some_iff.1 ho).1
        obtain rfl | rfl | rfl | rfl | rfl | rfl | rfl | rfl | rfl | rfl | rfl | rfl | rfl | rfl | rfl | rfl | rfl | rfl | rfl | rfl | rfl | rfl | rfl | rfl | rfl | rfl | rfl : i = 0 ∨ i = 1 ∨ i = 2 ∨ i = 3 ∨ i = 4 ∨ i = 5 ∨ i = 6 ∨ i = 7 ∨ i = 8 ∨ i = 9 ∨ i = 10 ∨ i = 11 ∨ i = 12 ∨ i = 13 ∨ i = 14 ∨ i = 15 ∨ i = 16 ∨ i = 17 ∨ i = 18 ∨ i = 19 ∨ i = 20 ∨ i = 21 ∨ i = 22 ∨ i = 23 ∨ i = 24 ∨ i = 25 ∨ i = 26 := by omega
        · obtain rfl := Option.some.inj ho
          have h26 : L 26 = false := by
            cases hh : L 26
            · rfl
            · exact absurd ((I0 hh 0 (by omega)).symm.trans hL) (by decide)
          refine wpOp_step rfl (fun K' hK => ?_)
          go_simp
          refine hK _ _ ?_
          exact ⟨_, _, _, _, _, _, _, _, _, _, _, _, _, _, _, _, _, _, _, _, _, _, _, _, _, _, rfl, (upd_all I0 (by decide)), (fun h => I1 (by rw [upd_other (by decide)] at h; exact h)), (fun h => I2 (by rw [upd_other (by decide)] at h; exact h)), (fun h => upd_mono (I3 (upd_ne h (by decide)))), (fun h => upd_mono (I4 (upd_ne h (by decide)))), (fun h => upd_mono (I5 (upd_ne h (by decide)))), (fun h => upd_mono (I6 (upd_ne h (by decide)))), (fun _ => by first | rfl | simp), (kp f1), (kp f2), (kp f3), (kp f4), (kp f5), (kp f6), (kp f7), (kp f8), (kp f9), (kp f10), (kp f11), (kp f12), (kp f13), (fun h => by
              obtain ⟨gs, e1, e2⟩ := f14 (upd_ne h (by decide))
              exact ⟨gs, e1, fun h21 => e2 (by rw [upd_other (by decide)] at h21; exact h21)⟩), (kp f15), (kp f16), (kp f17), (kp f18), (kp f19), (kp f20), (kp f21), (kp f22), (fun h => by
              obtain ⟨gs, e1, e2⟩ := f23 (upd_ne h (by decide))
              exact ⟨gs, e1, fun h24 => e2 (by rw [upd_other (by decide)] at h24; exact h24)⟩), (fun h => by
              obtain ⟨A9, c9, e1, e2, e3⟩ := f24 (upd_ne h (by decide))
              exact ⟨A9, c9, e1, e2, fun h26 => e3 (by rw [upd_other (by decide)] at h26; exact h26)⟩), (kp f25), (kp f26)⟩
        · obtain rfl := Option.some.inj ho
          have g0 := f0 (hd ⟨0, .data⟩ (by simp) rfl)
          subst g0
          have h26 : L 26 = false := by
            cases hh : L 26
            · rfl
            · exact absurd ((I0 hh 1 (by omega)).symm.trans hL) (by decide)
          obtain ⟨k0, k1, k2, k3, k4⟩ := HC.out ww (I1 h26)
          refine wpOp_step rfl (fun K' hK => ?_)
          go_simp
          refine hK _ _ ?_
          exact ⟨_, _, _, _, _, _, _, _, _, _, _, _, _, _, _, _, _, _, _, _, _, _, _, _, _, _, rfl, (upd_all I0 (by decide)), (fun h => I1 (by rw [upd_other (by decide)] at h; exact h)), (fun h => I2 (by rw [upd_other (by decide)] at h; exact h)), (fun h => upd_mono (I3 (upd_ne h (by decide)))), (fun h => upd_mono (I4 (upd_ne h (by decide)))), (fun h => upd_mono (I5 (upd_ne h (by decide)))), (fun h => upd_mono (I6 (upd_ne h (by decide)))), (kp f0), (fun _ => rfl), (kp f2), (kp f3), (kp f4), (kp f5), (kp f6), (kp f7), (kp f8), (kp f9), (kp f10), (kp f11), (kp f12), (kp f13), (fun h => by
              obtain ⟨gs, e1, e2⟩ := f14 (upd_ne h (by decide))
              exact ⟨gs, e1, fun h21 => e2 (by rw [upd_other (by decide)] at h21; exact h21)⟩), (kp f15), (kp f16), (kp f17), (kp f18), (kp f19), (kp f20), (kp f21), (kp f22), (fun h => by
              obtain ⟨gs, e1, e2⟩ := f23 (upd_ne h (by decide))
              exact ⟨gs, e1, fun h24 => e2 (by rw [upd_other (by decide)] at h24; exact h24)⟩), (fun h => by
              obtain ⟨A9, c9, e1, e2, e3⟩ := f24 (upd_ne h (by decide))
              exact ⟨A9, c9, e1, e2, fun h26 => e3 (by rw [upd_other (by decide)] at h26; exact h26)⟩), (kp f25), (kp f26)⟩
        · obtain rfl := Option.some.inj ho
          have h26 : L 26 = false := by
            cases hh : L 26
            · rfl
            · exact absurd ((I0 hh 2 (by omega)).symm.trans hL) (by decide)
          refine wpOp_step rfl (fun K' hK => ?_)
          go_simp
          refine hK _ _ ?_
          exact ⟨_, _, _, _, _, _, _, _, _, _, _, _, _, _, _, _, _, _, _, _, _, _, _, _, _, _, rfl, (upd_all I0 (by decide)), (fun h => I1 (by rw [upd_other (by decide)] at h; exact h)), (fun h => I2 (by rw [upd_other (by decide)] at h; exact h)), (fun h => upd_mono (I3 (upd_ne h (by decide)))), (fun h => upd_mono (I4 (upd_ne h (by decide)))), (fun h => upd_mono (I5 (upd_ne h (by decide)))), (fun h => upd_mono (I6 (upd_ne h (by decide)))), (kp f0), (kp f1), (fun _ => by first | rfl | simp), (kp f3), (kp f4), (kp f5), (kp f6), (kp f7), (kp f8), (kp f9), (kp f10), (kp f11), (kp f12), (kp f13), (fun h => by
              obtain ⟨gs, e1, e2⟩ := f14 (upd_ne h (by decide))
              exact ⟨gs, e1, fun h21 => e2 (by rw [upd_other (by decide)] at h21; exact h21)⟩), (kp f15), (kp f16), (kp f17), (kp f18), (kp f19), (kp f20), (kp f21), (kp f22), (fun h => by
              obtain ⟨gs, e1, e2⟩ := f23 (upd_ne h (by decide))
              exact ⟨gs, e1, fun h24 => e2 (by rw [upd_other (by decide)] at h24; exact h24)⟩), (fun h => by
              obtain ⟨A9, c9, e1, e2, e3⟩ := f24 (upd_ne h (by decide))
              exact ⟨A9, c9, e1, e2, fun h26 => e3 (by rw [upd_other (by decide)] at h26; exact h26)⟩), (kp f25), (kp f26)⟩
        · obtain rfl := Option.some.inj ho
          have g2 := f2 (hd ⟨2, .data⟩ (by simp) rfl)
          subst g2
          have h26 : L 26 = false := by
            cases hh : L 26
            · rfl
            · exact absurd ((I0 hh 3 (by omega)).symm.trans hL) (by decide)
          obtain ⟨k0, k1, k2, k3, k4⟩ := HC.out ww (I1 h26)
          refine wpOp_step rfl (fun K' hK => ?_)
          go_simp
          refine hK _ _ ?_
          exact ⟨_, _, _, _, _, _, _, _, _, _, _, _, _, _, _, _, _, _, _, _, _, _, _, _, _, _, rfl, (upd_all I0 (by decide)), (fun h => I1 (by rw [upd_other (by decide)] at h; exact h)), (fun h => I2 (by rw [upd_other (by decide)] at h; exact h)), (fun h => upd_mono (I3 (upd_ne h (by decide)))), (fun h => upd_mono (I4 (upd_ne h (by decide)))), (fun h => upd_mono (I5 (upd_ne h (by decide)))), (fun h => upd_mono (I6 (upd_ne h (by decide)))), (kp f0), (kp f1), (kp f2), (fun _ => rfl), (kp f4), (kp f5), (kp f6), (kp f7), (kp f8), (kp f9), (kp f10), (kp f11), (kp f12), (kp f13), (fun h => by
              obtain ⟨gs, e1, e2⟩ := f14 (upd_ne h (by decide))
              exact ⟨gs, e1, fun h21 => e2 (by rw [upd_other (by decide)] at h21; exact h21)⟩), (kp f15), (kp f16), (kp f17), (kp f18), (kp f19), (kp f20), (kp f21), (kp f22), (fun h => by
              obtain ⟨gs, e1, e2⟩ := f23 (upd_ne h (by decide))
              exact ⟨gs, e1, fun h24 => e2 (by rw [upd_other (by decide)] at h24; exact h24)⟩), (fun h => by
              obtain ⟨A9, c9, e1, e2, e3⟩ := f24 (upd_ne h (by decide))
              exact ⟨A9, c9, e1, e2, fun h26 => e3 (by rw [upd_other (by decide)] at h26; exact h26)⟩), (kp f25), (kp f26)⟩
        · obtain rfl := Option.some.inj ho
          have h26 : L 26 = false := by
            cases hh : L 26
            · rfl
            · exact absurd ((I0 hh 4 (by omega)).symm.trans hL) (by decide)
          refine wpOp_step rfl (fun K' hK => ?_)
          go_simp
          refine hK _ _ ?_
          exact ⟨_, _, _, _, _, _, _, _, _, _, _, _, _, _, _, _, _, _, _, _, _, _, _, _, _, _, rfl, (upd_all I0 (by decide)), (fun h => I1 (by rw [upd_other (by decide)] at h; exact h)), (fun h => I2 (by rw [upd_other (by decide)] at h; exact h)), (fun h => upd_mono (I3 (upd_ne h (by decide)))), (fun h => upd_mono (I4 (upd_ne h (by decide)))), (fun h => upd_mono (I5 (upd_ne h (by decide)))), (fun h => upd_mono (I6 (upd_ne h (by decide)))), (kp f0), (kp f1), (kp f2), (kp f3), (fun _ => rfl), (kp f5), (kp f6), (kp f7), (kp f8), (kp f9), (kp f10), (kp f11), (kp f12), (kp f13), (fun h => by
              obtain ⟨gs, e1, e2⟩ := f14 (upd_ne h (by decide))
              exact ⟨gs, e1, fun h21 => e2 (by rw [upd_other (by decide)] at h21; exact h21)⟩), (kp f15), (kp f16), (kp f17), (kp f18), (kp f19), (kp f20), (kp f21), (kp f22), (fun h => by
              obtain ⟨gs, e1, e2⟩ := f23 (upd_ne h (by decide))
              exact ⟨gs, e1, fun h24 => e2 (by rw [upd_other (by decide)] at h24; exact h24)⟩), (fun h => by
              obtain ⟨A9, c9, e1, e2, e3⟩ := f24 (upd_ne h (by decide))
              exact ⟨A9, c9, e1, e2, fun h26 => e3 (by rw [upd_other (by decide)] at h26; exact h26)⟩), (kp f25), (kp f26)⟩
        · obtain rfl := Option.some.inj ho
          have g3 := f3 (hd ⟨3, .data⟩ (by simp) rfl)
          have g4 := f4 (hd ⟨4, .data⟩ (by simp) rfl)
          subst g3
          subst g4
          have h26 : L 26 = false := by
            cases hh : L 26
            · rfl
            · exact absurd ((I0 hh 5 (by omega)).symm.trans hL) (by decide)
          refine wpOp_step rfl (fun K' hK => ?_)
          go_simp
          refine hK _ _ ?_
          exact ⟨_, _, _, _, _, _, _, _, _, _, _, _, _, _, _, _, _, _, _, _, _, _, _, _, _, _, rfl, (upd_all I0 (by decide)), (fun h => I1 (by rw [upd_other (by decide)] at h; exact h)), (fun h => I2 (by rw [upd_other (by decide)] at h; exact h)), (fun h => upd_mono (I3 (upd_ne h (by decide)))), (fun h => upd_mono (I4 (upd_ne h (by decide)))), (fun h => upd_mono (I5 (upd_ne h (by decide)))), (fun h => upd_mono (I6 (upd_ne h (by decide)))), (kp f0), (kp f1), (kp f2), (kp f3), (kp f4), (fun _ => by first | rfl | simp), (kp f6), (kp f7), (kp f8), (kp f9), (kp f10), (kp f11), (kp f12), (kp f13), (fun h => by
              obtain ⟨gs, e1, e2⟩ := f14 (upd_ne h (by decide))
              exact ⟨gs, e1, fun h21 => e2 (by rw [upd_other (by decide)] at h21; exact h21)⟩), (kp f15), (kp f16), (kp f17), (kp f18), (kp f19), (kp f20), (kp f21), (kp f22), (fun h => by
              obtain ⟨gs, e1, e2⟩ := f23 (upd_ne h (by decide))
              exact ⟨gs, e1, fun h24 => e2 (by rw [upd_other (by decide)] at h24; exact h24)⟩), (fun h => by
              obtain ⟨A9, c9, e1, e2, e3⟩ := f24 (upd_ne h (by decide))
              exact ⟨A9, c9, e1, e2, fun h26 => e3 (by rw [upd_other (by decide)] at h26; exact h26)⟩), (kp f25), (kp f26)⟩
        · obtain rfl := Option.some.inj ho
          have g5 := f5 (hd ⟨5, .data⟩ (by simp) rfl)
          subst g5
          have h26 : L 26 = false := by
            cases hh : L 26
            · rfl
            · exact absurd ((I0 hh 6 (by omega)).symm.trans hL) (by decide)
          refine wpOp_step rfl (fun K' hK => ?_)
          go_simp
          refine hK _ _ ?_
          exact ⟨_, _, _, _, _, _, _, _, _, _, _, _, _, _, _, _, _, _, _, _, _, _, _, _, _, _, rfl, (upd_all I0 (by decide)), (fun h => I1 (by rw [upd_other (by decide)] at h; exact h)), (fun h => I2 (by rw [upd_other (by decide)] at h; exact h)), (fun h => upd_mono (I3 (upd_ne h (by decide)))), (fun h => upd_mono (I4 (upd_ne h (by decide)))), (fun h => upd_mono (I5 (upd_ne h (by decide)))), (fun h => upd_mono (I6 (upd_ne h (by decide)))), (kp f0), (kp f1), (kp f2), (kp f3), (kp f4), (kp f5), (fun _ => by first | rfl | simp), (kp f7), (kp f8), (kp f9), (kp f10), (kp f11), (kp f12), (kp f13), (fun h => by
              obtain ⟨gs, e1, e2⟩ := f14 (upd_ne h (by decide))
              exact ⟨gs, e1, fun h21 => e2 (by rw [upd_other (by decide)] at h21; exact h21)⟩), (kp f15), (kp f16), (kp f17), (kp f18), (kp f19), (kp f20), (kp f21), (kp f22), (fun h => by
              obtain ⟨gs, e1, e2⟩ := f23 (upd_ne h (by decide))
              exact ⟨gs, e1, fun h24 => e2 (by rw [upd_other (by decide)] at h24; exact h24)⟩), (fun h => by
              obtain ⟨A9, c9, e1, e2, e3⟩ := f24 (upd_ne h (by decide))
              exact ⟨A9, c9, e1, e2, fun h26 => e3 (by rw [upd_other (by decide)] at h26; exact h26)⟩), (kp f25), (kp f26)⟩
        · obtain rfl := Option.some.inj ho
          have g6 := f6 (hd ⟨6, .data⟩ (by simp) rfl)
          subst g6
          have h26 : L 26 = false := by
            cases hh : L 26
            · rfl
            · exact absurd ((I0 hh 7 (by omega)).symm.trans hL) (by decide)
          obtain ⟨k0, k1, k2, k3, k4⟩ := HC.out ww (I1 h26)
          refine wpOp_step rfl (fun K' hK => ?_)
          go_simp
          refine hK _ _ ?_
          exact ⟨_, _, _, _, _, _, _, _, _, _, _, _, _, _, _, _, _, _, _, _, _, _, _, _, _, _, rfl, (upd_all I0 (by decide)), (fun h => I1 (by rw [upd_other (by decide)] at h; exact h)), (fun h => I2 (by rw [upd_other (by decide)] at h; exact h)), (fun h => upd_mono (I3 (upd_ne h (by decide)))), (fun h => upd_mono (I4 (upd_ne h (by decide)))), (fun h => upd_mono (I5 (upd_ne h (by decide)))), (fun h => upd_mono (I6 (upd_ne h (by decide)))), (kp f0), (kp f1), (kp f2), (kp f3), (kp f4), (kp f5), (kp f6), (fun _ => rfl), (kp f8), (kp f9), (kp f10), (kp f11), (kp f12), (kp f13), (fun h => by
              obtain ⟨gs, e1, e2⟩ := f14 (upd_ne h (by decide))
              exact ⟨gs, e1, fun h21 => e2 (by rw [upd_other (by decide)] at h21; exact h21)⟩), (kp f15), (kp f16), (kp f17), (kp f18), (kp f19), (kp f20), (kp f21), (kp f22), (fun h => by
              obtain ⟨gs, e1, e2⟩ := f23 (upd_ne h (by decide))
              exact ⟨gs, e1, fun h24 => e2 (by rw [upd_other (by decide)] at h24; exact h24)⟩), (fun h => by
              obtain ⟨A9, c9, e1, e2, e3⟩ := f24 (upd_ne h (by decide))
              exact ⟨A9, c9, e1, e2, fun h26 => e3 (by rw [upd_other (by decide)] at h26; exact h26)⟩), (kp f25), (kp f26)⟩
        · obtain rfl := Option.some.inj ho
          have h26 : L 26 = false := by
            cases hh : L 26
            · rfl
            · exact absurd ((I0 hh 8 (by omega)).symm.trans hL) (by decide)
          refine wpOp_step rfl (fun K' hK => ?_)
          go_simp
          refine hK _ _ ?_
          exact ⟨_, _, _, _, _, _, _, _, _, _, _, _, _, _, _, _, _, _, _, _, _, _, _, _, _, _, rfl, (upd_all I0 (by decide)), (fun h => I1 (by rw [upd_other (by decide)] at h; exact h)), (fun h => I2 (by rw [upd_other (by decide)] at h; exact h)), (fun h => upd_mono (I3 (upd_ne h (by decide)))), (fun h => upd_mono (I4 (upd_ne h (by decide)))), (fun h => upd_mono (I5 (upd_ne h (by decide)))), (fun h => upd_mono (I6 (upd_ne h (by decide)))), (kp f0), (kp f1), (kp f2), (kp f3), (kp f4), (kp f5), (kp f6), (kp f7), (fun _ => by first | rfl | simp), (kp f9), (kp f10), (kp f11), (kp f12), (kp f13), (fun h => by
              obtain ⟨gs, e1, e2⟩ := f14 (upd_ne h (by decide))
              exact ⟨gs, e1, fun h21 => e2 (by rw [upd_other (by decide)] at h21; exact h21)⟩), (kp f15), (kp f16), (kp f17), (kp f18), (kp f19), (kp f20), (kp f21), (kp f22), (fun h => by
              obtain ⟨gs, e1, e2⟩ := f23 (upd_ne h (by decide))
              exact ⟨gs, e1, fun h24 => e2 (by rw [upd_other (by decide)] at h24; exact h24)⟩), (fun h => by
              obtain ⟨A9, c9, e1, e2, e3⟩ := f24 (upd_ne h (by decide))
              exact ⟨A9, c9, e1, e2, fun h26 => e3 (by rw [upd_other (by decide)] at h26; exact h26)⟩), (kp f25), (kp f26)⟩
        · obtain rfl := Option.some.inj ho
          have g8 := f8 (hd ⟨8, .data⟩ (by simp) rfl)
          subst g8
          have h26 : L 26 = false := by
            cases hh : L 26
            · rfl
            · exact absurd ((I0 hh 9 (by omega)).symm.trans hL) (by decide)
          obtain ⟨k0, k1, k2, k3, k4⟩ := HC.out ww (I1 h26)
          refine wpOp_step rfl (fun K' hK => ?_)
          go_simp
          refine hK _ _ ?_
          exact ⟨_, _, _, _, _, _, _, _, _, _, _, _, _, _, _, _, _, _, _, _, _, _, _, _, _, _, rfl, (upd_all I0 (by decide)), (fun h => I1 (by rw [upd_other (by decide)] at h; exact h)), (fun h => I2 (by rw [upd_other (by decide)] at h; exact h)), (fun h => upd_mono (I3 (upd_ne h (by decide)))), (fun h => upd_mono (I4 (upd_ne h (by decide)))), (fun h => upd_mono (I5 (upd_ne h (by decide)))), (fun h => upd_mono (I6 (upd_ne h (by decide)))), (kp f0), (kp f1), (kp f2), (kp f3), (kp f4), (kp f5), (kp f6), (kp f7), (kp f8), (fun _ => rfl), (kp f10), (kp f11), (kp f12), (kp f13), (fun h => by
              obtain ⟨gs, e1, e2⟩ := f14 (upd_ne h (by decide))
              exact ⟨gs, e1, fun h21 => e2 (by rw [upd_other (by decide)] at h21; exact h21)⟩), (kp f15), (kp f16), (kp f17), (kp f18), (kp f19), (kp f20), (kp f21), (kp f22), (fun h => by
              obtain ⟨gs, e1, e2⟩ := f23 (upd_ne h (by decide))
              exact ⟨gs, e1, fun h24 => e2 (by rw [upd_other (by decide)] at h24; exact h24)⟩), (fun h => by
              obtain ⟨A9, c9, e1, e2, e3⟩ := f24 (upd_ne h (by decide))
              exact ⟨A9, c9, e1, e2, fun h26 => e3 (by rw [upd_other (by decide)] at h26; exact h26)⟩), (kp f25), (kp f26)⟩
        · obtain rfl := Option.some.inj ho
          have h26 : L 26 = false := by
            cases hh : L 26
            · rfl
            · exact absurd ((I0 hh 10 (by omega)).symm.trans hL) (by decide)
          refine wpOp_step rfl (fun K' hK => ?_)
          go_simp
          refine hK _ _ ?_
          exact ⟨_, _, _, _, _, _, _, _, _, _, _, _, _, _, _, _, _, _, _, _, _, _, _, _, _, _, rfl, (upd_all I0 (by decide)), (fun h => I1 (by rw [upd_other (by decide)] at h; exact h)), (fun h => I2 (by rw [upd_other (by decide)] at h; exact h)), (fun h => upd_mono (I3 (upd_ne h (by decide)))), (fun h => upd_mono (I4 (upd_ne h (by decide)))), (fun h => upd_mono (I5 (upd_ne h (by decide)))), (fun h => upd_mono (I6 (upd_ne h (by decide)))), (kp f0), (kp f1), (kp f2), (kp f3), (kp f4), (kp f5), (kp f6), (kp f7), (kp f8), (kp f9), (fun _ => rfl), (kp f11), (kp f12), (kp f13), (fun h => by
              obtain ⟨gs, e1, e2⟩ := f14 (upd_ne h (by decide))
              exact ⟨gs, e1, fun h21 => e2 (by rw [upd_other (by decide)] at h21; exact h21)⟩), (kp f15), (kp f16), (kp f17), (kp f18), (kp f19), (kp f20), (kp f21), (kp f22), (fun h => by
              obtain ⟨gs, e1, e2⟩ := f23 (upd_ne h (by decide))
              exact ⟨gs, e1, fun h24 => e2 (by rw [upd_other (by decide)] at h24; exact h24)⟩), (fun h => by
              obtain ⟨A9, c9, e1, e2, e3⟩ := f24 (upd_ne h (by decide))
              exact ⟨A9, c9, e1, e2, fun h26 => e3 (by rw [upd_other (by decide)] at h26; exact h26)⟩), (kp f25), (kp f26)⟩
        · obtain rfl := Option.some.inj ho
          have g9 := f9 (hd ⟨9, .data⟩ (by simp) rfl)
          have g10 := f10 (hd ⟨10, .data⟩ (by simp) rfl)
          subst g9
          subst g10
          have h26 : L 26 = false := by
            cases hh : L 26
            · rfl
            · exact absurd ((I0 hh 11 (by omega)).symm.trans hL) (by decide)
          refine wpOp_step rfl (fun K' hK => ?_)
          go_simp
          refine hK _ _ ?_
          exact ⟨_, _, _, _, _, _, _, _, _, _, _, _, _, _, _, _, _, _, _, _, _, _, _, _, _, _, rfl, (upd_all I0 (by decide)), (fun h => I1 (by rw [upd_other (by decide)] at h; exact h)), (fun h => I2 (by rw [upd_other (by decide)] at h; exact h)), (fun h => upd_mono (I3 (upd_ne h (by decide)))), (fun h => upd_mono (I4 (upd_ne h (by decide)))), (fun h => upd_mono (I5 (upd_ne h (by decide)))), (fun h => upd_mono (I6 (upd_ne h (by decide)))), (kp f0), (kp f1), (kp f2), (kp f3), (kp f4), (kp f5), (kp f6), (kp f7), (kp f8), (kp f9), (kp f10), (fun _ => by first | rfl | simp), (kp f12), (kp f13), (fun h => by
              obtain ⟨gs, e1, e2⟩ := f14 (upd_ne h (by decide))
              exact ⟨gs, e1, fun h21 => e2 (by rw [upd_other (by decide)] at h21; exact h21)⟩), (kp f15), (kp f16), (kp f17), (kp f18), (kp f19), (kp f20), (kp f21), (kp f22), (fun h => by
              obtain ⟨gs, e1, e2⟩ := f23 (upd_ne h (by decide))
              exact ⟨gs, e1, fun h24 => e2 (by rw [upd_other (by decide)] at h24; exact h24)⟩), (fun h => by
              obtain ⟨A9, c9, e1, e2, e3⟩ := f24 (upd_ne h (by decide))
              exact ⟨A9, c9, e1, e2, fun h26 => e3 (by rw [upd_other (by decide)] at h26; exact h26)⟩), (kp f25), (kp f26)⟩
        · obtain rfl := Option.some.inj ho
          have g11 := f11 (hd ⟨11, .data⟩ (by simp) rfl)
          subst g11
          have h26 : L 26 = false := by
            cases hh : L 26
            · rfl
            · exact absurd ((I0 hh 12 (by omega)).symm.trans hL) (by decide)
          refine wpOp_step rfl (fun K' hK => ?_)
          go_simp
          refine hK _ _ ?_
          exact ⟨_, _, _, _, _, _, _, _, _, _, _, _, _, _, _, _, _, _, _, _, _, _, _, _, _, _, rfl, (upd_all I0 (by decide)), (fun h => I1 (by rw [upd_other (by decide)] at h; exact h)), (fun h => I2 (by rw [upd_other (by decide)] at h; exact h)), (fun h => upd_mono (I3 (upd_ne h (by decide)))), (fun h => upd_mono (I4 (upd_ne h (by decide)))), (fun h => upd_mono (I5 (upd_ne h (by decide)))), (fun h => upd_mono (I6 (upd_ne h (by decide)))), (kp f0), (kp f1), (kp f2), (kp f3), (kp f4), (kp f5), (kp f6), (kp f7), (kp f8), (kp f9), (kp f10), (kp f11), (fun _ => by first | rfl | simp), (kp f13), (fun h => by
              obtain ⟨gs, e1, e2⟩ := f14 (upd_ne h (by decide))
              exact ⟨gs, e1, fun h21 => e2 (by rw [upd_other (by decide)] at h21; exact h21)⟩), (kp f15), (kp f16), (kp f17), (kp f18), (kp f19), (kp f20), (kp f21), (kp f22), (fun h => by
              obtain ⟨gs, e1, e2⟩ := f23 (upd_ne h (by decide))
              exact ⟨gs, e1, fun h24 => e2 (by rw [upd_other (by decide)] at h24; exact h24)⟩), (fun h => by
              obtain ⟨A9, c9, e1, e2, e3⟩ := f24 (upd_ne h (by decide))
              exact ⟨A9, c9, e1, e2, fun h26 => e3 (by rw [upd_other (by decide)] at h26; exact h26)⟩), (kp f25), (kp f26)⟩
        · obtain rfl := Option.some.inj ho
          have g12 := f12 (hd ⟨12, .data⟩ (by simp) rfl)
          subst g12
          have h26 : L 26 = false := by
            cases hh : L 26
            · rfl
            · exact absurd ((I0 hh 13 (by omega)).symm.trans hL) (by decide)
          obtain ⟨k0, k1, k2, k3, k4⟩ := HC.out ww (I1 h26)
          refine wpOp_step rfl (fun K' hK => ?_)
          go_simp
          refine hK _ _ ?_
          exact ⟨_, _, _, _, _, _, _, _, _, _, _, _, _, _, _, _, _, _, _, _, _, _, _, _, _, _, rfl, (upd_all I0 (by decide)), (fun h => I1 (by rw [upd_other (by decide)] at h; exact h)), (fun h => I2 (by rw [upd_other (by decide)] at h; exact h)), (fun h => upd_mono (I3 (upd_ne h (by decide)))), (fun h => upd_mono (I4 (upd_ne h (by decide)))), (fun h => upd_mono (I5 (upd_ne h (by decide)))), (fun h => upd_mono (I6 (upd_ne h (by decide)))), (kp f0), (kp f1), (kp f2), (kp f3), (kp f4), (kp f5), (kp f6), (kp f7), (kp f8), (kp f9), (kp f10), (kp f11), (kp f12), (fun _ => rfl), (fun h => by
              obtain ⟨gs, e1, e2⟩ := f14 (upd_ne h (by decide))
              exact ⟨gs, e1, fun h21 => e2 (by rw [upd_other (by decide)] at h21; exact h21)⟩), (kp f15), (kp f16), (kp f17), (kp f18), (kp f19), (kp f20), (kp f21), (kp f22), (fun h => by
              obtain ⟨gs, e1, e2⟩ := f23 (upd_ne h (by decide))
              exact ⟨gs, e1, fun h24 => e2 (by rw [upd_other (by decide)] at h24; exact h24)⟩), (fun h => by
              obtain ⟨A9, c9, e1, e2, e3⟩ := f24 (upd_ne h (by decide))
              exact ⟨A9, c9, e1, e2, fun h26 => e3 (by rw [upd_other (by decide)] at h26; exact h26)⟩), (kp f25), (kp f26)⟩
        · obtain rfl := Option.some.inj ho
          have h26 : L 26 = false := by
            cases hh : L 26
            · rfl
            · exact absurd ((I0 hh 14 (by omega)).symm.trans hL) (by decide)
          have h21 : L 21 = false := by
            cases hh : L 21
            · rfl
            · exact absurd ((I3 hh)) (by rw [hL]; decide)
          have h23 : L 23 = false := by
            cases hh : L 23
            · rfl
            · exact absurd (I4 hh) (by rw [h21]; decide)
          have h24 : L 24 = false := by
            cases hh : L 24
            · rfl
            · exact absurd (I5 hh) (by rw [h23]; decide)
          have hB := I2 h24
          refine wpOp_step rfl (fun K' hK => ?_)
          go_simp
          refine hK _ _ ?_
          exact ⟨_, _, _, _, _, _, _, _, _, _, _, _, _, _, _, _, _, _, _, _, _, _, _, _, _, _, rfl, (upd_all I0 (by decide)), (fun _ => below_any (hB.alloc hB.size _) _), (fun _ => hB.alloc hB.size _), (fun _ => upd_self), (fun h => upd_mono (I4 (upd_ne h (by decide)))), (fun h => upd_mono (I5 (upd_ne h (by decide)))), (fun h => upd_mono (I6 (upd_ne h (by decide)))), (kp f0), (kp f1), (kp f2), (kp f3), (kp f4), (kp f5), (kp f6), (kp f7), (kp f8), (kp f9), (kp f10), (kp f11), (kp f12), (kp f13), (fun _ => ⟨_, rfl, fun _ => own_noneI ww wr.heap.size hB.size⟩), (kp f15), (kp f16), (kp f17), (kp f18), (kp f19), (kp f20), (fun h => absurd ((upd_ne h (by decide)).symm.trans h21) (by decide)), (fun h => absurd (I6 (upd_ne h (by decide))) (by rw [h21]; decide)), (fun h => absurd ((upd_ne h (by decide)).symm.trans h23) (by decide)), (fun h => absurd ((upd_ne h (by decide)).symm.trans h24) (by decide)), (kp f25), (fun h => absurd ((upd_ne h (by decide)).symm.trans h26) (by decide))⟩
        · obtain rfl := Option.some.inj ho
          have h26 : L 26 = false := by
            cases hh : L 26
            · rfl
            · exact absurd ((I0 hh 15 (by omega)).symm.trans hL) (by decide)
          refine wpOp_step rfl (fun K' hK => ?_)
          go_simp
          refine hK _ _ ?_
          exact ⟨_, _, _, _, _, _, _, _, _, _, _, _, _, _, _, _, _, _, _, _, _, _, _, _, _, _, rfl, (upd_all I0 (by decide)), (fun h => I1 (by rw [upd_other (by decide)] at h; exact h)), (fun h => I2 (by rw [upd_other (by decide)] at h; exact h)), (fun h => upd_mono (I3 (upd_ne h (by decide)))), (fun h => upd_mono (I4 (upd_ne h (by decide)))), (fun h => upd_mono (I5 (upd_ne h (by decide)))), (fun h => upd_mono (I6 (upd_ne h (by decide)))), (kp f0), (kp f1), (kp f2), (kp f3), (kp f4), (kp f5), (kp f6), (kp f7), (kp f8), (kp f9), (kp f10), (kp f11), (kp f12), (kp f13), (fun h => by
              obtain ⟨gs, e1, e2⟩ := f14 (upd_ne h (by decide))
              exact ⟨gs, e1, fun h21 => e2 (by rw [upd_other (by decide)] at h21; exact h21)⟩), (fun _ => by first | rfl | simp), (kp f16), (kp f17), (kp f18), (kp f19), (kp f20), (kp f21), (kp f22), (fun h => by
              obtain ⟨gs, e1, e2⟩ := f23 (upd_ne h (by decide))
              exact ⟨gs, e1, fun h24 => e2 (by rw [upd_other (by decide)] at h24; exact h24)⟩), (fun h => by
              obtain ⟨A9, c9, e1, e2, e3⟩ := f24 (upd_ne h (by decide))
              exact ⟨A9, c9, e1, e2, fun h26 => e3 (by rw [upd_other (by decide)] at h26; exact h26)⟩), (kp f25), (kp f26)⟩
        · obtain rfl := Option.some.inj ho
          have g15 := f15 (hd ⟨15, .data⟩ (by simp) rfl)
          subst g15
          have h26 : L 26 = false := by
            cases hh : L 26
            · rfl
            · exact absurd ((I0 hh 16 (by omega)).symm.trans hL) (by decide)
          obtain ⟨k0, k1, k2, k3, k4⟩ := HC.out ww (I1 h26)
          refine wpOp_step rfl (fun K' hK => ?_)
          go_simp
          refine hK _ _ ?_
          exact ⟨_, _, _, _, _, _, _, _, _, _, _, _, _, _, _, _, _, _, _, _, _, _, _, _, _, _, rfl, (upd_all I0 (by decide)), (fun h => I1 (by rw [upd_other (by decide)] at h; exact h)), (fun h => I2 (by rw [upd_other (by decide)] at h; exact h)), (fun h => upd_mono (I3 (upd_ne h (by decide)))), (fun h => upd_mono (I4 (upd_ne h (by decide)))), (fun h => upd_mono (I5 (upd_ne h (by decide)))), (fun h => upd_mono (I6 (upd_ne h (by decide)))), (kp f0), (kp f1), (kp f2), (kp f3), (kp f4), (kp f5), (kp f6), (kp f7), (kp f8), (kp f9), (kp f10), (kp f11), (kp f12), (kp f13), (fun h => by
              obtain ⟨gs, e1, e2⟩ := f14 (upd_ne h (by decide))
              exact ⟨gs, e1, fun h21 => e2 (by rw [upd_other (by decide)] at h21; exact h21)⟩), (kp f15), (fun _ => rfl), (kp f17), (kp f18), (kp f19), (kp f20), (kp f21), (kp f22), (fun h => by
              obtain ⟨gs, e1, e2⟩ := f23 (upd_ne h (by decide))
              exact ⟨gs, e1, fun h24 => e2 (by rw [upd_other (by decide)] at h24; exact h24)⟩), (fun h => by
              obtain ⟨A9, c9, e1, e2, e3⟩ := f24 (upd_ne h (by decide))
              exact ⟨A9, c9, e1, e2, fun h26 => e3 (by rw [upd_other (by decide)] at h26; exact h26)⟩), (kp f25), (kp f26)⟩
        · obtain rfl := Option.some.inj ho
          have h26 : L 26 = false := by
            cases hh : L 26
            · rfl
            · exact absurd ((I0 hh 17 (by omega)).symm.trans hL) (by decide)
          refine wpOp_step rfl (fun K' hK => ?_)
          go_simp
          refine hK _ _ ?_
          exact ⟨_, _, _, _, _, _, _, _, _, _, _, _, _, _, _, _, _, _, _, _, _, _, _, _, _, _, rfl, (upd_all I0 (by decide)), (fun h => I1 (by rw [upd_other (by decide)] at h; exact h)), (fun h => I2 (by rw [upd_other (by decide)] at h; exact h)), (fun h => upd_mono (I3 (upd_ne h (by decide)))), (fun h => upd_mono (I4 (upd_ne h (by decide)))), (fun h => upd_mono (I5 (upd_ne h (by decide)))), (fun h => upd_mono (I6 (upd_ne h (by decide)))), (kp f0), (kp f1), (kp f2), (kp f3), (kp f4), (kp f5), (kp f6), (kp f7), (kp f8), (kp f9), (kp f10), (kp f11), (kp f12), (kp f13), (fun h => by
              obtain ⟨gs, e1, e2⟩ := f14 (upd_ne h (by decide))
              exact ⟨gs, e1, fun h21 => e2 (by rw [upd_other (by decide)] at h21; exact h21)⟩), (kp f15), (kp f16), (fun _ => rfl), (kp f18), (kp f19), (kp f20), (kp f21), (kp f22), (fun h => by
              obtain ⟨gs, e1, e2⟩ := f23 (upd_ne h (by decide))
              exact ⟨gs, e1, fun h24 => e2 (by rw [upd_other (by decide)] at h24; exact h24)⟩), (fun h => by
              obtain ⟨A9, c9, e1, e2, e3⟩ := f24 (upd_ne h (by decide))
              exact ⟨A9, c9, e1, e2, fun h26 => e3 (by rw [upd_other (by decide)] at h26; exact h26)⟩), (kp f25), (kp f26)⟩
        · obtain rfl := Option.some.inj ho
          have g16 := f16 (hd ⟨16, .data⟩ (by simp) rfl)
          have g17 := f17 (hd ⟨17, .data⟩ (by simp) rfl)
          subst g16
          subst g17
          have h26 : L 26 = false := by
            cases hh : L 26
            · rfl
            · exact absurd ((I0 hh 18 (by omega)).symm.trans hL) (by decide)
          refine wpOp_step rfl (fun K' hK => ?_)
          go_simp
          refine hK _ _ ?_
          exact ⟨_, _, _, _, _, _, _, _, _, _, _, _, _, _, _, _, _, _, _, _, _, _, _, _, _, _, rfl, (upd_all I0 (by decide)), (fun h => I1 (by rw [upd_other (by decide)] at h; exact h)), (fun h => I2 (by rw [upd_other (by decide)] at h; exact h)), (fun h => upd_mono (I3 (upd_ne h (by decide)))), (fun h => upd_mono (I4 (upd_ne h (by decide)))), (fun h => upd_mono (I5 (upd_ne h (by decide)))), (fun h => upd_mono (I6 (upd_ne h (by decide)))), (kp f0), (kp f1), (kp f2), (kp f3), (kp f4), (kp f5), (kp f6), (kp f7), (kp f8), (kp f9), (kp f10), (kp f11), (kp f12), (kp f13), (fun h => by
              obtain ⟨gs, e1, e2⟩ := f14 (upd_ne h (by decide))
              exact ⟨gs, e1, fun h21 => e2 (by rw [upd_other (by decide)] at h21; exact h21)⟩), (kp f15), (kp f16), (kp f17), (fun _ => by first | rfl | simp), (kp f19), (kp f20), (kp f21), (kp f22), (fun h => by
              obtain ⟨gs, e1, e2⟩ := f23 (upd_ne h (by decide))
              exact ⟨gs, e1, fun h24 => e2 (by rw [upd_other (by decide)] at h24; exact h24)⟩), (fun h => by
              obtain ⟨A9, c9, e1, e2, e3⟩ := f24 (upd_ne h (by decide))
              exact ⟨A9, c9, e1, e2, fun h26 => e3 (by rw [upd_other (by decide)] at h26; exact h26)⟩), (kp f25), (kp f26)⟩
        · obtain rfl := Option.some.inj ho
          have g18 := f18 (hd ⟨18, .data⟩ (by simp) rfl)
          subst g18
          have h26 : L 26 = false := by
            cases hh : L 26
            · rfl
            · exact absurd ((I0 hh 19 (by omega)).symm.trans hL) (by decide)
          refine wpOp_step rfl (fun K' hK => ?_)
          go_simp
          refine hK _ _ ?_
          exact ⟨_, _, _, _, _, _, _, _, _, _, _, _, _, _, _, _, _, _, _, _, _, _, _, _, _, _, rfl, (upd_all I0 (by decide)), (fun h => I1 (by rw [upd_other (by decide)] at h; exact h)), (fun h => I2 (by rw [upd_other (by decide)] at h; exact h)), (fun h => upd_mono (I3 (upd_ne h (by decide)))), (fun h => upd_mono (I4 (upd_ne h (by decide)))), (fun h => upd_mono (I5 (upd_ne h (by decide)))), (fun h => upd_mono (I6 (upd_ne h (by decide)))), (kp f0), (kp f1), (kp f2), (kp f3), (kp f4), (kp f5), (kp f6), (kp f7), (kp f8), (kp f9), (kp f10), (kp f11), (kp f12), (kp f13), (fun h => by
              obtain ⟨gs, e1, e2⟩ := f14 (upd_ne h (by decide))
              exact ⟨gs, e1, fun h21 => e2 (by rw [upd_other (by decide)] at h21; exact h21)⟩), (kp f15), (kp f16), (kp f17), (kp f18), (fun _ => by first | rfl | simp), (kp f20), (kp f21), (kp f22), (fun h => by
              obtain ⟨gs, e1, e2⟩ := f23 (upd_ne h (by decide))
              exact ⟨gs, e1, fun h24 => e2 (by rw [upd_other (by decide)] at h24; exact h24)⟩), (fun h => by
              obtain ⟨A9, c9, e1, e2, e3⟩ := f24 (upd_ne h (by decide))
              exact ⟨A9, c9, e1, e2, fun h26 => e3 (by rw [upd_other (by decide)] at h26; exact h26)⟩), (kp f25), (kp f26)⟩
        · obtain rfl := Option.some.inj ho
          have g19 := f19 (hd ⟨19, .data⟩ (by simp) rfl)
          subst g19
          have h26 : L 26 = false := by
            cases hh : L 26
            · rfl
            · exact absurd ((I0 hh 20 (by omega)).symm.trans hL) (by decide)
          obtain ⟨k0, k1, k2, k3, k4⟩ := HC.out ww (I1 h26)
          refine wpOp_step rfl (fun K' hK => ?_)
          go_simp
          refine hK _ _ ?_
          exact ⟨_, _, _, _, _, _, _, _, _, _, _, _, _, _, _, _, _, _, _, _, _, _, _, _, _, _, rfl, (upd_all I0 (by decide)), (fun h => I1 (by rw [upd_other (by decide)] at h; exact h)), (fun h => I2 (by rw [upd_other (by decide)] at h; exact h)), (fun h => upd_mono (I3 (upd_ne h (by decide)))), (fun h => upd_mono (I4 (upd_ne h (by decide)))), (fun h => upd_mono (I5 (upd_ne h (by decide)))), (fun h => upd_mono (I6 (upd_ne h (by decide)))), (kp f0), (kp f1), (kp f2), (kp f3), (kp f4), (kp f5), (kp f6), (kp f7), (kp f8), (kp f9), (kp f10), (kp f11), (kp f12), (kp f13), (fun h => by
              obtain ⟨gs, e1, e2⟩ := f14 (upd_ne h (by decide))
              exact ⟨gs, e1, fun h21 => e2 (by rw [upd_other (by decide)] at h21; exact h21)⟩), (kp f15), (kp f16), (kp f17), (kp f18), (kp f19), (fun _ => rfl), (kp f21), (kp f22), (fun h => by
              obtain ⟨gs, e1, e2⟩ := f23 (upd_ne h (by decide))
              exact ⟨gs, e1, fun h24 => e2 (by rw [upd_other (by decide)] at h24; exact h24)⟩), (fun h => by
              obtain ⟨A9, c9, e1, e2, e3⟩ := f24 (upd_ne h (by decide))
              exact ⟨A9, c9, e1, e2, fun h26 => e3 (by rw [upd_other (by decide)] at h26; exact h26)⟩), (kp f25), (kp f26)⟩
        · obtain rfl := Option.some.inj ho
          have g14 := f14 (hd ⟨14, .data⟩ (by simp) rfl)
          have g20 := f20 (hd ⟨20, .data⟩ (by simp) rfl)
          subst g20
          have h26 : L 26 = false := by
            cases hh : L 26
            · rfl
            · exact absurd ((I0 hh 21 (by omega)).symm.trans hL) (by decide)
          obtain ⟨gs, rfl, e14⟩ := g14
          have o14 := e14 hL
          have h23 : L 23 = false := by
            cases hh : L 23
            · rfl
            · exact absurd (I4 hh) (by rw [hL]; decide)
          have h24 : L 24 = false := by
            cases hh : L 24
            · rfl
            · exact absurd (I5 hh) (by rw [h23]; decide)
          have h22 : L 22 = false := by
            cases hh : L 22
            · rfl
            · exact absurd (I6 hh) (by rw [hL]; decide)
          have hB := I2 h24
          have hG := I1 h26
          refine wpOp_step rfl (fun K' hK => ?_)
          refine app_stepI rfl (.tmp 31) (.tmp 37) rfl wr.heap.size _ [] rfl o14 A' m' cc wr.heap.size cl.r rfl (HI.out.below hB) (by simp <;> omega) hB.size ?_
          intro v' w' o1 g1 s1
          rw [List.nil_append] at o1
          have hrow := fun kk hk => (World.ownsRow.lt o14 kk hk).1
          have hB2 := hB.grown g1 hB.size hrow
          obtain ⟨A8, c8, e8, x8⟩ := o1.form
          rw [hl3] at e8
          subst e8
          refine hK _ _ ?_
          exact ⟨_, _, _, _, _, _, _, _, _, _, _, _, _, _, _, _, _, _, _, _, _, _, _, _, _, _, rfl, (upd_all I0 (by decide)), (fun _ => below_any hB2 _), (fun _ => hB2), (fun _ => upd_mono (hd ⟨14, .data⟩ (by simp) rfl)), (fun _ => upd_self), (fun h => upd_mono (I5 (upd_ne h (by decide)))), (fun _ => upd_self), (kp f0), (kp f1), (kp f2), (kp f3), (kp f4), (kp f5), (kp f6), (kp f7), (kp f8), (kp f9), (kp f10), (kp f11), (kp f12), (kp f13), (fun _ => ⟨gs, rfl, fun h => absurd (upd_self.symm.trans h) (by decide)⟩), (kp f15), (kp f16), (kp f17), (kp f18), (kp f19), (kp f20), (fun _ => ⟨A8, c8, rfl, o1⟩), (fun h => absurd ((upd_ne h (by decide)).symm.trans h22) (by decide)), (fun h => absurd ((upd_ne h (by decide)).symm.trans h23) (by decide)), (fun h => absurd ((upd_ne h (by decide)).symm.trans h24) (by decide)), (kp f25), (fun h => absurd ((upd_ne h (by decide)).symm.trans h26) (by decide))⟩
        · obtain rfl := Option.some.inj ho
          have g7 := f7 (hd ⟨7, .data⟩ (by simp) rfl)
          have g13 := f13 (hd ⟨13, .data⟩ (by simp) rfl)
          have g21 := f21 (hd ⟨21, .data⟩ (by simp) rfl)
          subst g7
          subst g13
          have h26 : L 26 = false := by
            cases hh : L 26
            · rfl
            · exact absurd ((I0 hh 22 (by omega)).symm.trans hL) (by decide)
          obtain ⟨A8, c8, rfl, o8⟩ := g21
          refine wpOp_step rfl (fun K' hK => ?_)
          go_simp
          refine hK _ _ ?_
          exact ⟨_, _, _, _, _, _, _, _, _, _, _, _, _, _, _, _, _, _, _, _, _, _, _, _, _, _, rfl, (upd_all I0 (by decide)), (fun h => I1 (by rw [upd_other (by decide)] at h; exact h)), (fun h => I2 (by rw [upd_other (by decide)] at h; exact h)), (fun h => upd_mono (I3 (upd_ne h (by decide)))), (fun h => upd_mono (I4 (upd_ne h (by decide)))), (fun h => upd_mono (I5 (upd_ne h (by decide)))), (fun _ => upd_mono (hd ⟨21, .data⟩ (by simp) rfl)), (kp f0), (kp f1), (kp f2), (kp f3), (kp f4), (kp f5), (kp f6), (kp f7), (kp f8), (kp f9), (kp f10), (kp f11), (kp f12), (kp f13), (fun h => by
              obtain ⟨gs, e1, e2⟩ := f14 (upd_ne h (by decide))
              exact ⟨gs, e1, fun h21 => e2 (by rw [upd_other (by decide)] at h21; exact h21)⟩), (kp f15), (kp f16), (kp f17), (kp f18), (kp f19), (kp f20), (fun _ => ⟨A8, c8, rfl, o8⟩), (fun _ => rfl), (fun h => by
              obtain ⟨gs, e1, e2⟩ := f23 (upd_ne h (by decide))
              exact ⟨gs, e1, fun h24 => e2 (by rw [upd_other (by decide)] at h24; exact h24)⟩), (fun h => by
              obtain ⟨A9, c9, e1, e2, e3⟩ := f24 (upd_ne h (by decide))
              exact ⟨A9, c9, e1, e2, fun h26 => e3 (by rw [upd_other (by decide)] at h26; exact h26)⟩), (kp f25), (kp f26)⟩
        · obtain rfl := Option.some.inj ho
          have g22 := f22 (hd ⟨22, .data⟩ (by simp) rfl)
          subst g22
          have h26 : L 26 = false := by
            cases hh : L 26
            · rfl
            · exact absurd ((I0 hh 23 (by omega)).symm.trans hL) (by decide)
          have h21 := I6 (hd ⟨22, .data⟩ (by simp) rfl)
          obtain ⟨A8, c8, rfl, o8⟩ := f21 h21
          have h24 : L 24 = false := by
            cases hh : L 24
            · rfl
            · exact absurd (I5 hh) (by rw [hL]; decide)
          have hB := I2 h24
          refine wpOp_step rfl (fun K' hK => ?_)
          go_simp
          refine hK _ _ ?_
          exact ⟨_, _, _, _, _, _, _, _, _, _, _, _, _, _, _, _, _, _, _, _, _, _, _, _, _, _, rfl, (upd_all I0 (by decide)), (fun _ => below_any (hB.alloc hB.size _) _), (fun _ => hB.alloc hB.size _), (fun h => upd_mono (I3 (upd_ne h (by decide)))), (fun _ => upd_mono h21), (fun _ => upd_self), (fun h => upd_mono (I6 (upd_ne h (by decide)))), (kp f0), (kp f1), (kp f2), (kp f3), (kp f4), (kp f5), (kp f6), (kp f7), (kp f8), (kp f9), (kp f10), (kp f11), (kp f12), (kp f13), (fun h => by
              obtain ⟨gs, e1, e2⟩ := f14 (upd_ne h (by decide))
              exact ⟨gs, e1, fun hh => absurd (h21.symm.trans ((upd_other (by decide)).symm.trans hh)) (by decide)⟩), (kp f15), (kp f16), (kp f17), (kp f18), (kp f19), (kp f20), (fun _ => ⟨A8, c8, rfl, World.ownsRow.alloc o8 _⟩), (kp f22), (fun _ => ⟨_, rfl, fun _ => Rw.new _ _ _⟩), (fun h => absurd ((upd_ne h (by decide)).symm.trans h24) (by decide)), (kp f25), (fun h => absurd ((upd_ne h (by decide)).symm.trans h26) (by decide))⟩
        · obtain rfl := Option.some.inj ho
          have g1 := f1 (hd ⟨1, .data⟩ (by simp) rfl)
          have g23 := f23 (hd ⟨23, .data⟩ (by simp) rfl)
          subst g1
          have h26 : L 26 = false := by
            cases hh : L 26
            · rfl
            · exact absurd ((I0 hh 24 (by omega)).symm.trans hL) (by decide)
          obtain ⟨gs, rfl, e23⟩ := g23
          have q23 := e23 hL
          have h23 := hd ⟨23, .data⟩ (by simp) rfl
          have h21 := I4 h23
          obtain ⟨A8, c8, rfl, o8⟩ := f21 h21
          have hB := I2 hL
          refine wpOp_step rfl (fun K' hK => ?_)
          refine app_stepC rfl (.tmp 18) (.tmp 40) rfl (w.heap.size + 2) _ k (flatC (h.cs.take k) rvs) rfl (row_below HROW.out hB (Nat.le_refl _)) gs cl.u cl.d A8 m' c8 rfl q23 (by omega) (Nat.le_trans hbase hB.size) ?_
          intro v' w' A9 c9 e9 o1 g1 s1
          subst e9
          have hG2 := World.grownBy.trans (I1 h26) g1
          have o8' := o8.far g1 (APART.out _ (fun kk hk => (World.ownsRow.lt o8 kk hk).1))
          have hsep : (Value.slice A9 (k + 1) c9).ownBlock = (Value.slice A8 m' c8).ownBlock → (Value.slice A8 m' c8).ownBlock = none := fun e => sep_new s1 e (fun kk hk => World.ownsRow.lt o8 kk hk) (fun kk hk => (World.ownsRow.lt HROW.out kk hk).2)
          refine hK _ _ ?_
          exact ⟨_, _, _, _, _, _, _, _, _, _, _, _, _, _, _, _, _, _, _, _, _, _, _, _, _, _, rfl, (upd_all I0 (by decide)), (fun _ => hG2), (fun h => absurd (upd_self.symm.trans h) (by decide)), (fun h => upd_mono (I3 (upd_ne h (by decide)))), (fun h => upd_mono (I4 (upd_ne h (by decide)))), (fun _ => upd_mono h23), (fun h => upd_mono (I6 (upd_ne h (by decide)))), (kp f0), (kp f1), (kp f2), (kp f3), (kp f4), (kp f5), (kp f6), (kp f7), (kp f8), (kp f9), (kp f10), (kp f11), (kp f12), (kp f13), (fun h => by
              obtain ⟨gs, e1, e2⟩ := f14 (upd_ne h (by decide))
              exact ⟨gs, e1, fun hh => absurd (h21.symm.trans ((upd_other (by decide)).symm.trans hh)) (by decide)⟩), (kp f15), (kp f16), (kp f17), (kp f18), (kp f19), (kp f20), (fun _ => ⟨A8, c8, rfl, o8'⟩), (kp f22), (fun _ => ⟨gs, rfl, fun h => absurd (upd_self.symm.trans h) (by decide)⟩), (fun _ => ⟨A9, c9, rfl, s1.imp id (fun e => ⟨_, e, hB.size⟩), fun _ => ⟨o1, hsep⟩⟩), (kp f25), (fun h => absurd ((upd_ne h (by decide)).symm.trans h26) (by decide))⟩
        · obtain rfl := Option.some.inj ho
          have h26 : L 26 = false := by
            cases hh : L 26
            · rfl
            · exact absurd ((I0 hh 25 (by omega)).symm.trans hL) (by decide)
          refine wpOp_step rfl (fun K' hK => ?_)
          go_simp
          refine hK _ _ ?_
          exact ⟨_, _, _, _, _, _, _, _, _, _, _, _, _, _, _, _, _, _, _, _, _, _, _, _, _, _, rfl, (upd_all I0 (by decide)), (fun h => I1 (by rw [upd_other (by decide)] at h; exact h)), (fun h => I2 (by rw [upd_other (by decide)] at h; exact h)), (fun h => upd_mono (I3 (upd_ne h (by decide)))), (fun h => upd_mono (I4 (upd_ne h (by decide)))), (fun h => upd_mono (I5 (upd_ne h (by decide)))), (fun h => upd_mono (I6 (upd_ne h (by decide)))), (kp f0), (kp f1), (kp f2), (kp f3), (kp f4), (kp f5), (kp f6), (kp f7), (kp f8), (kp f9), (kp f10), (kp f11), (kp f12), (kp f13), (fun h => by
              obtain ⟨gs, e1, e2⟩ := f14 (upd_ne h (by decide))
              exact ⟨gs, e1, fun h21 => e2 (by rw [upd_other (by decide)] at h21; exact h21)⟩), (kp f15), (kp f16), (kp f17), (kp f18), (kp f19), (kp f20), (kp f21), (kp f22), (fun h => by
              obtain ⟨gs, e1, e2⟩ := f23 (upd_ne h (by decide))
              exact ⟨gs, e1, fun h24 => e2 (by rw [upd_other (by decide)] at h24; exact h24)⟩), (fun h => by
              obtain ⟨A9, c9, e1, e2, e3⟩ := f24 (upd_ne h (by decide))
              exact ⟨A9, c9, e1, e2, fun h26 => e3 (by rw [upd_other (by decide)] at h26; exact h26)⟩), (fun _ => by first | rfl | simp), (kp f26)⟩
        · obtain rfl := Option.some.inj ho
          have g24 := f24 (hd ⟨24, .data⟩ (by simp) rfl)
          have g25 := f25 (hd ⟨25, .data⟩ (by simp) rfl)
          subst g25
          have hphase := Lib.hid (show ∀ k, k < 26 → L k = true by
            intro k hk
            obtain rfl | rfl | rfl | rfl | rfl | rfl | rfl | rfl | rfl | rfl | rfl | rfl | rfl | rfl | rfl | rfl | rfl | rfl | rfl | rfl | rfl | rfl | rfl | rfl | rfl | rfl : k = 0 ∨ k = 1 ∨ k = 2 ∨ k = 3 ∨ k = 4 ∨ k = 5 ∨ k = 6 ∨ k = 7 ∨ k = 8 ∨ k = 9 ∨ k = 10 ∨ k = 11 ∨ k = 12 ∨ k = 13 ∨ k = 14 ∨ k = 15 ∨ k = 16 ∨ k = 17 ∨ k = 18 ∨ k = 19 ∨ k = 20 ∨ k = 21 ∨ k = 22 ∨ k = 23 ∨ k = 24 ∨ k = 25 := by omega
            · exact hd ⟨0, .phase⟩ (by simp) rfl
            · exact hd ⟨1, .phase⟩ (by simp) rfl
            · exact hd ⟨2, .phase⟩ (by simp) rfl
            · exact hd ⟨3, .phase⟩ (by simp) rfl
            · exact hd ⟨4, .phase⟩ (by simp) rfl
            · exact hd ⟨5, .phase⟩ (by simp) rfl
            · exact hd ⟨6, .phase⟩ (by simp) rfl
            · exact hd ⟨7, .phase⟩ (by simp) rfl
            · exact hd ⟨8, .phase⟩ (by simp) rfl
            · exact hd ⟨9, .phase⟩ (by simp) rfl
            · exact hd ⟨10, .phase⟩ (by simp) rfl
            · exact hd ⟨11, .phase⟩ (by simp) rfl
            · exact hd ⟨12, .phase⟩ (by simp) rfl
            · exact hd ⟨13, .phase⟩ (by simp) rfl
            · exact hd ⟨14, .phase⟩ (by simp) rfl
            · exact hd ⟨15, .phase⟩ (by simp) rfl
            · exact hd ⟨16, .phase⟩ (by simp) rfl
            · exact hd ⟨17, .phase⟩ (by simp) rfl
            · exact hd ⟨18, .phase⟩ (by simp) rfl
            · exact hd ⟨19, .phase⟩ (by simp) rfl
            · exact hd ⟨20, .phase⟩ (by simp) rfl
            · exact hd ⟨21, .phase⟩ (by simp) rfl
            · exact hd ⟨22, .phase⟩ (by simp) rfl
            · exact hd ⟨23, .phase⟩ (by simp) rfl
            · exact hd ⟨24, .data⟩ (by simp) rfl
            · exact hd ⟨25, .data⟩ (by simp) rfl)
          obtain ⟨A9, c9, rfl, q24, e24⟩ := g24
          obtain ⟨o9, hsep⟩ := e24 hL
          have h21 := hphase.out 21 (by omega)
          obtain ⟨A8, c8, rfl, o8⟩ := f21 h21
          have hG := I1 hL
          obtain ⟨k0, k1, k2, k3, k4⟩ := HC.out ww hG
          have kf := HFZ.out ww hG
          refine wpOp_step rfl (fun K' hK => ?_)
          go_simp
          refine hK _ _ ?_
          exact ⟨_, _, _, _, _, _, _, _, _, _, _, _, _, _, _, _, _, _, _, _, _, _, _, _, _, _, rfl, (fun _ k hk => upd_mono (hphase.out k hk)), (fun h => absurd (upd_self.symm.trans h) (by decide)), (fun h => absurd ((upd_other (by decide)).symm.trans h) (by rw [hphase.out 24 (by omega)]; decide)), (fun h => upd_mono (I3 (upd_ne h (by decide)))), (fun h => upd_mono (I4 (upd_ne h (by decide)))), (fun h => upd_mono (I5 (upd_ne h (by decide)))), (fun h => upd_mono (I6 (upd_ne h (by decide)))), (kp f0), (kp f1), (kp f2), (kp f3), (kp f4), (kp f5), (kp f6), (kp f7), (kp f8), (kp f9), (kp f10), (kp f11), (kp f12), (kp f13), (fun h => by
              obtain ⟨gs, e1, e2⟩ := f14 (upd_ne h (by decide))
              exact ⟨gs, e1, fun hh => absurd (h21.symm.trans ((upd_other (by decide)).symm.trans hh)) (by decide)⟩), (kp f15), (kp f16), (kp f17), (kp f18), (kp f19), (kp f20), (fun _ => ⟨A8, c8, rfl, o8.far (only_put (g := w5.heap.size) (World.grownBy.refl _ _) 0 _) (APB.out _ (fun kk hk => (World.ownsRow.lt o8 kk hk).1))⟩), (kp f22), (fun h => by
              obtain ⟨gs, e1, e2⟩ := f23 (upd_ne h (by decide))
              exact ⟨gs, e1, fun hh => absurd ((hphase.out 24 (by omega)).symm.trans ((upd_other (by decide)).symm.trans hh)) (by decide)⟩), (fun _ => ⟨A9, c9, rfl, q24, fun h => absurd (upd_self.symm.trans h) (by decide)⟩), (kp f25), (fun _ => ⟨ww, rfl, hG, o9, hsep⟩)⟩
      case hdone =>
        rintro L ac ww hall ⟨t17, t18, t19, t20, t21, t22, t23, t24, t25, t26, t27, t28, t29, t30, t31, t32, t33, t34, t35, t36, t37, t38, t39, t40, t41, t42, rfl, I0, I1, I2, I3, I4, I5, I6, f0, f1, f2, f3, f4, f5, f6, f7, f8, f9, f10, f11, f12, f13, f14, f15, f16, f17, f18, f19, f20, f21, f22, f23, f24, f25, f26⟩
        have e0 := f0 (hall 0 (by decide))
        have e1 := f1 (hall 1 (by decide))
        have e2 := f2 (hall 2 (by decide))
        have e3 := f3 (hall 3 (by decide))
        have e4 := f4 (hall 4 (by decide))
        have e5 := f5 (hall 5 (by decide))
        have e6 := f6 (hall 6 (by decide))
        have e7 := f7 (hall 7 (by decide))
        have e8 := f8 (hall 8 (by decide))
        have e9 := f9 (hall 9 (by decide))
        have e10 := f10 (hall 10 (by decide))
        have e11 := f11 (hall 11 (by decide))
        have e12 := f12 (hall 12 (by decide))
        have e13 := f13 (hall 13 (by decide))
        have e14 := f14 (hall 14 (by decide))
        have e15 := f15 (hall 15 (by decide))
        have e16 := f16 (hall 16 (by decide))
        have e17 := f17 (hall 17 (by decide))
        have e18 := f18 (hall 18 (by decide))
        have e19 := f19 (hall 19 (by decide))
        have e20 := f20 (hall 20 (by decide))
        have e21 := f21 (hall 21 (by decide))
        have e22 := f22 (hall 22 (by decide))
        have e23 := f23 (hall 23 (by decide))
        have e24 := f24 (hall 24 (by decide))
        have e25 := f25 (hall 25 (by decide))
        have e26 := f26 (hall 26 (by decide))
        clear f0 f1 f2 f3 f4 f5 f6 f7 f8 f9 f10 f11 f12 f13 f14 f15 f16 f17 f18 f19 f20 f21 f22 f23 f24 f25 f26
        obtain ⟨A9, c9, rfl, q24, _⟩ := e24
        obtain ⟨A8, c8, rfl, o8⟩ := e21
        obtain ⟨w1, rfl, hG, o9, hsep⟩ := e26
        have NX := Lib.hid (HS.out.next hlc hlt HCL.out hG o9 hsep q24 o8)
        clear o9 o8 hsep q24 hG I0 I1 I2 I3 I4 I5 I6
        go_wp2
        go_roundw
        case rel => exact ⟨k + 1, A9, c9, _, by omega, by go_num, NX.out⟩
        case measure => simp [intOf]; omega
    · obtain rfl : k = n := by omega
      have htk : h.cs.take k = h.cs := List.take_of_length_le (by omega)
      rw [htk] at S
      have x0 : wr.cell? ⟨w5.heap.size, 0, none⟩ = some (.slice Av k cv) := S.box.cell 0
      have x1 : wr.cell? ⟨w5.heap.size, 1, none⟩ = some (.slice A5 m c5) := S.box.cell 1
      have y0 : wr.cell? ⟨w.heap.size + 1, 0, none⟩ = some (.slice none 0 0) := S.res.cell 0
      have y1 : wr.cell? ⟨w.heap.size + 1, 1, none⟩ = some (.slice none 0 0) := S.res.cell 1
      have y2 := S.res.frozen 0
      have y3 := S.res.frozen 1
      have q0 := ((S.res.put 0 (.slice Av k cv)).put 1 (.slice A5 m c5)).cell 0
      have q1 := ((S.res.put 0 (.slice Av k cv)).put 1 (.slice A5 m c5)).cell 1
      have bn := (S.bel.setCell (p := ⟨w.heap.size + 1, 0, none⟩) (by simp) (.slice Av k cv)).setCell (p := ⟨w.heap.size + 1, 1, none⟩) (by simp) (.slice A5 m c5)
      have ap : Apart (some (w.heap.size + 1)) (Value.slice Av k cv :: Value.slice A5 m c5 :: rvs) := S.own.apart_below (by omega)
      have oh : OwnH ((wr.setCell ⟨w.heap.size + 1, 0, none⟩ (.slice Av k cv)).setCell ⟨w.heap.size + 1, 1, none⟩ (.slice A5 m c5)) w.heap.size (.slice Av k cv) (.slice A5 m c5) h :=
        ⟨rvs, ((S.own.far (only_put (g := w.heap.size + 1) (World.grownBy.refl _ _) 0 (.slice Av k cv)) ap).far (only_put (g := w.heap.size + 1) (World.grownBy.refl _ _) 1 (.slice A5 m c5)) ap).base (by omega)⟩
      have OH := Lib.hid oh
      simp at q0 q1
      clear ap htk oh S
      go_wp2_with fail
      exact bodyPost_ret (v := .agg #[.slice Av k cv, .slice A5 m c5]) (by simp [results, Try.results43, go_sem, *]) rfl ⟨_, _, rfl, OH.out, bn⟩
end Go.Proofs.Ytakdjiojahlnmaa

namespace Go.Proofs.Ytakdjiojahlnmaa
open Go.RowKit
set_option maxRecDepth 100000
namespace Hps
end Hps
theorem flatC_get {cs : List Cl} {vs : List Value} (hl : vs.length = cs.length) {j : Nat} {u : Value} (h : (flatC cs vs)[j]? = some u) : ∃ k c v, j / 3 = k ∧ cs[k]? = some c ∧ vs[k]? = some v ∧ ((j = k * 3 ∧ u = .bool c.u) ∨ (j = k * 3 + 1 ∧ u = .int .i64 c.d) ∨ (j = k * 3 + 2 ∧ u = v)) := by
  have hj := (List.getElem?_eq_some_iff.1 h).1
  rw [flatC_length _ _ hl] at hj
  have hk : j / 3 < cs.length := by omega
  have hc := List.getElem?_eq_getElem hk
  have hv := List.getElem?_eq_getElem (show j / 3 < vs.length by omega)
  obtain ⟨f1, f2, f3⟩ := flatC_at _ _ _ _ _ hc hv
  refine ⟨j / 3, _, _, rfl, hc, hv, ?_⟩
  rcases (show j = j / 3 * 3 ∨ j = j / 3 * 3 + 1 ∨ j = j / 3 * 3 + 2 by omega) with e | e | e
  · rw [← e, h] at f1
    exact .inl ⟨e, Option.some.inj f1⟩
  · rw [← e, h] at f2
    exact .inr (.inl ⟨e, Option.some.inj f2⟩)
  · rw [← e, h] at f3
    exact .inr (.inr ⟨e, Option.some.inj f3⟩)
/-- what the slices of the references are, where cells are read -/
def RefsAt (w : World) (B : Nat) (cs : List Cl) (rvs : List Value) : Prop := rvs.length = cs.length ∧ ∀ (k : Nat) (c : Cl) (v : Value), cs[k]? = some c → rvs[k]? = some v → ∃ A' m cc, v = .slice A' m cc ∧ m ≤ cc ∧ IS w B A' m c.r
theorem RefsAt.below {w w' : World} {B : Nat} {cs : List Cl} {rvs : List Value} (h : RefsAt w B cs rvs) (hb : Below B w w') : RefsAt w' B cs rvs :=
  ⟨h.1, fun k c v hc hv => by
    obtain ⟨A', m, cc, e, hm, hi⟩ := h.2 k c v hc hv
    exact ⟨A', m, cc, e, hm, hi.below hb⟩⟩
theorem RefsAt.one {w : World} {B : Nat} {cs : List Cl} {rvs : List Value} (h : RefsAt w B cs rvs) : ∀ u ∈ flatC cs rvs, u.oneCell' = true := fun u hu => by
  obtain ⟨j, hj⟩ := List.mem_iff_getElem?.1 hu
  obtain ⟨k, c, v, _, hc, hv, hx⟩ := flatC_get h.1 hj
  rcases hx with ⟨_, rfl⟩ | ⟨_, rfl⟩ | ⟨_, rfl⟩
  · rfl
  · rfl
  · obtain ⟨A', m, cc, rfl, _⟩ := h.2 k c u hc hv
    rfl
theorem CS.refs {w : World} {B n : Nat} {A : Option Addr} {cs : List Cl} (h : CS w B A n cs) : ∃ rvs, RefsAt w B cs rvs ∧ (0 < n → ∃ g o, A = some ⟨g, o, none⟩ ∧ g < B ∧ ∀ (j : Nat) (u : Value), (flatC cs rvs)[j]? = some u → w.cell? ⟨g, o + j, none⟩ = some u) := by
  rcases Nat.eq_zero_or_pos n with h0 | h0
  · have : cs = [] := List.eq_nil_of_length_eq_zero (h.1.trans h0)
    subst this
    exact ⟨[], ⟨rfl, fun k c v hc => by simp at hc⟩, fun hh => by omega⟩
  · obtain ⟨g, o, rfl, hgB, hc⟩ := h.2 h0
    have hl : ((List.range n).map fun k => (w.cell? ⟨g, o + k * 3 + 2, none⟩).getD undef).length = cs.length := by simp [h.1]
    have hrv : ∀ (k : Nat) (c : Cl) (v : Value), cs[k]? = some c → ((List.range n).map fun k => (w.cell? ⟨g, o + k * 3 + 2, none⟩).getD undef)[k]? = some v → w.cell? ⟨g, o + k * 3 + 2, none⟩ = some v ∧ ∃ A' m cc, v = .slice A' m cc ∧ m ≤ cc ∧ IS w B A' m c.r := fun k c v h1 h2 => by
      have hk : k < n := by have := (List.getElem?_eq_some_iff.1 h1).1; have := h.1; omega
      rw [List.getElem?_map, List.getElem?_range hk] at h2
      obtain ⟨_, _, A', m, cc, c3, hm, hi⟩ := hc k c h1
      rw [Option.map_some, c3] at h2
      have h2 := Option.some.inj h2
      exact ⟨by rw [c3, ← h2]; rfl, A', m, cc, by rw [← h2]; rfl, hm, hi⟩
    refine ⟨_, ⟨hl, fun k c v h1 h2 => (hrv k c v h1 h2).2⟩, fun _ => ⟨g, o, rfl, hgB, fun j u hj => ?_⟩⟩
    obtain ⟨k, c, v, _, h1, h2, hx⟩ := flatC_get hl hj
    rcases hx with ⟨rfl, rfl⟩ | ⟨rfl, rfl⟩ | ⟨rfl, rfl⟩
    · exact (hc k c h1).1
    · rw [← Nat.add_assoc]
      exact (hc k c h1).2.1
    · rw [← Nat.add_assoc]
      exact (hrv k c u h1 h2).1
theorem run_appendCs (w : World) (base : Nat) (v : Value) (n : Nat) (vs : List Value) (hown : w.ownsRow base 45 3 v n vs) (A : Option Addr) (m c : Nat) (ys : List Value) (hl : ys.length = m * 3)
    (hA : 0 < m → ∃ ad, A = some ad ∧ ∀ j u, ys[j]? = some u → w.cell? (ad.add j) = some u) (h1 : ∀ u ∈ ys, u.oneCell' = true) (hn : n + m ≤ 1099511627776) (hbase : base ≤ w.heap.size) (ty : TypeId) :
    ∃ v' w', (Builtin.append_ #[23, 23] ty #[v, .slice A m c]).run Try.prog w = .ok v' w' ∧ w'.ownsRow base 45 3 v' (n + m) (vs ++ ys) ∧ w.grownBy w' v.ownBlock ∧ (v'.ownBlock = v.ownBlock ∨ v'.ownBlock = some w.heap.size) := by
  obtain ⟨i0, hi0, hz0, hz1, hz2⟩ := info_parts info_cell
  rcases A with _ | ad
  · have h0 : m = 0 := by
      rcases Nat.eq_zero_or_pos m with h0 | h0
      · exact h0
      · obtain ⟨ad, e, _⟩ := hA h0
        cases e
    subst h0
    have : ys = [] := List.eq_nil_of_length_eq_zero (by omega)
    subst this
    refine ⟨v, w, ?_, by simpa using hown, World.grownBy.refl _ _, .inl rfl⟩
    rcases hown.2 with ⟨rfl, _⟩ | ⟨g, cap, cur, rfl, _, _, hnc, _⟩
    · simp [Builtin.append_, run_underlying Try.underlying23, sizeOf, typeInfo, hi0, Builtin.lenOf, Builtin.firstCells]
    · simp [Builtin.append_, run_underlying Try.underlying23, sizeOf, typeInfo, hi0, Builtin.lenOf, Builtin.firstCells, hnc, storeCells]
  · have hcells : ∀ j u, ys[j]? = some u → w.cell? (ad.add j) = some u := fun j u hj => by
      have hp : 0 < m := by have := (List.getElem?_eq_some_iff.1 hj).1; omega
      obtain ⟨ad', e, hc⟩ := hA hp
      have e := Option.some.inj e
      rw [e]
      exact hc j u hj
    obtain ⟨v', w', hrun, h2, h3, _, h5⟩ := run_append_own_at (P := Try.prog) w base 23 ty 45 i0 _ 3 40 Try.underlying23 hi0 hz0 hz1 hz2 rfl (by omega) v n vs hown ad m c ys
      (by omega) hcells h1 (by unfold maxLen; omega) (by omega) hbase
    exact ⟨v', w', hrun, h2, h3, h5⟩
/-- all cells of a slice are appended onto the call's own row -/
theorem app_stepCs {w : World} {o : Oper} {a : Act} {K : Act → World → Prop} {Q : Exit → Act → World → Prop} (_hgd : o.guard = none) (s x : Operand)
    (ho : o.op = .call { callee := .builtin .append, args := #[s, x], argTypes := #[23, 23] })
    (base : Nat) (v : Value) (n : Nat) (vs : List Value) (hs : a.eval s = v) (hown : w.ownsRow base 45 3 v n vs) (A : Option Addr) (m c : Nat) (ys : List Value) (hx : a.eval x = .slice A m c) (hl : ys.length = m * 3)
    (hA : 0 < m → ∃ ad, A = some ad ∧ ∀ j u, ys[j]? = some u → w.cell? (ad.add j) = some u) (h1 : ∀ u ∈ ys, u.oneCell' = true) (hn : n + m ≤ 1099511627776) (hbase : base ≤ w.heap.size)
    (h : ∀ v' w', w'.ownsRow base 45 3 v' (n + m) (vs ++ ys) → w.grownBy w' v.ownBlock → (v'.ownBlock = v.ownBlock ∨ v'.ownBlock = some w.heap.size) → K (a.put o.dst v') w') : Oper.wp Try.prog o a w K Q := by
  obtain ⟨v', w', hrun, h2, h3, h4⟩ := run_appendCs w base v n vs hown A m c ys hl hA h1 hn hbase o.type
  unfold Oper.wp execOp
  simp only [ho, resolve, invoke, builtin, Sem.run_bind, Sem.run_pure, Result.andThen_ok, List.map_toArray, List.map_cons, List.map_nil, hs, hx, hrun]
  exact h v' w' h2 h3 h4
/-- an object of another type is not the row's -/
theorem row_type {w : World} {base s n g : Nat} {e t : TypeId} {v : Value} {xs : List Value} {cs : Array Value} (h : w.ownsRow base e s v n xs) (hr : Rw w g t cs) (hne : t ≠ e) : some g ≠ v.ownBlock := fun hg => by
  rcases h.2 with ⟨rfl, _⟩ | ⟨g', cap, cur, rfl, _, hh, _⟩
  · cases hg
  · have : g = g' := Option.some.inj hg
    subst this
    have hr' : w.heap[g]? = some (.cells cs t (0, 0)) := hr
    rw [hr'] at hh
    injection hh with hh
    injection hh with h1 h2
    exact hne h2
theorem rw_type {w : World} {g g' : Nat} {t t' : TypeId} {cs cs' : Array Value} (h : Rw w g t cs) (h' : Rw w g' t' cs') (hne : t ≠ t') : g ≠ g' := fun e => by
  subst e
  have a : w.heap[g]? = some (.cells cs t (0, 0)) := h
  have b : w.heap[g]? = some (.cells cs' t' (0, 0)) := h'
  rw [a] at b
  injection b with b
  injection b with h1 h2
  exact hne h2
end Go.Proofs.Ytakdjiojahlnmaa

namespace Go.Proofs.Ytakdjiojahlnmaa
open Go.RowKit
theorem Sep.get {l : List Value} (h : Sep l) {i j : Nat} {a b : Value} (hi : l[i]? = some a) (hj : l[j]? = some b) (hne : i < j) : a.ownBlock = none ∨ a.ownBlock ≠ b.ownBlock := by
  obtain ⟨h1, e1⟩ := List.getElem?_eq_some_iff.1 hi
  obtain ⟨h2, e2⟩ := List.getElem?_eq_some_iff.1 hj
  have := List.pairwise_iff_getElem.1 h i j h1 h2 hne
  rw [e1, e2] at this
  exact this
theorem sep_back {a b : Value} (h : a.ownBlock = none ∨ a.ownBlock ≠ b.ownBlock) : b.ownBlock = none ∨ b.ownBlock ≠ a.ownBlock := by
  rcases h with e | e
  · cases e' : b.ownBlock with
    | none => exact .inl rfl
    | some k => right; rw [e]; simp
  · exact .inr fun e' => e e'.symm
/-- the blocks of the slices of references are neither the cells' nor the roots' -/
theorem OwnHx.apart_cells {w : World} {base : Nat} {vc vr : Value} {rvs : List Value} {h : Hp} (S : OwnHx w base vc vr rvs h) : ∀ v ∈ vr :: rvs, v.ownBlock = none ∨ v.ownBlock ≠ vc.ownBlock := fun v hv => by
  have := S.sep
  unfold Sep at this
  rw [List.pairwise_cons] at this
  exact sep_back (this.1 v hv)
theorem OwnHx.apart_roots {w : World} {base : Nat} {vc vr : Value} {rvs : List Value} {h : Hp} (S : OwnHx w base vc vr rvs h) : ∀ v ∈ vc :: rvs, v.ownBlock = none ∨ v.ownBlock ≠ vr.ownBlock := fun v hv => by
  have := S.sep
  unfold Sep at this
  rw [List.pairwise_cons, List.pairwise_cons] at this
  rcases List.mem_cons.1 hv with rfl | hv
  · exact this.1 vr (by simp)
  · exact sep_back (this.2.1 v hv)
theorem put_any (w : World) (g i : Nat) (u : Value) : w.grownBy (w.setCell ⟨g, i, none⟩ u) (some g) := ⟨rfl, rfl, rfl, by simp [World.setCell], fun j _ hne => Below.heap_setCell w _ u j (by rintro rfl; exact hne rfl)⟩
/-- a root is written -/
theorem OwnHx.root {w : World} {base g c i : Nat} {vc : Value} {rvs : List Value} {h : Hp} (S : OwnHx w base vc (.slice (some ⟨g, 0, none⟩) h.rt.length c) rvs h) (x : Int) :
    OwnHx (w.setCell ⟨g, i, none⟩ (.int .i64 x)) base vc (.slice (some ⟨g, 0, none⟩) h.rt.length c) rvs ⟨h.cs, h.rt.set i x⟩ := by
  have ap : ∀ v ∈ vc :: rvs, v.ownBlock = none ∨ v.ownBlock ≠ some g := S.apart_roots
  refine ⟨S.len, World.ownsRow.kept S.row (put_any w g i _) (ap vc (by simp)), fun k cl v hc hv => (S.refs k cl v hc hv).far (put_any w g i _) (ap v (by simp [List.mem_of_getElem? hv])), ?_, S.sep⟩
  exact S.roots.put' rfl x
/-- the number of a cell is written -/
theorem OwnHx.data {w : World} {base g c k : Nat} {vr : Value} {rvs : List Value} {h : Hp} {cl : Cl} (S : OwnHx w base (.slice (some ⟨g, 0, none⟩) h.cs.length c) vr rvs h) (hc : h.cs[k]? = some cl) (x : Int) :
    OwnHx (w.setCell ⟨g, k * 3 + 1, none⟩ (.int .i64 x)) base (.slice (some ⟨g, 0, none⟩) h.cs.length c) vr rvs ⟨h.cs.set k ⟨cl.u, x, cl.r⟩, h.rt⟩ := by
  have ap : ∀ v ∈ vr :: rvs, v.ownBlock = none ∨ v.ownBlock ≠ some g := S.apart_cells
  refine ⟨by simp [S.len], ?_, fun j c' v hc' hv => ?_, S.roots.far (put_any w g _ _) (ap vr (by simp)), S.sep⟩
  · have := (World.ownsRow.stored S.row (k * 3 + 1) (.int .i64 x)).1
    rw [flatC_set_d _ _ _ _ _ S.len hc] at this
    simpa using this
  · rw [List.getElem?_set] at hc'
    have hmem := List.mem_of_getElem? hv
    by_cases hj : k = j
    · subst hj
      rw [if_pos rfl, if_pos (List.getElem?_eq_some_iff.1 hc).1] at hc'
      injection hc' with hc'
      subst hc'
      exact (S.refs k cl v hc hv).far (put_any w g _ _) (ap v (by simp [hmem]))
    · rw [if_neg hj] at hc'
      exact (S.refs j c' v hc' hv).far (put_any w g _ _) (ap v (by simp [hmem]))
/-- a reference of a cell is written -/
theorem OwnHx.ref1 {w : World} {base g c k i : Nat} {vc vr : Value} {rvs : List Value} {h : Hp} {cl : Cl} (S : OwnHx w base vc vr rvs h) (hc : h.cs[k]? = some cl) (hv : rvs[k]? = some (.slice (some ⟨g, 0, none⟩) cl.r.length c)) (x : Int) :
    OwnHx (w.setCell ⟨g, i, none⟩ (.int .i64 x)) base vc vr rvs ⟨h.cs.set k ⟨cl.u, cl.d, cl.r.set i x⟩, h.rt⟩ := by
  have hgt : ∀ (j : Nat) (v : Value), j ≠ k → rvs[j]? = some v → v.ownBlock = none ∨ v.ownBlock ≠ some g := fun j v hj hvj => by
    have hs := S.sep
    unfold Sep at hs
    rw [List.pairwise_cons, List.pairwise_cons] at hs
    rcases Nat.lt_or_ge j k with h1 | h1
    · exact Sep.get hs.2.2 hvj hv h1
    · exact sep_back (Sep.get hs.2.2 hv hvj (by omega))
  have hmem := List.mem_of_getElem? hv
  have hvc : vc.ownBlock = none ∨ vc.ownBlock ≠ some g := sep_back (S.apart_cells (.slice (some ⟨g, 0, none⟩) cl.r.length c) (List.mem_cons_of_mem _ hmem))
  have hvr : vr.ownBlock = none ∨ vr.ownBlock ≠ some g := sep_back (S.apart_roots (.slice (some ⟨g, 0, none⟩) cl.r.length c) (List.mem_cons_of_mem _ hmem))
  refine ⟨by simp [S.len], ?_, fun j c' v hc' hvj => ?_, S.roots.far (put_any w g _ _) hvr, S.sep⟩
  · have := World.ownsRow.kept S.row (put_any w g i (.int .i64 x)) hvc
    rw [List.length_set, flatC_refs _ _ _ _ _ hc]
    exact this
  · rw [List.getElem?_set] at hc'
    by_cases hj : k = j
    · subst hj
      rw [if_pos rfl, if_pos (List.getElem?_eq_some_iff.1 hc).1] at hc'
      injection hc' with hc'
      subst hc'
      rw [hv] at hvj
      injection hvj with hvj
      subst hvj
      exact (S.refs k cl _ hc hv).put' rfl x
    · rw [if_neg hj] at hc'
      exact (S.refs j c' v hc' hvj).far (put_any w g _ _) (hgt j v (by omega) hvj)
/-- a whole cell is written, with references of the call's own -/
theorem OwnHx.cell {w : World} {base g c k : Nat} {vr rv : Value} {rvs : List Value} {h : Hp} {cl old : Cl} (S : OwnHx w base (.slice (some ⟨g, 0, none⟩) h.cs.length c) vr rvs h) (hc : h.cs[k]? = some old) (o : OwnI w base rv cl.r) (hap : ∀ v ∈ (Value.slice (some ⟨g, 0, none⟩) h.cs.length c) :: vr :: rvs, rv.ownBlock = none ∨ rv.ownBlock ≠ v.ownBlock) :
    OwnHx (((w.setCell ⟨g, k * 3, none⟩ (.bool cl.u)).setCell ⟨g, k * 3 + 1, none⟩ (.int .i64 cl.d)).setCell ⟨g, k * 3 + 2, none⟩ rv) base (.slice (some ⟨g, 0, none⟩) h.cs.length c) vr (rvs.set k rv) ⟨h.cs.set k cl, h.rt⟩ := by
  have hk := (List.getElem?_eq_some_iff.1 hc).1
  have ap : ∀ v ∈ vr :: rvs, v.ownBlock = none ∨ v.ownBlock ≠ some g := S.apart_cells
  have hrg : rv.ownBlock = none ∨ rv.ownBlock ≠ some g := hap (.slice (some ⟨g, 0, none⟩) h.cs.length c) (by simp)
  have far3 : ∀ {v : Value} {xs : List Int}, OwnI w base v xs → (v.ownBlock = none ∨ v.ownBlock ≠ some g) → OwnI (((w.setCell ⟨g, k * 3, none⟩ (.bool cl.u)).setCell ⟨g, k * 3 + 1, none⟩ (.int .i64 cl.d)).setCell ⟨g, k * 3 + 2, none⟩ rv) base v xs := fun ho hn => ((ho.far (put_any _ g _ _) hn).far (put_any _ g _ _) hn).far (put_any _ g _ _) hn
  refine ⟨by simp [S.len], ?_, fun j c' v hc' hvj => ?_, far3 S.roots (ap vr (by simp)), ?_⟩
  · have q := (((World.ownsRow.stored S.row (k * 3) (.bool cl.u)).1.stored (k * 3 + 1) (.int .i64 cl.d)).1.stored (k * 3 + 2) rv).1
    rw [flatC_set_u _ _ _ _ _ S.len hc] at q
    have hc1 : (h.cs.set k ⟨cl.u, old.d, old.r⟩)[k]? = some ⟨cl.u, old.d, old.r⟩ := by simp [hk]
    rw [flatC_set_d _ _ _ _ _ (by simp [S.len]) hc1] at q
    have hc2 : ((h.cs.set k ⟨cl.u, old.d, old.r⟩).set k ⟨cl.u, cl.d, old.r⟩)[k]? = some ⟨cl.u, cl.d, old.r⟩ := by simp [hk]
    rw [flatC_set_r _ _ _ _ _ cl.r (by simp [S.len]) hc2] at q
    simpa using q
  · rw [List.getElem?_set] at hc' hvj
    by_cases hj : k = j
    · subst hj
      rw [if_pos rfl, if_pos hk] at hc'
      rw [if_pos rfl, if_pos (by rw [S.len]; exact hk)] at hvj
      injection hc' with hc'
      injection hvj with hvj
      subst hc' hvj
      exact far3 o hrg
    · rw [if_neg hj] at hc' hvj
      exact far3 (S.refs j c' v hc' hvj) (ap v (by simp [List.mem_of_getElem? hvj]))
  · have hs := S.sep
    unfold Sep at hs ⊢
    rw [List.pairwise_cons, List.pairwise_cons] at hs ⊢
    refine ⟨fun v hv => ?_, fun v hv => ?_, ?_⟩
    · rcases List.mem_cons.1 hv with rfl | hv
      · exact hs.1 v (by simp)
      · rcases List.mem_or_eq_of_mem_set hv with hv | rfl
        · exact hs.1 v (by simp [hv])
        · exact sep_back (hap _ (by simp))
    · rcases List.mem_or_eq_of_mem_set hv with hv | rfl
      · exact hs.2.1 v hv
      · exact sep_back (hap _ (by simp))
    · rw [List.pairwise_iff_getElem]
      intro i j hi hj hij
      rw [List.length_set] at hi hj
      have hp := List.pairwise_iff_getElem.1 hs.2.2 i j hi hj hij
      rw [List.getElem_set, List.getElem_set]
      by_cases e1 : k = i
      · rw [if_pos e1, if_neg (by omega)]
        exact hap _ (by simp)
      · rw [if_neg e1]
        by_cases e2 : k = j
        · rw [if_pos e2]
          exact sep_back (hap _ (by simp))
        · rw [if_neg e2]
          exact hp
end Go.Proofs.Ytakdjiojahlnmaa

