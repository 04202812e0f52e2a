/- What the claim DEStepSweep stands on, part 1 of 4: texts of one seat put together, with what the claim needs of them. No conditions. -/
import Derived.Below
import Derived.Test.YthmddmddcdofaaaDoorRows
import Derived.WalkKit
import Derived.WalkSpells
import Derived.WalkLawsBesides
import Derived.Lib.Hide
import Derived.Laws.Rows
import Derived.Laws.MakeOwn
import Derived.StillTailTactics
import Derived.Deep.QuietTactic
import Derived.BigQuiet
import Derived.IntWalk
import Derived.Laws.OwnMore
import Derived.OwnWalk
import Derived.Maps.AppendAt
import Derived.RegionTactic
import Derived.Laws.BitsAllLaws
import Derived.Laws.BitsLemmas
import Derived.Deep.Slices
import Derived.Lib.TrailingZeros
import Derived.BigRegion
import Derived.Deep.Cut
import Derived.Deep.WholeRow
import Derived.Laws.EntriesVeiled
import Derived.Laws.CopyOwn
import Derived.Deep.CutBlock
import Derived.ProofKit
import Derived.OpenShut
import Derived.JoinedCond
import Derived.Carry
import Derived.Lib.LaidTab
import Derived.LaidMore
import Derived.Stop.LaidErr
import Derived.Test.YthmddmddcdofaaaDoorCards
import Derived.Test.YthmddmddcdofaaaDoorTie
import Derived.SevenTiedAt
namespace Go.Proofs.YthmddmddcdofaaaDoor
/-- a block: start, size, used -/
structure Bl where
  s : Int
  z : Int
  u : Bool
  deriving DecidableEq, Inhabited
namespace Bks
/-- the words of the first k blocks -/
def offs (xs : List Bl) (k : Nat) : Int := ((xs.take k).map (·.z)).sum
def stepOk (xs : List Bl) (k : Nat) : Bool :=
  match xs[k]? with
  | none => false
  | some x => decide (x.s = offs xs k) && decide (1 ≤ x.z) && decide (x.z ≤ 256) && (decide (k = 0) || x.u || match xs[k-1]? with | none => false | some y => y.u)
def validB (xs : List Bl) (t : Int) : Bool := (List.range xs.length).all (stepOk xs) && decide (1 ≤ t) && decide (t ≤ 256) && decide (offs xs xs.length = t)
theorem valid_iff (xs : List Bl) (t : Int) : validB xs t = true ↔ (∀ k, k < xs.length → stepOk xs k = true) ∧ 1 ≤ t ∧ t ≤ 256 ∧ offs xs xs.length = t := by
  unfold validB
  simp [and_assoc]
/-- good up to k: the first k blocks are right -/
def okTo (xs : List Bl) (k : Nat) : Prop := ∀ j, j < k → stepOk xs j = true
theorem valid_all {xs : List Bl} (t : Int) (h : okTo xs xs.length) : validB xs t = (decide (1 ≤ t) && decide (t ≤ 256) && (offs xs xs.length == t)) := by
  rw [Bool.eq_iff_iff, valid_iff]
  simp only [Bool.and_eq_true, decide_eq_true_eq, beq_iff_eq, and_assoc]
  exact ⟨fun hh => hh.2, fun hh => ⟨h, hh⟩⟩
/-- how many blocks begin at or before word q -/
def cnt (xs : List Bl) (q : Int) : Nat := (xs.takeWhile (fun x => decide (x.s ≤ q))).length
end Bks
end Go.Proofs.YthmddmddcdofaaaDoor
namespace Go.Proofs.YthmddmddcdofaaaDoor
open Go.RowKit
def I64 (n : Int) : Prop := -9223372036854775808 ≤ n ∧ n ≤ 9223372036854775807
/-- the slice value '.slice A n _' reads as the blocks xs, and lies below block B -/
def BS (w : World) (B : Nat) (A : Option Addr) (n : Nat) (xs : List Bl) : Prop :=
  xs.length = n ∧ (∀ (k : Nat) (x : Bl), xs[k]? = some x → I64 x.s ∧ I64 x.z) ∧
  (0 < n → ∃ g o, A = some ⟨g, o, none⟩ ∧ g < B ∧ ∀ (k : Nat) (x : Bl), xs[k]? = some x →
    w.cell? ⟨g, o + k * 3, none⟩ = some (.int .i64 x.s) ∧ w.cell? ⟨g, o + k * 3 + 1, none⟩ = some (.int .i64 x.z) ∧ w.cell? ⟨g, o + k * 3 + 2, none⟩ = some (.bool x.u))
section
variable {w w' : World} {B B' n : Nat} {A : Option Addr} {xs : List Bl}
theorem BS.keep (h : BS w B A n xs) (hk : ∀ p : Addr, p.block < B → w'.cell? p = w.cell? p) : BS w' B A n xs :=
  ⟨h.1, h.2.1, fun hn => by
    obtain ⟨g, o, e, hb, hc⟩ := h.2.2 hn
    exact ⟨g, o, e, hb, fun k x hx => by
      obtain ⟨h1, h2, h3⟩ := hc k x hx
      exact ⟨(hk _ hb).trans h1, (hk _ hb).trans h2, (hk _ hb).trans h3⟩⟩⟩
theorem BS.more (h : BS w B A n xs) (hB : B ≤ B') : BS w B' A n xs :=
  ⟨h.1, h.2.1, fun hn => by
    obtain ⟨g, o, e, hb, hc⟩ := h.2.2 hn
    exact ⟨g, o, e, by omega, hc⟩⟩
theorem BS.below (h : BS w B A n xs) (hb : Below B w w') : BS w' B A n xs := h.keep fun _ hp => hb.cell hp
theorem BS.at_ {k : Nat} (h : BS w B A n xs) (hk : k < n) : ∃ g o x, A = some ⟨g, o, none⟩ ∧ g < B ∧ xs[k]? = some x ∧ I64 x.s ∧ I64 x.z ∧
    w.cell? ⟨g, o + k * 3, none⟩ = some (.int .i64 x.s) ∧ w.cell? ⟨g, o + k * 3 + 1, none⟩ = some (.int .i64 x.z) ∧ w.cell? ⟨g, o + k * 3 + 2, none⟩ = some (.bool x.u) := by
  obtain ⟨g, o, e, hb, hc⟩ := h.2.2 (by omega)
  have hl : k < xs.length := by have := h.1; omega
  have hx := List.getElem?_eq_getElem hl
  obtain ⟨i1, i2⟩ := h.2.1 k _ hx
  obtain ⟨h1, h2, h3⟩ := hc k _ hx
  exact ⟨g, o, _, e, hb, hx, i1, i2, h1, h2, h3⟩
end
/-- block g holds just the cells cs, of element type t; none is frozen -/
def Rw (w : World) (g : Nat) (t : TypeId) (cs : Array Value) : Prop := w.heap[g]? = some (.cells cs t (0, 0))
section
variable {w w' : World} {g : Nat} {t : TypeId} {cs : Array Value}
theorem Rw.lt (h : Rw w g t cs) : g < w.heap.size := by
  unfold Rw at h
  exact (Array.getElem?_eq_some_iff.1 h).1
theorem Rw.cell (h : Rw w g t cs) (i : Nat) : w.cell? ⟨g, i, none⟩ = cs[i]? := cell_of_row w g i cs t (0, 0) h
theorem Rw.frozen (h : Rw w g t cs) (i : Nat) : w.frozen? ⟨g, i, none⟩ = false := by
  unfold Rw at h
  simp [World.frozen?, h]
theorem Rw.new (w : World) (t : TypeId) (cs : Array Value) : Rw (w.alloc (.cells cs t)) w.heap.size t cs := by
  show (w.heap.push _)[w.heap.size]? = _
  simp
theorem Rw.keep (h : Rw w g t cs) {B : Nat} (hb : Below B w w') (hg : g < B) : Rw w' g t cs := (hb.block g hg).trans h
theorem Rw.alloc (h : Rw w g t cs) (o : Obj) : Rw (w.alloc o) g t cs := (Below.heap_alloc w o g h.lt).trans h
theorem Rw.put (h : Rw w g t cs) (i : Nat) (u : Value) : Rw (w.setCell ⟨g, i, none⟩ u) g t (cs.setIfInBounds i u) := by
  unfold Rw at h ⊢
  simp [World.setCell, Array.getElem?_modify, h]
end
/-- the cells cs begin with the blocks xs -/
def Cs (cs : Array Value) (xs : List Bl) : Prop := ∀ (k : Nat) (x : Bl), xs[k]? = some x →
  cs[k * 3]? = some (.int .i64 x.s) ∧ cs[k * 3 + 1]? = some (.int .i64 x.z) ∧ cs[k * 3 + 2]? = some (.bool x.u)
theorem BS.of_row {w : World} {g B : Nat} {t : TypeId} {cs : Array Value} {xs : List Bl} (h : Rw w g t cs) (hc : Cs cs xs) (hg : g < B) (hi : ∀ (k : Nat) (x : Bl), xs[k]? = some x → I64 x.s ∧ I64 x.z) : BS w B (some ⟨g, 0, none⟩) xs.length xs :=
  ⟨rfl, hi, fun _ => ⟨g, 0, rfl, hg, fun k x hx => by
    obtain ⟨h1, h2, h3⟩ := hc k x hx
    refine ⟨?_, ?_, ?_⟩ <;> rw [h.cell] <;> simpa using (by assumption)⟩⟩
end Go.Proofs.YthmddmddcdofaaaDoor
namespace Go.Proofs.YthmddmddcdofaaaDoor
open Go.RowKit
theorem ret_bool {a b : Bool} (h : a = b) : Ending.returned (.bool a) = .returned (.bool b) := by rw [h]
theorem l1In_any (n lo hi : Int) (w : World) : Calls Tryd.prog 61 #[.int .i64 n, .int .i64 lo, .int .i64 hi] w fun e w' => e = .returned (.bool (decide (lo ≤ n) && decide (n ≤ hi))) ∧ w = w' := by
  go_enter Tryd.func61, Tryd.ntmps61
  go_wp2
  · go_ret
    exact ⟨ret_bool (by simp [*]), rfl⟩
  · go_ret
    exact ⟨ret_bool (by simp; omega), rfl⟩
end Go.Proofs.YthmddmddcdofaaaDoor
namespace Go.Proofs.YthmddmddcdofaaaDoor
open Go.RowKit
/-- the blocks have been copied into a row of their own -/
def MadeBS (w : World) (xs : List Bl) (e : Ending) (w' : World) : Prop :=
  ∃ cs : Array Value, e = .returned (.slice (some ⟨w.heap.size, 0, none⟩) xs.length xs.length) ∧ Rw w' w.heap.size 92 cs ∧ Cs cs xs ∧ cs.size = xs.length * 3 ∧ Below w.heap.size w w'
end Go.Proofs.YthmddmddcdofaaaDoor
namespace Go.Proofs.YthmddmddcdofaaaDoor
open Go.RowKit
theorem MadeBS.reads {w w' : World} {xs : List Bl} {e : Ending} (h : MadeBS w xs e w') (hi : ∀ (k : Nat) (x : Bl), xs[k]? = some x → I64 x.s ∧ I64 x.z) :
    e = .returned (.slice (some ⟨w.heap.size, 0, none⟩) xs.length xs.length) ∧ BS w' w'.heap.size (some ⟨w.heap.size, 0, none⟩) xs.length xs ∧ Below w.heap.size w w' := by
  obtain ⟨cs, he, hr, hc, hs, hb⟩ := h
  exact ⟨he, BS.of_row hr hc hr.lt hi, hb⟩
theorem BS.up {w w' : World} {n : Nat} {A : Option Addr} {xs : List Bl} (h : BS w w.heap.size A n xs) (hb : Below w.heap.size w w') : BS w' w'.heap.size A n xs := (h.below hb).more hb.size
end Go.Proofs.YthmddmddcdofaaaDoor
namespace Go.Proofs.YthmddmddcdofaaaDoor
open Go.RowKit
end Go.Proofs.YthmddmddcdofaaaDoor
namespace Go.Proofs.YthmddmddcdofaaaDoor
open Go.RowKit
theorem below_drewN {B : Nat} {a w : World} (h : Below B a w) (n : Nat) : Below B a (w.drewN n) := ⟨h.os, h.tape, h.output, h.size, h.block⟩
end Go.Proofs.YthmddmddcdofaaaDoor
namespace Go.Proofs.YthmddmddcdofaaaDoor
open Go.RowKit
/-- the cells of blocks -/
def flat : List Bl → List Value
  | [] => []
  | x :: xs => .int .i64 x.s :: .int .i64 x.z :: .bool x.u :: flat xs
theorem flat_length : ∀ xs : List Bl, (flat xs).length = xs.length * 3
  | [] => rfl
  | x :: xs => by simp [flat, flat_length xs]; omega
theorem flat_at : ∀ (xs : List Bl) (k : Nat) (x : Bl), xs[k]? = some x → (flat xs)[k * 3]? = some (.int .i64 x.s) ∧ (flat xs)[k * 3 + 1]? = some (.int .i64 x.z) ∧ (flat xs)[k * 3 + 2]? = some (.bool x.u)
  | [], k, x, h => by simp at h
  | y :: ys, 0, x, h => by
    simp at h
    subst h
    simp [flat]
  | y :: ys, k + 1, x, h => by
    have := flat_at ys k x (by simpa using h)
    have e : (k + 1) * 3 = k * 3 + 3 := by omega
    rw [e]
    simpa [flat] using this
/-- the value v owns the blocks xs, in a row of blocks from 'base' on -/
def OwnB (w : World) (base : Nat) (v : Value) (xs : List Bl) : Prop := w.ownsRow base 92 3 v xs.length (flat xs)
def AllI (xs : List Bl) : Prop := ∀ (k : Nat) (x : Bl), xs[k]? = some x → I64 x.s ∧ I64 x.z
theorem OwnB.form {w : World} {base : Nat} {v : Value} {xs : List Bl} (h : OwnB w base v xs) : ∃ A c, v = .slice A xs.length c ∧ (0 < xs.length → ∃ g, A = some ⟨g, 0, none⟩ ∧ base ≤ g ∧ g < w.heap.size) := by
  rcases h.2 with ⟨rfl, h0⟩ | ⟨g, cap, cur, rfl, hb, hh, _⟩
  · exact ⟨none, 0, by rw [h0], fun h => by omega⟩
  · exact ⟨some ⟨g, 0, none⟩, cap, rfl, fun _ => ⟨g, rfl, hb, (Array.getElem?_eq_some_iff.1 hh).1⟩⟩
theorem OwnB.reads {w : World} {base n c : Nat} {A : Option Addr} {xs : List Bl} (h : OwnB w base (.slice A n c) xs) (hi : AllI xs) : BS w w.heap.size A n xs := by
  rcases h.2 with ⟨e, h0⟩ | ⟨g, cap, cur, e, hb, hh, _⟩
  · injection e with e1 e2 e3
    subst e2
    have : xs = [] := List.eq_nil_of_length_eq_zero h0
    subst this
    exact ⟨rfl, hi, fun h => by omega⟩
  · injection e with e1 e2 e3
    subst e1 e2 e3
    refine ⟨rfl, hi, fun hn => ⟨g, 0, rfl, (Array.getElem?_eq_some_iff.1 hh).1, fun k x hx => ?_⟩⟩
    have hk : k < xs.length := (List.getElem?_eq_some_iff.1 hx).1
    obtain ⟨f1, f2, f3⟩ := flat_at xs k x hx
    have c1 := World.ownsRow.cellAt h (k * 3) (by omega)
    have c2 := World.ownsRow.cellAt h (k * 3 + 1) (by omega)
    have c3 := World.ownsRow.cellAt h (k * 3 + 2) (by omega)
    simp only [Nat.zero_add]
    exact ⟨c1.trans f1, c2.trans f2, c3.trans f3⟩
theorem OwnB.below {w w' : World} {base B : Nat} {v : Value} {xs : List Bl} (h : OwnB w base v xs) (hb : Below B w w') (hB : w.heap.size ≤ B) : OwnB w' base v xs := by
  refine ⟨h.1, ?_⟩
  rcases h.2 with h0 | ⟨g, cap, cur, e, hb', hh, hr⟩
  · exact .inl h0
  · exact .inr ⟨g, cap, cur, e, hb', (hb.block g (Nat.lt_of_lt_of_le (Array.getElem?_eq_some_iff.1 hh).1 hB)).trans hh, hr⟩
theorem OwnB.base {w : World} {base base' : Nat} {v : Value} {xs : List Bl} (h : OwnB w base v xs) (hb : base' ≤ base) : OwnB w base' v xs := by
  refine ⟨h.1, ?_⟩
  rcases h.2 with h0 | ⟨g, cap, cur, e, hb', hh, hr⟩
  · exact .inl h0
  · exact .inr ⟨g, cap, cur, e, by omega, hh, hr⟩
theorem OwnB.far {w w' : World} {base : Nat} {v : Value} {xs : List Bl} {row : Option Nat} (h : OwnB w base v xs) (hg : w.grownBy w' row) (hne : v.ownBlock = none ∨ v.ownBlock ≠ row) : OwnB w' base v xs := World.ownsRow.kept h hg hne
/-- the k-th mark and all of them -/
def markB (k : Int) (i : Nat) : Bl := ⟨k + 3 * i, k + 3 * i + 1, (k + 3 * i + 1 + 1) % 3 == 0⟩
def marks (k : Int) (n : Nat) : List Bl := (List.range n).map (markB k)
theorem only_put {a w : World} {g : Nat} (h : a.grownBy w (some g)) (i : Nat) (u : Value) : a.grownBy (w.setCell ⟨g, i, none⟩ u) (some g) :=
  ⟨h.os, h.tape, h.output, by simpa [World.setCell] using h.size, fun j hj hne => (Below.heap_setCell w _ u j (by rintro rfl; exact hne rfl)).trans (h.block j hj hne)⟩
theorem int_eq {a b : Int} (h : a = b) : Value.int .i64 a = .int .i64 b := by rw [h]
end Go.Proofs.YthmddmddcdofaaaDoor
namespace Go.Proofs.YthmddmddcdofaaaDoor
open Go.RowKit
end Go.Proofs.YthmddmddcdofaaaDoor
namespace Go.Proofs.YthmddmddcdofaaaDoor
open Go.RowKit
theorem BS.cells {w : World} {B g o n : Nat} {ys : List Bl} (h : BS w B (some ⟨g, o, none⟩) n ys) (j : Nat) (u : Value) (hj : (flat ys)[j]? = some u) : w.cell? ⟨g, o + j, none⟩ = some u := by
  have hl : j < (flat ys).length := (List.getElem?_eq_some_iff.1 hj).1
  rw [flat_length] at hl
  have hk : j / 3 < ys.length := by omega
  have hx : ys[j / 3]? = some ys[j / 3] := List.getElem?_eq_getElem hk
  obtain ⟨f1, f2, f3⟩ := flat_at ys (j / 3) _ hx
  have hn := h.1
  obtain ⟨g', o', e, _, hc⟩ := h.2.2 (by omega)
  injection e with e
  injection e with e1 e2
  subst e1 e2
  obtain ⟨c1, c2, c3⟩ := hc (j / 3) _ hx
  have hm : j % 3 = 0 ∨ j % 3 = 1 ∨ j % 3 = 2 := by omega
  rcases hm with hm | hm | hm
  · have e : j = j / 3 * 3 := by omega
    rw [e] at hj ⊢
    rw [f1] at hj
    replace hj := Option.some.inj hj
    rw [← hj]
    exact c1
  · have e : j = j / 3 * 3 + 1 := by omega
    rw [e] at hj ⊢
    rw [f2] at hj
    replace hj := Option.some.inj hj
    rw [← hj]
    exact c2
  · have e : j = j / 3 * 3 + 2 := by omega
    rw [e] at hj ⊢
    rw [f3] at hj
    replace hj := Option.some.inj hj
    rw [← hj]
    exact c3
theorem add_lit (g o j : Nat) : (⟨g, o, none⟩ : Addr).add j = ⟨g, o + j, none⟩ := by
  unfold Addr.add
  split
  · next h => subst h; rfl
  · rfl
theorem AllI.append {xs ys : List Bl} (h : AllI xs) (h' : AllI ys) : AllI (xs ++ ys) := by
  intro k x hx
  rcases Nat.lt_or_ge k xs.length with hk | hk
  · rw [List.getElem?_append_left hk] at hx
    exact h k x hx
  · rw [List.getElem?_append_right hk] at hx
    exact h' _ x hx
/-- the first k blocks -/
theorem BS.take {w : World} {B n k : Nat} {A : Option Addr} {xs : List Bl} (h : BS w B A n xs) (hk : k ≤ n) : BS w B A k (xs.take k) := by
  have hl := h.1
  refine ⟨by rw [List.length_take]; omega, fun j x hx => ?_, fun h0 => ?_⟩
  · rw [List.getElem?_take] at hx
    split at hx
    · exact h.2.1 j x hx
    · cases hx
  · obtain ⟨g, o, e, hb, hc⟩ := h.2.2 (by omega)
    refine ⟨g, o, e, hb, fun j x hx => ?_⟩
    rw [List.getElem?_take] at hx
    split at hx
    · exact hc j x hx
    · cases hx
/-- the blocks from the k-th on -/
theorem BS.drop {w : World} {B n k g o : Nat} {xs : List Bl} (h : BS w B (some ⟨g, o, none⟩) n xs) (hk : k ≤ n) : BS w B (some ⟨g, o + k * 3, none⟩) (n - k) (xs.drop k) := by
  have hl := h.1
  refine ⟨by rw [List.length_drop]; omega, fun j x hx => ?_, fun h0 => ?_⟩
  · rw [List.getElem?_drop] at hx
    exact h.2.1 _ x hx
  · obtain ⟨g', o', e, hb, hc⟩ := h.2.2 (by omega)
    injection e with e
    injection e with e1 e2
    subst e1 e2
    refine ⟨g, o + k * 3, rfl, hb, fun j x hx => ?_⟩
    rw [List.getElem?_drop] at hx
    have := hc (k + j) x hx
    rw [show o + k * 3 + j * 3 = o + (k + j) * 3 by omega]
    exact this
/-- a slice without blocks reads as none, wherever it lies -/
theorem BS.none_ (w : World) (B : Nat) (A : Option Addr) : BS w B A 0 [] := ⟨rfl, fun k x hx => by simp at hx, fun h => absurd h (by omega)⟩
theorem OwnB.cap {w : World} {base n c : Nat} {A : Option Addr} {xs : List Bl} (h : OwnB w base (.slice A n c) xs) : n = xs.length ∧ n ≤ c := by
  rcases h.2 with ⟨e, h0⟩ | ⟨g, cap, cur, e, _, _, hc, _⟩
  · injection e with e1 e2 e3
    omega
  · injection e with e1 e2 e3
    omega
end Go.Proofs.YthmddmddcdofaaaDoor
namespace Go.Proofs.YthmddmddcdofaaaDoor
open Go.RowKit
/-- a slice of bytes that lies below block B -/
def Bytes (w : World) (B : Nat) (A : Option Addr) (m : Nat) : Prop :=
  0 < m → ∃ b o, A = some ⟨b, o, none⟩ ∧ b < B ∧ ∀ i, i < m → ∃ v : Int, 0 ≤ v ∧ v ≤ 255 ∧ w.cell? ⟨b, o + i, none⟩ = some (.int .u8 v)
theorem Bytes.keep {w w' : World} {B m : Nat} {A : Option Addr} (h : Bytes w B A m) (hk : ∀ p : Addr, p.block < B → w'.cell? p = w.cell? p) : Bytes w' B A m := fun hm => by
  obtain ⟨b, o, e, hb, hc⟩ := h hm
  refine ⟨b, o, e, hb, fun i hi => ?_⟩
  obtain ⟨v, h0, h1, h2⟩ := hc i hi
  exact ⟨v, h0, h1, (hk _ hb).trans h2⟩
/-- block g holds a reader that has read at most N times -/
def Rd (w : World) (g N : Nat) : Prop := ∃ (A : Option Addr) (m c p : Nat), Rw w g 141 #[.slice A m c, .int .i64 p] ∧ m ≤ 2000 ∧ p ≤ N ∧ Bytes w g A m
theorem Rd.lt {w : World} {g N : Nat} (h : Rd w g N) : g < w.heap.size := by
  obtain ⟨_, _, _, _, h, _⟩ := h
  exact h.lt
theorem Rd.more {w : World} {g N N' : Nat} (h : Rd w g N) (hN : N ≤ N') : Rd w g N' := by
  obtain ⟨A, m, c, p, h, h1, h2, h3⟩ := h
  exact ⟨A, m, c, p, h, h1, by omega, h3⟩
theorem Rd.below {w w' : World} {g N B : Nat} (h : Rd w g N) (hb : Below B w w') (hB : g < B) : Rd w' g N := by
  obtain ⟨A, m, c, p, h, h1, h2, h3⟩ := h
  exact ⟨A, m, c, p, h.keep hb hB, h1, h2, h3.keep fun q hq => hb.cell (by omega)⟩
/-- a reader whose bytes are told by F -/
def RdX (w : World) (g : Nat) (A : Option Addr) (m c p : Nat) (F : Nat → Int) : Prop :=
  Rw w g 141 #[.slice A m c, .int .i64 p] ∧ m ≤ 2000 ∧ (0 < m → ∃ b o, A = some ⟨b, o, none⟩ ∧ b < g ∧ ∀ i, i < m → 0 ≤ F i ∧ F i ≤ 255 ∧ w.cell? ⟨b, o + i, none⟩ = some (.int .u8 (F i)))
theorem Rd.told {w : World} {g N : Nat} (h : Rd w g N) : ∃ A m c p F, RdX w g A m c p F ∧ p ≤ N := by
  obtain ⟨A, m, c, p, hr, hm, hp, hb⟩ := h
  rcases Nat.eq_zero_or_pos m with h0 | h0
  · exact ⟨A, m, c, p, fun _ => 0, ⟨hr, hm, fun h => by omega⟩, hp⟩
  · obtain ⟨b, o, e, hbg, hc⟩ := hb h0
    obtain ⟨F, hF⟩ := Deep.choose_lt hc
    exact ⟨A, m, c, p, F, ⟨hr, hm, fun _ => ⟨b, o, e, hbg, hF⟩⟩, hp⟩
theorem RdX.rd {w : World} {g m c p N : Nat} {A : Option Addr} {F : Nat → Int} (h : RdX w g A m c p F) (hp : p ≤ N) : Rd w g N := by
  refine ⟨A, m, c, p, h.1, h.2.1, hp, fun h0 => ?_⟩
  obtain ⟨b, o, e, hb, hc⟩ := h.2.2 h0
  exact ⟨b, o, e, hb, fun i hi => ⟨F i, hc i hi⟩⟩
theorem RdX.below {w w' : World} {g m c p B : Nat} {A : Option Addr} {F : Nat → Int} (h : RdX w g A m c p F) (hb : Below B w w') (hB : g < B) : RdX w' g A m c p F := by
  refine ⟨h.1.keep hb hB, h.2.1, fun h0 => ?_⟩
  obtain ⟨b, o, e, hbg, hc⟩ := h.2.2 h0
  refine ⟨b, o, e, hbg, fun i hi => ?_⟩
  obtain ⟨h1, h2, h3⟩ := hc i hi
  exact ⟨h1, h2, (hb.cell (p := ⟨b, o + i, none⟩) (by show b < B; omega)).trans h3⟩
end Go.Proofs.YthmddmddcdofaaaDoor
namespace Go.Proofs.YthmddmddcdofaaaDoor
open Go.RowKit
end Go.Proofs.YthmddmddcdofaaaDoor
namespace Go.Proofs.YthmddmddcdofaaaDoor
open Go.RowKit
def upd (L : Nat → Bool) (i k : Nat) : Bool := if k = i then true else L k
theorem upd_ne {L : Nat → Bool} {i k : Nat} (h : upd L i k = true) (hne : k ≠ i) : L k = true := by
  unfold upd at h
  rw [if_neg hne] at h
  exact h
theorem upd_other {L : Nat → Bool} {i k : Nat} (hne : k ≠ i) : upd L i k = L k := by
  unfold upd
  rw [if_neg hne]
theorem upd_self {L : Nat → Bool} {i : Nat} : upd L i i = true := by simp [upd]
/-- a fact about an operation that is carried out stays behind another one -/
theorem kp {L : Nat → Bool} {i k : Nat} {P : Prop} (f : L k = true → P) (hne : k ≠ i := by decide) (h : upd L i k = true) : P := f (upd_ne h hne)
def depsB (ops : Array Oper) : Bool := (List.range ops.size).all fun i => ((ops[i]?).map (·.after.all fun e => !Region.binds .any e || decide (e.on < i))).getD true
section
variable {P : Program} {ops : Array Oper} {Q : Exit → Act → World → Prop}
def unl (listed : Array Bool) (n : Nat) : List Nat := (List.range n).filter fun i => !listed.getD i true
theorem ready_unl {listed : Array Bool} {i : Nat} (h : i ∈ Region.ready .any ops listed) : i ∈ unl listed ops.size := by
  unfold Region.ready at h
  unfold unl
  rw [List.mem_filter] at h ⊢
  refine ⟨h.1, ?_⟩
  have := h.2
  simp at this
  simp [this.1]
theorem all_listed (hd : depsB ops = true) {listed : Array Bool} (hs : listed.size = ops.size) (hr : Region.ready .any ops listed = []) : ∀ i, i < ops.size → listed.getD i false = true := by
  intro i
  induction i using Nat.strongRecOn with
  | _ i ih =>
    intro hi
    cases hl : listed.getD i false
    · exfalso
      have hmem : i ∈ Region.ready .any ops listed := by
        unfold Region.ready
        rw [List.mem_filter]
        refine ⟨by simpa using hi, ?_⟩
        have e1 : listed.getD i true = false := by
          rw [Array.getD_eq_getD_getElem?] at hl ⊢
          rw [Array.getElem?_eq_getElem (by omega)] at hl ⊢
          simpa using hl
        rw [e1]
        simp only [Bool.not_false, Bool.true_and]
        unfold depsB at hd
        rw [List.all_eq_true] at hd
        have := hd i (by simpa using hi)
        rw [Array.getElem?_eq_getElem hi] at this ⊢
        simp only [Option.map_some, Option.getD_some] at this ⊢
        rw [Array.all_eq_true_iff_forall_mem] at this ⊢
        intro e he
        have hb := this e he
        cases hbi : Region.binds .any e
        · rfl
        · rw [hbi] at hb
          simp at hb
          simp only [Bool.not_true, Bool.false_or]
          exact ih e.on hb (by omega)
      rw [hr] at hmem
      cases hmem
    · rfl
theorem unl_set {listed : Array Bool} {n i : Nat} (h : i ∈ unl listed n) (hs : listed.size = n) : (unl (listed.setIfInBounds i true) n).length < (unl listed n).length := by
  have hsub : unl (listed.setIfInBounds i true) n = (unl listed n).filter (fun j => decide (j ≠ i)) := by
    unfold unl
    rw [List.filter_filter]
    apply List.filter_congr
    intro j hj
    have hj' : j < n := by simpa using hj
    rw [Array.getD_eq_getD_getElem?, Array.getD_eq_getD_getElem?, Array.getElem?_setIfInBounds]
    by_cases e : i = j
    · subst e
      simp [hs, hj']
    · rw [if_neg e]
      have e' : ¬ j = i := fun h => e h.symm
      simp [e']
  rw [hsub]
  exact List.length_filter_lt_length_iff_exists.2 ⟨i, h, by simp⟩
theorem wpAny_inv (hd : depsB ops = true) (Inv : (Nat → Bool) → Act → World → Prop)
    (hstep : ∀ (L : Nat → Bool) (a : Act) (w : World) (i : Nat) (o : Oper), ops[i]? = some o → L i = false → (∀ e ∈ o.after, Region.binds .any e = true → L e.on = true) → Inv L a w → wpOp P ops Q i (Inv (upd L i)) a w)
    (hdone : ∀ (L : Nat → Bool) (a : Act) (w : World), (∀ i, i < ops.size → L i = true) → Inv L a w → Q .normal a w) :
    ∀ (fuel : Nat) (listed : Array Bool) (a : Act) (w : World), listed.size = ops.size → (unl listed ops.size).length ≤ fuel → Inv (fun i => listed.getD i false) a w → wpAny P .any ops Q fuel listed a w
  | 0, listed, a, w, hs, hf, hI => by
    have hr : Region.ready .any ops listed = [] := by
      cases h : Region.ready .any ops listed with
      | nil => rfl
      | cons i is =>
        have := ready_unl (ops := ops) (listed := listed) (i := i) (by rw [h]; simp)
        have hz : unl listed ops.size = [] := List.eq_nil_of_length_eq_zero (by omega)
        rw [hz] at this
        cases this
    exact ⟨hr, hdone _ a w (all_listed hd hs hr) hI⟩
  | fuel + 1, listed, a, w, hs, hf, hI => by
    refine ⟨fun hr => hdone _ a w (all_listed hd hs hr) hI, fun i hi => ?_⟩
    have hu := ready_unl hi
    have hlt := unl_set hu hs
    unfold Region.ready at hi
    rw [List.mem_filter] at hi
    obtain ⟨hi1, hi2⟩ := hi
    have hi1' : i < ops.size := by simpa using hi1
    rw [Array.getElem?_eq_getElem hi1'] at hi2
    simp only [Option.map_some, Option.getD_some, Bool.and_eq_true, Bool.not_eq_true'] at hi2
    refine wpOp_mono (K := Inv (upd (fun i => listed.getD i false) i)) (fun a' w' h' => ?_) (hstep _ a w i ops[i] (Array.getElem?_eq_getElem hi1') ?_ ?_ hI)
    · refine wpAny_inv hd Inv hstep hdone fuel _ a' w' (by simpa using hs) (by omega) ?_
      have e : (fun j => (listed.setIfInBounds i true).getD j false) = upd (fun i => listed.getD i false) i := by
        funext j
        unfold upd
        rw [Array.getD_eq_getD_getElem?, Array.getElem?_setIfInBounds]
        by_cases e : i = j
        · subst e
          simp [hs, hi1']
        · rw [if_neg e, if_neg (fun h => e h.symm), ← Array.getD_eq_getD_getElem?]
      rw [e]
      exact h'
    · have := hi2.1
      rw [Array.getD_eq_getD_getElem?, Array.getElem?_eq_getElem (by omega)] at this ⊢
      simpa using this
    · intro e he hb
      have := (Array.all_eq_true_iff_forall_mem.1 hi2.2) e he
      rw [hb] at this
      simpa using this
/-- a region, by what holds between its operations -/
theorem wp_region_inv {id : Nat} {a : Act} {w : World} (hm : P.follows .mixedOrders = true) (hd : depsB ops = true) (Inv : (Nat → Bool) → Act → World → Prop)
    (h0 : Inv (fun _ => false) a w.drew)
    (hstep : ∀ (L : Nat → Bool) (a : Act) (w : World) (i : Nat) (o : Oper), ops[i]? = some o → L i = false → (∀ e ∈ o.after, Region.binds .any e = true → L e.on = true) → Inv L a w → wpOp P ops Q i (Inv (upd L i)) a w)
    (hdone : ∀ (L : Nat → Bool) (a : Act) (w : World), (∀ i, i < ops.size → L i = true) → Inv L a w → Q .normal a w) : (Code.region id ops true).wp P Q a w := by
  refine wp_region_any hm (wpAny_inv hd Inv hstep hdone _ _ _ _ (by simp) ?_ ?_)
  · unfold unl
    exact Nat.le_trans (List.length_filter_le _ _) (by simp)
  · have e : (fun i => (Array.replicate ops.size false).getD i false) = fun _ => false := by
      funext j
      rw [Array.getD_eq_getD_getElem?]
      rcases Nat.lt_or_ge j ops.size with h | h
      · simp [h]
      · rw [Array.getElem?_eq_none (by simpa using h)]
        rfl
    rw [e]
    exact h0
end
/-- a row of n numbers in lo..hi, in block g, which is not the reader's -/
def Tbl (w : World) (gr g n : Nat) (lo hi : Int) : Prop := g ≠ gr ∧ g < w.heap.size ∧ ∀ j, j < n → ∃ q : Int, w.cell? ⟨g, j, none⟩ = some (.int .i64 q) ∧ lo ≤ q ∧ q ≤ hi
theorem Tbl.alloc {w : World} {gr g n : Nat} {lo hi : Int} (h : Tbl w gr g n lo hi) (o : Obj) : Tbl (w.alloc o) gr g n lo hi := by
  refine ⟨h.1, by have := h.2.1; simp; omega, fun j hj => ?_⟩
  obtain ⟨q, hq, hb⟩ := h.2.2 j hj
  exact ⟨q, (((Below.refl w.heap.size w).alloc (Nat.le_refl _) o).cell (p := ⟨g, j, none⟩) h.2.1).trans hq, hb⟩
theorem Tbl.new (w : World) (gr : Nat) (t : TypeId) (qs : List Int) (lo hi : Int) (hgr : gr < w.heap.size) (h : ∀ q ∈ qs, lo ≤ q ∧ q ≤ hi) (cs : Array Value) (hc : cs = (qs.map (Value.int .i64)).toArray) : Tbl (w.alloc (.cells cs t)) gr w.heap.size qs.length lo hi := by
  subst hc
  refine ⟨by omega, by simp, fun j hj => ⟨qs[j], ?_, h _ (List.getElem_mem hj)⟩⟩
  rw [(Rw.new w t _).cell j]
  simp [hj]
def TblOf (w : World) (gr n : Nat) (lo hi : Int) (v : Value) : Prop := ∃ g, v = .slice (some ⟨g, 0, none⟩) n n ∧ Tbl w gr g n lo hi
def PtrOf (w : World) (gr n : Nat) (lo hi : Int) (v : Value) : Prop := ∃ g j, v = .pointer (some ⟨g, j, none⟩) ∧ j < n ∧ Tbl w gr g n lo hi
theorem TblOf.alloc {w : World} {gr n : Nat} {lo hi : Int} {v : Value} (h : TblOf w gr n lo hi v) (o : Obj) : TblOf (w.alloc o) gr n lo hi v := by
  obtain ⟨g, e, h⟩ := h
  exact ⟨g, e, h.alloc o⟩
theorem PtrOf.alloc {w : World} {gr n : Nat} {lo hi : Int} {v : Value} (h : PtrOf w gr n lo hi v) (o : Obj) : PtrOf (w.alloc o) gr n lo hi v := by
  obtain ⟨g, j, e, hj, h⟩ := h
  exact ⟨g, j, e, hj, h.alloc o⟩
end Go.Proofs.YthmddmddcdofaaaDoor

namespace Go.Proofs.YthmddmddcdofaaaDoor
open Go.RowKit
/-- the slice value '.slice A n _' reads as the numbers xs, and lies below block B -/
def IS (w : World) (B : Nat) (A : Option Addr) (n : Nat) (xs : List Int) : Prop :=
  xs.length = n ∧ (0 < n → ∃ g o, A = some ⟨g, o, none⟩ ∧ g < B ∧ ∀ (k : Nat) (b : Int), xs[k]? = some b → w.cell? ⟨g, o + k, none⟩ = some (.int .i64 b))
section
variable {w w' : World} {B B' n : Nat} {A : Option Addr} {xs : List Int}
theorem IS.keep (h : IS w B A n xs) (hk : ∀ p : Addr, p.block < B → w'.cell? p = w.cell? p) : IS w' B A n xs :=
  ⟨h.1, fun hn => by
    obtain ⟨g, o, e, hb, hc⟩ := h.2 hn
    exact ⟨g, o, e, hb, fun k x hx => (hk _ hb).trans (hc k x hx)⟩⟩
theorem IS.more (h : IS w B A n xs) (hB : B ≤ B') : IS w B' A n xs :=
  ⟨h.1, fun hn => by
    obtain ⟨g, o, e, hb, hc⟩ := h.2 hn
    exact ⟨g, o, e, by omega, hc⟩⟩
theorem IS.below (h : IS w B A n xs) (hb : Below B w w') : IS w' B A n xs := h.keep fun _ hp => hb.cell hp
theorem IS.up {w w' : World} {n : Nat} {A : Option Addr} {xs : List Int} (h : IS w w.heap.size A n xs) (hb : Below w.heap.size w w') : IS w' w'.heap.size A n xs := (h.below hb).more hb.size
theorem IS.at_ {k : Nat} (h : IS w B A n xs) (hk : k < n) : ∃ g o b, A = some ⟨g, o, none⟩ ∧ g < B ∧ xs[k]? = some b ∧ w.cell? ⟨g, o + k, none⟩ = some (.int .i64 b) := by
  obtain ⟨g, o, e, hb, hc⟩ := h.2 (by omega)
  have hl : k < xs.length := by have := h.1; omega
  have hx := List.getElem?_eq_getElem hl
  exact ⟨g, o, _, e, hb, hx, hc k _ hx⟩
theorem IS.none_ (w : World) (B : Nat) (A : Option Addr) : IS w B A 0 [] := ⟨rfl, fun h => by omega⟩
end
/-- the value v owns the numbers xs, in a row from block 'base' on -/
def OwnI (w : World) (base : Nat) (v : Value) (xs : List Int) : Prop := w.ownsRow base 3 1 v xs.length (xs.map (.int .i64))
theorem OwnI.form {w : World} {base : Nat} {v : Value} {xs : List Int} (h : OwnI w base v xs) : ∃ A c, v = .slice A xs.length c ∧ (0 < xs.length → ∃ g, A = some ⟨g, 0, none⟩ ∧ base ≤ g ∧ g < w.heap.size) := by
  rcases h.2 with ⟨rfl, h0⟩ | ⟨g, cap, cur, rfl, hb, hh, _⟩
  · exact ⟨none, 0, by rw [h0], fun h => by omega⟩
  · exact ⟨some ⟨g, 0, none⟩, cap, rfl, fun _ => ⟨g, rfl, hb, (Array.getElem?_eq_some_iff.1 hh).1⟩⟩
theorem OwnI.reads {w : World} {base n c : Nat} {A : Option Addr} {xs : List Int} (h : OwnI w base (.slice A n c) xs) : IS w w.heap.size A n xs := by
  rcases h.2 with ⟨e, h0⟩ | ⟨g, cap, cur, e, hb, hh, _⟩
  · injection e with e1 e2 e3
    subst e2
    have : xs = [] := List.eq_nil_of_length_eq_zero h0
    subst this
    exact ⟨rfl, fun h => by omega⟩
  · injection e with e1 e2 e3
    subst e1 e2 e3
    refine ⟨rfl, fun hn => ⟨g, 0, rfl, (Array.getElem?_eq_some_iff.1 hh).1, fun k x hx => ?_⟩⟩
    have hk : k < xs.length := (List.getElem?_eq_some_iff.1 hx).1
    have c1 := World.ownsRow.cellAt h k (by omega)
    rw [Nat.zero_add]
    refine c1.trans ?_
    rw [List.getElem?_map, hx]
    rfl
theorem OwnI.below {w w' : World} {base B : Nat} {v : Value} {xs : List Int} (h : OwnI w base v xs) (hb : Below B w w') (hB : w.heap.size ≤ B) : OwnI w' base v xs := by
  refine ⟨h.1, ?_⟩
  rcases h.2 with h0 | ⟨g, cap, cur, e, hb', hh, hr⟩
  · exact .inl h0
  · exact .inr ⟨g, cap, cur, e, hb', (hb.block g (Nat.lt_of_lt_of_le (Array.getElem?_eq_some_iff.1 hh).1 hB)).trans hh, hr⟩
theorem OwnI.base {w : World} {base base' : Nat} {v : Value} {xs : List Int} (h : OwnI w base v xs) (hb : base' ≤ base) : OwnI w base' v xs := by
  refine ⟨h.1, ?_⟩
  rcases h.2 with h0 | ⟨g, cap, cur, e, hb', hh, hr⟩
  · exact .inl h0
  · exact .inr ⟨g, cap, cur, e, by omega, hh, hr⟩
theorem OwnI.far {w w' : World} {base : Nat} {v : Value} {xs : List Int} {row : Option Nat} (h : OwnI w base v xs) (hg : w.grownBy w' row) (hne : v.ownBlock = none ∨ v.ownBlock ≠ row) : OwnI w' base v xs := World.ownsRow.kept h hg hne
theorem OwnI.cast {w : World} {base : Nat} {v : Value} {xs ys : List Int} (e : xs = ys) (h : OwnI w base v xs) : OwnI w base v ys := e ▸ h
theorem OwnI.cap {w : World} {base n c : Nat} {A : Option Addr} {xs : List Int} (h : OwnI w base (.slice A n c) xs) : n = xs.length ∧ n ≤ c := by
  rcases h.2 with ⟨e, h0⟩ | ⟨g, cap, cur, e, _, _, hc, _⟩
  · injection e with e1 e2 e3
    omega
  · injection e with e1 e2 e3
    omega
theorem own_noneI (w : World) (base : Nat) (hb : base ≤ w.heap.size) : OwnI (w.alloc (.cells #[] 3)) base (.slice (some ⟨w.heap.size, 0, none⟩) 0 0) [] :=
  World.ownsRow_lit (base := base) (e := 3) (size := 1) w #[] 0 hb (by unfold maxLen; omega) rfl
theorem own_oneI (w : World) (b : Int) (base : Nat) (hb : base ≤ w.heap.size) : OwnI (w.alloc (.cells #[.int .i64 b] 3)) base (.slice (some ⟨w.heap.size, 0, none⟩) 1 1) [b] :=
  World.ownsRow_lit (base := base) (e := 3) (size := 1) w #[.int .i64 b] 1 hb (by unfold maxLen; omega) rfl
/-- all numbers fit -/
def AllN (xs : List Int) : Prop := ∀ (k : Nat) (v : Int), xs[k]? = some v → I64 v
theorem AllN.append {xs ys : List Int} (h : AllN xs) (h2 : AllN ys) : AllN (xs ++ ys) := by
  intro k v hv
  rcases Nat.lt_or_ge k xs.length with h1 | h1
  · rw [List.getElem?_append_left h1] at hv
    exact h k v hv
  · rw [List.getElem?_append_right h1] at hv
    exact h2 _ v hv
/-- one word of an owned row is written -/
theorem OwnI.put {w : World} {base g c j : Nat} {xs : List Int} (h : OwnI w base (.slice (some ⟨g, 0, none⟩) xs.length c) xs) (b : Int) :
    OwnI (w.setCell ⟨g, j, none⟩ (.int .i64 b)) base (.slice (some ⟨g, 0, none⟩) xs.length c) (xs.set j b) := by
  have := (World.ownsRow.stored h j (.int .i64 b)).1
  unfold OwnI
  rw [List.length_set, List.map_set]
  exact this
theorem info_int : (Tryd.prog.info? 3).map (fun i => (i.zero, i.size, i.bytes)) = some (some (.int .i64 0), 1, 8) := by kernel_rfl
theorem run_appendI (w : World) (base : Nat) (v : Value) (xs : List Int) (hown : OwnI w base v xs) (A : Option Addr) (m c B : Nat) (ys : List Int) (hr : IS w B A m ys) (hn : xs.length + m ≤ 1099511627776) (hbase : base ≤ w.heap.size) (ty : TypeId) :
    ∃ v' w', (Builtin.append_ #[24, 24] ty #[v, .slice A m c]).run Tryd.prog w = .ok v' w' ∧ OwnI w' base v' (xs ++ ys) ∧ w.grownBy w' v.ownBlock ∧ (v'.ownBlock = v.ownBlock ∨ v'.ownBlock = some w.heap.size) := by
  obtain ⟨i0, hi0, hz0, hz1, hz2⟩ := info_parts info_int
  have hm := hr.1
  rcases A with _ | ad
  · have h0 : m = 0 := by
      rcases Nat.eq_zero_or_pos m with h0 | h0
      · exact h0
      · obtain ⟨g, o, e, _⟩ := hr.2 h0
        cases e
    subst h0
    have : ys = [] := List.eq_nil_of_length_eq_zero hm
    subst this
    refine ⟨v, w, ?_, by simpa using hown, World.grownBy.refl _ _, .inl rfl⟩
    rcases hown.2 with ⟨rfl, _⟩ | ⟨g, cap, cur, rfl, _, _, hnc, _⟩
    · simp [Builtin.append_, run_underlying Tryd.underlying24, sizeOf, typeInfo, hi0, Builtin.lenOf, Builtin.firstCells]
    · simp [Builtin.append_, run_underlying Tryd.underlying24, sizeOf, typeInfo, hi0, Builtin.lenOf, Builtin.firstCells, hnc, storeCells]
  · have hcells : ∀ j u, (ys.map (Value.int .i64))[j]? = some u → w.cell? (ad.add j) = some u := by
      intro j u hj
      rcases Nat.eq_zero_or_pos m with h0 | h0
      · subst h0
        have : ys = [] := List.eq_nil_of_length_eq_zero hm
        subst this
        simp at hj
      · obtain ⟨g, o, e, _, hc⟩ := hr.2 h0
        replace e := Option.some.inj e
        subst e
        rw [add_lit]
        rw [List.getElem?_map] at hj
        cases hy : ys[j]? with
        | none => rw [hy] at hj; cases hj
        | some b =>
          rw [hy] at hj
          replace hj := Option.some.inj hj
          subst hj
          exact hc j b hy
    obtain ⟨v', w', hrun, h2, h3, _, h5⟩ := run_append_own_at (P := Tryd.prog) w base 24 ty 3 i0 _ 1 8 Tryd.underlying24 hi0 hz0 hz1 hz2 rfl (by omega) v xs.length (xs.map (.int .i64)) hown ad m c (ys.map (.int .i64))
      (by rw [List.length_map, hm]; omega) hcells (by intro u hu; obtain ⟨b, _, rfl⟩ := List.mem_map.1 hu; rfl) (by unfold maxLen; omega) (by omega) hbase
    refine ⟨v', w', hrun, ?_, h3, h5⟩
    unfold OwnI
    rw [List.map_append, List.length_append, hm]
    exact h2
theorem wpList_appendI {w : World} {ops : Array Oper} {rest : List Oper} {o : Oper} {a : Act} {Q : Exit → Act → World → Prop} (hgd : o.guard = none) (s x : Operand)
    (ho : o.op = .call { callee := .builtin .append, args := #[s, x], argTypes := #[24, 24] })
    (base : Nat) (v : Value) (xs : List Int) (hs : a.eval s = v) (hown : OwnI w base v xs) (A : Option Addr) (m c B : Nat) (ys : List Int) (hx : a.eval x = .slice A m c) (hr : IS w B A m ys)
    (hn : xs.length + m ≤ 1099511627776) (hbase : base ≤ w.heap.size)
    (h : ∀ v' w', OwnI w' base v' (xs ++ ys) → w.grownBy w' v.ownBlock → (v'.ownBlock = v.ownBlock ∨ v'.ownBlock = some w.heap.size) → wpList Tryd.prog ops Q rest (a.put o.dst v') w') : wpList Tryd.prog ops Q (o :: rest) a w :=
  wpList_plain hgd fun _ hK => by
    obtain ⟨v', w', hrun, h2, h3, h4⟩ := run_appendI w base v xs hown A m c B ys hr hn hbase o.type
    unfold Oper.wp execOp
    simp only [ho, resolve, invoke, builtin, Sem.run_bind, Sem.run_pure, Result.andThen_ok, List.map_toArray, List.map_cons, List.map_nil, hs, hx, hrun]
    exact hK _ _ (h v' w' h2 h3 h4)
/-- numbers of the call's own -/
def GaveI (w : World) (xs : List Int) (e : Ending) (w' : World) : Prop := ∃ v, e = .returned v ∧ OwnI w' w.heap.size v xs ∧ Below w.heap.size w w'
theorem take_eq_succI {xs ys : List Int} {k : Nat} {a : Int} (h : xs.take k = ys.take k) (hx : xs[k]? = some a) (hy : ys[k]? = some a) : xs.take (k + 1) = ys.take (k + 1) := by
  rw [List.take_add_one, List.take_add_one, h, hx, hy]
theorem OwnI.put' {w : World} {base g c j n : Nat} {xs : List Int} (h : OwnI w base (.slice (some ⟨g, 0, none⟩) n c) xs) (hn : xs.length = n) (b : Int) :
    OwnI (w.setCell ⟨g, j, none⟩ (.int .i64 b)) base (.slice (some ⟨g, 0, none⟩) n c) (xs.set j b) := by
  subst hn
  exact h.put b
theorem OwnI.frozen {w : World} {base g c n : Nat} {xs : List Int} (h : OwnI w base (.slice (some ⟨g, 0, none⟩) n c) xs) (hn : xs.length = n) (i : Nat) : w.frozen? ⟨g, i, none⟩ = false := by
  subst hn
  exact World.ownsRow.frozenAt h i
theorem madeI_eq (n : Nat) : madeCells (Value.int .i64 0).cells n = Array.replicate n (.int .i64 0) := by
  apply Array.ext
  · simp [madeCells, Value.cells]
  · intro i h1 h2
    simp [madeCells, Value.cells, Nat.mod_one]
theorem makeI (W : World) (n : Nat) (hn : n ≤ 1099511627776) : (Instr.makeSlice 24 (.int .i64 n) (.int .i64 n)).run Tryd.prog W = .ok (.slice (some ⟨W.heap.size, 0, none⟩) n n) (W.alloc (.cells (Array.replicate n (.int .i64 0)) 3)) := by
  obtain ⟨i0, hi0, hz0, hz1, hz2⟩ := info_parts info_int
  have := run_make (P := Tryd.prog) W 24 3 i0 _ Tryd.underlying24 hi0 hz0 .i64 .i64 n n (by omega) (by omega) (by rw [hz2]; omega) (by omega)
  rw [hz1] at this
  rw [← madeI_eq]
  simpa using this
theorem own_madeI (w : World) (n : Nat) (hn : n ≤ 1099511627776) : OwnI (w.alloc (.cells (Array.replicate n (.int .i64 0)) 3)) w.heap.size (.slice (some ⟨w.heap.size, 0, none⟩) n n) (List.replicate n (0 : Int)) := by
  have := World.ownsRow_lit (base := w.heap.size) (e := 3) (size := 1) w (Array.replicate n (.int .i64 0)) n (Nat.le_refl _) (by unfold maxLen; omega) (by simp)
  unfold OwnI
  simpa using this
end Go.Proofs.YthmddmddcdofaaaDoor
namespace Go.Proofs.YthmddmddcdofaaaDoor
/-- a cell: whether it is used, its number, its references -/
structure Cl where
  u : Bool
  d : Int
  r : List Int
  deriving DecidableEq, Inhabited
/-- a heap: its cells and its roots -/
structure Hp where
  cs : List Cl
  rt : List Int
  deriving DecidableEq, Inhabited
namespace Hps
/-- the cell is there and is used -/
def usedAt (cs : List Cl) (n : Nat) : Bool := match cs[n]? with
  | some c => c.u
  | none => false
theorem usedAt_iff {cs : List Cl} {n : Nat} : usedAt cs n = true ↔ ∃ c, cs[n]? = some c ∧ c.u = true := by
  unfold usedAt
  cases h : cs[n]? with
  | none => simp
  | some c => simp
theorem usedAt_lt {cs : List Cl} {n : Nat} (h : usedAt cs n = true) : n < cs.length := by
  obtain ⟨c, h1, _⟩ := usedAt_iff.1 h
  exact (List.getElem?_eq_some_iff.1 h1).1
/-- -1, or the number of a used cell -/
def okRef (cs : List Cl) (n : Int) : Bool := n == -1 || (decide (0 ≤ n) && usedAt cs n.toNat)
theorem okRef_iff {cs : List Cl} {n : Int} : okRef cs n = true ↔ n = -1 ∨ (0 ≤ n ∧ usedAt cs n.toNat = true) := by simp [okRef]
theorem okRef_nat {cs : List Cl} {n : Int} (h : okRef cs n = true) (h0 : 0 ≤ n) : ∃ k : Nat, n = k ∧ k < cs.length ∧ usedAt cs k = true := by
  rcases okRef_iff.1 h with h1 | ⟨_, h2⟩
  · omega
  · exact ⟨n.toNat, by omega, usedAt_lt h2, h2⟩
theorem okRef_lo {cs : List Cl} {n : Int} (h : okRef cs n = true) : -1 ≤ n ∧ n < cs.length := by
  rcases okRef_iff.1 h with h1 | ⟨h2, h3⟩
  · omega
  · have := usedAt_lt h3
    omega
def okRefs (cs : List Cl) (rs : List Int) : Bool := rs.all (okRef cs)
theorem okRefs_iff {cs : List Cl} {rs : List Int} : okRefs cs rs = true ↔ ∀ n ∈ rs, okRef cs n = true := by simp [okRefs]
theorem okRefs_at {cs : List Cl} {rs : List Int} (h : okRefs cs rs = true) {k : Nat} {n : Int} (hn : rs[k]? = some n) : okRef cs n = true := okRefs_iff.1 h n (List.mem_of_getElem? hn)
def okCell (cs : List Cl) (c : Cl) : Bool := (c.u || (c.d == 0 && decide (c.r.length = 0))) && (decide (0 ≤ c.d) && decide (c.d ≤ 99)) && decide (c.r.length ≤ 3) && okRefs cs c.r
theorem okCell_iff {cs : List Cl} {c : Cl} : okCell cs c = true ↔ (c.u = true ∨ (c.d = 0 ∧ c.r = [])) ∧ (0 ≤ c.d ∧ c.d ≤ 99) ∧ c.r.length ≤ 3 ∧ okRefs cs c.r = true := by
  simp [okCell, and_assoc]
def validH (h : Hp) : Bool := h.cs.all (okCell h.cs) && (decide (h.cs.length ≤ 40) && decide (h.rt.length = 4) && okRefs h.cs h.rt)
theorem valid_iff {h : Hp} : validH h = true ↔ (∀ c ∈ h.cs, okCell h.cs c = true) ∧ h.cs.length ≤ 40 ∧ h.rt.length = 4 ∧ okRefs h.cs h.rt = true := by
  simp [validH, and_assoc]
theorem valid_cell {h : Hp} (hv : validH h = true) {k : Nat} {c : Cl} (hc : h.cs[k]? = some c) : okCell h.cs c = true := (valid_iff.1 hv).1 c (List.mem_of_getElem? hc)
theorem valid_ref {h : Hp} (hv : validH h = true) {k j : Nat} {c : Cl} {n : Int} (hc : h.cs[k]? = some c) (hn : c.r[j]? = some n) : okRef h.cs n = true := okRefs_at (okCell_iff.1 (valid_cell hv hc)).2.2.2 hn
theorem valid_root {h : Hp} (hv : validH h = true) {j : Nat} {n : Int} (hn : h.rt[j]? = some n) : okRef h.cs n = true := okRefs_at (valid_iff.1 hv).2.2.2 hn
/-- the heap without cells -/
def emptyH : Hp := ⟨[], [-1, -1, -1, -1]⟩
theorem empty_valid : validH emptyH = true := by decide
/-- what can be reached from a list of numbers -/
inductive Rch (cs : List Cl) (from_ : List Int) : Nat → Prop
  | root {k : Nat} : ((k : Int) ∈ from_) → Rch cs from_ k
  | step {k m : Nat} {c : Cl} : Rch cs from_ k → cs[k]? = some c → ((m : Int) ∈ c.r) → Rch cs from_ m
theorem Rch.mono {cs : List Cl} {a b : List Int} (h : ∀ k : Nat, (k : Int) ∈ a → Rch cs b k) {k : Nat} (hr : Rch cs a k) : Rch cs b k := by
  induction hr with
  | root hk => exact h _ hk
  | step _ hc hm ih => exact .step ih hc hm
/-- a set that has the roots and leads on holds all that can be reached -/
theorem Rch.inside {cs : List Cl} {a : List Int} {S : Nat → Prop} (h0 : ∀ k : Nat, (k : Int) ∈ a → S k) (h1 : ∀ (k m : Nat) (c : Cl), S k → cs[k]? = some c → (m : Int) ∈ c.r → S m) {k : Nat} (hr : Rch cs a k) : S k := by
  induction hr with
  | root hk => exact h0 _ hk
  | step _ hc hm ih => exact h1 _ _ _ ih hc hm
theorem Rch.used {cs : List Cl} {a : List Int} (ha : okRefs cs a = true) (hc : ∀ c ∈ cs, okRefs cs c.r = true) {k : Nat} (hr : Rch cs a k) : usedAt cs k = true := by
  refine Rch.inside (S := fun k => usedAt cs k = true) (fun k hk => ?_) (fun k m c _ hcc hm => ?_) hr
  · rcases okRef_iff.1 (okRefs_iff.1 ha _ hk) with h | ⟨_, h⟩
    · omega
    · simpa using h
  · rcases okRef_iff.1 (okRefs_iff.1 (hc c (List.mem_of_getElem? hcc)) _ hm) with h | ⟨_, h⟩
    · omega
    · simpa using h
theorem valid_refs {h : Hp} (hv : validH h = true) : ∀ c ∈ h.cs, okRefs h.cs c.r = true := fun c hc => (okCell_iff.1 ((valid_iff.1 hv).1 c hc)).2.2.2
theorem Rch.live {h : Hp} (hv : validH h = true) {k : Nat} (hr : Rch h.cs h.rt k) : usedAt h.cs k = true := hr.used (valid_iff.1 hv).2.2.2 (valid_refs hv)
open Classical in
/-- for every cell whether it can be reached -/
noncomputable def reachL (cs : List Cl) (a : List Int) : List Bool := (List.range cs.length).map fun k => decide (Rch cs a k)
theorem reachL_len (cs : List Cl) (a : List Int) : (reachL cs a).length = cs.length := by simp [reachL]
open Classical in
theorem reachL_at {cs : List Cl} {a : List Int} {k : Nat} (hk : k < cs.length) : (reachL cs a)[k]? = some (decide (Rch cs a k)) := by
  simp [reachL, hk]
theorem reachL_true {cs : List Cl} {a : List Int} {k : Nat} (hk : k < cs.length) : (reachL cs a)[k]? = some true ↔ Rch cs a k := by
  rw [reachL_at hk]
  simp
/-- marks that hold what can be reached and nothing else are the marks -/
theorem reachL_eq {cs : List Cl} {a : List Int} {out : List Bool} (hl : out.length = cs.length) (h : ∀ k, k < cs.length → (out[k]? = some true ↔ Rch cs a k)) : out = reachL cs a := by
  apply List.ext_getElem?
  intro k
  rcases Nat.lt_or_ge k cs.length with hk | hk
  · have h1 := h k hk
    rw [← reachL_true hk] at h1
    rw [List.getElem?_eq_getElem (show k < out.length by omega)] at h1 ⊢
    rw [List.getElem?_eq_getElem (show k < (reachL cs a).length by rw [reachL_len]; omega)] at h1 ⊢
    simp only [Option.some.injEq] at h1
    congr 1
    rw [Bool.eq_iff_iff]
    exact h1
  · rw [List.getElem?_eq_none (by omega), List.getElem?_eq_none (by rw [reachL_len]; omega)]
noncomputable def reachH (h : Hp) : List Bool := if validH h = true then reachL h.cs h.rt else []
/-- all references: the roots', then the cells' -/
def refsOf (h : Hp) : List Int := h.rt ++ (h.cs.map (·.r)).flatten
def countsL (h : Hp) : List Int := (List.range h.cs.length).map fun (k : Nat) => (((refsOf h).count (k : Int) : Nat) : Int)
end Hps
end Go.Proofs.YthmddmddcdofaaaDoor
namespace Go.Proofs.YthmddmddcdofaaaDoor
open Go.RowKit
theorem Rw.far {w w' : World} {g : Nat} {t : TypeId} {cs : Array Value} {row : Option Nat} (h : Rw w g t cs) (hg : w.grownBy w' row) (hne : some g ≠ row) : Rw w' g t cs := (hg.block g h.lt hne).trans h
theorem grown_below {w a b : World} {row : Option Nat} (h : w.grownBy a row) (hb : Below w.heap.size a b) : w.grownBy b row :=
  ⟨hb.os.trans h.os, hb.tape.trans h.tape, hb.output.trans h.output, Nat.le_trans h.size hb.size, fun i hi hne => (hb.block i hi).trans (h.block i hi hne)⟩
theorem Bytes.more {w : World} {B B' m : Nat} {A : Option Addr} (h : Bytes w B A m) (hB : B ≤ B') : Bytes w B' A m := fun hm => by
  obtain ⟨b, o, e, hb, hc⟩ := h hm
  exact ⟨b, o, e, by omega, hc⟩
theorem Rw.other {w : World} {g g' i : Nat} {t : TypeId} {cs : Array Value} (h : Rw w g t cs) (hne : g ≠ g') (v : Value) : Rw (w.setCell ⟨g', i, none⟩ v) g t cs := (Below.heap_setCell _ _ _ _ hne).trans h
end Go.Proofs.YthmddmddcdofaaaDoor
namespace Go.Proofs.YthmddmddcdofaaaDoor
open Go.RowKit
/-- the values of cells in a row; vs: the slices of their references -/
def flatC : List Cl → List Value → List Value
  | c :: cs, v :: vs => .bool c.u :: .int .i64 c.d :: v :: flatC cs vs
  | _, _ => []
theorem flatC_length : ∀ (cs : List Cl) (vs : List Value), vs.length = cs.length → (flatC cs vs).length = cs.length * 3
  | [], _, _ => by simp [flatC]
  | c :: cs, [], h => by simp at h
  | c :: cs, v :: vs, h => by
    have := flatC_length cs vs (by simpa using h)
    simp [flatC, this]
    omega
theorem flatC_at : ∀ (cs : List Cl) (vs : List Value) (k : Nat) (c : Cl) (v : Value), cs[k]? = some c → vs[k]? = some v → (flatC cs vs)[k * 3]? = some (.bool c.u) ∧ (flatC cs vs)[k * 3 + 1]? = some (.int .i64 c.d) ∧ (flatC cs vs)[k * 3 + 2]? = some v
  | [], _, k, c, v, h, _ => by simp at h
  | _ :: _, [], k, c, v, _, h => by simp at h
  | c' :: cs, v' :: vs, 0, c, v, h1, h2 => by
    simp at h1 h2
    subst h1 h2
    simp [flatC]
  | c' :: cs, v' :: vs, k + 1, c, v, h1, h2 => by
    have := flatC_at cs vs k c v (by simpa using h1) (by simpa using h2)
    rw [show (k + 1) * 3 = k * 3 + 3 by omega]
    simpa [flatC] using this
theorem flatC_append : ∀ (cs : List Cl) (vs : List Value) (ds : List Cl) (ws : List Value), vs.length = cs.length → flatC (cs ++ ds) (vs ++ ws) = flatC cs vs ++ flatC ds ws
  | [], [], ds, ws, _ => by simp [flatC]
  | [], v :: vs, _, _, h => by simp at h
  | c :: cs, [], _, _, h => by simp at h
  | c :: cs, v :: vs, ds, ws, h => by
    have := flatC_append cs vs ds ws (by simpa using h)
    simp [flatC, this]
theorem flatC_set_u : ∀ (cs : List Cl) (vs : List Value) (k : Nat) (c : Cl) (b : Bool), vs.length = cs.length → cs[k]? = some c → (flatC cs vs).set (k * 3) (.bool b) = flatC (cs.set k ⟨b, c.d, c.r⟩) vs
  | [], _, k, c, b, _, h => by simp at h
  | _ :: _, [], k, c, b, h, _ => by simp at h
  | c' :: cs, v' :: vs, 0, c, b, _, h1 => by
    simp at h1
    subst h1
    simp [flatC]
  | c' :: cs, v' :: vs, k + 1, c, b, h, h1 => by
    have := flatC_set_u cs vs k c b (by simpa using h) (by simpa using h1)
    rw [show (k + 1) * 3 = k * 3 + 3 by omega]
    simp [flatC, this]
theorem flatC_set_d : ∀ (cs : List Cl) (vs : List Value) (k : Nat) (c : Cl) (d : Int), vs.length = cs.length → cs[k]? = some c → (flatC cs vs).set (k * 3 + 1) (.int .i64 d) = flatC (cs.set k ⟨c.u, d, c.r⟩) vs
  | [], _, k, c, b, _, h => by simp at h
  | _ :: _, [], k, c, b, h, _ => by simp at h
  | c' :: cs, v' :: vs, 0, c, b, _, h1 => by
    simp at h1
    subst h1
    simp [flatC]
  | c' :: cs, v' :: vs, k + 1, c, b, h, h1 => by
    have := flatC_set_d cs vs k c b (by simpa using h) (by simpa using h1)
    rw [show (k + 1) * 3 + 1 = (k * 3 + 1) + 3 by omega]
    simp [flatC, this]
theorem flatC_set_r : ∀ (cs : List Cl) (vs : List Value) (k : Nat) (c : Cl) (v : Value) (r : List Int), vs.length = cs.length → cs[k]? = some c → (flatC cs vs).set (k * 3 + 2) v = flatC (cs.set k ⟨c.u, c.d, r⟩) (vs.set k v)
  | [], _, k, c, b, _, _, h => by simp at h
  | _ :: _, [], k, c, b, _, h, _ => by simp at h
  | c' :: cs, v' :: vs, 0, c, b, _, _, h1 => by
    simp at h1
    subst h1
    simp [flatC]
  | c' :: cs, v' :: vs, k + 1, c, b, r, h, h1 => by
    have := flatC_set_r cs vs k c b r (by simpa using h) (by simpa using h1)
    rw [show (k + 1) * 3 + 2 = (k * 3 + 2) + 3 by omega]
    simp [flatC, this]
/-- the references of a cell do not lie in its row -/
theorem flatC_refs : ∀ (cs : List Cl) (vs : List Value) (k : Nat) (c : Cl) (r : List Int), cs[k]? = some c → flatC (cs.set k ⟨c.u, c.d, r⟩) vs = flatC cs vs
  | [], _, k, c, r, h => by simp at h
  | _ :: _, [], k, c, r, _ => by cases k <;> simp [flatC]
  | c' :: cs, v' :: vs, 0, c, r, h1 => by
    simp at h1
    subst h1
    simp [flatC]
  | c' :: cs, v' :: vs, k + 1, c, r, h1 => by
    have := flatC_refs cs vs k c r (by simpa using h1)
    simp [flatC, this]
/-- the slice value '.slice A n _' reads as the cells cs, and lies below block B -/
def CS (w : World) (B : Nat) (A : Option Addr) (n : Nat) (cs : List Cl) : Prop :=
  cs.length = n ∧ (0 < n → ∃ g o, A = some ⟨g, o, none⟩ ∧ g < B ∧ ∀ (k : Nat) (c : Cl), cs[k]? = some c →
    w.cell? ⟨g, o + k * 3, none⟩ = some (.bool c.u) ∧ w.cell? ⟨g, o + k * 3 + 1, none⟩ = some (.int .i64 c.d) ∧ ∃ A' m cc, w.cell? ⟨g, o + k * 3 + 2, none⟩ = some (.slice A' m cc) ∧ m ≤ cc ∧ IS w B A' m c.r)
section
variable {w w' : World} {B B' n : Nat} {A : Option Addr} {cs : List Cl}
theorem CS.keep (h : CS w B A n cs) (hk : ∀ p : Addr, p.block < B → w'.cell? p = w.cell? p) : CS w' B A n cs :=
  ⟨h.1, fun hn => by
    obtain ⟨g, o, e, hb, hc⟩ := h.2 hn
    refine ⟨g, o, e, hb, fun k c hkc => ?_⟩
    obtain ⟨c1, c2, A', m, cc, c3, hm, hi⟩ := hc k c hkc
    exact ⟨(hk _ hb).trans c1, (hk _ hb).trans c2, A', m, cc, (hk _ hb).trans c3, hm, hi.keep hk⟩⟩
theorem CS.more (h : CS w B A n cs) (hB : B ≤ B') : CS w B' A n cs :=
  ⟨h.1, fun hn => by
    obtain ⟨g, o, e, hb, hc⟩ := h.2 hn
    refine ⟨g, o, e, by omega, fun k c hkc => ?_⟩
    obtain ⟨c1, c2, A', m, cc, c3, hm, hi⟩ := hc k c hkc
    exact ⟨c1, c2, A', m, cc, c3, hm, hi.more hB⟩⟩
theorem CS.below (h : CS w B A n cs) (hb : Below B w w') : CS w' B A n cs := h.keep fun _ hp => hb.cell hp
theorem CS.up {w w' : World} {n : Nat} {A : Option Addr} {cs : List Cl} (h : CS w w.heap.size A n cs) (hb : Below w.heap.size w w') : CS w' w'.heap.size A n cs := (h.below hb).more hb.size
theorem CS.at_ {k : Nat} (h : CS w B A n cs) (hk : k < n) : ∃ g o c A' m cc, A = some ⟨g, o, none⟩ ∧ g < B ∧ cs[k]? = some c ∧ w.cell? ⟨g, o + k * 3, none⟩ = some (.bool c.u) ∧ w.cell? ⟨g, o + k * 3 + 1, none⟩ = some (.int .i64 c.d) ∧ w.cell? ⟨g, o + k * 3 + 2, none⟩ = some (.slice A' m cc) ∧ m ≤ cc ∧ IS w B A' m c.r := by
  obtain ⟨g, o, e, hb, hc⟩ := h.2 (by omega)
  have hl : k < cs.length := by have := h.1; omega
  have hx := List.getElem?_eq_getElem hl
  obtain ⟨c1, c2, A', m, cc, c3, hm, hi⟩ := hc k _ hx
  exact ⟨g, o, _, A', m, cc, e, hb, hx, c1, c2, c3, hm, hi⟩
theorem CS.none_ (w : World) (B : Nat) (A : Option Addr) : CS w B A 0 [] := ⟨rfl, fun h => by omega⟩
end
/-- two slices read as a heap -/
structure HS (w : World) (B : Nat) (A : Option Addr) (n : Nat) (R : Option Addr) (m : Nat) (h : Hp) : Prop where
  cells : CS w B A n h.cs
  roots : IS w B R m h.rt
section
variable {w w' : World} {B B' n m : Nat} {A R : Option Addr} {h : Hp}
theorem HS.below (hs : HS w B A n R m h) (hb : Below B w w') : HS w' B A n R m h := ⟨hs.cells.below hb, hs.roots.below hb⟩
theorem HS.more (hs : HS w B A n R m h) (hB : B ≤ B') : HS w B' A n R m h := ⟨hs.cells.more hB, hs.roots.more hB⟩
theorem HS.up {w w' : World} {n m : Nat} {A R : Option Addr} {h : Hp} (hs : HS w w.heap.size A n R m h) (hb : Below w.heap.size w w') : HS w' w'.heap.size A n R m h := (hs.below hb).more hb.size
end
/-- no two of the values lie in one block -/
def Sep (l : List Value) : Prop := l.Pairwise fun a b => a.ownBlock = none ∨ a.ownBlock ≠ b.ownBlock
/-- a heap of the call's own: the slices of cells and of roots, and of every cell's references; rvs: the latter -/
structure OwnHx (w : World) (base : Nat) (vc vr : Value) (rvs : List Value) (h : Hp) : Prop where
  len : rvs.length = h.cs.length
  row : w.ownsRow base 40 3 vc h.cs.length (flatC h.cs rvs)
  refs : ∀ (k : Nat) (c : Cl) (v : Value), h.cs[k]? = some c → rvs[k]? = some v → OwnI w base v c.r
  roots : OwnI w base vr h.rt
  sep : Sep (vc :: vr :: rvs)
def OwnH (w : World) (base : Nat) (vc vr : Value) (h : Hp) : Prop := ∃ rvs, OwnHx w base vc vr rvs h
theorem OwnHx.form {w : World} {base : Nat} {vc vr : Value} {rvs : List Value} {h : Hp} (ho : OwnHx w base vc vr rvs h) : ∃ A c R d, vc = .slice A h.cs.length c ∧ vr = .slice R h.rt.length d ∧ h.cs.length ≤ c ∧ h.rt.length ≤ d ∧ (0 < h.cs.length → ∃ g, A = some ⟨g, 0, none⟩ ∧ base ≤ g ∧ g < w.heap.size) ∧ (0 < h.rt.length → ∃ g, R = some ⟨g, 0, none⟩ ∧ base ≤ g ∧ g < w.heap.size) := by
  obtain ⟨R, d, rfl, hR⟩ := ho.roots.form
  have hd := ho.roots.cap.2
  rcases ho.row.2 with ⟨e, h0⟩ | ⟨g, cap, cur, e, hb, hh, hc, _⟩
  · exact ⟨none, 0, R, d, by rw [e, h0], rfl, by omega, hd, fun h => by omega, hR⟩
  · exact ⟨some ⟨g, 0, none⟩, cap, R, d, e, rfl, hc, hd, fun _ => ⟨g, rfl, hb, (Array.getElem?_eq_some_iff.1 hh).1⟩, hR⟩
theorem OwnHx.ref {w : World} {base : Nat} {vc vr : Value} {rvs : List Value} {h : Hp} (ho : OwnHx w base vc vr rvs h) {k : Nat} {c : Cl} (hc : h.cs[k]? = some c) : ∃ v, rvs[k]? = some v ∧ OwnI w base v c.r := by
  have hk := (List.getElem?_eq_some_iff.1 hc).1
  have hv := List.getElem?_eq_getElem (show k < rvs.length by rw [ho.len]; exact hk)
  exact ⟨_, hv, ho.refs k c _ hc hv⟩
theorem OwnHx.reads {w : World} {base n c m d : Nat} {A R : Option Addr} {rvs : List Value} {h : Hp} (ho : OwnHx w base (.slice A n c) (.slice R m d) rvs h) : HS w w.heap.size A n R m h := by
  refine ⟨?_, ho.roots.reads⟩
  rcases ho.row.2 with ⟨e, h0⟩ | ⟨g, cap, cur, e, hb, hh, _⟩
  · injection e with e1 e2 e3
    subst e2
    exact ⟨h0, fun h => by omega⟩
  · injection e with e1 e2 e3
    subst e1 e2 e3
    refine ⟨rfl, fun hn => ⟨g, 0, rfl, (Array.getElem?_eq_some_iff.1 hh).1, fun k c hc => ?_⟩⟩
    have hk : k < h.cs.length := (List.getElem?_eq_some_iff.1 hc).1
    obtain ⟨v, hv, hi⟩ := ho.ref hc
    obtain ⟨f1, f2, f3⟩ := flatC_at _ _ _ _ _ hc hv
    obtain ⟨A', cc, rfl, _⟩ := hi.form
    have hcap := hi.cap.2
    rw [Nat.zero_add]
    exact ⟨(World.ownsRow.cellAt ho.row _ (by omega)).trans f1, (World.ownsRow.cellAt ho.row _ (by omega)).trans f2, A', _, cc, (World.ownsRow.cellAt ho.row _ (by omega)).trans f3, hcap, hi.reads⟩
theorem OwnHx.below {w w' : World} {base B : Nat} {vc vr : Value} {rvs : List Value} {h : Hp} (ho : OwnHx w base vc vr rvs h) (hb : Below B w w') (hB : w.heap.size ≤ B) : OwnHx w' base vc vr rvs h := by
  refine ⟨ho.len, ⟨ho.row.1, ?_⟩, fun k c v hc hv => (ho.refs k c v hc hv).below hb hB, ho.roots.below hb hB, ho.sep⟩
  rcases ho.row.2 with h0 | ⟨g, cap, cur, e, hb', hh, hr⟩
  · exact .inl h0
  · exact .inr ⟨g, cap, cur, e, hb', (hb.block g (Nat.lt_of_lt_of_le (Array.getElem?_eq_some_iff.1 hh).1 hB)).trans hh, hr⟩
theorem row_base {w : World} {base base' n : Nat} {e : TypeId} {s : Nat} {v : Value} {xs : List Value} (h : w.ownsRow base e s v n xs) (hb : base' ≤ base) : w.ownsRow base' e s v n xs := by
  refine ⟨h.1, ?_⟩
  rcases h.2 with h0 | ⟨g, cap, cur, e, hb', hh, hr⟩
  · exact .inl h0
  · exact .inr ⟨g, cap, cur, e, by omega, hh, hr⟩
theorem OwnHx.base {w : World} {base base' : Nat} {vc vr : Value} {rvs : List Value} {h : Hp} (ho : OwnHx w base vc vr rvs h) (hb : base' ≤ base) : OwnHx w base' vc vr rvs h :=
  ⟨ho.len, row_base ho.row hb, fun k c v hc hv => (ho.refs k c v hc hv).base hb, ho.roots.base hb, ho.sep⟩
/-- nothing that is the heap's is written -/
def Apart (row : Option Nat) (l : List Value) : Prop := ∀ v ∈ l, v.ownBlock = none ∨ v.ownBlock ≠ row
theorem OwnHx.far {w w' : World} {base : Nat} {vc vr : Value} {rvs : List Value} {h : Hp} {row : Option Nat} (ho : OwnHx w base vc vr rvs h) (hg : w.grownBy w' row) (ha : Apart row (vc :: vr :: rvs)) : OwnHx w' base vc vr rvs h :=
  ⟨ho.len, World.ownsRow.kept ho.row hg (ha vc (by simp)), fun k c v hc hv => (ho.refs k c v hc hv).far hg (ha v (by simp [List.mem_of_getElem? hv])), ho.roots.far hg (ha vr (by simp)), ho.sep⟩
/-- every block of the heap is of its own and old enough -/
theorem OwnHx.blocks {w : World} {base : Nat} {vc vr : Value} {rvs : List Value} {h : Hp} (ho : OwnHx w base vc vr rvs h) {v : Value} (hv : v ∈ vc :: vr :: rvs) {k : Nat} (hk : v.ownBlock = some k) : base ≤ k ∧ k < w.heap.size := by
  simp only [List.mem_cons] at hv
  rcases hv with rfl | rfl | hv
  · exact World.ownsRow.lt ho.row k hk
  · exact World.ownsRow.lt ho.roots k hk
  · obtain ⟨i, hi⟩ := List.mem_iff_getElem?.1 hv
    have hlt := (List.getElem?_eq_some_iff.1 hi).1
    have hc := List.getElem?_eq_getElem (show i < h.cs.length by rw [← ho.len]; exact hlt)
    exact World.ownsRow.lt (ho.refs i _ v hc hi) k hk
theorem OwnHx.apart_below {w : World} {base b : Nat} {vc vr : Value} {rvs : List Value} {h : Hp} (ho : OwnHx w base vc vr rvs h) (hb : b < base) : Apart (some b) (vc :: vr :: rvs) := fun v hv => by
  cases e : v.ownBlock with
  | none => exact .inl rfl
  | some k =>
    right
    have := (ho.blocks hv e).1
    intro he
    injection he with he
    omega
theorem OwnHx.apart_new {w : World} {base b : Nat} {vc vr : Value} {rvs : List Value} {h : Hp} (ho : OwnHx w base vc vr rvs h) (hb : w.heap.size ≤ b) : Apart (some b) (vc :: vr :: rvs) := fun v hv => by
  cases e : v.ownBlock with
  | none => exact .inl rfl
  | some k =>
    right
    have := (ho.blocks hv e).2
    intro he
    injection he with he
    omega
end Go.Proofs.YthmddmddcdofaaaDoor
namespace Go.Proofs.YthmddmddcdofaaaDoor
namespace Hps
/-- marks and a list of the marked ones -/
structure Wk (cs : List Cl) (a : List Int) (out : List Bool) (l : List Int) : Prop where
  len : out.length = cs.length
  mem : ∀ k : Nat, out[k]? = some true ↔ (k : Int) ∈ l
  cnt : l.length = out.count true
  rch : ∀ k : Nat, (k : Int) ∈ l → Rch cs a k
  nat : ∀ n ∈ l, ∃ k : Nat, n = k ∧ k < cs.length
theorem Wk.le {cs : List Cl} {a : List Int} {out : List Bool} {l : List Int} (h : Wk cs a out l) : l.length ≤ cs.length := by
  rw [h.cnt, ← h.len]
  exact List.count_le_length
theorem Wk.start (cs : List Cl) (a : List Int) : Wk cs a (List.replicate cs.length false) [] := by
  refine ⟨by simp, fun k => ?_, by simp [List.count_replicate], fun k hk => by simp at hk, fun n hn => by simp at hn⟩
  simp [List.getElem?_replicate]
theorem Wk.mark {cs : List Cl} {a : List Int} {out : List Bool} {l : List Int} (h : Wk cs a out l) {n : Nat} (hn : out[n]? = some false) (hr : Rch cs a n) : Wk cs a (out.set n true) (l ++ [(n : Int)]) := by
  obtain ⟨hlt, he⟩ := List.getElem?_eq_some_iff.1 hn
  refine ⟨by simp [h.len], fun k => ?_, ?_, fun k hk => ?_, fun m hm => ?_⟩
  · rw [List.getElem?_set, List.mem_append]
    by_cases hk : n = k
    · subst hk
      simp [hlt]
    · rw [if_neg hk, h.mem]
      have : ¬ (k : Int) = n := by omega
      simp [this]
  · rw [List.length_append, List.length_singleton, h.cnt, List.count_set hlt, he]
    simp
  · rw [List.mem_append] at hk
    rcases hk with hk | hk
    · exact h.rch k hk
    · simp at hk
      have : k = n := by omega
      rw [this]
      exact hr
  · rw [List.mem_append] at hm
    rcases hm with hm | hm
    · exact h.nat m hm
    · simp at hm
      exact ⟨n, hm, by rw [← h.len]; exact hlt⟩
/-- what stays marked -/
theorem set_true {out : List Bool} {n k : Nat} (h : out[k]? = some true) : (out.set n true)[k]? = some true := by
  rw [List.getElem?_set]
  by_cases hk : n = k
  · subst hk
    simp [(List.getElem?_eq_some_iff.1 h).1]
  · rw [if_neg hk]
    exact h
/-- the numbers xs that are at least 0 are marked -/
def Marked (out : List Bool) (xs : List Int) : Prop := ∀ k : Nat, (k : Int) ∈ xs → out[k]? = some true
theorem Marked.nil (out : List Bool) : Marked out [] := fun k hk => by simp at hk
theorem Marked.set {out : List Bool} {xs : List Int} (h : Marked out xs) (n : Nat) : Marked (out.set n true) xs := fun k hk => set_true (h k hk)
theorem Marked.snoc {out : List Bool} {xs : List Int} (h : Marked out xs) {n : Int} (hn : 0 ≤ n → out[n.toNat]? = some true) : Marked out (xs ++ [n]) := fun k hk => by
  rw [List.mem_append] at hk
  rcases hk with hk | hk
  · exact h k hk
  · simp at hk
    have := hn (by omega)
    rwa [← hk] at this
/-- the first k of the list have been worked off -/
def Done (cs : List Cl) (out : List Bool) (l : List Int) (k : Nat) : Prop := ∀ (i : Nat) (n : Nat) (c : Cl), i < k → l[i]? = some (n : Int) → cs[n]? = some c → Marked out c.r
theorem Done.zero (cs : List Cl) (out : List Bool) (l : List Int) : Done cs out l 0 := fun i n c h => by omega
theorem Done.more {cs : List Cl} {out : List Bool} {l : List Int} {k n : Nat} {m : Int} (h : Done cs out l k) (hk : k ≤ l.length) : Done cs (out.set n true) (l ++ [m]) k := fun i n' c hi hl hc => by
  rw [List.getElem?_append_left (by omega)] at hl
  exact (h i n' c hi hl hc).set n
theorem Done.succ {cs : List Cl} {out : List Bool} {l : List Int} {k n : Nat} {c : Cl} (h : Done cs out l k) (hl : l[k]? = some (n : Int)) (hc : cs[n]? = some c) (hm : Marked out c.r) : Done cs out l (k + 1) := fun i n' c' hi hl' hc' => by
  rcases Nat.lt_or_ge i k with h1 | h1
  · exact h i n' c' h1 hl' hc'
  · obtain rfl : i = k := by omega
    rw [hl] at hl'
    have : n = n' := by
      injection hl' with hl'
      omega
    subst this
    rw [hc] at hc'
    injection hc' with hc'
    subst hc'
    exact hm
/-- all worked off: the marks are right -/
theorem Wk.fin {cs : List Cl} {a : List Int} {out : List Bool} {l : List Int} (h : Wk cs a out l) (hr : Marked out a) (hd : Done cs out l l.length) : out = reachL cs a := by
  refine reachL_eq h.len fun k hk => ⟨fun hm => h.rch k ((h.mem k).1 hm), fun hr' => ?_⟩
  refine Rch.inside (S := fun k => out[k]? = some true) hr (fun k m c hk hc hm => ?_) hr'
  have hl := (h.mem k).1 hk
  obtain ⟨i, hi⟩ := List.mem_iff_getElem?.1 hl
  exact hd i k c (List.getElem?_eq_some_iff.1 hi).1 hi hc m hm
end Hps
end Go.Proofs.YthmddmddcdofaaaDoor
namespace Go.Proofs.YthmddmddcdofaaaDoor
namespace Bm
end Bm
end Go.Proofs.YthmddmddcdofaaaDoor
namespace Go.Proofs.YthmddmddcdofaaaDoor
open Go.RowKit
/-- the slice value '.slice A n _' reads as the bools xs, and lies below block B -/
def OS (w : World) (B : Nat) (A : Option Addr) (n : Nat) (xs : List Bool) : Prop :=
  xs.length = n ∧ (0 < n → ∃ g o, A = some ⟨g, o, none⟩ ∧ g < B ∧ ∀ (k : Nat) (b : Bool), xs[k]? = some b → w.cell? ⟨g, o + k, none⟩ = some (.bool b))
section
variable {w w' : World} {B B' n : Nat} {A : Option Addr} {xs : List Bool}
theorem OS.keep (h : OS w B A n xs) (hk : ∀ p : Addr, p.block < B → w'.cell? p = w.cell? p) : OS w' B A n xs :=
  ⟨h.1, fun hn => by
    obtain ⟨g, o, e, hb, hc⟩ := h.2 hn
    exact ⟨g, o, e, hb, fun k x hx => (hk _ hb).trans (hc k x hx)⟩⟩
theorem OS.more (h : OS w B A n xs) (hB : B ≤ B') : OS w B' A n xs :=
  ⟨h.1, fun hn => by
    obtain ⟨g, o, e, hb, hc⟩ := h.2 hn
    exact ⟨g, o, e, by omega, hc⟩⟩
theorem OS.below (h : OS w B A n xs) (hb : Below B w w') : OS w' B A n xs := h.keep fun _ hp => hb.cell hp
theorem OS.up {w w' : World} {n : Nat} {A : Option Addr} {xs : List Bool} (h : OS w w.heap.size A n xs) (hb : Below w.heap.size w w') : OS w' w'.heap.size A n xs := (h.below hb).more hb.size
theorem OS.at_ {k : Nat} (h : OS w B A n xs) (hk : k < n) : ∃ g o b, A = some ⟨g, o, none⟩ ∧ g < B ∧ xs[k]? = some b ∧ w.cell? ⟨g, o + k, none⟩ = some (.bool b) := by
  obtain ⟨g, o, e, hb, hc⟩ := h.2 (by omega)
  have hl : k < xs.length := by have := h.1; omega
  have hx := List.getElem?_eq_getElem hl
  exact ⟨g, o, _, e, hb, hx, hc k _ hx⟩
theorem OS.none_ (w : World) (B : Nat) (A : Option Addr) : OS w B A 0 [] := ⟨rfl, fun h => by omega⟩
end
/-- the value v owns the bools xs, in a row from block 'base' on -/
def OwnO (w : World) (base : Nat) (v : Value) (xs : List Bool) : Prop := w.ownsRow base 4 1 v xs.length (xs.map .bool)
theorem OwnO.form {w : World} {base : Nat} {v : Value} {xs : List Bool} (h : OwnO w base v xs) : ∃ A c, v = .slice A xs.length c ∧ (0 < xs.length → ∃ g, A = some ⟨g, 0, none⟩ ∧ base ≤ g ∧ g < w.heap.size) := by
  rcases h.2 with ⟨rfl, h0⟩ | ⟨g, cap, cur, rfl, hb, hh, _⟩
  · exact ⟨none, 0, by rw [h0], fun h => by omega⟩
  · exact ⟨some ⟨g, 0, none⟩, cap, rfl, fun _ => ⟨g, rfl, hb, (Array.getElem?_eq_some_iff.1 hh).1⟩⟩
theorem OwnO.reads {w : World} {base n c : Nat} {A : Option Addr} {xs : List Bool} (h : OwnO w base (.slice A n c) xs) : OS w w.heap.size A n xs := by
  rcases h.2 with ⟨e, h0⟩ | ⟨g, cap, cur, e, hb, hh, _⟩
  · injection e with e1 e2 e3
    subst e2
    have : xs = [] := List.eq_nil_of_length_eq_zero h0
    subst this
    exact ⟨rfl, fun h => by omega⟩
  · injection e with e1 e2 e3
    subst e1 e2 e3
    refine ⟨rfl, fun hn => ⟨g, 0, rfl, (Array.getElem?_eq_some_iff.1 hh).1, fun k x hx => ?_⟩⟩
    have hk : k < xs.length := (List.getElem?_eq_some_iff.1 hx).1
    have c1 := World.ownsRow.cellAt h k (by omega)
    rw [Nat.zero_add]
    refine c1.trans ?_
    rw [List.getElem?_map, hx]
    rfl
theorem OwnO.below {w w' : World} {base B : Nat} {v : Value} {xs : List Bool} (h : OwnO w base v xs) (hb : Below B w w') (hB : w.heap.size ≤ B) : OwnO w' base v xs := by
  refine ⟨h.1, ?_⟩
  rcases h.2 with h0 | ⟨g, cap, cur, e, hb', hh, hr⟩
  · exact .inl h0
  · exact .inr ⟨g, cap, cur, e, hb', (hb.block g (Nat.lt_of_lt_of_le (Array.getElem?_eq_some_iff.1 hh).1 hB)).trans hh, hr⟩
theorem OwnO.base {w : World} {base base' : Nat} {v : Value} {xs : List Bool} (h : OwnO w base v xs) (hb : base' ≤ base) : OwnO w base' v xs := by
  refine ⟨h.1, ?_⟩
  rcases h.2 with h0 | ⟨g, cap, cur, e, hb', hh, hr⟩
  · exact .inl h0
  · exact .inr ⟨g, cap, cur, e, by omega, hh, hr⟩
theorem OwnO.far {w w' : World} {base : Nat} {v : Value} {xs : List Bool} {row : Option Nat} (h : OwnO w base v xs) (hg : w.grownBy w' row) (hne : v.ownBlock = none ∨ v.ownBlock ≠ row) : OwnO w' base v xs := World.ownsRow.kept h hg hne
theorem OwnO.cast {w : World} {base : Nat} {v : Value} {xs ys : List Bool} (e : xs = ys) (h : OwnO w base v xs) : OwnO w base v ys := e ▸ h
theorem OwnO.cap {w : World} {base n c : Nat} {A : Option Addr} {xs : List Bool} (h : OwnO w base (.slice A n c) xs) : n = xs.length ∧ n ≤ c := by
  rcases h.2 with ⟨e, h0⟩ | ⟨g, cap, cur, e, _, _, hc, _⟩
  · injection e with e1 e2 e3
    omega
  · injection e with e1 e2 e3
    omega
theorem own_noneO (w : World) (base : Nat) (hb : base ≤ w.heap.size) : OwnO (w.alloc (.cells #[] 4)) base (.slice (some ⟨w.heap.size, 0, none⟩) 0 0) [] :=
  World.ownsRow_lit (base := base) (e := 4) (size := 1) w #[] 0 hb (by unfold maxLen; omega) rfl
theorem own_oneO (w : World) (b : Bool) (base : Nat) (hb : base ≤ w.heap.size) : OwnO (w.alloc (.cells #[.bool b] 4)) base (.slice (some ⟨w.heap.size, 0, none⟩) 1 1) [b] :=
  World.ownsRow_lit (base := base) (e := 4) (size := 1) w #[.bool b] 1 hb (by unfold maxLen; omega) rfl
/-- one word of an owned row is written -/
theorem OwnO.put {w : World} {base g c j : Nat} {xs : List Bool} (h : OwnO w base (.slice (some ⟨g, 0, none⟩) xs.length c) xs) (b : Bool) :
    OwnO (w.setCell ⟨g, j, none⟩ (.bool b)) base (.slice (some ⟨g, 0, none⟩) xs.length c) (xs.set j b) := by
  have := (World.ownsRow.stored h j (.bool b)).1
  unfold OwnO
  rw [List.length_set, List.map_set]
  exact this
theorem info_bool : (Tryd.prog.info? 4).map (fun i => (i.zero, i.size, i.bytes)) = some (some (.bool false), 1, 1) := by kernel_rfl
theorem run_appendO (w : World) (base : Nat) (v : Value) (xs : List Bool) (hown : OwnO w base v xs) (A : Option Addr) (m c B : Nat) (ys : List Bool) (hr : OS w B A m ys) (hn : xs.length + m ≤ 1099511627776) (hbase : base ≤ w.heap.size) (ty : TypeId) :
    ∃ v' w', (Builtin.append_ #[37, 37] ty #[v, .slice A m c]).run Tryd.prog w = .ok v' w' ∧ OwnO w' base v' (xs ++ ys) ∧ w.grownBy w' v.ownBlock ∧ (v'.ownBlock = v.ownBlock ∨ v'.ownBlock = some w.heap.size) := by
  obtain ⟨i0, hi0, hz0, hz1, hz2⟩ := info_parts info_bool
  have hm := hr.1
  rcases A with _ | ad
  · have h0 : m = 0 := by
      rcases Nat.eq_zero_or_pos m with h0 | h0
      · exact h0
      · obtain ⟨g, o, e, _⟩ := hr.2 h0
        cases e
    subst h0
    have : ys = [] := List.eq_nil_of_length_eq_zero hm
    subst this
    refine ⟨v, w, ?_, by simpa using hown, World.grownBy.refl _ _, .inl rfl⟩
    rcases hown.2 with ⟨rfl, _⟩ | ⟨g, cap, cur, rfl, _, _, hnc, _⟩
    · simp [Builtin.append_, run_underlying Tryd.underlying37, sizeOf, typeInfo, hi0, Builtin.lenOf, Builtin.firstCells]
    · simp [Builtin.append_, run_underlying Tryd.underlying37, sizeOf, typeInfo, hi0, Builtin.lenOf, Builtin.firstCells, hnc, storeCells]
  · have hcells : ∀ j u, (ys.map Value.bool)[j]? = some u → w.cell? (ad.add j) = some u := by
      intro j u hj
      rcases Nat.eq_zero_or_pos m with h0 | h0
      · subst h0
        have : ys = [] := List.eq_nil_of_length_eq_zero hm
        subst this
        simp at hj
      · obtain ⟨g, o, e, _, hc⟩ := hr.2 h0
        replace e := Option.some.inj e
        subst e
        rw [add_lit]
        rw [List.getElem?_map] at hj
        cases hy : ys[j]? with
        | none => rw [hy] at hj; cases hj
        | some b =>
          rw [hy] at hj
          replace hj := Option.some.inj hj
          subst hj
          exact hc j b hy
    obtain ⟨v', w', hrun, h2, h3, _, h5⟩ := run_append_own_at (P := Tryd.prog) w base 37 ty 4 i0 _ 1 1 Tryd.underlying37 hi0 hz0 hz1 hz2 rfl (by omega) v xs.length (xs.map .bool) hown ad m c (ys.map .bool)
      (by rw [List.length_map, hm]; omega) hcells (by intro u hu; obtain ⟨b, _, rfl⟩ := List.mem_map.1 hu; rfl) (by unfold maxLen; omega) (by omega) hbase
    refine ⟨v', w', hrun, ?_, h3, h5⟩
    unfold OwnO
    rw [List.map_append, List.length_append, hm]
    exact h2
theorem wpList_appendO {w : World} {ops : Array Oper} {rest : List Oper} {o : Oper} {a : Act} {Q : Exit → Act → World → Prop} (hgd : o.guard = none) (s x : Operand)
    (ho : o.op = .call { callee := .builtin .append, args := #[s, x], argTypes := #[37, 37] })
    (base : Nat) (v : Value) (xs : List Bool) (hs : a.eval s = v) (hown : OwnO w base v xs) (A : Option Addr) (m c B : Nat) (ys : List Bool) (hx : a.eval x = .slice A m c) (hr : OS w B A m ys)
    (hn : xs.length + m ≤ 1099511627776) (hbase : base ≤ w.heap.size)
    (h : ∀ v' w', OwnO w' base v' (xs ++ ys) → w.grownBy w' v.ownBlock → (v'.ownBlock = v.ownBlock ∨ v'.ownBlock = some w.heap.size) → wpList Tryd.prog ops Q rest (a.put o.dst v') w') : wpList Tryd.prog ops Q (o :: rest) a w :=
  wpList_plain hgd fun _ hK => by
    obtain ⟨v', w', hrun, h2, h3, h4⟩ := run_appendO w base v xs hown A m c B ys hr hn hbase o.type
    unfold Oper.wp execOp
    simp only [ho, resolve, invoke, builtin, Sem.run_bind, Sem.run_pure, Result.andThen_ok, List.map_toArray, List.map_cons, List.map_nil, hs, hx, hrun]
    exact hK _ _ (h v' w' h2 h3 h4)
/-- bools of the call's own -/
def GaveO (w : World) (xs : List Bool) (e : Ending) (w' : World) : Prop := ∃ v, e = .returned v ∧ OwnO w' w.heap.size v xs ∧ Below w.heap.size w w'
theorem OwnO.put' {w : World} {base g c j n : Nat} {xs : List Bool} (h : OwnO w base (.slice (some ⟨g, 0, none⟩) n c) xs) (hn : xs.length = n) (b : Bool) :
    OwnO (w.setCell ⟨g, j, none⟩ (.bool b)) base (.slice (some ⟨g, 0, none⟩) n c) (xs.set j b) := by
  subst hn
  exact h.put b
theorem OwnO.frozen {w : World} {base g c n : Nat} {xs : List Bool} (h : OwnO w base (.slice (some ⟨g, 0, none⟩) n c) xs) (hn : xs.length = n) (i : Nat) : w.frozen? ⟨g, i, none⟩ = false := by
  subst hn
  exact World.ownsRow.frozenAt h i
theorem madeO_eq (n : Nat) : madeCells (Value.bool false).cells n = Array.replicate n (.bool false) := by
  apply Array.ext
  · simp [madeCells, Value.cells]
  · intro i h1 h2
    simp [madeCells, Value.cells, Nat.mod_one]
theorem makeO (W : World) (n : Nat) (hn : n ≤ 1099511627776) : (Instr.makeSlice 37 (.int .i64 n) (.int .i64 n)).run Tryd.prog W = .ok (.slice (some ⟨W.heap.size, 0, none⟩) n n) (W.alloc (.cells (Array.replicate n (.bool false)) 4)) := by
  obtain ⟨i0, hi0, hz0, hz1, hz2⟩ := info_parts info_bool
  have := run_make (P := Tryd.prog) W 37 4 i0 _ Tryd.underlying37 hi0 hz0 .i64 .i64 n n (by omega) (by omega) (by rw [hz2]; omega) (by omega)
  rw [hz1] at this
  rw [← madeO_eq]
  simpa using this
theorem own_madeO (w : World) (n : Nat) (hn : n ≤ 1099511627776) : OwnO (w.alloc (.cells (Array.replicate n (.bool false)) 4)) w.heap.size (.slice (some ⟨w.heap.size, 0, none⟩) n n) (List.replicate n false) := by
  have := World.ownsRow_lit (base := w.heap.size) (e := 4) (size := 1) w (Array.replicate n (.bool false)) n (Nat.le_refl _) (by unfold maxLen; omega) (by simp)
  unfold OwnO
  simpa using this
end Go.Proofs.YthmddmddcdofaaaDoor

namespace Go.Proofs.YthmddmddcdofaaaDoor
open Go.RowKit
/-- a heap as a value -/
abbrev heapV (A : Option Addr) (n c : Nat) (R : Option Addr) (m d : Nat) : Value := .agg #[.slice A n c, .slice R m d]
theorem l1In_yes (n lo hi : Int) (w : World) (k : Nat) (h1 : lo ≤ n) (h2 : n ≤ hi) : Calls Tryd.prog 61 #[.int .i64 n, .int .i64 lo, .int .i64 hi] (w.drewN k) fun e w' => e = .returned (.bool true) ∧ ∃ m, w' = w.drewN m :=
  (l1In_any n lo hi _).mono fun _ _ ⟨he, hw⟩ => ⟨by rw [he, decide_eq_true h1, decide_eq_true h2]; rfl, k, hw.symm⟩
theorem l1In_no (n lo hi : Int) (w : World) (k : Nat) (h : ¬ (lo ≤ n ∧ n ≤ hi)) : Calls Tryd.prog 61 #[.int .i64 n, .int .i64 lo, .int .i64 hi] (w.drewN k) fun e w' => e = .returned (.bool false) ∧ ∃ m, w' = w.drewN m :=
  (l1In_any n lo hi _).mono fun _ _ ⟨he, hw⟩ => ⟨by rw [he]; congr 1; simp; omega, k, hw.symm⟩
namespace Hps
theorem okRefs_no {cs : List Cl} {rs : List Int} {k : Nat} {n : Int} (hn : rs[k]? = some n) (h : okRef cs n = false) : okRefs cs rs = false := by
  cases hh : okRefs cs rs
  · rfl
  · rw [okRefs_at hh hn] at h
    cases h
theorem okCell_no {cs : List Cl} {c : Cl} (h : (c.u = false ∧ (c.d ≠ 0 ∨ 0 < c.r.length)) ∨ ¬ (0 ≤ c.d ∧ c.d ≤ 99) ∨ 3 < c.r.length ∨ okRefs cs c.r = false) : okCell cs c = false := by
  cases hh : okCell cs c
  · rfl
  · obtain ⟨h1, h2, h3, h4⟩ := okCell_iff.1 hh
    rcases h with ⟨e1, e2⟩ | e | e | e
    · rcases h1 with h1 | ⟨h1, h5⟩
      · rw [h1] at e1; cases e1
      · rcases e2 with e2 | e2
        · exact absurd h1 e2
        · rw [h5] at e2; simp at e2
    · exact absurd h2 e
    · omega
    · rw [h4] at e; cases e
theorem invalid_cell {h : Hp} {k : Nat} {c : Cl} (hc : h.cs[k]? = some c) (hn : okCell h.cs c = false) : validH h = false := by
  cases hh : validH h
  · rfl
  · rw [valid_cell hh hc] at hn
    cases hn
theorem valid_all {h : Hp} (ha : ∀ c ∈ h.cs, okCell h.cs c = true) : validH h = (decide (h.cs.length ≤ 40) && decide (h.rt.length = 4) && okRefs h.cs h.rt) := by
  have : h.cs.all (okCell h.cs) = true := by simpa using ha
  rw [validH, this, Bool.true_and]
theorem okRef_out {cs : List Cl} {n : Int} (h1 : n ≠ -1) (h2 : ¬ (0 ≤ n ∧ n ≤ (cs.length : Int) - 1)) : okRef cs n = false := by
  cases hh : okRef cs n
  · rfl
  · have := okRef_lo hh
    omega
theorem okRef_at {cs : List Cl} {k : Nat} {c : Cl} (hc : cs[k]? = some c) : okRef cs (k : Int) = c.u := by
  have h1 : ((k : Int) == -1) = false := by rw [beq_eq_false_iff_ne]; omega
  have h2 : (0 : Int) ≤ k := by omega
  simp [okRef, h1, usedAt, hc]
end Hps
set_option maxHeartbeats 1000000 in
theorem l7Refs_any (A R F : Option Addr) (n c m d q e : Nat) (h : Hp) (rs : List Int) (w : World) (hs : HS w w.heap.size A n R m h) (hf : IS w w.heap.size F q rs) (hn : n ≤ 1099511627776) (hq : q ≤ 1099511627776) :
    Calls Tryd.prog 62 #[heapV A n c R m d, .slice F q e] w fun e w' => e = .returned (.bool (Hps.okRefs h.cs rs)) ∧ Below w.heap.size w w' := by
  have hlc := hs.cells.1
  have hlr := hf.1
  go_enter Tryd.func62, Tryd.ntmps62
  go_wp2_with fail
  go_loopw [5] (fun i wr => ∃ k : Nat, k ≤ q ∧ i = .int .i64 k ∧ Hid (∀ j x, j < k → rs[j]? = some x → Hps.okRef h.cs x = true) ∧ Below w.heap.size w wr ∧ Rw wr w.heap.size 26 #[.slice A n c, .slice R m d]) (fun i _ => q - (intOf i).toNat)
  case atStart => exact ⟨0, Nat.zero_le _, rfl, Lib.hid (fun j x hj => by omega), (Below.refl _ _).alloc (Nat.le_refl _) _, Rw.new _ _ _⟩
  case round =>
    obtain ⟨k, hk, rfl, HP, bb, hw⟩ := hrel
    have z0 : wr.cell? ⟨w.heap.size, 0, none⟩ = some (.slice A n c) := hw.cell 0
    by_cases hlt : k < q
    · obtain ⟨g, o, x, rfl, hg, hx, c1⟩ := (hf.below bb).at_ hlt
      have hlt' : (k : Int) < q := by omega
      have HN : Hps.okRef h.cs x = true → Hid (∀ j y, j < k + 1 → rs[j]? = some y → Hps.okRef h.cs y = true) := fun hok => Lib.hid fun j y hj hy => by
        rcases Nat.lt_or_ge j k with h1 | h1
        · exact HP.out j y h1 hy
        · obtain rfl : j = k := by omega
          rw [hx] at hy
          injection hy with hy
          rw [← hy]
          exact hok
      have HX := Lib.hid hx
      clear hx
      by_cases hm1 : x = -1
      · subst hm1
        have HN2 := HN (by simp [Hps.okRef])
        clear HN
        go_wp2_with fail
        go_big_quiet (fail)
        go_wp2
        go_roundw
        case rel => exact ⟨k + 1, by omega, by go_num, HN2, below_drewN bb _, hw⟩
        case measure => simp [intOf]; omega
      · have hne : (x != -1) = true := by rw [bne_iff_ne]; exact hm1
        by_cases hin : 0 ≤ x ∧ x ≤ (n : Int) - 1
        · obtain ⟨y, rfl⟩ := Int.eq_ofNat_of_zero_le hin.1
          obtain ⟨g', o', cl, A', m', cc, e1, hg', hcl, d1, d2, d3, _, _⟩ := (hs.cells.below bb).at_ (k := y) (by omega)
          subst e1
          have hok := Hps.okRef_at hcl
          have hyn : (y : Int) < n := by omega
          have hyp : (0 : Int) ≤ y := by omega
          have hy1 : (y : Int) ≤ n - 1 := by omega
          have hnw : IntKind.i64.wrap ((n : Int) - 1) = (n : Int) - 1 := IntWalk.i64_in _ (by omega)
          clear d2 d3 hin hm1
          cases hu : cl.u
          · have HR := Lib.hid (Hps.okRefs_no HX.out (by rw [hok, hu]))
            rw [hu] at d1
            clear hok hu hcl HN
            go_wp2_with fail
            go_big_quiet ((go_at_call 61; exact l1In_yes _ _ _ _ _ hyp hy1))
            go_wp2
            go_ret
            exact ⟨by rw [HR.out]; rfl, below_drewN bb _⟩
          · have HN2 := HN (by rw [hok, hu])
            rw [hu] at d1
            clear hok hu hcl HN
            go_wp2_with fail
            go_big_quiet ((go_at_call 61; exact l1In_yes _ _ _ _ _ hyp hy1))
            go_wp2
            go_roundw
            case rel => exact ⟨k + 1, by omega, by go_num, HN2, below_drewN bb _, hw⟩
            case measure => simp [intOf]; omega
        · have HR := Lib.hid (Hps.okRefs_no HX.out (Hps.okRef_out hm1 (by rw [hlc]; exact hin)))
          have hnw : IntKind.i64.wrap ((n : Int) - 1) = (n : Int) - 1 := IntWalk.i64_in _ (by omega)
          clear HN
          go_wp2_with fail
          go_big_quiet ((go_at_call 61; exact l1In_no _ _ _ _ _ hin))
          go_wp2
          go_ret
          exact ⟨by rw [HR.out]; rfl, below_drewN bb _⟩
    · obtain rfl : k = q := by omega
      have HR := Lib.hid (show Hps.okRefs h.cs rs = true by
        rw [Hps.okRefs_iff]
        intro x hx
        obtain ⟨j, hj⟩ := List.mem_iff_getElem?.1 hx
        exact HP.out j x (by rw [← hlr]; exact (List.getElem?_eq_some_iff.1 hj).1) hj)
      go_wp2_with fail
      go_ret
      exact ⟨by rw [HR.out]; rfl, bb⟩
set_option maxHeartbeats 1000000 in
theorem mHeapValid_any (A R : Option Addr) (n c m d : Nat) (h : Hp) (w : World) (hs : HS w w.heap.size A n R m h) (hn : n ≤ 1099511627776) (hm : m ≤ 1099511627776) :
    Calls Tryd.prog 17 #[heapV A n c R m d] w fun e w' => e = .returned (.bool (Hps.validH h)) ∧ Below w.heap.size w w' := by
  have hlc := hs.cells.1
  have hlr := hs.roots.1
  go_enter Tryd.func17, Tryd.ntmps17
  go_wp2_with fail
  go_loopw [3] (fun i wr => ∃ k : Nat, k ≤ n ∧ i = .int .i64 k ∧ Hid (∀ j cl, j < k → h.cs[j]? = some cl → Hps.okCell h.cs cl = true) ∧ Below w.heap.size w wr ∧ Rw wr w.heap.size 26 #[.slice A n c, .slice R m d]) (fun i _ => n - (intOf i).toNat)
  case atStart => exact ⟨0, Nat.zero_le _, rfl, Lib.hid (fun j x hj => by omega), (Below.refl _ _).alloc (Nat.le_refl _) _, Rw.new _ _ _⟩
  case round =>
    obtain ⟨k, hk, rfl, HP, bb, hw⟩ := hrel
    have z0 : wr.cell? ⟨w.heap.size, 0, none⟩ = some (.slice A n c) := hw.cell 0
    have z1 : wr.cell? ⟨w.heap.size, 1, none⟩ = some (.slice R m d) := hw.cell 1
    by_cases hlt : k < n
    · obtain ⟨g, o, cl, A', m', cc, e1, hg, hcl, d1, d2, d3, hmc, hi⟩ := (hs.cells.below bb).at_ hlt
      subst e1
      have hlt' : (k : Int) < n := by omega
      have hl3 := hi.1
      have HCL := Lib.hid hcl
      have hwl : w.heap.size < wr.heap.size := hw.lt
      have HN : Hps.okCell h.cs cl = true → Hid (∀ j c', j < k + 1 → h.cs[j]? = some c' → Hps.okCell h.cs c' = true) := fun hok => Lib.hid fun j y hj hy => by
        rcases Nat.lt_or_ge j k with h1 | h1
        · exact HP.out j y h1 hy
        · obtain rfl : j = k := by omega
          rw [HCL.out] at hy
          injection hy with hy
          rw [← hy]
          exact hok
      clear hcl
      cases hu : cl.u
      · rw [hu] at d1
        have bW : Below w.heap.size w (wr.alloc (.cells #[.bool false, .int .i64 cl.d, .slice A' m' cc] 40)) := bb.alloc bb.size _
        have hsW : HS (wr.alloc (.cells #[.bool false, .int .i64 cl.d, .slice A' m' cc] 40)) (wr.alloc (.cells #[.bool false, .int .i64 cl.d, .slice A' m' cc] 40)).heap.size (some ⟨g, o, none⟩) n R m h := (hs.below bW).more bW.size
        have hiW : IS (wr.alloc (.cells #[.bool false, .int .i64 cl.d, .slice A' m' cc] 40)) (wr.alloc (.cells #[.bool false, .int .i64 cl.d, .slice A' m' cc] 40)).heap.size A' m' cl.r := (hi.keep fun p hp => Below.cell ((Below.refl w.heap.size wr).alloc bb.size _) hp).more bW.size
        by_cases hd0 : cl.d = 0
        · have hd0' : (cl.d != 0) = false := by rw [bne_eq_false_iff_eq]; exact hd0
          have HD0 := Lib.hid hd0
          clear hd0
          by_cases hm0 : m' = 0
          · subst hm0
            have HNIL := Lib.hid (show cl.r = [] from List.eq_nil_of_length_eq_zero (by omega))
            go_wp2_with fail
            by_cases hd : 0 ≤ cl.d ∧ cl.d ≤ 99
            · have HD := Lib.hid (show (decide ((0 : Int) ≤ cl.d) && decide (cl.d ≤ 99)) = true by simp; omega)
              refine (l1In_any _ _ _ _).mono ?_
              rw [HD.out]
              rintro e w1 ⟨rfl, rfl⟩
              by_cases h3 : 0 ≤ 3
              · have h3' : decide ((3 : Int) < (0 : Int)) = false := decide_eq_false (by omega)
                go_wp2_with fail
                refine (l7Refs_any _ _ _ _ _ _ _ _ _ h cl.r _ hsW hiW hn (by omega)).mono ?_
                cases HO : Hps.okRefs h.cs cl.r
                · have HR := Lib.hid (Hps.invalid_cell HCL.out (Hps.okCell_no (.inr (.inr (.inr HO)))))
                  rintro e w2 ⟨rfl, b2⟩
                  have bW := bW.trans (b2.mono bW.size)
                  go_wp2_with fail
                  go_ret
                  exact ⟨by rw [HR.out]; rfl, bW⟩
                · have HN2 := HN (Hps.okCell_iff.2 ⟨.inr ⟨HD0.out, HNIL.out⟩, hd, by omega, HO⟩)
                  rintro e w2 ⟨rfl, b2⟩
                  have bW2 := bW.trans (b2.mono bW.size)
                  have hw2 := (hw.alloc (.cells #[.bool false, .int .i64 cl.d, .slice A' 0 cc] 40)).keep b2 (by simp; have := hw.lt; omega)
                  clear bW
                  go_wp2_with fail
                  go_roundw
                  case rel => exact ⟨k + 1, by omega, by go_num, HN2, bW2, hw2⟩
                  case measure => simp [intOf]; omega
              · exact absurd (Nat.zero_le _) h3
            · have HD := Lib.hid (show (decide ((0 : Int) ≤ cl.d) && decide (cl.d ≤ 99)) = false by simp; omega)
              have HR := Lib.hid (Hps.invalid_cell HCL.out (Hps.okCell_no (.inr (.inl hd))))
              refine (l1In_any _ _ _ _).mono ?_
              rw [HD.out]
              rintro e w1 ⟨rfl, rfl⟩
              go_wp2_with fail
              go_ret
              exact ⟨by rw [HR.out]; rfl, bW⟩
          · have hm0' : (0 : Int) < (m' : Int) := by omega
            have HR := Lib.hid (Hps.invalid_cell HCL.out (Hps.okCell_no (.inl ⟨hu, .inr (by omega)⟩)))
            go_wp2_with fail
            go_ret
            exact ⟨by rw [HR.out]; rfl, bW⟩
        · have hd0' : (cl.d != 0) = true := by rw [bne_iff_ne]; exact hd0
          have HR := Lib.hid (Hps.invalid_cell HCL.out (Hps.okCell_no (.inl ⟨hu, .inl hd0⟩)))
          go_wp2_with fail
          go_ret
          exact ⟨by rw [HR.out]; rfl, bW⟩
      · rw [hu] at d1
        have bW : Below w.heap.size w (wr.alloc (.cells #[.bool true, .int .i64 cl.d, .slice A' m' cc] 40)) := bb.alloc bb.size _
        have hsW : HS (wr.alloc (.cells #[.bool true, .int .i64 cl.d, .slice A' m' cc] 40)) (wr.alloc (.cells #[.bool true, .int .i64 cl.d, .slice A' m' cc] 40)).heap.size (some ⟨g, o, none⟩) n R m h := (hs.below bW).more bW.size
        have hiW : IS (wr.alloc (.cells #[.bool true, .int .i64 cl.d, .slice A' m' cc] 40)) (wr.alloc (.cells #[.bool true, .int .i64 cl.d, .slice A' m' cc] 40)).heap.size A' m' cl.r := (hi.keep fun p hp => Below.cell ((Below.refl w.heap.size wr).alloc bb.size _) hp).more bW.size
        go_wp2_with fail
        by_cases hd : 0 ≤ cl.d ∧ cl.d ≤ 99
        · have HD := Lib.hid (show (decide ((0 : Int) ≤ cl.d) && decide (cl.d ≤ 99)) = true by simp; omega)
          refine (l1In_any _ _ _ _).mono ?_
          rw [HD.out]
          rintro e w1 ⟨rfl, rfl⟩
          by_cases h3 : m' ≤ 3
          · have h3' : decide ((3 : Int) < ((m' : Nat) : Int)) = false := decide_eq_false (by omega)
            go_wp2_with fail
            refine (l7Refs_any _ _ _ _ _ _ _ _ _ h cl.r _ hsW hiW hn (by omega)).mono ?_
            cases HO : Hps.okRefs h.cs cl.r
            · have HR := Lib.hid (Hps.invalid_cell HCL.out (Hps.okCell_no (.inr (.inr (.inr HO)))))
              rintro e w2 ⟨rfl, b2⟩
              have bW := bW.trans (b2.mono bW.size)
              go_wp2_with fail
              go_ret
              exact ⟨by rw [HR.out]; rfl, bW⟩
            · have HN2 := HN (Hps.okCell_iff.2 ⟨.inl hu, hd, by omega, HO⟩)
              rintro e w2 ⟨rfl, b2⟩
              have bW2 := bW.trans (b2.mono bW.size)
              have hw2 := (hw.alloc (.cells #[.bool true, .int .i64 cl.d, .slice A' m' cc] 40)).keep b2 (by simp; have := hw.lt; omega)
              clear bW
              go_wp2_with fail
              go_roundw
              case rel => exact ⟨k + 1, by omega, by go_num, HN2, bW2, hw2⟩
              case measure => simp [intOf]; omega
          · have h3' : (3 : Int) < ((m' : Nat) : Int) := by omega
            have HR := Lib.hid (Hps.invalid_cell HCL.out (Hps.okCell_no (.inr (.inr (.inl (by omega))))))
            go_wp2_with fail
            go_ret
            exact ⟨by rw [HR.out]; rfl, bW⟩
        · have HD := Lib.hid (show (decide ((0 : Int) ≤ cl.d) && decide (cl.d ≤ 99)) = false by simp; omega)
          have HR := Lib.hid (Hps.invalid_cell HCL.out (Hps.okCell_no (.inr (.inl hd))))
          refine (l1In_any _ _ _ _).mono ?_
          rw [HD.out]
          rintro e w1 ⟨rfl, rfl⟩
          go_wp2_with fail
          go_ret
          exact ⟨by rw [HR.out]; rfl, bW⟩
    · obtain rfl : k = n := by omega
      have hall : ∀ cl ∈ h.cs, Hps.okCell h.cs cl = true := fun cl hcl => by
        obtain ⟨j, hj⟩ := List.mem_iff_getElem?.1 hcl
        exact HP.out j cl (by rw [← hlc]; exact (List.getElem?_eq_some_iff.1 hj).1) hj
      have HV := Lib.hid (Hps.valid_all hall)
      have HSW := Lib.hid ((hs.below bb).more bb.size)
      clear hall HP
      by_cases h40 : k ≤ 40
      · have h40' : (k : Int) ≤ 40 := by omega
        by_cases h4 : m = 4
        · subst h4
          go_wp2_with fail
          refine (l7Refs_any _ _ _ _ _ _ _ _ _ h h.rt _ HSW.out HSW.out.roots hn hm).mono ?_
          rintro e w2 ⟨rfl, b2⟩
          have HR := Lib.hid (show Hps.validH h = Hps.okRefs h.cs h.rt by rw [HV.out, hlc, hlr, decide_eq_true h40]; rfl)
          go_wp2_with fail
          go_ret
          exact ⟨by rw [HR.out]; rfl, bb.trans (b2.mono bb.size)⟩
        · have h4' : ((m : Int) == 4) = false := by rw [beq_eq_false_iff_ne]; omega
          have h4n : (m == 4) = false := by rw [beq_eq_false_iff_ne]; exact h4
          have HR := Lib.hid (show Hps.validH h = false by rw [HV.out, hlr, decide_eq_false h4]; simp)
          go_wp2_with fail
          go_ret
          exact ⟨by rw [HR.out]; rfl, bb⟩
      · have h40' : decide ((k : Int) ≤ 40) = false := decide_eq_false (by omega)
        have h40n : decide (k ≤ 40) = false := decide_eq_false h40
        have HR := Lib.hid (show Hps.validH h = false by rw [HV.out, hlc, decide_eq_false h40]; simp)
        go_wp2_with fail
        go_ret
        exact ⟨by rw [HR.out]; rfl, bb⟩
end Go.Proofs.YthmddmddcdofaaaDoor

namespace Go.Proofs.YthmddmddcdofaaaDoor
/-- an instruction -/
structure Cm where
  op : Int
  a : Int
  b : Int
  c : Int
  deriving DecidableEq, Inhabited
namespace Hps
def inR (n lo hi : Int) : Bool := decide (lo ≤ n) && decide (n ≤ hi)
theorem inR_iff {n lo hi : Int} : inR n lo hi = true ↔ lo ≤ n ∧ n ≤ hi := by simp [inR]
def okCm (o : Cm) : Bool :=
  if o.op = 1 then inR o.a 0 3 && inR o.b 0 3 && inR o.c 0 99
  else if o.op = 2 ∨ o.op = 3 then inR o.a 0 3 && inR o.b 0 3 && inR o.c 0 2
  else if o.op = 4 then inR o.a 0 3 && inR o.b 0 3 && decide (o.c = 0)
  else if o.op = 5 then inR o.a 0 3 && decide (o.b = 0) && decide (o.c = 0)
  else if o.op = 6 then inR o.a 0 3 && inR o.b 0 99 && decide (o.c = 0)
  else false
theorem okCm_op {o : Cm} (h : okCm o = true) : o.op = 1 ∨ o.op = 2 ∨ o.op = 3 ∨ o.op = 4 ∨ o.op = 5 ∨ o.op = 6 := by
  unfold okCm at h
  by_cases h1 : o.op = 1
  · omega
  rw [if_neg h1] at h
  by_cases h2 : o.op = 2 ∨ o.op = 3
  · omega
  rw [if_neg h2] at h
  by_cases h4 : o.op = 4
  · omega
  rw [if_neg h4] at h
  by_cases h5 : o.op = 5
  · omega
  rw [if_neg h5] at h
  by_cases h6 : o.op = 6
  · omega
  rw [if_neg h6] at h
  cases h
theorem okCm_new {o : Cm} (ho : o.op = 1) : okCm o = true ↔ (0 ≤ o.a ∧ o.a ≤ 3) ∧ (0 ≤ o.b ∧ o.b ≤ 3) ∧ (0 ≤ o.c ∧ o.c ≤ 99) := by
  simp [okCm, ho, inR_iff, and_assoc]
theorem okCm_get {o : Cm} (ho : o.op = 2 ∨ o.op = 3) : okCm o = true ↔ (0 ≤ o.a ∧ o.a ≤ 3) ∧ (0 ≤ o.b ∧ o.b ≤ 3) ∧ (0 ≤ o.c ∧ o.c ≤ 2) := by
  have h1 : ¬ o.op = 1 := by omega
  simp [okCm, ho, h1, inR_iff, and_assoc]
theorem okCm_copy {o : Cm} (ho : o.op = 4) : okCm o = true ↔ (0 ≤ o.a ∧ o.a ≤ 3) ∧ (0 ≤ o.b ∧ o.b ≤ 3) ∧ o.c = 0 := by
  simp [okCm, ho, inR_iff, and_assoc]
theorem okCm_drop {o : Cm} (ho : o.op = 5) : okCm o = true ↔ (0 ≤ o.a ∧ o.a ≤ 3) ∧ o.b = 0 ∧ o.c = 0 := by
  simp [okCm, ho, inR_iff, and_assoc]
theorem okCm_data {o : Cm} (ho : o.op = 6) : okCm o = true ↔ (0 ≤ o.a ∧ o.a ≤ 3) ∧ (0 ≤ o.b ∧ o.b ≤ 99) ∧ o.c = 0 := by
  simp [okCm, ho, inR_iff, and_assoc]
theorem okCm_a {o : Cm} (h : okCm o = true) : 0 ≤ o.a ∧ o.a ≤ 3 := by
  rcases okCm_op h with e | e | e | e | e | e
  · exact ((okCm_new e).1 h).1
  · exact ((okCm_get (.inl e)).1 h).1
  · exact ((okCm_get (.inr e)).1 h).1
  · exact ((okCm_copy e).1 h).1
  · exact ((okCm_drop e).1 h).1
  · exact ((okCm_data e).1 h).1
/-- the root with a number -/
def rootAt (h : Hp) (i : Int) : Int := (h.rt[i.toNat]?).getD (-1)
/-- the reference at a place of a cell -/
def refAt (cs : List Cl) (n p : Int) : Int := match cs[n.toNat]? with
  | some c => (c.r[p.toNat]?).getD (-1)
  | none => -1
/-- a cell with a reference at the place -/
def placeH (cs : List Cl) (n p : Int) : Bool := decide (0 ≤ n) && (match cs[n.toNat]? with
  | some c => decide (p < c.r.length)
  | none => false)
theorem placeH_iff {cs : List Cl} {n p : Int} : placeH cs n p = true ↔ ∃ (k : Nat) (c : Cl), n = k ∧ cs[k]? = some c ∧ p < c.r.length := by
  unfold placeH
  constructor
  · intro h
    rw [Bool.and_eq_true] at h
    obtain ⟨h1, h2⟩ := h
    have h1 := of_decide_eq_true h1
    cases e : cs[n.toNat]? with
    | none => rw [e] at h2; cases h2
    | some c => rw [e] at h2; exact ⟨n.toNat, c, by omega, e, of_decide_eq_true h2⟩
  · rintro ⟨k, c, rfl, hc, hp⟩
    simp [hc, hp]
def canH (h : Hp) (o : Cm) : Bool := validH h && okCm o && (if o.op = 2 then placeH h.cs (rootAt h o.b) o.c else if o.op = 3 then placeH h.cs (rootAt h o.a) o.c else if o.op = 6 then decide (0 ≤ rootAt h o.a) else true)
/-- the cell of OpNew -/
def newCl (o : Cm) : Cl := ⟨true, o.c, List.replicate o.b.toNat (-1)⟩
def putCl (cs : List Cl) (p : Nat) (c : Cl) : List Cl := if p = cs.length then cs ++ [c] else cs.set p c
def setRef (cs : List Cl) (k i : Nat) (x : Int) : List Cl := match cs[k]? with
  | some c => cs.set k ⟨c.u, c.d, c.r.set i x⟩
  | none => cs
def setDat (cs : List Cl) (k : Nat) (x : Int) : List Cl := match cs[k]? with
  | some c => cs.set k ⟨c.u, x, c.r⟩
  | none => cs
def doH (h : Hp) (o : Cm) (p : Nat) : Hp :=
  if o.op = 1 then ⟨putCl h.cs p (newCl o), h.rt.set o.a.toNat p⟩
  else if o.op = 2 then ⟨h.cs, h.rt.set o.a.toNat (refAt h.cs (rootAt h o.b) o.c)⟩
  else if o.op = 3 then ⟨setRef h.cs (rootAt h o.a).toNat o.c.toNat (rootAt h o.b), h.rt⟩
  else if o.op = 4 then ⟨h.cs, h.rt.set o.a.toNat (rootAt h o.b)⟩
  else if o.op = 5 then ⟨h.cs, h.rt.set o.a.toNat (-1)⟩
  else if o.op = 6 then ⟨setDat h.cs (rootAt h o.a).toNat o.b, h.rt⟩
  else h
def zeroH : Hp := ⟨[], []⟩
def stepH (h : Hp) (o : Cm) : Hp × Bool :=
  if validH h && okCm o then
    (if !canH h o || (decide (o.op = 1) && decide (h.cs.length = 40)) then (h, false) else (doH h o h.cs.length, true))
  else (zeroH, false)
/-- what is used stays used -/
theorem okRefs_mono {cs cs' : List Cl} (h : ∀ k, usedAt cs k = true → usedAt cs' k = true) {rs : List Int} (hr : okRefs cs rs = true) : okRefs cs' rs = true := by
  rw [okRefs_iff] at hr ⊢
  intro n hn
  have := hr n hn
  rw [okRef_iff] at this ⊢
  rcases this with e | ⟨e1, e2⟩
  · exact .inl e
  · exact .inr ⟨e1, h _ e2⟩
theorem okCell_mono {cs cs' : List Cl} (h : ∀ k, usedAt cs k = true → usedAt cs' k = true) {c : Cl} (hc : okCell cs c = true) : okCell cs' c = true := by
  rw [okCell_iff] at hc ⊢
  exact ⟨hc.1, hc.2.1, hc.2.2.1, okRefs_mono h hc.2.2.2⟩
theorem okRef_none (cs : List Cl) : okRef cs (-1) = true := by simp [okRef]
theorem okRefs_set {cs : List Cl} {rs : List Int} {i : Nat} {x : Int} (h : okRefs cs rs = true) (hx : okRef cs x = true) : okRefs cs (rs.set i x) = true := by
  rw [okRefs_iff] at h ⊢
  intro n hn
  rcases List.mem_or_eq_of_mem_set hn with h1 | rfl
  · exact h n h1
  · exact hx
theorem root_ok {h : Hp} (hv : validH h = true) (i : Int) : okRef h.cs (rootAt h i) = true := by
  unfold rootAt
  cases e : h.rt[i.toNat]? with
  | none => exact okRef_none _
  | some n => exact valid_root hv e
theorem ref_ok {h : Hp} (hv : validH h = true) (n p : Int) : okRef h.cs (refAt h.cs n p) = true := by
  unfold refAt
  cases e : h.cs[n.toNat]? with
  | none => exact okRef_none _
  | some c =>
    simp only
    cases e2 : c.r[p.toNat]? with
    | none => exact okRef_none _
    | some x => exact valid_ref hv e e2
theorem set_root_valid {h : Hp} (hv : validH h = true) (i : Nat) {x : Int} (hx : okRef h.cs x = true) : validH ⟨h.cs, h.rt.set i x⟩ = true := by
  obtain ⟨h1, h2, h3, h4⟩ := valid_iff.1 hv
  exact valid_iff.2 ⟨h1, h2, by simp [h3], okRefs_set h4 hx⟩
theorem used_set {cs : List Cl} {k : Nat} {c c' : Cl} (hc : cs[k]? = some c) (hu : c.u = true → c'.u = true) (j : Nat) (h : usedAt cs j = true) : usedAt (cs.set k c') j = true := by
  obtain ⟨x, h1, h2⟩ := usedAt_iff.1 h
  rw [usedAt_iff, List.getElem?_set]
  by_cases e : k = j
  · subst e
    rw [hc] at h1
    injection h1 with h1
    subst h1
    exact ⟨c', by simp [(List.getElem?_eq_some_iff.1 hc).1], hu h2⟩
  · exact ⟨x, by simp [e, h1], h2⟩
/-- a cell is put in the place of one that is used no more than it -/
theorem set_cell_valid {h : Hp} (hv : validH h = true) {k : Nat} {c c' : Cl} (hc : h.cs[k]? = some c) (hu : c.u = true → c'.u = true) (ho : okCell (h.cs.set k c') c' = true) : validH ⟨h.cs.set k c', h.rt⟩ = true := by
  obtain ⟨h1, h2, h3, h4⟩ := valid_iff.1 hv
  have hm := used_set hc hu
  refine valid_iff.2 ⟨fun x hx => ?_, by simp [h2], h3, okRefs_mono hm h4⟩
  rcases List.mem_or_eq_of_mem_set hx with hx | rfl
  · exact okCell_mono hm (h1 x hx)
  · exact ho
theorem used_append {cs : List Cl} (c : Cl) (j : Nat) (h : usedAt cs j = true) : usedAt (cs ++ [c]) j = true := by
  obtain ⟨x, h1, h2⟩ := usedAt_iff.1 h
  exact usedAt_iff.2 ⟨x, by rw [List.getElem?_append_left (List.getElem?_eq_some_iff.1 h1).1]; exact h1, h2⟩
theorem append_cell_valid {h : Hp} (hv : validH h = true) {c : Cl} (hl : h.cs.length < 40) (ho : okCell (h.cs ++ [c]) c = true) : validH ⟨h.cs ++ [c], h.rt⟩ = true := by
  obtain ⟨h1, h2, h3, h4⟩ := valid_iff.1 hv
  have hm := used_append (cs := h.cs) c
  refine valid_iff.2 ⟨fun x hx => ?_, by simp; omega, h3, okRefs_mono hm h4⟩
  rcases List.mem_append.1 hx with hx | hx
  · exact okCell_mono hm (h1 x hx)
  · rw [List.mem_singleton] at hx
    subst hx
    exact ho
theorem new_ok {o : Cm} (h1 : o.op = 1) (h : okCm o = true) (cs : List Cl) : okCell cs (newCl o) = true := by
  obtain ⟨_, hb, hc⟩ := (okCm_new h1).1 h
  refine okCell_iff.2 ⟨.inl rfl, hc, by simp [newCl]; omega, okRefs_iff.2 fun n hn => ?_⟩
  simp only [newCl, List.mem_replicate] at hn
  rw [hn.2]
  exact okRef_none _
theorem put_valid {h : Hp} (hv : validH h = true) {p : Nat} (hp : p ≤ h.cs.length) (h4 : p < 40) {c : Cl} (hu : c.u = true) (ho : ∀ cs, okCell cs c = true) : validH ⟨putCl h.cs p c, h.rt⟩ = true := by
  unfold putCl
  by_cases e : p = h.cs.length
  · rw [if_pos e]
    exact append_cell_valid hv (by omega) (ho _)
  · rw [if_neg e]
    exact set_cell_valid hv (List.getElem?_eq_getElem (show p < h.cs.length by omega)) (fun _ => hu) (ho _)
theorem put_used {cs : List Cl} {p : Nat} (hp : p ≤ cs.length) {c : Cl} (hu : c.u = true) : usedAt (putCl cs p c) p = true := by
  unfold putCl
  by_cases e : p = cs.length
  · rw [if_pos e, usedAt_iff]
    exact ⟨c, by simp [e], hu⟩
  · rw [if_neg e, usedAt_iff]
    exact ⟨c, by rw [List.getElem?_set]; simp; omega, hu⟩
theorem doH_valid {h : Hp} {o : Cm} {p : Nat} (hc : canH h o = true) (hp : o.op = 1 → p ≤ h.cs.length ∧ p < 40) : validH (doH h o p) = true := by
  unfold canH at hc
  rw [Bool.and_eq_true, Bool.and_eq_true] at hc
  obtain ⟨⟨hv, ho⟩, hc⟩ := hc
  unfold doH
  by_cases h1 : o.op = 1
  · rw [if_pos h1]
    obtain ⟨q1, q2⟩ := hp h1
    have v1 := put_valid hv q1 q2 (c := newCl o) rfl (new_ok h1 ho)
    exact set_root_valid v1 _ (okRef_iff.2 (.inr ⟨by omega, by simpa using put_used q1 (c := newCl o) rfl⟩))
  rw [if_neg h1]
  by_cases h2 : o.op = 2
  · rw [if_pos h2]
    exact set_root_valid hv _ (ref_ok hv _ _)
  rw [if_neg h2]
  by_cases h3 : o.op = 3
  · rw [if_pos h3]
    rw [if_neg h2, if_pos h3] at hc
    obtain ⟨k, c, e, hk, _⟩ := placeH_iff.1 hc
    rw [e, Int.toNat_natCast, setRef, hk]
    have ok := okCell_iff.1 (valid_cell hv hk)
    have hm := used_set (c' := ⟨c.u, c.d, c.r.set o.c.toNat (rootAt h o.b)⟩) hk (fun h => h)
    have hcu : c.u = true := by
      have := root_ok hv o.a
      rw [e, okRef_iff] at this
      rcases this with e' | ⟨_, e'⟩
      · omega
      · obtain ⟨x, hx, hxu⟩ := usedAt_iff.1 e'
        rw [Int.toNat_natCast, hk] at hx
        injection hx with hx
        rw [hx]
        exact hxu
    refine set_cell_valid hv hk (fun h => h) (okCell_iff.2 ⟨.inl hcu, ok.2.1, by simpa using ok.2.2.1, okRefs_mono hm (okRefs_set ok.2.2.2 (root_ok hv _))⟩)
  rw [if_neg h3]
  by_cases h4 : o.op = 4
  · rw [if_pos h4]
    exact set_root_valid hv _ (root_ok hv _)
  rw [if_neg h4]
  by_cases h5 : o.op = 5
  · rw [if_pos h5]
    exact set_root_valid hv _ (okRef_none _)
  rw [if_neg h5]
  by_cases h6 : o.op = 6
  · rw [if_pos h6]
    rw [if_neg h2, if_neg h3, if_pos h6] at hc
    have hc := of_decide_eq_true hc
    obtain ⟨k, e, hk, hku⟩ := okRef_nat (root_ok hv o.a) hc
    obtain ⟨c, hkc, hcu⟩ := usedAt_iff.1 hku
    rw [e, Int.toNat_natCast, setDat, hkc]
    have ok := okCell_iff.1 (valid_cell hv hkc)
    have hm := used_set (c' := ⟨c.u, o.b, c.r⟩) hkc (fun h => h)
    exact set_cell_valid hv hkc (fun h => h) (okCell_iff.2 ⟨.inl hcu, ((okCm_data h6).1 ho).2.1, ok.2.2.1, okRefs_mono hm ok.2.2.2⟩)
  rw [if_neg h6]
  exact hv
theorem stepH_valid {h : Hp} {o : Cm} (hv : validH h = true) (ho : okCm o = true) : validH (stepH h o).1 = true := by
  unfold stepH
  rw [hv, ho]
  simp only [Bool.and_self, if_true]
  split
  · exact hv
  · next hn =>
    simp only [Bool.or_eq_true, Bool.not_eq_true', Bool.and_eq_true, decide_eq_true_eq, not_or, Bool.not_eq_false, not_and] at hn
    exact doH_valid hn.1 fun h1 => ⟨Nat.le_refl _, by have := hn.2 h1; have := (valid_iff.1 hv).2.1; omega⟩
/-- cells that are dropped are empty -/
def zeroCl : Cl := ⟨false, 0, []⟩
def dropL : List Cl → List Bool → List Cl
  | c :: cs, b :: bs => (if b = true then zeroCl else c) :: dropL cs bs
  | cs, _ => cs
theorem dropL_nil (cs : List Cl) : dropL cs [] = cs := by cases cs <;> rfl
theorem dropL_len : ∀ (cs : List Cl) (bs : List Bool), (dropL cs bs).length = cs.length
  | [], [] => rfl
  | [], _ :: _ => rfl
  | _ :: _, [] => rfl
  | c :: cs, b :: bs => by simp [dropL, dropL_len cs bs]
theorem dropL_at : ∀ (cs : List Cl) (bs : List Bool) (k : Nat) (c : Cl), cs[k]? = some c → (dropL cs bs)[k]? = some (if bs[k]? = some true then zeroCl else c)
  | [], _, k, c, h => by simp at h
  | x :: cs, [], k, c, h => by simpa [dropL] using h
  | x :: cs, b :: bs, 0, c, h => by
    simp at h
    subst h
    simp [dropL]
  | x :: cs, b :: bs, k + 1, c, h => by
    have := dropL_at cs bs k c (by simpa using h)
    simpa [dropL] using this
theorem dropL_take {cs : List Cl} (bs : List Bool) (k : Nat) {j : Nat} {c : Cl} (h : cs[j]? = some c) : (dropL cs (bs.take k))[j]? = some (if j < k ∧ bs[j]? = some true then zeroCl else c) := by
  rw [dropL_at _ _ _ _ h, List.getElem?_take]
  by_cases e : j < k
  · simp [e]
  · simp [e]
theorem dropL_succ {cs : List Cl} {bs : List Bool} {k : Nat} {b : Bool} (hb : bs[k]? = some b) (hk : k < cs.length) : dropL cs (bs.take (k + 1)) = if b = true then (dropL cs (bs.take k)).set k zeroCl else dropL cs (bs.take k) := by
  apply List.ext_getElem?
  intro j
  rcases Nat.lt_or_ge j cs.length with hj | hj
  · have hc := List.getElem?_eq_getElem hj
    rw [dropL_take _ _ hc]
    by_cases e : j = k
    · subst e
      cases b
      · simp only [Bool.false_eq_true, if_false]
        rw [dropL_take _ _ hc, hb]
        simp
      · simp only [if_true]
        have hjl : j < (dropL cs (bs.take j)).length := by rw [dropL_len]; exact hj
        rw [if_pos ⟨by omega, hb⟩, List.getElem?_set, if_pos rfl, if_pos hjl]
    · have hR : (if b = true then (dropL cs (bs.take k)).set k zeroCl else dropL cs (bs.take k))[j]? = (dropL cs (bs.take k))[j]? := by
        cases b
        · rw [if_neg (by simp)]
        · rw [if_pos rfl, List.getElem?_set, if_neg (by omega)]
      rw [hR, dropL_take _ _ hc]
      have : j < k + 1 ↔ j < k := by omega
      simp only [this]
  · have hR : (if b = true then (dropL cs (bs.take k)).set k zeroCl else dropL cs (bs.take k)).length = cs.length := by
      cases b
      · rw [if_neg (by simp), dropL_len]
      · rw [if_pos rfl, List.length_set, dropL_len]
    rw [List.getElem?_eq_none (by rw [dropL_len]; omega), List.getElem?_eq_none (by omega)]
def dropH (h : Hp) (dead : List Bool) : Hp := ⟨dropL h.cs dead, h.rt⟩
/-- how many of the first k are used and not marked -/
def freedTo (cs : List Cl) (marks : List Bool) : Nat → Nat
  | 0 => 0
  | k + 1 => freedTo cs marks k + (if marks[k]? = some false ∧ usedAt cs k = true then 1 else 0)
theorem freedTo_le (cs : List Cl) (marks : List Bool) : ∀ k, freedTo cs marks k ≤ k
  | 0 => Nat.le_refl _
  | k + 1 => by
    have := freedTo_le cs marks k
    simp only [freedTo]
    split <;> omega
def sweepH (h : Hp) (marks : List Bool) : Hp × Int :=
  if validH h = true ∧ marks.length = h.cs.length then
    (if validH (dropH h (marks.map (!·))) = true then (dropH h (marks.map (!·)), (freedTo h.cs marks marks.length : Int)) else (zeroH, -1))
  else (zeroH, -1)
noncomputable def collectH (h : Hp) : Hp × Int := sweepH h (reachH h)
theorem reachH_len {h : Hp} (hv : validH h = true) : (reachH h).length = h.cs.length := by rw [reachH, if_pos hv, reachL_len]
/-- a used cell that is marked stays -/
theorem drop_used {cs : List Cl} {marks : List Bool} (hl : marks.length = cs.length) {k : Nat} : usedAt (dropL cs (marks.map (!·))) k = true ↔ usedAt cs k = true ∧ marks[k]? = some true := by
  rcases Nat.lt_or_ge k cs.length with hk | hk
  · have hc := List.getElem?_eq_getElem hk
    have hm := List.getElem?_eq_getElem (show k < marks.length by omega)
    rw [usedAt_iff, dropL_at _ _ _ _ hc, List.getElem?_map, hm, usedAt_iff, hc]
    cases marks[k] <;> simp [zeroCl]
  · constructor
    · intro h
      have := usedAt_lt h
      rw [dropL_len] at this
      omega
    · rintro ⟨h, _⟩
      have := usedAt_lt h
      omega
theorem collect_drop_valid {h : Hp} (hv : validH h = true) : validH (dropH h ((reachH h).map (!·))) = true := by
  obtain ⟨h1, h2, h3, h4⟩ := valid_iff.1 hv
  have hl := reachH_len hv
  have hr : ∀ {n : Int}, okRef h.cs n = true → (0 ≤ n → Rch h.cs h.rt n.toNat) → okRef (dropL h.cs ((reachH h).map (!·))) n = true := by
    intro n hn hR
    rw [okRef_iff] at hn ⊢
    rcases hn with e | ⟨e1, e2⟩
    · exact .inl e
    · refine .inr ⟨e1, (drop_used hl).2 ⟨e2, ?_⟩⟩
      rw [reachH, if_pos hv, reachL_true (usedAt_lt e2)]
      exact hR e1
  refine valid_iff.2 ⟨fun c hc => ?_, by simp [dropH, dropL_len, h2], h3, okRefs_iff.2 fun n hn => hr (okRefs_iff.1 h4 n hn) fun h0 => .root (by rw [Int.toNat_of_nonneg h0]; exact hn)⟩
  obtain ⟨k, hk⟩ := List.mem_iff_getElem?.1 hc
  have hkl := (List.getElem?_eq_some_iff.1 hk).1
  simp only [dropH] at hk hkl
  rw [dropL_len] at hkl
  have hkc := List.getElem?_eq_getElem hkl
  rw [dropL_at _ _ _ _ hkc] at hk
  injection hk with hk
  have hm := List.getElem?_eq_getElem (show k < (reachH h).length by omega)
  rw [List.getElem?_map, hm] at hk
  have ok := okCell_iff.1 (valid_cell hv hkc)
  cases e : (reachH h)[k]'(by omega) with
  | false =>
    rw [e] at hk
    simp at hk
    subst hk
    simp [okCell, zeroCl, okRefs]
  | true =>
    rw [e] at hk hm
    simp at hk
    subst hk
    refine okCell_iff.2 ⟨ok.1, ok.2.1, ok.2.2.1, okRefs_iff.2 fun n hn => hr (okRefs_iff.1 ok.2.2.2 n hn) fun h0 => ?_⟩
    rw [reachH, if_pos hv, reachL_true hkl] at hm
    exact .step hm hkc (by rw [Int.toNat_of_nonneg h0]; exact hn)
theorem collectH_eq {h : Hp} (hv : validH h = true) : collectH h = (dropH h ((reachH h).map (!·)), (freedTo h.cs (reachH h) (reachH h).length : Int)) := by
  rw [collectH, sweepH, if_pos ⟨hv, reachH_len hv⟩, if_pos (collect_drop_valid hv)]
end Hps
end Go.Proofs.YthmddmddcdofaaaDoor
namespace Go.Proofs.YthmddmddcdofaaaDoor
open Go.RowKit
/-- an instruction as a value -/
abbrev cmV (o : Cm) : Value := .agg #[.int .i64 o.op, .int .i64 o.a, .int .i64 o.b, .int .i64 o.c]
theorem l1In_is (n lo hi : Int) (x : Bool) (w : World) (h : Hps.inR n lo hi = x) : Calls Tryd.prog 61 #[.int .i64 n, .int .i64 lo, .int .i64 hi] w fun e w' => e = .returned (.bool x) ∧ w = w' :=
  (l1In_any n lo hi _).mono fun _ _ ⟨he, hw⟩ => ⟨by rw [he, ← h]; rfl, hw⟩
set_option maxHeartbeats 1000000 in
theorem mCV_new (a b c : Int) (w : World) (xa xb : Bool) (HA : Hid (Hps.inR a 0 3 = xa)) (HB : Hid (Hps.inR b 0 3 = xb)) (xc : Bool) (HC : Hid (Hps.inR c 0 99 = xc)) : Calls Tryd.prog 86 #[cmV ⟨1, a, b, c⟩] w fun e w' => e = .returned (.bool (xa && xb && xc)) ∧ Below w.heap.size w w' := by
  have bb : Below w.heap.size w (w.alloc (.cells #[.int .i64 1, .int .i64 a, .int .i64 b, .int .i64 c] 49)) := (Below.refl _ _).alloc (Nat.le_refl _) _
  go_enter Tryd.func86, Tryd.ntmps86
  go_wp2_with fail
  refine (l1In_is _ _ _ _ _ HA.out).mono ?_
  rintro e w1 ⟨rfl, rfl⟩
  go_wp2_with fail
  refine (l1In_is _ _ _ _ _ HB.out).mono ?_
  rintro e w1 ⟨rfl, rfl⟩
  cases xa
  · go_wp2_with fail
    go_ret
    exact ⟨rfl, bb⟩
  go_wp2_with fail
  refine (l1In_is _ _ _ _ _ HB.out).mono ?_
  rintro e w1 ⟨rfl, rfl⟩
  cases xb
  · go_wp2_with fail
    go_ret
    exact ⟨rfl, bb⟩
  go_wp2_with fail
  refine (l1In_is _ _ _ _ _ HC.out).mono ?_
  rintro e w1 ⟨rfl, rfl⟩
  go_wp2_with fail
  go_ret
  exact ⟨rfl, bb⟩
set_option maxHeartbeats 1000000 in
theorem mCV_get (a b c : Int) (w : World) (xa xb : Bool) (HA : Hid (Hps.inR a 0 3 = xa)) (HB : Hid (Hps.inR b 0 3 = xb)) (xc : Bool) (HC : Hid (Hps.inR c 0 2 = xc)) : Calls Tryd.prog 86 #[cmV ⟨2, a, b, c⟩] w fun e w' => e = .returned (.bool (xa && xb && xc)) ∧ Below w.heap.size w w' := by
  have bb : Below w.heap.size w (w.alloc (.cells #[.int .i64 2, .int .i64 a, .int .i64 b, .int .i64 c] 49)) := (Below.refl _ _).alloc (Nat.le_refl _) _
  go_enter Tryd.func86, Tryd.ntmps86
  go_wp2_with fail
  refine (l1In_is _ _ _ _ _ HA.out).mono ?_
  rintro e w1 ⟨rfl, rfl⟩
  go_wp2_with fail
  refine (l1In_is _ _ _ _ _ HB.out).mono ?_
  rintro e w1 ⟨rfl, rfl⟩
  cases xa
  · go_wp2_with fail
    go_ret
    exact ⟨rfl, bb⟩
  cases xb
  · go_wp2_with fail
    go_ret
    exact ⟨rfl, bb⟩
  go_wp2_with fail
  refine (l1In_is _ _ _ _ _ HC.out).mono ?_
  rintro e w1 ⟨rfl, rfl⟩
  go_wp2_with fail
  go_ret
  exact ⟨rfl, bb⟩
set_option maxHeartbeats 1000000 in
theorem mCV_set (a b c : Int) (w : World) (xa xb : Bool) (HA : Hid (Hps.inR a 0 3 = xa)) (HB : Hid (Hps.inR b 0 3 = xb)) (xc : Bool) (HC : Hid (Hps.inR c 0 2 = xc)) : Calls Tryd.prog 86 #[cmV ⟨3, a, b, c⟩] w fun e w' => e = .returned (.bool (xa && xb && xc)) ∧ Below w.heap.size w w' := by
  have bb : Below w.heap.size w (w.alloc (.cells #[.int .i64 3, .int .i64 a, .int .i64 b, .int .i64 c] 49)) := (Below.refl _ _).alloc (Nat.le_refl _) _
  go_enter Tryd.func86, Tryd.ntmps86
  go_wp2_with fail
  refine (l1In_is _ _ _ _ _ HA.out).mono ?_
  rintro e w1 ⟨rfl, rfl⟩
  go_wp2_with fail
  refine (l1In_is _ _ _ _ _ HB.out).mono ?_
  rintro e w1 ⟨rfl, rfl⟩
  cases xa
  · go_wp2_with fail
    go_ret
    exact ⟨rfl, bb⟩
  cases xb
  · go_wp2_with fail
    go_ret
    exact ⟨rfl, bb⟩
  go_wp2_with fail
  refine (l1In_is _ _ _ _ _ HC.out).mono ?_
  rintro e w1 ⟨rfl, rfl⟩
  go_wp2_with fail
  go_ret
  exact ⟨rfl, bb⟩
set_option maxHeartbeats 1000000 in
theorem mCV_copy (a b c : Int) (w : World) (xa xb : Bool) (HA : Hid (Hps.inR a 0 3 = xa)) (HB : Hid (Hps.inR b 0 3 = xb)) (xc : Bool) (hc : (c == 0) = xc) : Calls Tryd.prog 86 #[cmV ⟨4, a, b, c⟩] w fun e w' => e = .returned (.bool (xa && xb && xc)) ∧ Below w.heap.size w w' := by
  have bb : Below w.heap.size w (w.alloc (.cells #[.int .i64 4, .int .i64 a, .int .i64 b, .int .i64 c] 49)) := (Below.refl _ _).alloc (Nat.le_refl _) _
  go_enter Tryd.func86, Tryd.ntmps86
  go_wp2_with fail
  refine (l1In_is _ _ _ _ _ HA.out).mono ?_
  rintro e w1 ⟨rfl, rfl⟩
  go_wp2_with fail
  refine (l1In_is _ _ _ _ _ HB.out).mono ?_
  rintro e w1 ⟨rfl, rfl⟩
  cases xa
  · go_wp2_with fail
    go_ret
    exact ⟨rfl, bb⟩
  cases xb
  · go_wp2_with fail
    go_ret
    exact ⟨rfl, bb⟩
  go_wp2_with fail
  go_ret
  exact ⟨rfl, bb⟩
set_option maxHeartbeats 1000000 in
theorem mCV_drop (a b c : Int) (w : World) (xa xb : Bool) (HA : Hid (Hps.inR a 0 3 = xa)) (HB : Hid (Hps.inR b 0 3 = xb)) (xy xc : Bool) (hy : (b == 0) = xy) (hc : (c == 0) = xc) : Calls Tryd.prog 86 #[cmV ⟨5, a, b, c⟩] w fun e w' => e = .returned (.bool (xa && xy && xc)) ∧ Below w.heap.size w w' := by
  have bb : Below w.heap.size w (w.alloc (.cells #[.int .i64 5, .int .i64 a, .int .i64 b, .int .i64 c] 49)) := (Below.refl _ _).alloc (Nat.le_refl _) _
  go_enter Tryd.func86, Tryd.ntmps86
  go_wp2_with fail
  refine (l1In_is _ _ _ _ _ HA.out).mono ?_
  rintro e w1 ⟨rfl, rfl⟩
  go_wp2_with fail
  refine (l1In_is _ _ _ _ _ HB.out).mono ?_
  rintro e w1 ⟨rfl, rfl⟩
  cases xa
  · go_wp2_with fail
    go_ret
    exact ⟨rfl, bb⟩
  cases xy
  · go_wp2_with fail
    go_ret
    exact ⟨rfl, bb⟩
  go_wp2_with fail
  go_ret
  exact ⟨rfl, bb⟩
set_option maxHeartbeats 1000000 in
theorem mCV_data (a b c : Int) (w : World) (xa xb : Bool) (HA : Hid (Hps.inR a 0 3 = xa)) (HB : Hid (Hps.inR b 0 3 = xb)) (xy xc : Bool) (HY : Hid (Hps.inR b 0 99 = xy)) (hc : (c == 0) = xc) : Calls Tryd.prog 86 #[cmV ⟨6, a, b, c⟩] w fun e w' => e = .returned (.bool (xa && xy && xc)) ∧ Below w.heap.size w w' := by
  have bb : Below w.heap.size w (w.alloc (.cells #[.int .i64 6, .int .i64 a, .int .i64 b, .int .i64 c] 49)) := (Below.refl _ _).alloc (Nat.le_refl _) _
  go_enter Tryd.func86, Tryd.ntmps86
  go_wp2_with fail
  refine (l1In_is _ _ _ _ _ HA.out).mono ?_
  rintro e w1 ⟨rfl, rfl⟩
  go_wp2_with fail
  refine (l1In_is _ _ _ _ _ HB.out).mono ?_
  rintro e w1 ⟨rfl, rfl⟩
  cases xa
  · go_wp2_with fail
    go_ret
    exact ⟨rfl, bb⟩
  go_wp2_with fail
  refine (l1In_is _ _ _ _ _ HY.out).mono ?_
  rintro e w1 ⟨rfl, rfl⟩
  cases xy
  · go_wp2_with fail
    go_ret
    exact ⟨rfl, bb⟩
  go_wp2_with fail
  go_ret
  exact ⟨rfl, bb⟩
set_option maxHeartbeats 1000000 in
theorem mCV_none (op a b c : Int) (w : World) (xa xb : Bool) (HA : Hid (Hps.inR a 0 3 = xa)) (HB : Hid (Hps.inR b 0 3 = xb)) (h1 : ¬ op = 1) (h2 : ¬ op = 2) (h3 : ¬ op = 3) (h4 : ¬ op = 4) (h5 : ¬ op = 5) (h6 : ¬ op = 6) : Calls Tryd.prog 86 #[cmV ⟨op, a, b, c⟩] w fun e w' => e = .returned (.bool (false)) ∧ Below w.heap.size w w' := by
  have bb : Below w.heap.size w (w.alloc (.cells #[.int .i64 op, .int .i64 a, .int .i64 b, .int .i64 c] 49)) := (Below.refl _ _).alloc (Nat.le_refl _) _
  go_enter Tryd.func86, Tryd.ntmps86
  go_wp2_with fail
  refine (l1In_is _ _ _ _ _ HA.out).mono ?_
  rintro e w1 ⟨rfl, rfl⟩
  go_wp2_with fail
  refine (l1In_is _ _ _ _ _ HB.out).mono ?_
  rintro e w1 ⟨rfl, rfl⟩
  go_wp2_with fail
  go_ret
  exact ⟨rfl, bb⟩
theorem mCommandValid_any (o : Cm) (w : World) : Calls Tryd.prog 86 #[cmV o] w fun e w' => e = .returned (.bool (Hps.okCm o)) ∧ Below w.heap.size w w' := by
  obtain ⟨op, a, b, c⟩ := o
  have HA : Hid (Hps.inR a 0 3 = Hps.inR a 0 3) := Lib.hid rfl
  have HB : Hid (Hps.inR b 0 3 = Hps.inR b 0 3) := Lib.hid rfl
  have d0 : ∀ n : Int, (n == 0) = decide (n = 0) := fun _ => rfl
  by_cases h1 : op = 1
  · subst h1
    rw [show Hps.okCm ⟨1, a, b, c⟩ = (Hps.inR a 0 3 && Hps.inR b 0 3 && Hps.inR c 0 99) by simp [Hps.okCm]]
    exact mCV_new a b c w _ _ HA HB _ (Lib.hid rfl)
  by_cases h2 : op = 2
  · subst h2
    rw [show Hps.okCm ⟨2, a, b, c⟩ = (Hps.inR a 0 3 && Hps.inR b 0 3 && Hps.inR c 0 2) by simp [Hps.okCm]]
    exact mCV_get a b c w _ _ HA HB _ (Lib.hid rfl)
  by_cases h3 : op = 3
  · subst h3
    rw [show Hps.okCm ⟨3, a, b, c⟩ = (Hps.inR a 0 3 && Hps.inR b 0 3 && Hps.inR c 0 2) by simp [Hps.okCm]]
    exact mCV_set a b c w _ _ HA HB _ (Lib.hid rfl)
  by_cases h4 : op = 4
  · subst h4
    rw [show Hps.okCm ⟨4, a, b, c⟩ = (Hps.inR a 0 3 && Hps.inR b 0 3 && decide (c = 0)) by simp [Hps.okCm]]
    exact mCV_copy a b c w _ _ HA HB _ (d0 c)
  by_cases h5 : op = 5
  · subst h5
    rw [show Hps.okCm ⟨5, a, b, c⟩ = (Hps.inR a 0 3 && decide (b = 0) && decide (c = 0)) by simp [Hps.okCm]]
    exact mCV_drop a b c w _ _ HA HB _ _ (d0 b) (d0 c)
  by_cases h6 : op = 6
  · subst h6
    rw [show Hps.okCm ⟨6, a, b, c⟩ = (Hps.inR a 0 3 && Hps.inR b 0 99 && decide (c = 0)) by simp [Hps.okCm]]
    exact mCV_data a b c w _ _ HA HB _ _ (Lib.hid rfl) (d0 c)
  rw [show Hps.okCm ⟨op, a, b, c⟩ = false by simp [Hps.okCm, h1, h2, h3, h4, h5, h6]]
  exact mCV_none op a b c w _ _ HA HB h1 h2 h3 h4 h5 h6
end Go.Proofs.YthmddmddcdofaaaDoor
namespace Go.Proofs.YthmddmddcdofaaaDoor
open Go.RowKit
/-- the values of instructions in a row -/
def flatM : List Cm → List Value
  | [] => []
  | o :: l => .int .i64 o.op :: .int .i64 o.a :: .int .i64 o.b :: .int .i64 o.c :: flatM l
theorem flatM_length : ∀ l : List Cm, (flatM l).length = l.length * 4
  | [] => rfl
  | _ :: l => by simp [flatM, flatM_length l]; omega
theorem flatM_at : ∀ (l : List Cm) (k : Nat) (o : Cm), l[k]? = some o → (flatM l)[k * 4]? = some (.int .i64 o.op) ∧ (flatM l)[k * 4 + 1]? = some (.int .i64 o.a) ∧ (flatM l)[k * 4 + 2]? = some (.int .i64 o.b) ∧ (flatM l)[k * 4 + 3]? = some (.int .i64 o.c)
  | [], k, o, h => by simp at h
  | x :: l, 0, o, h => by
    simp at h
    subst h
    simp [flatM]
  | x :: l, k + 1, o, h => by
    have := flatM_at l k o (by simpa using h)
    rw [show (k + 1) * 4 = k * 4 + 4 by omega]
    simpa [flatM] using this
/-- a slice of instructions that a call can read -/
def MS (w : World) (B : Nat) (A : Option Addr) (n : Nat) (l : List Cm) : Prop :=
  l.length = n ∧ (0 < n → ∃ g o, A = some ⟨g, o, none⟩ ∧ g < B ∧ ∀ (j : Nat) (u : Value), (flatM l)[j]? = some u → w.cell? ⟨g, o + j, none⟩ = some u)
section
variable {w w' : World} {B B' n : Nat} {A : Option Addr} {l : List Cm}
theorem MS.keep (h : MS w B A n l) (hk : ∀ p : Addr, p.block < B → w'.cell? p = w.cell? p) : MS w' B A n l :=
  ⟨h.1, fun hn => by
    obtain ⟨g, o, e, hb, hc⟩ := h.2 hn
    exact ⟨g, o, e, hb, fun k x hx => (hk _ hb).trans (hc k x hx)⟩⟩
theorem MS.more (h : MS w B A n l) (hB : B ≤ B') : MS w B' A n l :=
  ⟨h.1, fun hn => by
    obtain ⟨g, o, e, hb, hc⟩ := h.2 hn
    exact ⟨g, o, e, by omega, hc⟩⟩
theorem MS.below (h : MS w B A n l) (hb : Below B w w') : MS w' B A n l := h.keep fun _ hp => hb.cell hp
theorem MS.up {w w' : World} {n : Nat} {A : Option Addr} {l : List Cm} (h : MS w w.heap.size A n l) (hb : Below w.heap.size w w') : MS w' w'.heap.size A n l := (h.below hb).more hb.size
theorem MS.at_ {k : Nat} (h : MS w B A n l) (hk : k < n) : ∃ g o c, A = some ⟨g, o, none⟩ ∧ g < B ∧ l[k]? = some c ∧ w.cell? ⟨g, o + k * 4, none⟩ = some (.int .i64 c.op) ∧ w.cell? ⟨g, o + k * 4 + 1, none⟩ = some (.int .i64 c.a) ∧ w.cell? ⟨g, o + k * 4 + 2, none⟩ = some (.int .i64 c.b) ∧ w.cell? ⟨g, o + k * 4 + 3, none⟩ = some (.int .i64 c.c) := by
  obtain ⟨g, o, e, hb, hc⟩ := h.2 (by omega)
  have hl : k < l.length := by have := h.1; omega
  have hx := List.getElem?_eq_getElem hl
  obtain ⟨f1, f2, f3, f4⟩ := flatM_at l k _ hx
  exact ⟨g, o, _, e, hb, hx, hc _ _ f1, by rw [Nat.add_assoc]; exact hc _ _ f2, by rw [Nat.add_assoc]; exact hc _ _ f3, by rw [Nat.add_assoc]; exact hc _ _ f4⟩
theorem MS.none_ (w : World) (B : Nat) (A : Option Addr) : MS w B A 0 [] := ⟨rfl, fun h => by omega⟩
theorem flatM_take : ∀ (l : List Cm) (k : Nat), flatM (l.take k) = (flatM l).take (k * 4)
  | [], k => by simp [flatM]
  | x :: l, 0 => by simp [flatM]
  | x :: l, k + 1 => by
    rw [show (k + 1) * 4 = k * 4 + 4 by omega]
    simp [flatM, flatM_take l k]
theorem MS.take {k : Nat} (h : MS w B A n l) (hk : k ≤ n) : MS w B A k (l.take k) := by
  refine ⟨by rw [List.length_take, h.1]; omega, fun h0 => ?_⟩
  obtain ⟨g, o, e, hb, hc⟩ := h.2 (by omega)
  refine ⟨g, o, e, hb, fun j u hj => ?_⟩
  rw [flatM_take, List.getElem?_take] at hj
  split at hj
  · exact hc j u hj
  · cases hj
end
/-- the value v owns the instructions l, in a row from block 'base' on -/
def OwnM (w : World) (base : Nat) (v : Value) (l : List Cm) : Prop := w.ownsRow base 49 4 v l.length (flatM l)
theorem OwnM.form {w : World} {base : Nat} {v : Value} {l : List Cm} (h : OwnM w base v l) : ∃ A c, v = .slice A l.length c ∧ (0 < l.length → ∃ g, A = some ⟨g, 0, none⟩ ∧ base ≤ g ∧ g < w.heap.size) := by
  rcases h.2 with ⟨rfl, h0⟩ | ⟨g, cap, cur, rfl, hb, hh, _⟩
  · exact ⟨none, 0, by rw [h0], fun h => by omega⟩
  · exact ⟨some ⟨g, 0, none⟩, cap, rfl, fun _ => ⟨g, rfl, hb, (Array.getElem?_eq_some_iff.1 hh).1⟩⟩
theorem OwnM.reads {w : World} {base n c : Nat} {A : Option Addr} {l : List Cm} (h : OwnM w base (.slice A n c) l) : MS w w.heap.size A n l := by
  rcases h.2 with ⟨e, h0⟩ | ⟨g, cap, cur, e, hb, hh, _⟩
  · injection e with e1 e2 e3
    subst e2
    have : l = [] := List.eq_nil_of_length_eq_zero h0
    subst this
    exact ⟨rfl, fun h => by omega⟩
  · injection e with e1 e2 e3
    subst e1 e2 e3
    refine ⟨rfl, fun hn => ⟨g, 0, rfl, (Array.getElem?_eq_some_iff.1 hh).1, fun k x hx => ?_⟩⟩
    have hk : k < (flatM l).length := (List.getElem?_eq_some_iff.1 hx).1
    rw [flatM_length] at hk
    rw [Nat.zero_add]
    exact (World.ownsRow.cellAt h k (by omega)).trans hx
theorem OwnM.below {w w' : World} {base B : Nat} {v : Value} {l : List Cm} (h : OwnM w base v l) (hb : Below B w w') (hB : w.heap.size ≤ B) : OwnM w' base v l := by
  refine ⟨h.1, ?_⟩
  rcases h.2 with h0 | ⟨g, cap, cur, e, hb', hh, hr⟩
  · exact .inl h0
  · exact .inr ⟨g, cap, cur, e, hb', (hb.block g (Nat.lt_of_lt_of_le (Array.getElem?_eq_some_iff.1 hh).1 hB)).trans hh, hr⟩
theorem OwnM.base {w : World} {base base' : Nat} {v : Value} {l : List Cm} (h : OwnM w base v l) (hb : base' ≤ base) : OwnM w base' v l := by
  refine ⟨h.1, ?_⟩
  rcases h.2 with h0 | ⟨g, cap, cur, e, hb', hh, hr⟩
  · exact .inl h0
  · exact .inr ⟨g, cap, cur, e, by omega, hh, hr⟩
theorem OwnM.far {w w' : World} {base : Nat} {v : Value} {l : List Cm} {row : Option Nat} (h : OwnM w base v l) (hg : w.grownBy w' row) (hne : v.ownBlock = none ∨ v.ownBlock ≠ row) : OwnM w' base v l := World.ownsRow.kept h hg hne
theorem OwnM.cast {w : World} {base : Nat} {v : Value} {l m : List Cm} (e : l = m) (h : OwnM w base v l) : OwnM w base v m := e ▸ h
theorem OwnM.cap {w : World} {base n c : Nat} {A : Option Addr} {l : List Cm} (h : OwnM w base (.slice A n c) l) : n = l.length ∧ n ≤ c := by
  rcases h.2 with ⟨e, h0⟩ | ⟨g, cap, cur, e, _, _, hc, _⟩
  · injection e with e1 e2 e3
    omega
  · injection e with e1 e2 e3
    omega
end Go.Proofs.YthmddmddcdofaaaDoor
namespace Go.Proofs.YthmddmddcdofaaaDoor
open Go.RowKit
set_option maxRecDepth 100000
theorem toCommand_any (o : Cm) (w : World) :
    Calls Tryd.prog 49 #[cmV o] w fun e w' => e = .returned (cmV o) ∧ Below w.heap.size w w' := by
  have b3 : Below w.heap.size w (((w.alloc (.cells #[.int .i64 o.op, .int .i64 o.a, .int .i64 o.b, .int .i64 o.c] 68)).alloc (.cells #[.int .i64 0, .int .i64 0, .int .i64 0, .int .i64 0] 49)).alloc (.cells #[.int .i64 o.op, .int .i64 o.a, .int .i64 o.b, .int .i64 o.c] 49)) := (((Below.refl _ _).alloc (Nat.le_refl _) _).alloc (by simp) _).alloc (by simp; omega) _
  go_enter Tryd.func49, Tryd.ntmps49
  go_wp2_with fail
  exact bodyPost_ret (v := cmV o) (by simp [results, Tryd.results49, go_sem]) rfl ⟨rfl, ((((Below.refl _ _).alloc (Nat.le_refl _) _).alloc (by simp) _).alloc (by simp; omega) _)⟩
theorem flatM_set : ∀ (l : List Cm) (k : Nat) (o : Cm), k < l.length → ((((flatM l).set (k * 4) (.int .i64 o.op)).set (k * 4 + 1) (.int .i64 o.a)).set (k * 4 + 2) (.int .i64 o.b)).set (k * 4 + 3) (.int .i64 o.c) = flatM (l.set k o)
  | [], k, o, h => by simp at h
  | x :: l, 0, o, _ => by simp [flatM]
  | x :: l, k + 1, o, h => by
    have := flatM_set l k o (by simpa using h)
    rw [show (k + 1) * 4 = k * 4 + 4 by omega]
    simp [flatM, this]
/-- one instruction of an owned row is written -/
theorem OwnM.put {w : World} {base g c j n : Nat} {l : List Cm} (h : OwnM w base (.slice (some ⟨g, 0, none⟩) n c) l) (hn : l.length = n) (hj : j < n) (o : Cm) :
    OwnM ((((w.setCell ⟨g, j * 4, none⟩ (.int .i64 o.op)).setCell ⟨g, j * 4 + 1, none⟩ (.int .i64 o.a)).setCell ⟨g, j * 4 + 2, none⟩ (.int .i64 o.b)).setCell ⟨g, j * 4 + 3, none⟩ (.int .i64 o.c)) base (.slice (some ⟨g, 0, none⟩) n c) (l.set j o) := by
  subst hn
  have q := ((((World.ownsRow.stored h (j * 4) (.int .i64 o.op)).1.stored (j * 4 + 1) (.int .i64 o.a)).1.stored (j * 4 + 2) (.int .i64 o.b)).1.stored (j * 4 + 3) (.int .i64 o.c)).1
  unfold OwnM
  rw [List.length_set, ← flatM_set l j o hj]
  exact q
theorem OwnM.frozen {w : World} {base g c n : Nat} {l : List Cm} (h : OwnM w base (.slice (some ⟨g, 0, none⟩) n c) l) (hn : l.length = n) (i : Nat) : w.frozen? ⟨g, i, none⟩ = false := by
  subst hn
  exact World.ownsRow.frozenAt h i
end Go.Proofs.YthmddmddcdofaaaDoor

namespace Go.Proofs.YthmddmddcdofaaaDoor
namespace Bm
/-- the bits of the first k words that are b -/
def setN (xs : List Bool) (b : Bool) : Nat → Nat
  | 0 => 0
  | k + 1 => if xs[k]? = some b then setN xs b k ||| 2 ^ k else setN xs b k
theorem setN_bit (xs : List Bool) (b : Bool) (i : Nat) : ∀ k, (setN xs b k).testBit i = (decide (i < k) && decide (xs[i]? = some b))
  | 0 => by simp [setN]
  | k + 1 => by
    have ih := setN_bit xs b i k
    unfold setN
    by_cases hx : xs[k]? = some b
    · rw [if_pos hx, Nat.testBit_or, ih, Nat.testBit_two_pow]
      rcases Nat.lt_trichotomy i k with h | h | h
      · have h1 : ¬ k = i := by omega
        have h2 : i < k + 1 := by omega
        simp [h, h1, h2]
      · subst h
        simp [hx]
      · have h1 : ¬ k = i := by omega
        have h2 : ¬ i < k + 1 := by omega
        have h3 : ¬ i < k := by omega
        simp [h1, h2, h3]
    · rw [if_neg hx, ih]
      rcases Nat.lt_trichotomy i k with h | h | h
      · have h2 : i < k + 1 := by omega
        simp [h, h2]
      · subst h
        simp [hx]
      · have h2 : ¬ i < k + 1 := by omega
        have h3 : ¬ i < k := by omega
        simp [h2, h3]
theorem setN_lt (xs : List Bool) (b : Bool) : ∀ k, setN xs b k < 2 ^ k
  | 0 => by simp [setN]
  | k + 1 => by
    have ih := setN_lt xs b k
    have h2 : 2 ^ k < 2 ^ (k + 1) := Nat.pow_lt_pow_right (by omega) (by omega)
    unfold setN
    split
    · exact Nat.or_lt_two_pow (by omega) h2
    · omega
theorem pow64 {k : Nat} (h : k ≤ 64) : 2 ^ k ≤ 18446744073709551616 := by
  rw [show (18446744073709551616 : Nat) = 2 ^ 64 by decide]
  exact Nat.pow_le_pow_right (by omega) h
theorem setN_64 (xs : List Bool) (b : Bool) {k : Nat} (h : k ≤ 64) : setN xs b k < 18446744073709551616 := Nat.lt_of_lt_of_le (setN_lt xs b k) (pow64 h)
/-- the bits of all words that are b -/
def wordN (xs : List Bool) (b : Bool) : Nat := setN xs b xs.length
theorem wordN_bit (xs : List Bool) (b : Bool) (i : Nat) : (wordN xs b).testBit i = decide (xs[i]? = some b) := by
  unfold wordN
  rw [setN_bit]
  by_cases h : i < xs.length
  · simp [h]
  · rw [List.getElem?_eq_none (by omega)]
    simp
theorem wordN_lt (xs : List Bool) (b : Bool) (h : xs.length ≤ 64) : wordN xs b < 18446744073709551616 := setN_64 xs b h
/-- a bit and nothing else -/
theorem and_pow (n i : Nat) : n &&& 2 ^ i = if n.testBit i = true then 2 ^ i else 0 := by
  apply Nat.eq_of_testBit_eq
  intro j
  rw [Nat.testBit_and, Nat.testBit_two_pow]
  by_cases h : i = j
  · subst h
    cases n.testBit i <;> simp
  · cases n.testBit i <;> simp [h]
/-- the lowest bit -/
theorem ctz_bit {x : Nat} (h0 : x ≠ 0) (h : x < 18446744073709551616) : x.testBit (Lib.ctz 64 x) = true ∧ ∀ i, i < Lib.ctz 64 x → x.testBit i = false := by
  obtain ⟨m, hm, hk⟩ := Lib.ctzFrom_spec 64 x (by omega) h
  have e : Lib.ctz 64 x = Lib.ctzFrom 64 x := by simp [Lib.ctz, h0]
  rw [e]
  obtain ⟨k, hkk⟩ : ∃ k, Lib.ctzFrom 64 x = k := ⟨_, rfl⟩
  rw [hkk] at hm ⊢
  rw [hm, Nat.mul_comm]
  constructor
  · rw [Nat.testBit_mul_two_pow]
    simp
  · intro i hi
    rw [Nat.testBit_mul_two_pow]
    simp
    omega
end Bm
end Go.Proofs.YthmddmddcdofaaaDoor
namespace Go.Proofs.YthmddmddcdofaaaDoor
/-- the bits of a number below k that are set -/
def pcN (V k : Nat) : Nat := (List.range k).countP V.testBit
namespace Pc
def val : List Nat → Nat
  | [] => 0
  | b :: bs => b + 256 * val bs
theorem and_split (b r c d : Nat) (hb : b < 256) (hc : c < 256) : (b + 256 * r) &&& (c + 256 * d) = (b &&& c) + 256 * (r &&& d) := by
  have h1 : ((b + 256 * r) &&& (c + 256 * d)) % 256 = b &&& c := by
    have := Nat.and_mod_two_pow (a := b + 256 * r) (b := c + 256 * d) (n := 8)
    rw [show (2 : Nat) ^ 8 = 256 by decide] at this
    rw [this, show (b + 256 * r) % 256 = b by omega, show (c + 256 * d) % 256 = c by omega]
  have h2 : ((b + 256 * r) &&& (c + 256 * d)) / 256 = r &&& d := by
    have := Nat.and_div_two_pow (a := b + 256 * r) (b := c + 256 * d) (n := 8)
    rw [show (2 : Nat) ^ 8 = 256 by decide] at this
    rw [this, show (b + 256 * r) / 256 = r by omega, show (c + 256 * d) / 256 = d by omega]
  omega
def s1 (x m : Nat) : Nat := (x / 2 &&& m) + (x &&& m)
def s2 (x m : Nat) : Nat := (x / 4 &&& m) + (x &&& m)
def s3 (x m : Nat) : Nat := (x / 16 + x) &&& m
theorem m1 : ∀ b : Fin 256, ∀ j : Fin 2, (b.val / 2 + 128 * j.val) &&& 85 = b.val / 2 &&& 85 := by decide +kernel
theorem m2 : ∀ b : Fin 256, ∀ j : Fin 4, (b.val / 4 + 64 * j.val) &&& 51 = b.val / 4 &&& 51 := by decide +kernel
theorem s1_split (b r d : Nat) (hb : b < 256) : s1 (b + 256 * r) (85 + 256 * d) = s1 b 85 + 256 * s1 r d := by
  unfold s1
  rw [show (b + 256 * r) / 2 = (b / 2 + 128 * (r % 2)) + 256 * (r / 2) by omega, and_split _ _ _ _ (by omega) (by omega), and_split _ _ _ _ hb (by omega)]
  have := m1 ⟨b, hb⟩ ⟨r % 2, by omega⟩
  simp only at this
  rw [this]
  omega
theorem s2_split (b r d : Nat) (hb : b < 256) : s2 (b + 256 * r) (51 + 256 * d) = s2 b 51 + 256 * s2 r d := by
  unfold s2
  rw [show (b + 256 * r) / 4 = (b / 4 + 64 * (r % 4)) + 256 * (r / 4) by omega, and_split _ _ _ _ (by omega) (by omega), and_split _ _ _ _ hb (by omega)]
  have := m2 ⟨b, hb⟩ ⟨r % 4, by omega⟩
  simp only at this
  rw [this]
  omega
theorem and15 (x : Nat) : x &&& 15 = x % 16 := Nat.and_two_pow_sub_one_eq_mod x 4
theorem s3_split (b r d : Nat) (hb : b / 16 ≤ 4) (hb2 : b % 16 ≤ 4) (hr : r % 16 ≤ 4) : s3 (b + 256 * r) (15 + 256 * d) = s3 b 15 + 256 * s3 r d := by
  unfold s3
  rw [show (b + 256 * r) / 16 + (b + 256 * r) = (b / 16 + b + 16 * (r % 16)) + 256 * (r / 16 + r) by omega, and_split _ _ _ _ (by omega) (by omega), and15, and15, show (b / 16 + b + 16 * (r % 16)) % 16 = (b / 16 + b) % 16 by omega]
theorem s1_lt : ∀ b : Fin 256, s1 b.val 85 < 256 := by decide +kernel
theorem s2_ok : ∀ b : Fin 256, s2 (s1 b.val 85) 51 / 16 ≤ 4 ∧ s2 (s1 b.val 85) 51 % 16 ≤ 4 := by decide +kernel
def g (b : Nat) : Nat := s3 (s2 (s1 b 85) 51) 15
theorem g_eq : ∀ b : Fin 256, g b.val = pcN b.val 8 := by decide +kernel
theorem pc_le (V k : Nat) : pcN V k ≤ k := Nat.le_trans List.countP_le_length (by simp)
theorem s1_val : ∀ bs : List Nat, (∀ b ∈ bs, b < 256) → s1 (val bs) (val (bs.map fun _ => 85)) = val (bs.map (s1 · 85))
  | [], _ => by decide
  | b :: bs, h => by
    have ih := s1_val bs fun x hx => h x (by simp [hx])
    simp only [List.map_cons, val]
    rw [s1_split _ _ _ (h b (by simp)), ih]
theorem s2_val : ∀ bs : List Nat, (∀ b ∈ bs, b < 256) → s2 (val bs) (val (bs.map fun _ => 51)) = val (bs.map (s2 · 51))
  | [], _ => by decide
  | b :: bs, h => by
    have ih := s2_val bs fun x hx => h x (by simp [hx])
    simp only [List.map_cons, val]
    rw [s2_split _ _ _ (h b (by simp)), ih]
theorem s3_val : ∀ bs : List Nat, (∀ b ∈ bs, b / 16 ≤ 4 ∧ b % 16 ≤ 4) → s3 (val bs) (val (bs.map fun _ => 15)) = val (bs.map (s3 · 15))
  | [], _ => by decide
  | b :: bs, h => by
    have ih := s3_val bs fun x hx => h x (by simp [hx])
    simp only [List.map_cons, val]
    have hb := h b (by simp)
    have hr : val bs % 16 ≤ 4 := by
      cases bs with
      | nil => simp [val]
      | cons c cs =>
        have := h c (by simp)
        simp only [val]
        omega
    rw [s3_split _ _ _ hb.1 hb.2 hr, ih]
/-- the bytes' counts side by side -/
theorem g_val (bs : List Nat) (h : ∀ b ∈ bs, b < 256) : s3 (s2 (s1 (val bs) (val (bs.map fun _ => 85))) (val (bs.map fun _ => 51))) (val (bs.map fun _ => 15)) = val (bs.map g) := by
  have e : ∀ (c : Nat) (f : Nat → Nat), (bs.map f).map (fun _ => c) = bs.map fun _ => c := fun c f => by rw [List.map_map]; rfl
  have h1 : ∀ b ∈ bs.map (s1 · 85), b < 256 := fun b hb => by
    obtain ⟨a, ha, rfl⟩ := List.mem_map.1 hb
    exact s1_lt ⟨a, h a ha⟩
  have h2 : ∀ b ∈ (bs.map (s1 · 85)).map (s2 · 51), b / 16 ≤ 4 ∧ b % 16 ≤ 4 := fun b hb => by
    obtain ⟨a', ha', rfl⟩ := List.mem_map.1 hb
    obtain ⟨a, ha, rfl⟩ := List.mem_map.1 ha'
    exact s2_ok ⟨a, h a ha⟩
  have e2 : ((bs.map (s1 · 85)).map (s2 · 51)).map (fun _ => 15) = bs.map fun _ => 15 := by
    rw [List.map_map, List.map_map]
    rfl
  rw [s1_val _ h, ← e 51 (s1 · 85), s2_val _ h1, ← e2, s3_val _ h2, List.map_map, List.map_map]
  rfl
theorem pc_byte {V : Nat} (j : Nat) : (List.range 8).countP (fun i => V.testBit (8 * j + i)) = pcN (V / 2 ^ (8 * j) % 256) 8 := by
  unfold pcN
  apply List.countP_congr
  intro i hi
  rw [List.mem_range] at hi
  rw [show (256 : Nat) = 2 ^ 8 by decide, Nat.testBit_mod_two_pow, decide_eq_true hi, Bool.true_and, Nat.testBit_div_two_pow, Nat.add_comm]
theorem pc64 (V : Nat) : pcN V 64 = pcN (V % 256) 8 + pcN (V / 256 % 256) 8 + pcN (V / 65536 % 256) 8 + pcN (V / 16777216 % 256) 8 + pcN (V / 4294967296 % 256) 8 + pcN (V / 1099511627776 % 256) 8 + pcN (V / 281474976710656 % 256) 8 + pcN (V / 72057594037927936 % 256) 8 := by
  have e : pcN V 64 = ((List.range 8).map fun j => (List.range 8).countP (fun i => V.testBit (8 * j + i))).sum := by
    unfold pcN
    rw [show List.range 64 = (List.range 8).flatMap fun j => (List.range 8).map fun i => 8 * j + i by decide +kernel, List.countP_flatMap]
    congr 1
  rw [e, show (List.range 8) = [0, 1, 2, 3, 4, 5, 6, 7] by decide]
  have q : ∀ j, ([0, 1, 2, 3, 4, 5, 6, 7] : List Nat).countP (fun i => V.testBit (8 * j + i)) = pcN (V / 2 ^ (8 * j) % 256) 8 := fun j => pc_byte j
  simp only [q, List.map_cons, List.map_nil, List.sum_cons, List.sum_nil]
  simp only [Nat.reduceMul, Nat.reducePow, Nat.pow_zero, Nat.div_one]
  omega
/-- OnesCount64's sums -/
theorem sums (V : Nat) (h : V < 18446744073709551616) (y z z2 : Nat) (hy : y = s3 (s2 (s1 V 6148914691236517205) 3689348814741910323) 1085102592571150095) (hz : z = y + y / 256) (hz2 : z2 = z + z / 65536) :
    z < 18446744073709551616 ∧ z2 < 18446744073709551616 ∧ z2 + z2 / 4294967296 < 9223372036854775808 ∧ (z2 + z2 / 4294967296) % 128 = pcN V 64 := by
  have hv : V = val [V % 256, V / 256 % 256, V / 65536 % 256, V / 16777216 % 256, V / 4294967296 % 256, V / 1099511627776 % 256, V / 281474976710656 % 256, V / 72057594037927936 % 256] := by
    simp only [val]
    omega
  have hp := pc64 V
  have hb : ∀ b ∈ [V % 256, V / 256 % 256, V / 65536 % 256, V / 16777216 % 256, V / 4294967296 % 256, V / 1099511627776 % 256, V / 281474976710656 % 256, V / 72057594037927936 % 256], b < 256 := by
    intro b hb
    simp only [List.mem_cons, List.not_mem_nil, or_false] at hb
    omega
  have hg := g_val _ hb
  have l0 := g_eq ⟨V % 256, by omega⟩
  have l1 := g_eq ⟨V / 256 % 256, by omega⟩
  have l2 := g_eq ⟨V / 65536 % 256, by omega⟩
  have l3 := g_eq ⟨V / 16777216 % 256, by omega⟩
  have l4 := g_eq ⟨V / 4294967296 % 256, by omega⟩
  have l5 := g_eq ⟨V / 1099511627776 % 256, by omega⟩
  have l6 := g_eq ⟨V / 281474976710656 % 256, by omega⟩
  have l7 := g_eq ⟨V / 72057594037927936 % 256, by omega⟩
  simp only at l0 l1 l2 l3 l4 l5 l6 l7
  rw [← hv] at hg
  simp only [List.map_cons, List.map_nil, l0, l1, l2, l3, l4, l5, l6, l7] at hg
  rw [show val [85, 85, 85, 85, 85, 85, 85, 85] = 6148914691236517205 by decide, show val [51, 51, 51, 51, 51, 51, 51, 51] = 3689348814741910323 by decide, show val [15, 15, 15, 15, 15, 15, 15, 15] = 1085102592571150095 by decide, ← hy] at hg
  rw [hp]
  clear hv hb hp l0 l1 l2 l3 l4 l5 l6 l7 hy h
  have q0 := pc_le (V % 256) 8
  have q1 := pc_le (V / 256 % 256) 8
  have q2 := pc_le (V / 65536 % 256) 8
  have q3 := pc_le (V / 16777216 % 256) 8
  have q4 := pc_le (V / 4294967296 % 256) 8
  have q5 := pc_le (V / 1099511627776 % 256) 8
  have q6 := pc_le (V / 281474976710656 % 256) 8
  have q7 := pc_le (V / 72057594037927936 % 256) 8
  generalize pcN (V % 256) 8 = p0 at *
  generalize pcN (V / 256 % 256) 8 = p1 at *
  generalize pcN (V / 65536 % 256) 8 = p2 at *
  generalize pcN (V / 16777216 % 256) 8 = p3 at *
  generalize pcN (V / 4294967296 % 256) 8 = p4 at *
  generalize pcN (V / 1099511627776 % 256) 8 = p5 at *
  generalize pcN (V / 281474976710656 % 256) 8 = p6 at *
  generalize pcN (V / 72057594037927936 % 256) 8 = p7 at *
  simp only [val] at hg
  subst hg
  have e1 : z = (p0 + p1) + 256 * (p1 + p2) + 65536 * (p2 + p3) + 16777216 * (p3 + p4) + 4294967296 * (p4 + p5) + 1099511627776 * (p5 + p6) + 281474976710656 * (p6 + p7) + 72057594037927936 * p7 := by omega
  clear hz
  have e2 : z2 = (p0 + p1 + p2 + p3) + 256 * (p1 + p2 + p3 + p4) + 65536 * (p2 + p3 + p4 + p5) + 16777216 * (p3 + p4 + p5 + p6) + 4294967296 * (p4 + p5 + p6 + p7) + 1099511627776 * (p5 + p6 + p7) + 281474976710656 * (p6 + p7) + 72057594037927936 * p7 := by omega
  clear hz2
  have e3 : z2 / 4294967296 = (p4 + p5 + p6 + p7) + 256 * (p5 + p6 + p7) + 65536 * (p6 + p7) + 16777216 * p7 := by omega
  rw [e3]
  have hzl : z < 18446744073709551616 := by omega
  clear e1
  exact ⟨hzl, by omega, by omega, by omega⟩
end Pc
end Go.Proofs.YthmddmddcdofaaaDoor
namespace Go.Proofs.YthmddmddcdofaaaDoor
open Go.RowKit
namespace Hps
theorem pow_in {k : Nat} (h : k < 64) : IntKind.u64.wrap (2 ^ k) = 2 ^ k ∧ (0 : Int) < 2 ^ k ∧ (2 : Int) ^ k < 18446744073709551616 := by
  have h1 : (2 : Nat) ^ k < 2 ^ 64 := Nat.pow_lt_pow_right (by omega) h
  have h2 : (0 : Nat) < 2 ^ k := Nat.pow_pos (by omega)
  have e : ((2 ^ k : Nat) : Int) = (2 : Int) ^ k := by rw [Int.natCast_pow]; rfl
  refine ⟨?_, by omega, by omega⟩
  rw [IntKind.wrap_u64]
  omega
theorem pow_out {k : Nat} (h : 64 ≤ k) : IntKind.u64.wrap (2 ^ k) = 0 := by
  have e : ((2 ^ k : Nat) : Int) = (2 : Int) ^ k := by rw [Int.natCast_pow]; rfl
  obtain ⟨j, rfl⟩ : ∃ j, k = 64 + j := ⟨k - 64, by omega⟩
  rw [IntKind.wrap_u64, ← e, Nat.pow_add, show (2 : Nat) ^ 64 = 18446744073709551616 by decide]
  omega
theorem or_in {V k : Nat} (hV : V < 18446744073709551616) (h : k < 64) : bits .or .u64 (V : Int) (2 ^ k) = ((V ||| 2 ^ k : Nat) : Int) := by
  have h1 : (2 : Nat) ^ k < 2 ^ 64 := Nat.pow_lt_pow_right (by omega) h
  have := u64_or_nat V (2 ^ k) hV (by omega)
  rw [← this, Int.natCast_pow]
  rfl
theorem and_in {V k : Nat} (hV : V < 18446744073709551616) (h : k < 64) : bits .and .u64 (V : Int) (2 ^ k) = if V.testBit k = true then 2 ^ k else 0 := by
  have h1 : (2 : Nat) ^ k < 2 ^ 64 := Nat.pow_lt_pow_right (by omega) h
  have := u64_and_nat V (2 ^ k) hV (by omega)
  rw [Int.natCast_pow] at this
  rw [show (2 : Int) ^ k = ((2 : Nat) : Int) ^ k from rfl, this, Bm.and_pow]
  split
  · rw [Int.natCast_pow]
  · rfl
/-- the number is that of a cell of the set -/
def hasB (V : Nat) (x : Int) : Bool := decide (0 ≤ x) && V.testBit x.toNat
def okV (V : Nat) (x : Int) : Bool := x == -1 || hasB V x
def okVs (V : Nat) (rs : List Int) : Bool := rs.all (okV V)
theorem okVs_iff {V : Nat} {rs : List Int} : okVs V rs = true ↔ ∀ n ∈ rs, okV V n = true := by simp [okVs]
theorem okVs_no {V : Nat} {rs : List Int} {k : Nat} {n : Int} (hn : rs[k]? = some n) (h : okV V n = false) : okVs V rs = false := by
  cases hh : okVs V rs
  · rfl
  · rw [okVs_iff.1 hh n (List.mem_of_getElem? hn)] at h
    cases h
/-- the set of the used cells -/
def usedW (cs : List Cl) : Nat := Bm.wordN (cs.map (·.u)) true
theorem usedW_lt {cs : List Cl} (h : cs.length ≤ 64) : usedW cs < 18446744073709551616 := Bm.wordN_lt _ _ (by simpa using h)
theorem usedW_bit (cs : List Cl) (i : Nat) : (usedW cs).testBit i = usedAt cs i := by
  unfold usedW
  rw [Bm.wordN_bit, List.getElem?_map]
  unfold usedAt
  cases cs[i]? with
  | none => simp
  | some c => cases h : c.u <;> simp [h]
theorem okV_used (cs : List Cl) (x : Int) : okV (usedW cs) x = okRef cs x := by
  unfold okV okRef hasB
  rw [usedW_bit]
theorem okVs_used (cs : List Cl) (rs : List Int) : okVs (usedW cs) rs = okRefs cs rs := by
  unfold okVs okRefs
  congr 1
  funext x
  exact okV_used cs x
/-- a cell is valid beside these used ones -/
def okCl (V : Nat) (c : Cl) : Bool := if c.u = true then (decide (0 ≤ c.d) && decide (c.d ≤ 99)) && (decide (c.r.length ≤ 3) && okVs V c.r) else c.d == 0 && decide (c.r.length = 0)
theorem okCl_used (cs : List Cl) (c : Cl) : okCl (usedW cs) c = okCell cs c := by
  unfold okCl okCell
  rw [okVs_used]
  cases hu : c.u
  · rw [if_neg (by decide), Bool.false_or]
    by_cases h : c.d = 0 ∧ c.r.length = 0
    · obtain ⟨h1, h2⟩ := h
      have : c.r = [] := List.eq_nil_of_length_eq_zero h2
      rw [h1, this]
      simp [okRefs]
    · have : (c.d == 0 && decide (c.r.length = 0)) = false := by
        rw [Bool.and_eq_false_iff, beq_eq_false_iff_ne, decide_eq_false_iff_not]
        omega
      rw [this]
      simp
  · rw [if_pos rfl, Bool.true_or, Bool.true_and]
    simp only [Bool.and_assoc]
end Hps
theorem has_any (V : Nat) (x : Int) (w : World) (hV : V < 18446744073709551616) :
    Calls Tryd.prog 124 #[.int .u64 V, .int .i64 x] w fun e w' => e = .returned (.bool (Hps.hasB V x)) ∧ w = w' := by
  by_cases h0 : 0 ≤ x
  · obtain ⟨k, rfl⟩ := Int.eq_ofNat_of_zero_le h0
    have h0' : (k : Int) ≥ 0 := h0
    have hkneg : ¬ ((k : Int) < 0) := by omega
    have HB := Lib.hid (show Hps.hasB V (k : Int) = V.testBit k by simp [Hps.hasB])
    by_cases h : k < 64
    · obtain ⟨p1, p2, p3⟩ := Hps.pow_in h
      have hand := Hps.and_in hV h
      cases ht : V.testBit k
      · rw [ht] at hand HB
        rw [if_neg (by decide)] at hand
        clear ht
        go_enter Tryd.func124, Tryd.ntmps124
        go_wp2_with fail
        go_ret
        exact ⟨by rw [HB.out]; rfl, rfl⟩
      · rw [ht] at hand HB
        rw [if_pos rfl] at hand
        have hz : ((2 : Int) ^ k != 0) = true := by rw [bne_iff_ne]; omega
        clear ht
        go_enter Tryd.func124, Tryd.ntmps124
        go_wp2_with fail
        go_ret
        exact ⟨by rw [HB.out]; rfl, rfl⟩
    · have HF := Lib.hid (show V.testBit k = false from Nat.testBit_lt_two_pow (Nat.lt_of_lt_of_le hV (by rw [show (18446744073709551616 : Nat) = 2 ^ 64 by decide]; exact Nat.pow_le_pow_right (by omega) (by omega))))
      have p1 : IntKind.u64.wrap (2 ^ min k 64) = 0 := by rw [show min k 64 = 64 by omega]; exact Hps.pow_out (Nat.le_refl _)
      have hand : bits .and .u64 (V : Int) 0 = 0 := by
        have := u64_and_nat V 0 hV (by omega)
        rw [Nat.and_zero] at this
        exact this
      go_enter Tryd.func124, Tryd.ntmps124
      go_wp2_with fail
      go_ret
      exact ⟨by rw [HB.out, HF.out]; first | rfl | (simp only [p1, hand]; rfl), rfl⟩
  · have h0' : decide (x ≥ 0) = false := decide_eq_false h0
    have HB := Lib.hid (show Hps.hasB V x = false by simp [Hps.hasB, h0])
    go_enter Tryd.func124, Tryd.ntmps124
    go_wp2_with fail
    go_ret
    exact ⟨by rw [HB.out]; rfl, rfl⟩
set_option maxHeartbeats 1000000 in
theorem hasTargets_any (F : Option Addr) (q e V : Nat) (rs : List Int) (w : World) (hf : IS w w.heap.size F q rs) (hV : V < 18446744073709551616) (hq : q ≤ 1099511627776) :
    Calls Tryd.prog 79 #[.int .u64 V, .slice F q e] w fun e w' => e = .returned (.bool (Hps.okVs V rs)) ∧ w = w' := by
  have hlr := hf.1
  go_enter Tryd.func79, Tryd.ntmps79
  go_wp2_with fail
  go_loopw [9] (fun i wr => ∃ k : Nat, k ≤ q ∧ i = .int .i64 k ∧ Hid (∀ j x, j < k → rs[j]? = some x → Hps.okV V x = true) ∧ wr = w) (fun i _ => q - (intOf i).toNat)
  case atStart => exact ⟨0, Nat.zero_le _, rfl, Lib.hid (fun j x hj => by omega), rfl⟩
  case round =>
    obtain ⟨k, hk, rfl, HP, rfl⟩ := hrel
    by_cases hlt : k < q
    · obtain ⟨g, o, x, rfl, hg, hx, c1⟩ := hf.at_ hlt
      have hlt' : (k : Int) < q := by omega
      have HN : Hps.okV V x = true → Hid (∀ j y, j < k + 1 → rs[j]? = some y → Hps.okV V y = true) := fun hok => Lib.hid fun j y hj hy => by
        rcases Nat.lt_or_ge j k with h1 | h1
        · exact HP.out j y h1 hy
        · obtain rfl : j = k := by omega
          rw [hx] at hy
          injection hy with hy
          rw [← hy]
          exact hok
      have HX := Lib.hid hx
      clear hx
      by_cases hm1 : x = -1
      · subst hm1
        have HN2 := HN (by simp [Hps.okV])
        clear HN
        go_wp2_with fail
        go_roundw
        case rel => exact ⟨k + 1, by omega, by go_num, HN2, trivial⟩
        case measure => simp [intOf]; omega
      · have hne : (x != -1) = true := by rw [bne_iff_ne]; exact hm1
        have HEQ := Lib.hid (show Hps.okV V x = Hps.hasB V x by simp [Hps.okV, hm1])
        cases hb : Hps.hasB V x
        · have HR := Lib.hid (Hps.okVs_no HX.out (HEQ.out.trans hb))
          have HB := Lib.hid hb
          clear hb HN
          go_wp2_with fail
          refine (has_any V x _ hV).mono ?_
          rw [HB.out]
          rintro e w1 ⟨rfl, rfl⟩
          go_wp2_with fail
          go_ret
          exact ⟨by rw [HR.out]; rfl, rfl⟩
        · have HN2 := HN (HEQ.out.trans hb)
          have HB := Lib.hid hb
          clear hb HN
          go_wp2_with fail
          refine (has_any V x _ hV).mono ?_
          rw [HB.out]
          rintro e w1 ⟨rfl, rfl⟩
          go_wp2_with fail
          go_roundw
          case rel => exact ⟨k + 1, by omega, by go_num, HN2, trivial⟩
          case measure => simp [intOf]; omega
    · obtain rfl : k = q := by omega
      have HR := Lib.hid (show Hps.okVs V rs = true by
        rw [Hps.okVs_iff]
        intro x hx
        obtain ⟨j, hj⟩ := List.mem_iff_getElem?.1 hx
        exact HP.out j x (by rw [← hlr]; exact (List.getElem?_eq_some_iff.1 hj).1) hj)
      go_wp2_with fail
      go_ret
      exact ⟨by rw [HR.out]; rfl, rfl⟩
set_option maxHeartbeats 1000000 in
theorem usedSet_any (A : Option Addr) (n c : Nat) (cs : List Cl) (w : World) (h : CS w w.heap.size A n cs) (hn : n ≤ 64) :
    Calls Tryd.prog 66 #[.slice A n c] w fun e w' => e = .returned (.int .u64 (Hps.usedW cs : Nat)) ∧ Below w.heap.size w w' := by
  have hlc := h.1
  obtain ⟨us, hus⟩ : ∃ us, cs.map (·.u) = us := ⟨_, rfl⟩
  have HW := Lib.hid (show Hps.usedW cs = Bm.setN us true n by rw [Hps.usedW, Bm.wordN, hus, ← hus, List.length_map, hlc])
  have HUS := Lib.hid hus
  clear hus
  go_enter Tryd.func66, Tryd.ntmps66
  go_wp2_with fail
  go_loopw [3, 8] (fun v i wr => ∃ k : Nat, k ≤ n ∧ i = .int .i64 k ∧ v = .int .u64 (Bm.setN us true k : Nat) ∧ Below w.heap.size w wr) (fun _ i _ => n - (intOf i).toNat)
  case atStart => exact ⟨0, Nat.zero_le _, rfl, rfl, Below.refl _ _⟩
  case round =>
    obtain ⟨k, hk, rfl, rfl, bb⟩ := hrel
    by_cases hlt : k < n
    · obtain ⟨g, o, cl, A', m', cc, rfl, hg, hcl, d1, d2, d3, hmc, hi⟩ := (h.below bb).at_ hlt
      have hlt' : (k : Int) < n := by omega
      have hV := Bm.setN_64 us true (k := k) (by omega)
      obtain ⟨p1, p2, p3⟩ := Hps.pow_in (k := k) (by omega)
      have hor := Hps.or_in (V := Bm.setN us true k) (k := k) hV (by omega)
      have hkneg : ¬ ((k : Int) < 0) := by omega
      have hux : us[k]? = some cl.u := by rw [← HUS.out, List.getElem?_map, hcl]; rfl
      clear hcl
      cases hu : cl.u
      · rw [hu] at d1 hux
        have HN := Lib.hid (show Bm.setN us true (k + 1) = Bm.setN us true k by rw [Bm.setN, if_neg (by rw [hux]; decide)])
        have bW := bb.alloc bb.size (.cells #[.bool false, .int .i64 cl.d, .slice A' m' cc] 40)
        clear hu hux
        go_wp2_with fail
        go_roundw
        case rel => exact ⟨k + 1, by omega, by go_num, by rw [HN.out], bW⟩
        case measure => simp [intOf]; omega
      · rw [hu] at d1 hux
        have HN := Lib.hid (show Bm.setN us true (k + 1) = Bm.setN us true k ||| 2 ^ k by rw [Bm.setN, if_pos hux])
        have bW := bb.alloc bb.size (.cells #[.bool true, .int .i64 cl.d, .slice A' m' cc] 40)
        clear hu hux
        go_wp2_with fail
        go_roundw
        case rel => exact ⟨k + 1, by omega, by go_num, by rw [HN.out], bW⟩
        case measure => simp [intOf]; omega
    · obtain rfl : k = n := by omega
      go_wp2_with fail
      go_ret
      exact ⟨by rw [HW.out]; rfl, bb⟩
set_option maxHeartbeats 1000000 in
theorem cellValid_any (cl : Cl) (A : Option Addr) (m cc V : Nat) (w : World) (hi : IS w w.heap.size A m cl.r) (hV : V < 18446744073709551616) :
    Calls Tryd.prog 78 #[.agg #[.bool cl.u, .int .i64 cl.d, .slice A m cc], .int .u64 V] w fun e w' => e = .returned (.bool (Hps.okCl V cl)) ∧ Below w.heap.size w w' := by
  have hlr := hi.1
  cases hu : cl.u
  · have bW := (Below.refl w.heap.size w).alloc (Nat.le_refl _) (.cells #[.bool false, .int .i64 cl.d, .slice A m cc] 40)
    have HC := Lib.hid (show Hps.okCl V cl = (cl.d == 0 && decide (m = 0)) by unfold Hps.okCl; rw [if_neg (by rw [hu]; decide), hlr])
    clear hu
    by_cases hd : cl.d = 0
    · have hd' : (cl.d == 0) = true := by rw [beq_iff_eq]; exact hd
      have HD := Lib.hid hd'
      clear hd
      by_cases hm0 : m = 0
      · subst hm0
        go_enter Tryd.func78, Tryd.ntmps78
        go_wp2_with fail
        go_ret
        exact ⟨by rw [HC.out, HD.out]; rfl, bW⟩
      · have hm0' : ((m : Int) == 0) = false := by rw [beq_eq_false_iff_ne]; omega
        have HM := Lib.hid (decide_eq_false hm0)
        go_enter Tryd.func78, Tryd.ntmps78
        go_wp2_with fail
        go_ret
        exact ⟨by rw [HC.out, HD.out, HM.out]; rfl, bW⟩
    · have hd' : (cl.d == 0) = false := by rw [beq_eq_false_iff_ne]; exact hd
      have HD := Lib.hid hd'
      go_enter Tryd.func78, Tryd.ntmps78
      go_wp2_with fail
      go_ret
      exact ⟨by rw [HC.out, HD.out]; rfl, bW⟩
  · have bW := (Below.refl w.heap.size w).alloc (Nat.le_refl _) (.cells #[.bool true, .int .i64 cl.d, .slice A m cc] 40)
    have hiW := (hi.below bW).more bW.size
    have HC := Lib.hid (show Hps.okCl V cl = ((decide (0 ≤ cl.d) && decide (cl.d ≤ 99)) && (decide (m ≤ 3) && Hps.okVs V cl.r)) by unfold Hps.okCl; rw [if_pos hu, hlr])
    clear hu
    by_cases h1 : 0 ≤ cl.d
    · by_cases h2 : cl.d ≤ 99
      · by_cases h3 : m ≤ 3
        · have h3' : (m : Int) ≤ 3 := by omega
          have H := Lib.hid (And.intro (decide_eq_true h1) (And.intro (decide_eq_true h2) (decide_eq_true h3)))
          go_enter Tryd.func78, Tryd.ntmps78
          go_wp2_with fail
          refine (hasTargets_any _ _ _ V cl.r _ hiW hV (by omega)).mono ?_
          rintro e w1 ⟨rfl, rfl⟩
          go_wp2_with fail
          go_ret
          exact ⟨by rw [HC.out, H.out.1, H.out.2.1, H.out.2.2]; simp, bW⟩
        · have h3' : ¬ (m : Int) ≤ 3 := by omega
          have H := Lib.hid (decide_eq_false h3)
          go_enter Tryd.func78, Tryd.ntmps78
          go_wp2_with fail
          go_ret
          exact ⟨by rw [HC.out, H.out]; simp, bW⟩
      · have H := Lib.hid (decide_eq_false h2)
        go_enter Tryd.func78, Tryd.ntmps78
        go_wp2_with fail
        go_ret
        exact ⟨by rw [HC.out, H.out]; simp, bW⟩
    · have H := Lib.hid (decide_eq_false h1)
      go_enter Tryd.func78, Tryd.ntmps78
      go_wp2_with fail
      go_ret
      exact ⟨by rw [HC.out, H.out]; simp, bW⟩
end Go.Proofs.YthmddmddcdofaaaDoor
namespace Go.Proofs.YthmddmddcdofaaaDoor
open Go.RowKit
set_option maxRecDepth 100000
set_option maxHeartbeats 1000000 in
theorem heapValid_any (A R : Option Addr) (n c m d : Nat) (h : Hp) (w : World) (hs : HS w w.heap.size A n R m h) (hn : n ≤ 1099511627776) (hm : m ≤ 1099511627776) (_hc : n ≤ c) (_hd : m ≤ d) :
    Calls Tryd.prog 29 #[heapV A n c R m d] w fun e w' => e = .returned (.bool (Hps.validH h)) ∧ Below w.heap.size w w' := by
  have hlc := hs.cells.1
  have hlr := hs.roots.1
  have b0 : Below w.heap.size w (w.alloc (.cells #[.slice A n c, .slice R m d] 26)) := (Below.refl _ _).alloc (Nat.le_refl _) _
  by_cases h40 : n ≤ 40
  · by_cases h4 : m = 4
    · subst h4
      have h40' : (n : Int) ≤ 40 := by omega
      have r0 := hs.up b0
      have hw0 := Rw.new w 26 #[.slice A n c, .slice R 4 d]
      have hV := Hps.usedW_lt (cs := h.cs) (by omega)
      have HOR := Lib.hid (Hps.okVs_used h.cs)
      have HOC := Lib.hid (Hps.okCl_used h.cs)
      go_enter Tryd.func29, Tryd.ntmps29
      go_wp2_with fail
      refine (usedSet_any _ _ _ h.cs _ r0.cells (by omega)).mono ?_
      rintro e w1 ⟨rfl, b1⟩
      obtain ⟨V, hVe⟩ : ∃ V, Hps.usedW h.cs = V := ⟨_, rfl⟩
      rw [hVe] at hV HOR HOC ⊢
      have bb1 := b0.trans (b1.mono b0.size)
      have hw1 := hw0.keep b1 (by simp)
      clear r0 hw0 hVe b1
      have z0 : w1.cell? ⟨w.heap.size, 0, none⟩ = some (.slice A n c) := hw1.cell 0
      go_wp2_with fail
      go_loopw [22] (fun i wr => ∃ k : Nat, k ≤ n ∧ i = .int .i64 k ∧ Hid (∀ j cl, j < k → h.cs[j]? = some cl → Hps.okCell h.cs cl = true) ∧ Below w.heap.size w wr ∧ Rw wr w.heap.size 26 #[.slice A n c, .slice R 4 d]) (fun i _ => n - (intOf i).toNat)
      case atStart => exact ⟨0, Nat.zero_le _, rfl, Lib.hid (fun j x hj => by omega), bb1, hw1⟩
      case round =>
        clear bb1 hw1 z0
        obtain ⟨k, hk, rfl, HP, bb, hw⟩ := hrel
        have z1 : wr.cell? ⟨w.heap.size, 1, none⟩ = some (.slice R 4 d) := hw.cell 1
        by_cases hlt : k < n
        · obtain ⟨g, o, cl, A', m', cc, e1, hg, hcl, d1, d2, d3, hmc, hi⟩ := hs.cells.at_ hlt
          subst e1
          replace d1 := (bb.cell (p := ⟨g, o + k * 3, none⟩) hg).trans d1
          replace d2 := (bb.cell (p := ⟨g, o + k * 3 + 1, none⟩) hg).trans d2
          replace d3 := (bb.cell (p := ⟨g, o + k * 3 + 2, none⟩) hg).trans d3
          have hlt' : (k : Int) < n := by omega
          have HCL := Lib.hid hcl
          have HM := Lib.hid hi.1
          have bW := bb.alloc bb.size (.cells #[.bool cl.u, .int .i64 cl.d, .slice A' m' cc] 40)
          have hwW := hw.alloc (.cells #[.bool cl.u, .int .i64 cl.d, .slice A' m' cc] 40)
          have hiW := (hi.below bW).more bW.size
          clear hcl
          go_wp2_with fail
          refine (cellValid_any cl A' m' cc V _ hiW hV).mono ?_
          rw [HOC.out]
          cases hok : Hps.okCell h.cs cl
          · have HR := Lib.hid (Hps.invalid_cell HCL.out hok)
            rintro e w2 ⟨rfl, b2⟩
            have bn := bW.trans (b2.mono bW.size)
            go_wp2_with fail
            go_ret
            exact ⟨by rw [HR.out]; rfl, bn⟩
          · have HN : Hid (∀ j c', j < k + 1 → h.cs[j]? = some c' → Hps.okCell h.cs c' = true) := Lib.hid fun j y hj hy => by
              rcases Nat.lt_or_ge j k with h1 | h1
              · exact HP.out j y h1 hy
              · obtain rfl : j = k := by omega
                rw [HCL.out] at hy
                injection hy with hy
                rw [← hy]
                exact hok
            clear hok
            rintro e w2 ⟨rfl, b2⟩
            have bn := bW.trans (b2.mono bW.size)
            have hwn := hwW.keep b2 hwW.lt
            go_wp2_with fail
            go_roundw
            case rel => exact ⟨k + 1, by omega, by go_num, HN, bn, hwn⟩
            case measure => simp [intOf]; omega
        · obtain rfl : k = n := by omega
          have hall : ∀ cl ∈ h.cs, Hps.okCell h.cs cl = true := fun cl hcl => by
            obtain ⟨j, hj⟩ := List.mem_iff_getElem?.1 hcl
            exact HP.out j cl (by rw [← hlc]; exact (List.getElem?_eq_some_iff.1 hj).1) hj
          have HR := Lib.hid (show Hps.validH h = Hps.okRefs h.cs h.rt by rw [Hps.valid_all hall, hlc, hlr, decide_eq_true h40]; simp)
          have rr := (hs.roots.below bb).more bb.size
          clear hall
          go_wp2_with fail
          refine (hasTargets_any _ _ _ V h.rt _ rr hV (by omega)).mono ?_
          rintro e w2 ⟨rfl, rfl⟩
          go_wp2_with fail
          go_ret
          exact ⟨by rw [HR.out, ← HOR.out]; rfl, bb⟩
    · have h40' : (n : Int) ≤ 40 := by omega
      have h4' : ((m : Int) != 4) = true := by rw [bne_iff_ne]; omega
      have HR := Lib.hid (show Hps.validH h = false by
        cases hv : Hps.validH h
        · rfl
        · have := (Hps.valid_iff.1 hv).2.2.1
          omega)
      clear h4
      go_enter Tryd.func29, Tryd.ntmps29
      go_wp2_with fail
      go_ret
      exact ⟨by rw [HR.out]; rfl, b0⟩
  · have h40' : ¬ (n : Int) ≤ 40 := by omega
    have h40'' : (40 : Int) < n := by omega
    have HR := Lib.hid (show Hps.validH h = false by
      cases hv : Hps.validH h
      · rfl
      · have := (Hps.valid_iff.1 hv).2.1
        omega)
    go_enter Tryd.func29, Tryd.ntmps29
    go_wp2_with fail
    go_ret
    exact ⟨by rw [HR.out]; rfl, b0⟩
end Go.Proofs.YthmddmddcdofaaaDoor

namespace Go.Proofs.YthmddmddcdofaaaDoor
open Go.RowKit
/-- the work list's state: the marks in block g, the list in blocks of its own behind it, the heap's box -/
structure RS (w wr : World) (box : Array Value) (n : Nat) (lv : Value) (cs : List Cl) (rs : List Int) (outs : List Bool) (l : List Int) : Prop where
  own : OwnO wr w.heap.size (.slice (some ⟨w.heap.size + 1, 0, none⟩) n n) outs
  lst : OwnI wr (w.heap.size + 2) lv l
  box : Rw wr w.heap.size 26 box
  bel : Below w.heap.size w wr
  wk : Hps.Wk cs rs outs l
  big : w.heap.size + 2 ≤ wr.heap.size
theorem RS.draws {w wr : World} {box : Array Value} {n : Nat} {lv : Value} {cs : List Cl} {rs : List Int} {outs : List Bool} {l : List Int} (h : RS w wr box n lv cs rs outs l) (k : Nat) : RS w (wr.drewN k) box n lv cs rs outs l :=
  ⟨h.own, h.lst, h.box, below_drewN h.bel k, h.wk, h.big⟩
theorem RS.pre {w wr : World} {box : Array Value} {n : Nat} {lv : Value} {cs : List Cl} {rs : List Int} {outs : List Bool} {l : List Int} (h : RS w wr box n lv cs rs outs l) (y : Nat) : OwnI ((wr.setCell ⟨w.heap.size + 1, y, none⟩ (.bool true)).alloc (.cells #[.int .i64 y] 3)) (w.heap.size + 2) lv l := by
  refine World.ownsRow.alloc (h.lst.far (only_put (World.grownBy.refl _ _) y (.bool true)) ?_) _
  cases e : lv.ownBlock with
  | none => exact .inl rfl
  | some kk =>
    right
    intro e'
    injection e' with e'
    have := (World.ownsRow.lt h.lst kk e).1
    omega
/-- one more is marked and listed -/
theorem RS.mark {w wr w5 : World} {box : Array Value} {n y : Nat} {lv v5 : Value} {cs : List Cl} {rs : List Int} {outs : List Bool} {l : List Int} (h : RS w wr box n lv cs rs outs l) (hn : outs.length = n)
    (hy : outs[y]? = some false) (hr : Hps.Rch cs rs y)
    (ho : OwnI w5 (w.heap.size + 2) v5 (l ++ [(y : Int)])) (hg : ((wr.setCell ⟨w.heap.size + 1, y, none⟩ (.bool true)).alloc (.cells #[.int .i64 y] 3)).grownBy w5 lv.ownBlock) : RS w w5 box n v5 cs rs (outs.set y true) (l ++ [(y : Int)]) := by
  have hlv : ∀ k, lv.ownBlock = some k → w.heap.size + 2 ≤ k := fun k hk => (World.ownsRow.lt h.lst k hk).1
  have o1 := h.own.put' (j := y) hn true
  have o2 := World.ownsRow.alloc o1 (.cells #[.int .i64 y] 3)
  have o3 : OwnO w5 w.heap.size (.slice (some ⟨w.heap.size + 1, 0, none⟩) n n) (outs.set y true) := World.ownsRow.kept o2 hg (by
    right
    intro e
    have := hlv (w.heap.size + 1) e.symm
    omega)
  have b1 := (h.bel.setCell (p := ⟨w.heap.size + 1, y, none⟩) (by simp) (.bool true)).alloc (by simp; have := h.bel.size; omega) (.cells #[.int .i64 y] 3)
  refine ⟨o3, ho, ?_, b1.grown hg (by simp; have := h.bel.size; omega) (fun k hk => by have := hlv k hk; omega), h.wk.mark hy hr, ?_⟩
  · exact Rw.far ((Rw.other (w := wr) h.box (by omega) _).alloc _) hg (fun e => by have := hlv w.heap.size e.symm; omega)
  · have := hg.size
    have := h.big
    simp at *
    omega
theorem take_snocI {xs : List Int} {k : Nat} {x : Int} (h : xs[k]? = some x) : xs.take (k + 1) = xs.take k ++ [x] := by
  rw [List.take_add_one, h]
  rfl
set_option maxHeartbeats 4000000 in
theorem l7Reach_any (A R F : Option Addr) (n c m d q e : Nat) (h : Hp) (rs : List Int) (w : World) (hs : HS w w.heap.size A n R m h) (hf : IS w w.heap.size F q rs) (hn : n ≤ 1000000) (hq : q ≤ 1000000)
    (ho : Hps.okRefs h.cs rs = true) (hr : ∀ cl ∈ h.cs, Hps.okRefs h.cs cl.r = true) (hb : ∀ cl ∈ h.cs, cl.r.length ≤ 1000000) :
    Calls Tryd.prog 123 #[heapV A n c R m d, .slice F q e] w (GaveO w (Hps.reachL h.cs rs)) := by
  have hlc := hs.cells.1
  have hlr := hf.1
  have HO := Lib.hid ho
  have HRF := Lib.hid hr
  have HB := Lib.hid hb
  clear ho hr hb
  have hmk := makeO (w.alloc (.cells #[.slice A n c, .slice R m d] 26)) n (by omega)
  have st : RS w (((w.alloc (.cells #[.slice A n c, .slice R m d] 26)).alloc (.cells (Array.replicate n (.bool false)) 4)).alloc (.cells #[] 3)) #[.slice A n c, .slice R m d] n (.slice (some ⟨w.heap.size + 2, 0, none⟩) 0 0) h.cs rs (List.replicate n false) [] := by
    refine ⟨?_, ?_, ((Rw.new w _ _).alloc _).alloc _, (((Below.refl w.heap.size w).alloc (Nat.le_refl _) _).alloc (by simp) _).alloc (by simp; omega) _, by rw [← hlc]; exact Hps.Wk.start _ _, by simp⟩
    · have := own_madeO (w.alloc (.cells #[.slice A n c, .slice R m d] 26)) n (by omega)
      rw [World.size_alloc] at this
      exact World.ownsRow.alloc (this.base (by omega)) _
    · have := own_noneI ((w.alloc (.cells #[.slice A n c, .slice R m d] 26)).alloc (.cells (Array.replicate n (.bool false)) 4)) (w.heap.size + 2) (by simp)
      simpa using this
  obtain ⟨w0, hw0⟩ : ∃ w0, (w.alloc (.cells #[.slice A n c, .slice R m d] 26)).alloc (.cells (Array.replicate n (.bool false)) 4) = w0 := ⟨_, rfl⟩
  have hsz0 : w0.heap.size = w.heap.size + 2 := by rw [← hw0]; simp
  rw [hw0] at hmk st
  simp at hmk
  clear hw0
  go_enter Tryd.func123, Tryd.ntmps123
  go_wp2
  clear hmk
  go_loopw [6, 7] (fun lv i wr => ∃ (k : Nat) (outs : List Bool) (l : List Int), k ≤ q ∧ i = .int .i64 k ∧ RS w wr #[.slice A n c, .slice R m d] n lv h.cs rs outs l ∧ Hid (Hps.Marked outs (rs.take k))) (fun _ i _ => q - (intOf i).toNat)
  case atStart => exact ⟨0, _, _, Nat.zero_le _, rfl, st, Lib.hid (by rw [List.take_zero]; exact Hps.Marked.nil _)⟩
  case round =>
    clear st hsz0
    obtain ⟨k, outs, l, hk, rfl, S, HM⟩ := hrel
    have hlen : outs.length = n := S.wk.len.trans hlc
    by_cases hlt : k < q
    · obtain ⟨g, o, x, rfl, hg, hx, d0⟩ := hf.at_ hlt
      have d1 := (S.bel.cell (p := ⟨g, o + k, none⟩) hg).trans d0
      have hlt' : (k : Int) < q := by omega
      have HT := Lib.hid (take_snocI hx)
      have hok := Hps.okRefs_at HO.out hx
      by_cases hx0 : 0 ≤ x
      · obtain ⟨y, rfl, hy, _⟩ := Hps.okRef_nat hok hx0
        have HRC := Lib.hid (Hps.Rch.root (cs := h.cs) (List.mem_of_getElem? hx))
        rw [hlc] at hy
        obtain ⟨g', o', b, e1, _, hbk, c1⟩ := S.own.reads.at_ (k := y) hy
        injection e1 with e1
        injection e1 with e2 e3
        subst e2 e3
        rw [Nat.zero_add] at c1
        have hy' : (y : Int) < n := by omega
        clear hx hok
        cases b
        · have HBK := Lib.hid hbk
          have fz : wr.frozen? ⟨w.heap.size + 1, y, none⟩ = false := S.own.frozen hlen y
          have d2 := ((S.bel.setCell (p := ⟨w.heap.size + 1, y, none⟩) (by simp) (.bool true)).cell (p := ⟨g, o + k, none⟩) hg).trans d0
          have ow := S.pre y
          have rr : IS ((wr.setCell ⟨w.heap.size + 1, y, none⟩ (.bool true)).alloc (.cells #[.int .i64 y] 3)) ((wr.setCell ⟨w.heap.size + 1, y, none⟩ (.bool true)).alloc (.cells #[.int .i64 y] 3)).heap.size (some ⟨(wr.setCell ⟨w.heap.size + 1, y, none⟩ (.bool true)).heap.size, 0, none⟩) 1 [(y : Int)] := (own_oneI _ (y : Int) 0 (Nat.zero_le _)).reads
          have hyn : l.length + 1 ≤ 1099511627776 := by have := S.wk.le; omega
          have hsz := S.big
          simp only [World.size_setCell] at rr
          clear hbk
          go_wp2_with (at_builtin; refine wpList_appendI rfl (.tmp 43) (.tmp 48) rfl (w.heap.size + 2) _ l rfl ow (some ⟨wr.heap.size, 0, none⟩) 1 1 _ [(y : Int)] rfl rr hyn (by simp; omega) ?_; intro v5 w5 o5 g5 s5)
          go_roundw
          case rel => exact ⟨k + 1, _, _, by omega, by go_num, S.mark hlen HBK.out HRC.out o5 g5, Lib.hid (by rw [HT.out]; exact (HM.out.set y).snoc fun _ => by simp [hlen, hy])⟩
          case measure => simp [intOf]; omega
        · have HBK := Lib.hid hbk
          clear hbk
          go_wp2_with fail
          go_roundw
          case rel => exact ⟨k + 1, _, _, by omega, by go_num, S, Lib.hid (by rw [HT.out]; exact HM.out.snoc fun _ => by simpa using HBK.out)⟩
          case measure => simp [intOf]; omega
      · have hx0' : decide ((0 : Int) ≤ x) = false := decide_eq_false hx0
        clear hx hok
        go_wp2_with fail
        go_roundw
        case rel => exact ⟨k + 1, _, _, by omega, by go_num, S, Lib.hid (by rw [HT.out]; exact HM.out.snoc fun hh => absurd hh hx0)⟩
        case measure => simp [intOf]; omega
    · obtain rfl : k = q := by omega
      rw [List.take_of_length_le (by omega)] at HM
      go_wp2_with fail
      go_loopw [6, 8] (fun lv i wr => ∃ (k : Nat) (outs : List Bool) (l : List Int), k ≤ l.length ∧ i = .int .i64 k ∧ RS w wr #[.slice A n c, .slice R m d] n lv h.cs rs outs l ∧ Hid (Hps.Marked outs rs) ∧ Hid (Hps.Done h.cs outs l k)) (fun _ i _ => n - (intOf i).toNat)
      case atStart => exact ⟨0, _, _, Nat.zero_le _, rfl, S, HM, Lib.hid (Hps.Done.zero _ _ _)⟩
      case round =>
        clear S HM hlen hk hlt
        obtain ⟨k, outs, l, hk, rfl, S, HM, HD⟩ := hrel
        obtain ⟨A6, c6, e6, f6⟩ := S.lst.form
        subst e6
        have hle := S.wk.le
        by_cases hlt : k < l.length
        · have hlt' : (k : Int) < l.length := by omega
          obtain ⟨g6, o6, yi, e6, hg6, hy6, d6⟩ := S.lst.reads.at_ (k := k) hlt
          subst e6
          obtain ⟨y, rfl, hy⟩ := S.wk.nat yi (List.mem_of_getElem? hy6)
          rw [hlc] at hy
          obtain ⟨g, o, cl, A', m', cc, e1, hg, hcl, d1, d2, d3, hmc, hi⟩ := hs.cells.at_ (k := y) hy
          subst e1
          have z0 : wr.cell? ⟨w.heap.size, 0, none⟩ = some (.slice (some ⟨g, o, none⟩) n c) := S.box.cell 0
          have d3' := (S.bel.cell (p := ⟨g, o + y * 3 + 2, none⟩) hg).trans d3
          have hy' : (y : Int) < n := by omega
          have hm3 : m' ≤ 1000000 := by have := HB.out cl (List.mem_of_getElem? hcl); have := hi.1; omega
          have HOK := Lib.hid (HRF.out cl (List.mem_of_getElem? hcl))
          have HRY := Lib.hid (S.wk.rch y (List.mem_of_getElem? hy6))
          have HY6 := Lib.hid hy6
          have HCL := Lib.hid hcl
          clear hy6 hcl d1 d2 d3 f6
          go_wp2_with fail
          go_big_quiet (fail)
          go_wp2
          go_loopw [6, 10] (fun lv i wr => ∃ (j : Nat) (outs : List Bool) (l : List Int), j ≤ m' ∧ i = .int .i64 j ∧ RS w wr #[.slice (some ⟨g, o, none⟩) n c, .slice R m d] n lv h.cs rs outs l ∧ Hid (Hps.Marked outs rs) ∧ Hid (Hps.Done h.cs outs l k) ∧ Hid (l[k]? = some (y : Int)) ∧ Hid (Hps.Marked outs (cl.r.take j))) (fun _ i _ => m' - (intOf i).toNat)
          case atStart => exact ⟨0, _, _, Nat.zero_le _, rfl, S.draws _, HM, HD, HY6, Lib.hid (by rw [List.take_zero]; exact Hps.Marked.nil _)⟩
          case round =>
            clear S HM HD HY6 d6 z0 d3' hle hlt hlt' hk
            obtain ⟨j, outs, l, hj, rfl, S, HM, HD, HY6, HMJ⟩ := hrel
            have hlen : outs.length = n := S.wk.len.trans hlc
            have hkl : k < l.length := (List.getElem?_eq_some_iff.1 HY6.out).1
            by_cases hlt : j < m'
            · obtain ⟨gr, or, x, e2, hgr, hx, d0⟩ := hi.at_ hlt
              subst e2
              have d1 := (S.bel.cell (p := ⟨gr, or + j, none⟩) hgr).trans d0
              have hlt' : (j : Int) < m' := by omega
              have HT := Lib.hid (take_snocI hx)
              have hok := Hps.okRefs_at HOK.out hx
              by_cases hx0 : 0 ≤ x
              · obtain ⟨z, rfl, hz, _⟩ := Hps.okRef_nat hok hx0
                have HRC := Lib.hid (Hps.Rch.step HRY.out HCL.out (List.mem_of_getElem? hx))
                rw [hlc] at hz
                obtain ⟨g', o', b, e1, _, hbk, c1⟩ := S.own.reads.at_ (k := z) hz
                injection e1 with e1
                injection e1 with e2 e3
                subst e2 e3
                rw [Nat.zero_add] at c1
                have hz' : (z : Int) < n := by omega
                clear hx hok
                cases b
                · have HBK := Lib.hid hbk
                  have fz : wr.frozen? ⟨w.heap.size + 1, z, none⟩ = false := S.own.frozen hlen z
                  have d2 := ((S.bel.setCell (p := ⟨w.heap.size + 1, z, none⟩) (by simp) (.bool true)).cell (p := ⟨gr, or + j, none⟩) hgr).trans d0
                  have ow := S.pre z
                  have rr : IS ((wr.setCell ⟨w.heap.size + 1, z, none⟩ (.bool true)).alloc (.cells #[.int .i64 z] 3)) ((wr.setCell ⟨w.heap.size + 1, z, none⟩ (.bool true)).alloc (.cells #[.int .i64 z] 3)).heap.size (some ⟨(wr.setCell ⟨w.heap.size + 1, z, none⟩ (.bool true)).heap.size, 0, none⟩) 1 [(z : Int)] := (own_oneI _ (z : Int) 0 (Nat.zero_le _)).reads
                  have hyn : l.length + 1 ≤ 1099511627776 := by have := S.wk.le; omega
                  have hsz := S.big
                  simp only [World.size_setCell] at rr
                  clear hbk
                  go_wp2_with (at_builtin; refine wpList_appendI rfl (.tmp 92) (.tmp 97) rfl (w.heap.size + 2) _ l rfl ow (some ⟨wr.heap.size, 0, none⟩) 1 1 _ [(z : Int)] rfl rr hyn (by simp; omega) ?_; intro v5 w5 o5 g5 s5)
                  go_roundw
                  case rel => exact ⟨j + 1, _, _, by omega, by go_num, S.mark hlen HBK.out HRC.out o5 g5, Lib.hid (HM.out.set z), Lib.hid (HD.out.more (by omega)), Lib.hid (by rw [List.getElem?_append_left hkl]; exact HY6.out), Lib.hid (by rw [HT.out]; exact (HMJ.out.set z).snoc fun _ => by simp [hlen, hz])⟩
                  case measure => simp [intOf]; omega
                · have HBK := Lib.hid hbk
                  clear hbk
                  go_wp2_with fail
                  go_roundw
                  case rel => exact ⟨j + 1, _, _, by omega, by go_num, S, HM, HD, HY6, Lib.hid (by rw [HT.out]; exact HMJ.out.snoc fun _ => by simpa using HBK.out)⟩
                  case measure => simp [intOf]; omega
              · have hx0' : decide ((0 : Int) ≤ x) = false := decide_eq_false hx0
                clear hx hok
                go_wp2_with fail
                go_roundw
                case rel => exact ⟨j + 1, _, _, by omega, by go_num, S, HM, HD, HY6, Lib.hid (by rw [HT.out]; exact HMJ.out.snoc fun hh => absurd hh hx0)⟩
                case measure => simp [intOf]; omega
            · obtain rfl : j = m' := by omega
              have HMJ2 := Lib.hid (show Hps.Marked outs cl.r by
                have := HMJ.out
                rwa [List.take_of_length_le (by have := hi.1; omega)] at this)
              have hle := S.wk.le
              go_wp2_with fail
              go_roundw
              case rel => exact ⟨k + 1, _, _, by omega, by go_num, S, HM, Lib.hid (HD.out.succ HY6.out HCL.out HMJ2.out)⟩
              case measure => simp [intOf]; omega
        · obtain rfl : k = l.length := by omega
          have HF := Lib.hid (S.wk.fin HM.out HD.out)
          go_wp2_with fail
          go_ret
          exact ⟨_, rfl, by rw [← HF.out]; exact S.own, S.bel⟩
end Go.Proofs.YthmddmddcdofaaaDoor

namespace Go.Proofs.YthmddmddcdofaaaDoor
open Go.RowKit
namespace Hps
theorem valid_small {h : Hp} (hv : validH h = true) : h.cs.length ≤ 40 ∧ h.rt.length = 4 ∧ ∀ cl ∈ h.cs, cl.r.length ≤ 3 :=
  ⟨(valid_iff.1 hv).2.1, (valid_iff.1 hv).2.2.1, fun cl hcl => (okCell_iff.1 ((valid_iff.1 hv).1 cl hcl)).2.2.1⟩
end Hps
set_option maxHeartbeats 1000000 in
theorem mReachable_any (A R : Option Addr) (n c m d : Nat) (h : Hp) (w : World) (hs : HS w w.heap.size A n R m h) (hn : n ≤ 1099511627776) (hm : m ≤ 1099511627776) :
    Calls Tryd.prog 69 #[heapV A n c R m d] w (GaveO w (Hps.reachH h)) := by
  have hlc := hs.cells.1
  have hlr := hs.roots.1
  have b0 : Below w.heap.size w (w.alloc (.cells #[.slice A n c, .slice R m d] 26)) := (Below.refl _ _).alloc (Nat.le_refl _) _
  have r0 := hs.up b0
  have hw0 := Rw.new w 26 #[.slice A n c, .slice R m d]
  cases hv : Hps.validH h
  · have HR := Lib.hid (show Hps.reachH h = [] by rw [Hps.reachH, hv]; rfl)
    have HV := Lib.hid hv
    clear hv
    go_enter Tryd.func69, Tryd.ntmps69
    go_wp2_with fail
    refine (mHeapValid_any _ _ _ _ _ _ h _ r0 hn hm).mono ?_
    rw [HV.out]
    rintro e w1 ⟨rfl, b1⟩
    have bb1 := b0.trans (b1.mono b0.size)
    have on := own_noneO w1 w.heap.size bb1.size
    have bl := bb1.alloc bb1.size (.cells #[] 4)
    go_wp2_with fail
    go_ret
    exact ⟨_, rfl, by rw [HR.out]; exact on, bl⟩
  · have HR := Lib.hid (show Hps.reachH h = Hps.reachL h.cs h.rt by rw [Hps.reachH, hv]; rfl)
    have HV := Lib.hid hv
    obtain ⟨s1, s2, s3⟩ := Hps.valid_small hv
    have HRF := Lib.hid (Hps.valid_refs hv)
    have HRO := Lib.hid (Hps.valid_iff.1 hv).2.2.2
    have HS3 := Lib.hid s3
    clear hv s3
    go_enter Tryd.func69, Tryd.ntmps69
    go_wp2_with fail
    refine (mHeapValid_any _ _ _ _ _ _ h _ r0 hn hm).mono ?_
    rw [HV.out]
    rintro e w1 ⟨rfl, b1⟩
    have bb1 := b0.trans (b1.mono b0.size)
    have r1 := r0.up b1
    have hw1 := hw0.keep b1 (by simp)
    have z0 : w1.cell? ⟨w.heap.size, 0, none⟩ = some (.slice A n c) := hw1.cell 0
    have z1 : w1.cell? ⟨w.heap.size, 1, none⟩ = some (.slice R m d) := hw1.cell 1
    clear r0 hw0
    go_wp2_with fail
    refine (l7Reach_any _ _ _ _ _ _ _ _ _ h h.rt _ r1 r1.roots (by omega) (by omega) HRO.out HRF.out (fun cl hcl => by have := HS3.out cl hcl; omega)).mono ?_
    rintro e w2 ⟨v2, rfl, o2, b2⟩
    go_wp2_with fail
    go_ret
    exact ⟨_, rfl, by rw [HR.out]; exact o2.base bb1.size, bb1.trans (b2.mono bb1.size)⟩
end Go.Proofs.YthmddmddcdofaaaDoor

namespace Go.Proofs.YthmddmddcdofaaaDoor
open Go.RowKit
namespace Hps
end Hps
namespace Hps
def usedTo (cs : List Cl) (k : Nat) : Nat := (cs.take k).countP (·.u)
theorem usedTo_le (cs : List Cl) (k : Nat) : usedTo cs k ≤ k := Nat.le_trans List.countP_le_length (by rw [List.length_take]; omega)
end Hps
end Go.Proofs.YthmddmddcdofaaaDoor

namespace Go.Proofs.YthmddmddcdofaaaDoor
open Go.RowKit
set_option maxRecDepth 100000
namespace Hps
theorem pc_succ (V k : Nat) : pcN V (k + 1) = pcN V k + (if V.testBit k = true then 1 else 0) := by
  unfold pcN
  rw [List.range_succ, List.countP_append, List.countP_singleton]
theorem pc_same {V W n : Nat} (h : ∀ i, i < n → V.testBit i = W.testBit i) : pcN V n = pcN W n := by
  unfold pcN
  apply List.countP_congr
  intro i hi
  rw [h i (List.mem_range.1 hi)]
theorem or_bit (V k i : Nat) : (V ||| 2 ^ k).testBit i = (V.testBit i || decide (k = i)) := by rw [Nat.testBit_or, Nat.testBit_two_pow]
theorem pc_mark {V k : Nat} (h : V.testBit k = false) : ∀ {n : Nat}, k < n → pcN (V ||| 2 ^ k) n = pcN V n + 1
  | 0, hn => by omega
  | n + 1, hn => by
    rw [pc_succ, pc_succ, or_bit]
    by_cases e : k = n
    · subst e
      rw [h, pc_same (W := V) fun i hi => by rw [or_bit, decide_eq_false (show ¬ k = i by omega), Bool.or_false]]
      simp
    · rw [pc_mark h (show k < n by omega), decide_eq_false e, Bool.or_false]
      omega
/-- cells and references into them: small, and each -1 or the number of a used cell -/
structure OkG (h : Hp) : Prop where
  len : h.cs.length ≤ 40
  few : h.rt.length ≤ 40
  small : ∀ c ∈ h.cs, c.r.length ≤ 3
  rts : okRefs h.cs h.rt = true
  rfs : ∀ c ∈ h.cs, okRefs h.cs c.r = true
theorem OkG.valid {h : Hp} (hv : validH h = true) : OkG h := ⟨(valid_small hv).1, by rw [(valid_small hv).2.1]; omega, (valid_small hv).2.2, (valid_iff.1 hv).2.2.2, valid_refs hv⟩
theorem OkG.one {h : Hp} (hv : OkG h) {k : Nat} (hk : usedAt h.cs k = true) : OkG ⟨h.cs, [(k : Int)]⟩ :=
  ⟨hv.len, by simp, hv.small, okRefs_iff.2 fun x hx => by rw [List.mem_singleton] at hx; subst hx; exact okRef_iff.2 (.inr ⟨by omega, by simpa using hk⟩), hv.rfs⟩
/-- a work list beside the set of what has been reached -/
structure Stk (h : Hp) (V : Nat) (l : List Int) : Prop where
  lo : V < 2 ^ h.cs.length
  rch : ∀ k : Nat, V.testBit k = true → Rch h.cs h.rt k
  lst : ∀ x ∈ l, x = -1 ∨ ∃ k : Nat, x = k ∧ Rch h.cs h.rt k
  roots : ∀ k : Nat, (k : Int) ∈ h.rt → V.testBit k = true ∨ (k : Int) ∈ l
  step : ∀ (k m : Nat) (c : Cl), V.testBit k = true → h.cs[k]? = some c → (m : Int) ∈ c.r → V.testBit m = true ∨ (m : Int) ∈ l
  len : l.length ≤ 40 + 4 * pcN V h.cs.length
theorem Stk.start {h : Hp} (hv : OkG h) : Stk h 0 h.rt := by
  refine ⟨Nat.pow_pos (by omega), fun k hk => by simp at hk, fun x hx => ?_, fun k hk => .inr hk, fun k m c hk => by simp at hk, by have := hv.few; omega⟩
  rcases okRef_iff.1 (okRefs_iff.1 hv.rts x hx) with h1 | ⟨h1, _⟩
  · exact .inl h1
  · exact .inr ⟨x.toNat, by omega, .root (by rwa [show ((x.toNat : Nat) : Int) = x by omega])⟩
/-- the last of the list is nothing new -/
theorem Stk.pop {h : Hp} {V : Nat} {l : List Int} {x : Int} (s : Stk h V (l ++ [x])) (hx : x = -1 ∨ hasB V x = true) : Stk h V l := by
  have hm : ∀ k : Nat, (k : Int) ∈ l ++ [x] → V.testBit k = true ∨ (k : Int) ∈ l := fun k hk => by
    rw [List.mem_append, List.mem_singleton] at hk
    rcases hk with hk | hk
    · exact .inr hk
    · left
      rcases hx with h1 | h1
      · omega
      · subst hk
        simpa [hasB] using h1
  refine ⟨s.lo, s.rch, fun y hy => s.lst y (by simp [hy]), fun k hk => ?_, fun k m c h1 h2 h3 => ?_, by have := s.len; simp at this; omega⟩
  · rcases s.roots k hk with h1 | h1
    · exact .inl h1
    · exact hm k h1
  · rcases s.step k m c h1 h2 h3 with h1 | h1
    · exact .inl h1
    · exact hm m h1
/-- the last of the list is a cell that had not been reached -/
theorem Stk.mark {h : Hp} (hv : OkG h) {V k : Nat} {l : List Int} {c : Cl} (s : Stk h V (l ++ [(k : Int)])) (hk : V.testBit k = false) (hc : h.cs[k]? = some c) : Stk h (V ||| 2 ^ k) (l ++ c.r) := by
  have hlt : k < h.cs.length := (List.getElem?_eq_some_iff.1 hc).1
  have hr : Rch h.cs h.rt k := by
    rcases s.lst (k : Int) (by simp) with h1 | ⟨j, h1, h2⟩
    · omega
    · rwa [show k = j by omega]
  have hm : ∀ j : Nat, V.testBit j = true ∨ (j : Int) ∈ l ++ [(k : Int)] → (V ||| 2 ^ k).testBit j = true ∨ (j : Int) ∈ l ++ c.r := fun j hj => by
    rw [or_bit]
    rcases hj with hj | hj
    · left; rw [hj]; rfl
    · rw [List.mem_append, List.mem_singleton] at hj
      rcases hj with hj | hj
      · right; simp [hj]
      · left; simp; right; omega
  refine ⟨Nat.or_lt_two_pow s.lo (Nat.pow_lt_pow_right (by omega) hlt), fun j hj => ?_, fun x hx => ?_, fun j hj => hm j (s.roots j hj), fun j m c' h1 h2 h3 => ?_, ?_⟩
  · rw [or_bit] at hj
    rw [Bool.or_eq_true, decide_eq_true_eq] at hj
    rcases hj with hj | hj
    · exact s.rch j hj
    · rwa [← hj]
  · rw [List.mem_append] at hx
    rcases hx with hx | hx
    · exact s.lst x (by simp [hx])
    · rcases okRef_iff.1 (okRefs_iff.1 (hv.rfs c (List.mem_of_getElem? hc)) x hx) with h1 | ⟨h1, _⟩
      · exact .inl h1
      · exact .inr ⟨x.toNat, by omega, .step hr hc (by rwa [show ((x.toNat : Nat) : Int) = x by omega])⟩
  · rw [or_bit, Bool.or_eq_true, decide_eq_true_eq] at h1
    rcases h1 with h1 | h1
    · exact hm m (s.step j m c' h1 h2 h3)
    · subst h1
      rw [hc] at h2
      injection h2 with h2
      subst h2
      right
      simp [h3]
  · rw [pc_mark hk hlt]
    have := s.len
    have h3 := hv.small c (List.mem_of_getElem? hc)
    simp at this
    simp
    omega
/-- a cell of the list is there -/
theorem Stk.at_ {h : Hp} (hv : OkG h) {V : Nat} {l : List Int} {x : Int} (s : Stk h V (l ++ [x])) (h1 : x ≠ -1) : ∃ k : Nat, x = k ∧ k < h.cs.length := by
  rcases s.lst x (by simp) with h2 | ⟨k, h2, h3⟩
  · exact absurd h2 h1
  · exact ⟨k, h2, usedAt_lt (h3.used hv.rts hv.rfs)⟩
/-- the set of what can be reached -/
noncomputable def reachW (h : Hp) : Nat := Bm.wordN (reachL h.cs h.rt) true
theorem Stk.fin {h : Hp} {V : Nat} (s : Stk h V []) : V = reachW h := by
  apply Nat.eq_of_testBit_eq
  intro k
  unfold reachW
  rw [Bm.wordN_bit, Bool.eq_iff_iff, decide_eq_true_eq]
  rcases Nat.lt_or_ge k h.cs.length with hk | hk
  · rw [reachL_true hk]
    refine ⟨s.rch k, fun hr => Rch.inside (S := fun k => V.testBit k = true) (fun j hj => ?_) (fun j m c h1 h2 h3 => ?_) hr⟩
    · simpa using s.roots j hj
    · simpa using s.step j m c h1 h2 h3
  · have e1 : V.testBit k = false := Nat.testBit_lt_two_pow (Nat.lt_of_lt_of_le s.lo (Nat.pow_le_pow_right (by omega) hk))
    rw [e1, List.getElem?_eq_none (by rw [reachL_len]; exact hk)]
    simp
end Hps
namespace Pc
theorem i64_and127 (x : Nat) (h : x < 9223372036854775808) : bits .and .i64 (x : Int) 127 = ((x % 128 : Nat) : Int) := by
  show IntKind.i64.wrap ((BitVec.ofInt 64 (x : Int) &&& BitVec.ofInt 64 ((127 : Nat) : Int)).toNat : Int) = _
  rw [BitVec.toNat_and, ofInt_u64 x (by omega), ofInt_u64 127 (by omega), nat_mask7]
  exact IntWalk.i64_in _ (by omega)
theorem walk {V : Nat} (hV : V < 18446744073709551616) : ∃ y1 y2 y3 z z2 : Nat,
    IntKind.u64.wrap (bits .and .u64 ((V : Int) / 2) 6148914691236517205 + bits .and .u64 (V : Int) 6148914691236517205) = (y1 : Int) ∧
    IntKind.u64.wrap (bits .and .u64 ((y1 : Int) / 4) 3689348814741910323 + bits .and .u64 (y1 : Int) 3689348814741910323) = (y2 : Int) ∧
    bits .and .u64 (IntKind.u64.wrap ((y2 : Int) / 16 + (y2 : Int))) 1085102592571150095 = (y3 : Int) ∧
    IntKind.u64.wrap ((y3 : Int) + (y3 : Int) / 256) = (z : Int) ∧
    IntKind.u64.wrap ((z : Int) + (z : Int) / 65536) = (z2 : Int) ∧
    bits .and .i64 (wrap64 (IntKind.u64.wrap ((z2 : Int) + (z2 : Int) / 4294967296))) 127 = (pcN V 64 : Nat) := by
  obtain ⟨y1, h1⟩ : ∃ y, y = s1 V 6148914691236517205 := ⟨_, rfl⟩
  obtain ⟨y2, h2⟩ : ∃ y, y = s2 y1 3689348814741910323 := ⟨_, rfl⟩
  obtain ⟨y3, h3⟩ : ∃ y, y = s3 y2 1085102592571150095 := ⟨_, rfl⟩
  obtain ⟨z, hz⟩ : ∃ z, z = y3 + y3 / 256 := ⟨_, rfl⟩
  obtain ⟨z2, hz2⟩ : ∃ z2, z2 = z + z / 65536 := ⟨_, rfl⟩
  have hall := sums V hV y3 z z2 (by rw [h3, h2, h1]) hz hz2
  obtain ⟨q1, q2, q3, q4⟩ := hall
  have a1 : V / 2 &&& 6148914691236517205 ≤ 6148914691236517205 := Nat.and_le_right
  have a2 : V &&& 6148914691236517205 ≤ 6148914691236517205 := Nat.and_le_right
  have b1 : y1 / 4 &&& 3689348814741910323 ≤ 3689348814741910323 := Nat.and_le_right
  have b2 : y1 &&& 3689348814741910323 ≤ 3689348814741910323 := Nat.and_le_right
  refine ⟨y1, y2, y3, z, z2, ?_, ?_, ?_, ?_, ?_, ?_⟩
  · have e1 := u64_and_nat (V / 2) 6148914691236517205 (by omega) (by omega)
    have e2 := u64_and_nat V 6148914691236517205 hV (by omega)
    rw [show (V : Int) / 2 = ((V / 2 : Nat) : Int) by omega, show (6148914691236517205 : Int) = ((6148914691236517205 : Nat) : Int) from rfl, e1, e2, IntKind.wrap_u64, h1]
    unfold s1
    omega
  · have hy1 : y1 < 18446744073709551616 := by rw [h1]; unfold s1; omega
    have e1 := u64_and_nat (y1 / 4) 3689348814741910323 (by omega) (by omega)
    have e2 := u64_and_nat y1 3689348814741910323 hy1 (by omega)
    rw [show (y1 : Int) / 4 = ((y1 / 4 : Nat) : Int) by omega, show (3689348814741910323 : Int) = ((3689348814741910323 : Nat) : Int) from rfl, e1, e2, IntKind.wrap_u64, h2]
    unfold s2
    omega
  · have hy2 : y2 ≤ 7378697629483820646 := by rw [h2]; unfold s2; omega
    have e0 : IntKind.u64.wrap ((y2 : Int) / 16 + (y2 : Int)) = ((y2 / 16 + y2 : Nat) : Int) := by rw [IntKind.wrap_u64]; omega
    have e1 := u64_and_nat (y2 / 16 + y2) 1085102592571150095 (by omega) (by omega)
    rw [e0, show (1085102592571150095 : Int) = ((1085102592571150095 : Nat) : Int) from rfl, e1, h3]
    rfl
  · rw [IntKind.wrap_u64]; omega
  · rw [IntKind.wrap_u64]; omega
  · have e0 : IntKind.u64.wrap ((z2 : Int) + (z2 : Int) / 4294967296) = ((z2 + z2 / 4294967296 : Nat) : Int) := by rw [IntKind.wrap_u64]; omega
    rw [e0, show wrap64 ((z2 + z2 / 4294967296 : Nat) : Int) = ((z2 + z2 / 4294967296 : Nat) : Int) by unfold wrap64; omega, i64_and127 _ q3, q4]
end Pc
set_option maxHeartbeats 1000000 in
theorem onesCount_any (V : Nat) (w : World) (hV : V < 18446744073709551616) :
    Calls Tryd.prog 126 #[.int .u64 V] w fun e w' => e = .returned (.int .i64 (pcN V 64 : Nat)) ∧ w = w' := by
  obtain ⟨y1, y2, y3, z, z2, E1, E2, E3, E4, E5, E6⟩ := Pc.walk hV
  have H := Lib.hid (And.intro E1 (And.intro E2 (And.intro E3 (And.intro E4 (And.intro E5 E6)))))
  clear E1 E2 E3 E4 E5 E6
  go_enter Tryd.func126, Tryd.ntmps126
  go_wp2_with fail
  go_ret
  obtain ⟨E1, E2, E3, E4, E5, E6⟩ := H.out
  simp only [E1, E2, E3, E4, E5, E6]
  exact ⟨rfl, trivial⟩
theorem count_any (V : Nat) (w : World) (hV : V < 18446744073709551616) :
    Calls Tryd.prog 80 #[.int .u64 V] w fun e w' => e = .returned (.int .i64 (pcN V 64 : Nat)) ∧ w = w' := by
  go_enter Tryd.func80, Tryd.ntmps80
  go_wp2_with fail
  refine (onesCount_any V _ hV).mono ?_
  rintro e w1 ⟨rfl, rfl⟩
  go_wp2_with fail
  go_ret
  exact ⟨rfl, rfl⟩
end Go.Proofs.YthmddmddcdofaaaDoor

namespace Go.Proofs.YthmddmddcdofaaaDoor
open Go.RowKit
/-- a heap of the call's own -/
def GaveH (w : World) (h : Hp) (e : Ending) (w' : World) : Prop := ∃ vc vr, e = .returned (.agg #[vc, vr]) ∧ OwnH w' w.heap.size vc vr h ∧ Below w.heap.size w w'
theorem row_ne {w : World} {base b : Nat} {v : Value} {xs : List Int} (h : OwnI w base v xs) (hb : b < base) : some b ≠ v.ownBlock := fun e => by
  have := (World.ownsRow.lt h b e.symm).1
  omega
end Go.Proofs.YthmddmddcdofaaaDoor

namespace Go.Proofs.YthmddmddcdofaaaDoor
open Go.RowKit
set_option maxRecDepth 100000
theorem cloneI_any (A : Option Addr) (n c : Nat) (xs : List Int) (w : World) (h : IS w w.heap.size A n xs) (hn : n ≤ 1099511627776) :
    Calls Tryd.prog 119 #[.slice A n c] w (GaveI w xs) := by
  have q : ∀ (w : World) (a : Option Addr) (n c n' c' : Nat), (binOp .eql 24 (.slice a n c) (.slice none n' c')).run Tryd.prog w = .ok (.bool a.isNone) w := fun w a n c n' c' => Lib.run_eql_slice_nil w _ _ a n c n' c' Tryd.underlying24
  cases A with
  | none =>
    have h0 : n = 0 := by
      rcases Nat.eq_zero_or_pos n with h0 | h0
      · exact h0
      · obtain ⟨g, o, e, _⟩ := h.2 h0
        cases e
    have : xs = [] := List.eq_nil_of_length_eq_zero (h.1.trans h0)
    subst this h0
    go_enter Tryd.func119, Tryd.ntmps119
    go_wp2
    go_ret
    exact ⟨_, rfl, World.ownsRow_nil _ _ _ _, Below.refl _ _⟩
  | some a =>
    have o0 := own_noneI w w.heap.size (Nat.le_refl _)
    have bl0 : Below w.heap.size w (w.alloc (.cells #[] 3)) := (Below.refl _ _).alloc (Nat.le_refl _) _
    have r0 := h.below bl0
    go_enter Tryd.func119, Tryd.ntmps119
    go_wp2_with (at_builtin; refine wpList_appendI rfl (.tmp 5) (.tmp 6) rfl w.heap.size _ [] rfl o0 (some a) n c w.heap.size xs rfl r0 (by simp <;> omega) (by simp) ?_; intro v1 w1 o1 g1 s1)
    go_ret
    exact ⟨_, rfl, OwnI.cast (by simp) o1, bl0.grown g1 (by simp) (fun k hk => (World.ownsRow.lt o0 k hk).1)⟩
/-- a slice of the call's own is cut short -/
theorem OwnI.cut {w : World} {base n c k : Nat} {A : Option Addr} {xs : List Int} (h : OwnI w base (.slice A n c) xs) (hk : k ≤ n) : OwnI w base (.slice A k c) (xs.take k) := by
  have hl : (xs.take k).length = k := by rw [List.length_take, ← h.cap.1]; omega
  unfold OwnI
  rw [hl]
  refine ⟨by rw [List.length_map, hl, Nat.mul_one], ?_⟩
  rcases h.2 with ⟨e, h0⟩ | ⟨g, cap, cur, e, hb, hh, hnc, hcap, hsz, hx⟩
  · injection e with e1 e2 e3
    subst e1 e3
    left
    have : k = 0 := by omega
    rw [this]
    exact ⟨rfl, rfl⟩
  · injection e with e1 e2 e3
    subst e1 e3
    right
    refine ⟨g, c, cur, rfl, hb, hh, by omega, hcap, hsz, ?_⟩
    rw [List.map_take, ← hx, Nat.mul_one, Nat.mul_one, List.take_take, Nat.min_eq_left (by omega)]
namespace Hps
end Hps
/-- what a round of the work list leaves to do -/
def stkLeft (n : Nat) : Value → Value → Nat
  | .int _ V, .slice _ m _ => m + 4 * (n - pcN V.toNat n)
  | _, _ => 0
set_option maxHeartbeats 2000000 in
theorem ledTo_any (A R : Option Addr) (n c m d : Nat) (h : Hp) (w : World) (hcs : CS w w.heap.size A n h.cs) (hrs : IS w w.heap.size R m h.rt) (hv : Hps.OkG h) :
    Calls Tryd.prog 121 #[.slice A n c, .slice R m d] w fun e w' => e = .returned (.int .u64 (Hps.reachW h : Nat)) ∧ Below w.heap.size w w' := by
  have hlc := hcs.1
  have s1 := hv.len
  have hmf := hv.few
  have hm4 := hrs.1
  have HV := Lib.hid hv
  have HS3 := Lib.hid hv.small
  have HS := Lib.hid (Hps.Stk.start hv)
  clear hv
  go_enter Tryd.func121, Tryd.ntmps121
  go_wp2_with fail
  refine (cloneI_any _ _ _ h.rt _ hrs (by omega)).mono ?_
  rintro e w1 ⟨v1, rfl, o1, b1⟩
  go_wp2_with fail
  go_loopw [5, 6] (fun v lv wr => ∃ (V : Nat) (l : List Int), v = .int .u64 V ∧ Hid (Hps.Stk h V l) ∧ OwnI wr w.heap.size lv l ∧ Below w.heap.size w wr) (fun v lv _ => stkLeft n v lv)
  case atStart => exact ⟨0, h.rt, rfl, HS, o1, b1⟩
  case round =>
    clear HS o1 b1
    obtain ⟨V, l, rfl, HST, ow, bb⟩ := hrel
    have hz := bb.size
    have hpc := Pc.pc_le V n
    have hll := HST.out.len
    rw [hlc] at hll
    have hV : V < 18446744073709551616 := Nat.lt_of_lt_of_le HST.out.lo (Bm.pow64 (by omega))
    obtain ⟨A1, c1, e1, _⟩ := ow.form
    subst e1
    have hcap := ow.cap.2
    rcases List.eq_nil_or_concat l with hl | ⟨l', x, hl⟩
    · subst hl
      have HF := Lib.hid HST.out.fin
      go_wp2_with fail
      go_ret
      exact ⟨by rw [← HF.out]; rfl, bb⟩
    · rw [List.concat_eq_append] at hl
      subst hl
      have hlen : (l' ++ [x]).length = l'.length + 1 := by simp
      rw [hlen] at ow hcap hll ⊢
      obtain ⟨g6, o6, y, e6, hg6, hy, d6⟩ := ow.reads.at_ (k := l'.length) (by omega)
      subst e6
      have hyx : y = x := by simpa using hy.symm
      subst hyx
      have hL : ((l'.length + 1 : Nat) : Int) = (l'.length : Int) + 1 := by omega
      have oc := OwnI.cast (show (l' ++ [y]).take l'.length = l' by simp) (ow.cut (k := l'.length) (by omega))
      obtain ⟨q, hq⟩ : ∃ q, l'.length = q := ⟨_, rfl⟩
      have HQ := Lib.hid hq
      rw [hq] at d6 hcap hll hL oc ⊢
      have hqc : (q : Int) ≤ c1 := by omega
      have hq0 : (q : Int) + 1 > 0 := by omega
      have hw64 : IntKind.i64.wrap ((q : Int) + 1 - 1) = q := by rw [IntWalk.i64_in _ (by omega)]; omega
      clear hlen hy hq ow
      by_cases hm1 : y = -1
      · subst hm1
        have HP := Lib.hid (HST.out.pop (.inl rfl))
        go_wp2_with fail
        go_roundw
        case rel => exact ⟨V, l', rfl, HP, oc, bb⟩
        case measure => simp [stkLeft]
      · have hne : (y == -1) = false := by rw [beq_eq_false_iff_ne]; exact hm1
        obtain ⟨k, hk, hkn⟩ := HST.out.at_ HV.out hm1
        rw [hlc] at hkn
        subst hk
        have HB := Lib.hid (show Hps.hasB V (k : Int) = V.testBit k by simp [Hps.hasB])
        clear hm1
        cases hbit : V.testBit k
        · obtain ⟨g, o, cl, A', m', cc, e1, hg, hcl, _, _, d3, hmc, hi⟩ := hcs.at_ hkn
          subst e1
          have d3' := (bb.cell (p := ⟨g, o + k * 3 + 2, none⟩) hg).trans d3
          have hm3 : m' ≤ 3 := by have := HS3.out cl (List.mem_of_getElem? hcl); have := hi.1; omega
          have rr := (hi.below bb).more bb.size
          have HM := Lib.hid (HST.out.mark HV.out hbit hcl)
          have HPC := Lib.hid (Hps.pc_mark hbit hkn)
          have hpc1 : pcN (V ||| 2 ^ k) n ≤ n := Pc.pc_le _ _
          rw [HPC.out] at hpc1
          have hkn' : (k : Int) < n := by omega
          have hkneg : ¬ ((k : Int) < 0) := by omega
          obtain ⟨p1, p2, p3⟩ := Hps.pow_in (k := k) (by omega)
          have hor := Hps.or_in (V := V) (k := k) hV (by omega)
          have HBF := Lib.hid (HB.out.trans hbit)
          have hqm : l'.length + m' ≤ 1099511627776 := by rw [HQ.out]; omega
          have HI := Lib.hid hi.1
          clear hcl d3 hbit HB HST
          go_wp2_with fail
          refine (has_any V k _ hV).mono ?_
          rw [HBF.out]
          rintro e w3 ⟨rfl, rfl⟩
          go_wp2_with (at_builtin; refine wpList_appendI rfl (.tmp 35) (.tmp 40) rfl w.heap.size _ l' rfl oc A' m' cc _ cl.r rfl rr hqm hz ?_; intro v5 w5 o5 g5 s5)
          have b5 := bb.grown g5 (by omega) (fun kk hk => by have := (World.ownsRow.lt oc kk hk).1; omega)
          obtain ⟨A5, c5, e5, _⟩ := o5.form
          subst e5
          go_roundw
          case rel => exact ⟨V ||| 2 ^ k, _, rfl, HM, o5, b5⟩
          case measure =>
            have hL5 : (l' ++ cl.r).length = q + m' := by rw [List.length_append, HQ.out, HI.out]
            simp [stkLeft, HPC.out, HQ.out, HI.out]
            omega
        · have HP := Lib.hid (HST.out.pop (.inr (HB.out.trans hbit)))
          have HBT := Lib.hid (HB.out.trans hbit)
          clear hbit HB HST
          go_wp2_with fail
          refine (has_any V k _ hV).mono ?_
          rw [HBT.out]
          rintro e w3 ⟨rfl, rfl⟩
          go_wp2_with fail
          go_roundw
          case rel => exact ⟨V, l', rfl, HP, oc, bb⟩
          case measure => simp [stkLeft]
theorem reachedSet_any (A R : Option Addr) (n c m d : Nat) (h : Hp) (w : World) (hs : HS w w.heap.size A n R m h) (hv : Hps.validH h = true) :
    Calls Tryd.prog 67 #[heapV A n c R m d] w fun e w' => e = .returned (.int .u64 (Hps.reachW h : Nat)) ∧ Below w.heap.size w w' := by
  have HV := Lib.hid (Hps.OkG.valid hv)
  have b0 : Below w.heap.size w (w.alloc (.cells #[.slice A n c, .slice R m d] 26)) := (Below.refl _ _).alloc (Nat.le_refl _) _
  have r0 := hs.up b0
  clear hv
  go_enter Tryd.func67, Tryd.ntmps67
  go_wp2_with fail
  refine (ledTo_any A R n c m d h _ r0.cells r0.roots HV.out).mono ?_
  rintro e w1 ⟨rfl, b1⟩
  have bb1 := b0.trans (b1.mono b0.size)
  go_wp2_with fail
  go_ret
  exact ⟨rfl, bb1⟩
end Go.Proofs.YthmddmddcdofaaaDoor

namespace Go.Proofs.YthmddmddcdofaaaDoor
open Go.RowKit
theorem upd_mono {L : Nat → Bool} {i k : Nat} (h : L k = true) : upd L i k = true := by
  unfold upd
  split
  · rfl
  · exact h
/-- what has been done, with all that it waits for -/
def Closed (ps : List (Nat × Nat)) (L : Nat → Bool) : Prop := ∀ p ∈ ps, L p.1 = true → L p.2 = true
theorem Closed.get {ps : List (Nat × Nat)} {L : Nat → Bool} {i j : Nat} (h : Closed ps L) (hp : (i, j) ∈ ps) (hi : L i = true) : L j = true := h _ hp hi
theorem Closed.step {ps : List (Nat × Nat)} {L : Nat → Bool} {i : Nat} (h : Closed ps L) (hd : ∀ p ∈ ps, p.1 = i → L p.2 = true) : Closed ps (upd L i) := by
  intro p hp hi
  by_cases e : p.1 = i
  · exact upd_mono (hd p hp e)
  · exact upd_mono (h p hp (upd_ne hi e))
theorem upd_all {L : Nat → Bool} {i n m : Nat} (h : L n = true → ∀ k, k < m → L k = true) (hne : n ≠ i) : upd L i n = true → ∀ k, k < m → upd L i k = true :=
  fun hn k hk => upd_mono (h (upd_ne hn hne) k hk)
theorem below_any {a w : World} (h : Below a.heap.size a w) (row : Option Nat) : a.grownBy w row := ⟨h.os, h.tape, h.output, h.size, fun i hi _ => h.block i hi⟩
theorem row_below {w w' : World} {base B n : Nat} {e : TypeId} {s : Nat} {v : Value} {xs : List Value} (h : w.ownsRow base e s v n xs) (hb : Below B w w') (hB : w.heap.size ≤ B) : w'.ownsRow base e s v n xs := by
  refine ⟨h.1, ?_⟩
  rcases h.2 with h0 | ⟨g, cap, cur, e, hb', hh, hr⟩
  · exact .inl h0
  · exact .inr ⟨g, cap, cur, e, hb', (hb.block g (Nat.lt_of_lt_of_le (Array.getElem?_eq_some_iff.1 hh).1 hB)).trans hh, hr⟩
theorem sep_new {v v' rv : Value} {N M : Nat} (hs : v'.ownBlock = v.ownBlock ∨ v'.ownBlock = some M) (e : v'.ownBlock = rv.ownBlock) (hr : ∀ k, rv.ownBlock = some k → N ≤ k ∧ k < M) (hv : ∀ k, v.ownBlock = some k → k < N) : rv.ownBlock = none := by
  cases h : rv.ownBlock with
  | none => rfl
  | some k =>
    exfalso
    have h1 := hr k h
    rw [h] at e
    rcases hs with hs | hs
    · have := hv k (hs.symm.trans e)
      omega
    · have : k = M := by rw [hs] at e; injection e with e; exact e.symm
      omega
/-- an append of numbers onto the call's own numbers -/
theorem app_stepI {w : World} {o : Oper} {a : Act} {K : Act → World → Prop} {Q : Exit → Act → World → Prop} (_hgd : o.guard = none) (s x : Operand)
    (ho : o.op = .call { callee := .builtin .append, args := #[s, x], argTypes := #[24, 24] })
    (base : Nat) (v : Value) (xs : List Int) (hs : a.eval s = v) (hown : OwnI w base v xs) (A : Option Addr) (m c B : Nat) (ys : List Int) (hx : a.eval x = .slice A m c) (hr : IS w B A m ys)
    (hn : xs.length + m ≤ 1099511627776) (hbase : base ≤ w.heap.size)
    (h : ∀ v' w', OwnI w' base v' (xs ++ ys) → w.grownBy w' v.ownBlock → (v'.ownBlock = v.ownBlock ∨ v'.ownBlock = some w.heap.size) → K (a.put o.dst v') w') : Oper.wp Tryd.prog o a w K Q := by
  obtain ⟨v', w', hrun, h2, h3, h4⟩ := run_appendI w base v xs hown A m c B ys hr hn hbase o.type
  unfold Oper.wp execOp
  simp only [ho, resolve, invoke, builtin, Sem.run_bind, Sem.run_pure, Result.andThen_ok, List.map_toArray, List.map_cons, List.map_nil, hs, hx, hrun]
  exact h v' w' h2 h3 h4
theorem info_cell : (Tryd.prog.info? 40).map (fun i => (i.zero, i.size, i.bytes)) = some (some (.agg #[.bool false, .int .i64 0, .slice none 0 0]), 3, 40) := by kernel_rfl
/-- an append of one cell onto the call's own cells -/
theorem app_stepC {w : World} {o : Oper} {a : Act} {K : Act → World → Prop} {Q : Exit → Act → World → Prop} (_hgd : o.guard = none) (s x : Operand)
    (ho : o.op = .call { callee := .builtin .append, args := #[s, x], argTypes := #[23, 23] })
    (base : Nat) (v : Value) (n : Nat) (vs : List Value) (hs : a.eval s = v) (hown : w.ownsRow base 40 3 v n vs) (gs : Nat) (u : Bool) (d : Int) (A8 : Option Addr) (m8 c8 : Nat) (hx : a.eval x = .slice (some ⟨gs, 0, none⟩) 1 1)
    (hr : Rw w gs 40 #[.bool u, .int .i64 d, .slice A8 m8 c8]) (hn : n + 1 ≤ 1099511627776) (hbase : base ≤ w.heap.size)
    (h : ∀ v' w' A9 c9, v' = .slice A9 (n + 1) c9 → w'.ownsRow base 40 3 v' (n + 1) (vs ++ [.bool u, .int .i64 d, .slice A8 m8 c8]) → w.grownBy w' v.ownBlock → (v'.ownBlock = v.ownBlock ∨ v'.ownBlock = some w.heap.size) → K (a.put o.dst v') w') : Oper.wp Tryd.prog o a w K Q := by
  obtain ⟨i0, hi0, hz0, hz1, hz2⟩ := info_parts info_cell
  obtain ⟨v', w', hrun, h2, h3, _, h5⟩ := run_append_own_at (P := Tryd.prog) w base 23 o.type 40 i0 _ 3 40 Tryd.underlying23 hi0 hz0 hz1 hz2 rfl (by omega) v n vs hown ⟨gs, 0, none⟩ 1 1 [.bool u, .int .i64 d, .slice A8 m8 c8]
      (by simp) (fun j y hj => by
        rw [add_lit, Nat.zero_add, hr.cell j]
        match j, hj with
        | 0, hj => simpa using hj
        | 1, hj => simpa using hj
        | 2, hj => simpa using hj
        | j + 3, hj => simp at hj) (by intro y hy; simp at hy; rcases hy with rfl | rfl | rfl <;> rfl) (by unfold maxLen; omega) (by omega) hbase
  unfold Oper.wp execOp
  simp only [ho, resolve, invoke, builtin, Sem.run_bind, Sem.run_pure, Result.andThen_ok, List.map_toArray, List.map_cons, List.map_nil, hs, hx, hrun]
  rcases h2.2 with ⟨e, h0⟩ | ⟨g, cap, cur, e, _⟩
  · omega
  · exact h v' w' (some ⟨g, 0, none⟩) cap e h2 h3 h5
/-- while a heap is copied: what is copied so far, in the box b, and the other boxes -/
structure CpSt (w wr : World) (b : Nat) (hb rb : Array Value) (vc vr : Value) (rvs : List Value) (h : Hp) : Prop where
  own : OwnHx wr (w.heap.size + 2) vc vr rvs h
  apart : Apart (some b) (vc :: vr :: rvs)
  box : Rw wr b 26 #[vc, vr]
  arg : Rw wr w.heap.size 26 hb
  res : Rw wr (w.heap.size + 1) 26 rb
  bel : Below w.heap.size w wr
  lo : w.heap.size + 2 ≤ b
theorem CpSt.next {w wr w1 : World} {b k n m' c9 c8 : Nat} {hb rb : Array Value} {vc vr : Value} {rvs : List Value} {h : Hp} {cl : Cl} {A9 A8 : Option Addr} (S : CpSt w wr b hb rb vc vr rvs ⟨h.cs.take k, h.rt⟩) (hlc : h.cs.length = n) (hlt : k < n) (hcl : h.cs[k]? = some cl)
    (hG : wr.grownBy w1 vc.ownBlock) (o9 : w1.ownsRow (w.heap.size + 2) 40 3 (.slice A9 (k + 1) c9) (k + 1) (flatC (h.cs.take k) rvs ++ [.bool cl.u, .int .i64 cl.d, .slice A8 m' c8]))
    (hsep : (Value.slice A9 (k + 1) c9).ownBlock = (Value.slice A8 m' c8).ownBlock → (Value.slice A8 m' c8).ownBlock = none)
    (q : (Value.slice A9 (k + 1) c9).ownBlock = vc.ownBlock ∨ ∃ b', (Value.slice A9 (k + 1) c9).ownBlock = some b' ∧ wr.heap.size ≤ b')
    (o8 : OwnI (w1.setCell ⟨b, 0, none⟩ (.slice A9 (k + 1) c9)) wr.heap.size (.slice A8 m' c8) cl.r) :
    CpSt w (w1.setCell ⟨b, 0, none⟩ (.slice A9 (k + 1) c9)) b hb rb (.slice A9 (k + 1) c9) vr (rvs ++ [.slice A8 m' c8]) ⟨h.cs.take (k + 1), h.rt⟩ := by
  obtain ⟨v9, hv9⟩ : ∃ v9, Value.slice A9 (k + 1) c9 = v9 := ⟨_, rfl⟩
  obtain ⟨v8, hv8⟩ : ∃ v8, Value.slice A8 m' c8 = v8 := ⟨_, rfl⟩
  rw [hv9] at o9 hsep q o8 ⊢
  rw [hv8] at o9 hsep o8 ⊢
  have hbl := S.box.lt
  have hlo := S.lo
  have hsp := S.own.sep
  unfold Sep at hsp
  simp only [List.pairwise_cons, List.mem_cons] at hsp
  obtain ⟨sp1, sp2, sp3⟩ := hsp
  have hvc : ∀ kk, vc.ownBlock = some kk → w.heap.size + 2 ≤ kk ∧ kk < wr.heap.size := fun kk hk => S.own.blocks (by simp) hk
  have hvr : ∀ kk, vr.ownBlock = some kk → kk < wr.heap.size := fun kk hk => (S.own.blocks (by simp) hk).2
  have hrv : ∀ v ∈ rvs, ∀ kk, v.ownBlock = some kk → kk < wr.heap.size := fun v hv kk hk => (S.own.blocks (by simp [hv]) hk).2
  have h8 : ∀ kk, v8.ownBlock = some kk → wr.heap.size ≤ kk := fun kk hk => (World.ownsRow.lt o8 kk hk).1
  have hvcb : vc.ownBlock ≠ some b := by
    rcases S.apart vc (by simp) with e | e
    · rw [e]; simp
    · exact e
  have swap : ∀ v : Value, (vc.ownBlock = none ∨ vc.ownBlock ≠ v.ownBlock) → v.ownBlock = none ∨ v.ownBlock ≠ vc.ownBlock := fun v hv => by
    rcases hv with e | e
    · cases e' : v.ownBlock with
      | none => exact .inl rfl
      | some kk => right; rw [e]; simp
    · exact .inr fun e' => e e'.symm
  have h9b : v9.ownBlock = none ∨ v9.ownBlock ≠ some b := by
    right
    rcases q with e | ⟨b', e, hb'⟩
    · rw [e]; exact hvcb
    · rw [e]; intro e'; injection e' with e'; omega
  have h9old : ∀ v : Value, (vc.ownBlock = none ∨ vc.ownBlock ≠ v.ownBlock) → (∀ kk, v.ownBlock = some kk → kk < wr.heap.size) → v9.ownBlock = none ∨ v9.ownBlock ≠ v.ownBlock := fun v hv hlt' => by
    rcases q with e | ⟨b', e, hb'⟩
    · rw [e]; exact hv
    · right
      rw [e]
      intro e'
      have := hlt' b' e'.symm
      omega
  have hput : ∀ W : World, W.grownBy (W.setCell ⟨b, 0, none⟩ v9) (some b) := fun W => only_put (World.grownBy.refl _ _) 0 v9
  have htk : (h.cs.take (k + 1)).length = k + 1 := by rw [List.length_take]; omega
  have htk0 : (h.cs.take k).length = k := by rw [List.length_take]; omega
  have hrl : rvs.length = k := by have := S.own.len; simp only [htk0] at this; exact this
  have htake : h.cs.take (k + 1) = h.cs.take k ++ [cl] := by rw [List.take_add_one, hcl]; rfl
  refine ⟨⟨by simp only [htk, List.length_append, List.length_singleton, hrl], ?_, ?_, ?_, ?_⟩, ?_, ?_, ?_, ?_, ?_, hlo⟩
  · simp only [htk]
    have e : flatC (h.cs.take (k + 1)) (rvs ++ [v8]) = flatC (h.cs.take k) rvs ++ [.bool cl.u, .int .i64 cl.d, v8] := by
      rw [htake, flatC_append _ _ _ _ (by rw [hrl, htk0])]
      simp [flatC]
    rw [e]
    exact World.ownsRow.kept o9 (hput w1) h9b
  · intro j c' v hc' hv
    simp only [htake] at hc'
    rcases Nat.lt_or_ge j k with hj | hj
    · rw [List.getElem?_append_left (by omega)] at hc' hv
      have hmem := List.mem_of_getElem? hv
      exact ((S.own.refs j c' v hc' hv).far hG (swap v (sp1 v (.inr hmem)))).far (hput w1) (S.apart v (by simp [hmem]))
    · rw [List.getElem?_append_right (by omega), htk0] at hc'
      rw [List.getElem?_append_right (by omega), hrl] at hv
      have hjk : j - k = 0 := by
        rcases Nat.eq_zero_or_pos (j - k) with e | e
        · exact e
        · rw [List.getElem?_eq_none (by simp; omega)] at hv; cases hv
      rw [hjk] at hc' hv
      simp at hc' hv
      subst hc' hv
      exact o8.base (by omega)
  · exact (S.own.roots.far hG (swap vr (sp1 vr (.inl rfl)))).far (hput w1) (S.apart vr (by simp))
  · unfold Sep
    simp only [List.pairwise_cons, List.mem_cons, List.mem_append, List.pairwise_append, List.not_mem_nil]
    refine ⟨fun v hv => ?_, fun v hv => ?_, sp3, ⟨by simp, List.Pairwise.nil⟩, fun a ha v hv => ?_⟩
    · rcases hv with rfl | hv | hv | hv
      · exact h9old v (sp1 v (.inl rfl)) hvr
      · exact h9old v (sp1 v (.inr hv)) (hrv v hv)
      · subst hv
        cases e : v9.ownBlock with
        | none => exact .inl rfl
        | some kk =>
          right
          intro e'
          have := hsep (e.trans e')
          rw [this] at e'
          cases e'
      · cases hv
    · rcases hv with hv | hv | hv
      · exact sp2 v hv
      · subst hv
        cases e : vr.ownBlock with
        | none => exact .inl rfl
        | some kk => right; intro e'; have := hvr kk e; have := h8 kk e'.symm; omega
      · cases hv
    · rcases hv with hv | hv
      · subst hv
        cases e : a.ownBlock with
        | none => exact .inl rfl
        | some kk => right; intro e'; have := hrv a ha kk e; have := h8 kk e'.symm; omega
      · cases hv
  · intro v hv
    simp only [List.mem_cons, List.mem_append, List.not_mem_nil, or_false] at hv
    rcases hv with rfl | rfl | hv | rfl
    · exact h9b
    · exact S.apart v (by simp)
    · exact S.apart v (by simp [hv])
    · cases e : v.ownBlock with
      | none => exact .inl rfl
      | some kk => right; intro e'; injection e' with e'; have := h8 kk e; omega
  · exact (Rw.far S.box hG (fun e => hvcb e.symm)).put 0 v9
  · exact Rw.other (Rw.far S.arg hG (fun e => by have := hvc _ e.symm; omega)) (by omega) _
  · exact Rw.other (Rw.far S.res hG (fun e => by have := hvc _ e.symm; omega)) (by omega) _
  · exact (S.bel.grown hG S.bel.size (fun kk hk => by have := hvc kk hk; omega)).setCell (p := ⟨b, 0, none⟩) (by simp; omega) _
set_option maxRecDepth 100000 in
set_option maxHeartbeats 8000000 in
theorem l7Copy_any (A R : Option Addr) (n c m d : Nat) (h : Hp) (w : World) (hs : HS w w.heap.size A n R m h) (hn : n ≤ 1000000) (hm : m ≤ 1000000) (hb : ∀ cl ∈ h.cs, cl.r.length ≤ 1000000) :
    Calls Tryd.prog 88 #[heapV A n c R m d] w (GaveH w h) := by
  have hlc := hs.cells.1
  have hlr := hs.roots.1
  have HB := Lib.hid hb
  clear hb
  have o0 := own_noneI ((w.alloc (.cells #[.slice A n c, .slice R m d] 26)).alloc (.cells #[.slice none 0 0, .slice none 0 0] 26)) (w.heap.size + 2) (by simp)
  have b0 : Below w.heap.size w (((w.alloc (.cells #[.slice A n c, .slice R m d] 26)).alloc (.cells #[.slice none 0 0, .slice none 0 0] 26)).alloc (.cells #[] 3)) := (((Below.refl w.heap.size w).alloc (Nat.le_refl _) _).alloc (by simp) _).alloc (by simp; omega) _
  have r0 := hs.roots.below b0
  have a0 := ((Rw.new w 26 #[.slice A n c, .slice R m d]).alloc (.cells #[.slice none 0 0, .slice none 0 0] 26)).alloc (.cells #[] 3)
  have a1 := (Rw.new (w.alloc (.cells #[.slice A n c, .slice R m d] 26)) 26 #[.slice none 0 0, .slice none 0 0]).alloc (.cells #[] 3)
  simp only [World.size_alloc] at o0 a1
  go_enter Tryd.func88, Tryd.ntmps88
  go_wp2_with (at_builtin; refine wpList_appendI rfl (.tmp 5) (.tmp 7) rfl (w.heap.size + 2) _ [] rfl o0 R m d w.heap.size h.rt rfl r0 (by simp <;> omega) (by simp) ?_; intro v5 w5 o5 g5 s5; rw [List.nil_append] at o5; obtain ⟨A5, c5, e5, f5⟩ := o5.form; rw [hlr] at e5; subst e5)
  have hrow5 : ∀ kk, (Value.slice (some ⟨w.heap.size + 1 + 1, 0, none⟩) 0 0).ownBlock = some kk → w.heap.size + 2 ≤ kk := fun kk hk => (World.ownsRow.lt o0 kk hk).1
  have st : CpSt w (w5.alloc (.cells #[.slice none 0 0, .slice A5 m c5] 26)) w5.heap.size #[.slice A n c, .slice R m d] #[.slice none 0 0, .slice none 0 0] (.slice none 0 0) (.slice A5 m c5) [] ⟨[], h.rt⟩ := by
    have hsz := g5.size
    simp at hsz
    refine ⟨⟨rfl, World.ownsRow_nil _ _ _ _, fun k c v hc => by simp at hc, World.ownsRow.alloc o5 _, by simp [Sep, Value.ownBlock]⟩, ?_, Rw.new _ _ _, (Rw.far a0 g5 (fun e => by have := hrow5 _ e.symm; omega)).alloc _, (Rw.far a1 g5 (fun e => by have := hrow5 _ e.symm; omega)).alloc _, ?_, by omega⟩
    · intro v hv
      simp at hv
      rcases hv with rfl | rfl
      · exact .inl rfl
      · cases e : (Value.slice A5 m c5).ownBlock with
        | none => exact .inl rfl
        | some kk =>
          right
          have := (World.ownsRow.lt o5 kk e).2
          intro e'
          injection e' with e'
          omega
    · exact (b0.grown g5 (by simp; omega) (fun kk hk => by have := hrow5 kk hk; omega)).alloc (by omega) _
  clear o0 b0 r0 a0 a1 o5 g5 s5 f5 hrow5
  go_loopw [4] (fun i wr => ∃ (k : Nat) (Av : Option Addr) (cv : Nat) (rvs : List Value), k ≤ n ∧ i = .int .i64 k ∧ CpSt w wr w5.heap.size #[.slice A n c, .slice R m d] #[.slice none 0 0, .slice none 0 0] (.slice Av k cv) (.slice A5 m c5) rvs ⟨h.cs.take k, h.rt⟩) (fun i _ => n - (intOf i).toNat)
  case atStart => exact ⟨0, none, 0, [], Nat.zero_le _, rfl, st⟩
  case round =>
    clear st
    obtain ⟨k, Av, cv, rvs, hk, rfl, S⟩ := hrel
    have z0 : wr.cell? ⟨w.heap.size, 0, none⟩ = some (.slice A n c) := S.arg.cell 0
    by_cases hlt : k < n
    · obtain ⟨g, o, cl, A', m', cc, e1, hg, hcl, d1, d2, d3, hmc, hi⟩ := hs.cells.at_ hlt
      subst e1
      have hlt' : (k : Int) < n := by omega
      have hl3 := hi.1
      have hm3 : m' ≤ 1000000 := by have := HB.out cl (List.mem_of_getElem? hcl); omega
      have HCL := Lib.hid hcl
      have htk : (h.cs.take k).length = k := by rw [List.length_take]; omega
      have hrow := S.own.row
      simp only [htk] at hrow
      have HROW := Lib.hid hrow
      have hbase : w.heap.size + 2 ≤ wr.heap.size := by have := S.lo; have := S.box.lt; omega
      have hvb : ∀ kk, (Value.slice Av k cv).ownBlock = some kk → w.heap.size + 2 ≤ kk ∧ kk < wr.heap.size := fun kk hk => World.ownsRow.lt hrow kk hk
      have hvx : (Value.slice Av k cv).ownBlock ≠ some w5.heap.size := by
        rcases S.apart (Value.slice Av k cv) (by simp) with e | e
        · rw [e]; simp
        · exact e
      have HI := Lib.hid ((hi.below S.bel).more S.bel.size)
      have HC := Lib.hid (fun ww (hG : wr.grownBy ww (Value.slice Av k cv).ownBlock) => (show ww.cell? ⟨w5.heap.size, 0, none⟩ = some (.slice Av k cv) ∧ ww.cell? ⟨w.heap.size, 0, none⟩ = some (.slice (some ⟨g, o, none⟩) n c) ∧ ww.cell? ⟨g, o + k * 3, none⟩ = some (.bool cl.u) ∧ ww.cell? ⟨g, o + k * 3 + 1, none⟩ = some (.int .i64 cl.d) ∧ ww.cell? ⟨g, o + k * 3 + 2, none⟩ = some (.slice A' m' cc) from by
        have hgl : g < wr.heap.size := Nat.lt_of_lt_of_le hg S.bel.size
        have hgn : some g ≠ (Value.slice Av k cv).ownBlock := fun e => by have := hvb g e.symm; omega
        have t := fun i => (World.cell?_of_block (hG.block g hgl hgn) : ww.cell? ⟨g, i, none⟩ = wr.cell? ⟨g, i, none⟩)
        refine ⟨(Rw.far S.box hG (fun e => hvx e.symm)).cell 0, (Rw.far S.arg hG (fun e => by have := hvb _ e.symm; omega)).cell 0, ?_, ?_, ?_⟩
        · exact (t _).trans ((S.bel.cell (p := ⟨g, o + k * 3, none⟩) hg).trans d1)
        · exact (t _).trans ((S.bel.cell (p := ⟨g, o + k * 3 + 1, none⟩) hg).trans d2)
        · exact (t _).trans ((S.bel.cell (p := ⟨g, o + k * 3 + 2, none⟩) hg).trans d3)))
      have HFZ := Lib.hid (fun ww (hG : wr.grownBy ww (Value.slice Av k cv).ownBlock) => (Rw.far S.box hG (fun e => hvx e.symm)).frozen 0)
      have APART := Lib.hid (fun (v : Value) (hv : ∀ kk, v.ownBlock = some kk → wr.heap.size ≤ kk) => (show v.ownBlock = none ∨ v.ownBlock ≠ (Value.slice Av k cv).ownBlock from by
        cases e : v.ownBlock with
        | none => exact .inl rfl
        | some kk => right; intro e'; have := hv kk e; have := hvb kk e'.symm; omega))
      have APB := Lib.hid (fun (v : Value) (hv : ∀ kk, v.ownBlock = some kk → wr.heap.size ≤ kk) => (show v.ownBlock = none ∨ v.ownBlock ≠ some w5.heap.size from by
        cases e : v.ownBlock with
        | none => exact .inl rfl
        | some kk => right; intro e'; injection e' with e'; have := hv kk e; have := S.box.lt; omega))
      have HS := Lib.hid S
      clear hcl hi d1 d2 d3 hvb hvx hrow S
      go_wp2_with fail
      clear z0
      refine wp_region_inv (by kernel_rfl) (by kernel_rfl) (fun L ac ww => ∃ t17 t18 t19 t20 t21 t22 t23 t24 t25 t26 t27 t28 t29 t30 t31 t32 t33 t34 t35 t36 t37 t38 t39 t40 t41 t42 : Value, ac = { tmps := #[(heapV (some ⟨g, o, none⟩) n c R m d), (.pointer (some ⟨w.heap.size, 0, none⟩)), (.pointer (some ⟨w.heap.size + 1, 0, none⟩)), (.pointer (some ⟨w5.heap.size, 0, none⟩)), (.int .i64 k), (.slice (some ⟨w.heap.size + 1 + 1, 0, none⟩) 0 0), (.pointer (some ⟨w.heap.size, 1, none⟩)), (.slice R m d), (.slice A5 m c5), (.agg #[.slice none 0 0, .slice A5 m c5]), (.int .i64 k), (.pointer (some ⟨w.heap.size, 0, none⟩)), (.slice (some ⟨g, o, none⟩) n c), (.int .i64 n), (.bool true), u15, u16, t17, t18, t19, t20, t21, t22, t23, t24, t25, t26, t27, t28, t29, t30, t31, t32, t33, t34, t35, t36, t37, t38, t39, t40, t41, t42, undef], defers := [] } ∧ (L 26 = true → ∀ i, i < 26 → L i = true) ∧ (L 26 = false → wr.grownBy ww (Value.slice Av k cv).ownBlock) ∧ (L 24 = false → Below wr.heap.size wr ww) ∧ (L 21 = true → L 14 = true) ∧ (L 23 = true → L 21 = true) ∧ (L 24 = true → L 23 = true) ∧ (L 22 = true → L 21 = true) ∧ (L 0 = true → t17 = (.pointer (some ⟨w5.heap.size, 0, none⟩))) ∧ (L 1 = true → t18 = (.slice Av k cv)) ∧ (L 2 = true → t19 = (.pointer (some ⟨w.heap.size, 0, none⟩))) ∧ (L 3 = true → t20 = (.slice (some ⟨g, o, none⟩) n c)) ∧ (L 4 = true → t21 = (.int .i64 k)) ∧ (L 5 = true → t22 = (.pointer (some ⟨g, o + k * 3, none⟩))) ∧ (L 6 = true → t23 = (.pointer (some ⟨g, o + k * 3, none⟩))) ∧ (L 7 = true → t24 = (.bool cl.u)) ∧ (L 8 = true → t25 = (.pointer (some ⟨w.heap.size, 0, none⟩))) ∧ (L 9 = true → t26 = (.slice (some ⟨g, o, none⟩) n c)) ∧ (L 10 = true → t27 = (.int .i64 k)) ∧ (L 11 = true → t28 = (.pointer (some ⟨g, o + k * 3, none⟩))) ∧ (L 12 = true → t29 = (.pointer (some ⟨g, o + k * 3 + 1, none⟩))) ∧ (L 13 = true → t30 = (.int .i64 cl.d)) ∧ (L 14 = true → ∃ gs, t31 = .slice (some ⟨gs, 0, none⟩) 0 0 ∧ (L 21 = false → OwnI ww wr.heap.size t31 [])) ∧ (L 15 = true → t32 = (.pointer (some ⟨w.heap.size, 0, none⟩))) ∧ (L 16 = true → t33 = (.slice (some ⟨g, o, none⟩) n c)) ∧ (L 17 = true → t34 = (.int .i64 k)) ∧ (L 18 = true → t35 = (.pointer (some ⟨g, o + k * 3, none⟩))) ∧ (L 19 = true → t36 = (.pointer (some ⟨g, o + k * 3 + 2, none⟩))) ∧ (L 20 = true → t37 = (.slice A' m' cc)) ∧ (L 21 = true → ∃ A8 c8, t38 = .slice A8 m' c8 ∧ OwnI ww wr.heap.size t38 cl.r) ∧ (L 22 = true → t39 = .agg #[.bool cl.u, .int .i64 cl.d, t38]) ∧ (L 23 = true → ∃ gs, t40 = .slice (some ⟨gs, 0, none⟩) 1 1 ∧ (L 24 = false → Rw ww gs 40 #[.bool cl.u, .int .i64 cl.d, t38])) ∧ (L 24 = true → ∃ A9 c9, t41 = .slice A9 (k + 1) c9 ∧ (t41.ownBlock = (Value.slice Av k cv).ownBlock ∨ ∃ b', t41.ownBlock = some b' ∧ wr.heap.size ≤ b') ∧ (L 26 = false → ww.ownsRow (w.heap.size + 2) 40 3 t41 (k + 1) (flatC (h.cs.take k) rvs ++ [.bool cl.u, .int .i64 cl.d, t38]) ∧ (t41.ownBlock = t38.ownBlock → t38.ownBlock = none))) ∧ (L 25 = true → t42 = (.pointer (some ⟨w5.heap.size, 0, none⟩))) ∧ (L 26 = true → ∃ w1, ww = w1.setCell ⟨w5.heap.size, 0, none⟩ t41 ∧ wr.grownBy w1 (Value.slice Av k cv).ownBlock ∧ w1.ownsRow (w.heap.size + 2) 40 3 t41 (k + 1) (flatC (h.cs.take k) rvs ++ [.bool cl.u, .int .i64 cl.d, t38]) ∧ (t41.ownBlock = t38.ownBlock → t38.ownBlock = none))) ?h0 ?hstep ?hdone
      case h0 => exact ⟨_, _, _, _, _, _, _, _, _, _, _, _, _, _, _, _, _, _, _, _, _, _, _, _, _, _, rfl, (fun h => absurd h Bool.false_ne_true), fun _ => below_any ((Below.refl _ _).drew) _, fun _ => (Below.refl _ _).drew, (fun h => absurd h Bool.false_ne_true), (fun h => absurd h Bool.false_ne_true), (fun h => absurd h Bool.false_ne_true), (fun h => absurd h Bool.false_ne_true), (fun h => absurd h Bool.false_ne_true), (fun h => absurd h Bool.false_ne_true), (fun h => absurd h Bool.false_ne_true), (fun h => absurd h Bool.false_ne_true), (fun h => absurd h Bool.false_ne_true), (fun h => absurd h Bool.false_ne_true), (fun h => absurd h Bool.false_ne_true), (fun h => absurd h Bool.false_ne_true), (fun h => absurd h Bool.false_ne_true), (fun h => absurd h Bool.false_ne_true), (fun h => absurd h Bool.false_ne_true), (fun h => absurd h Bool.false_ne_true), (fun h => absurd h Bool.false_ne_true), (fun h => absurd h Bool.false_ne_true), (fun h => absurd h Bool.false_ne_true), (fun h => absurd h Bool.false_ne_true), (fun h => absurd h Bool.false_ne_true), (fun h => absurd h Bool.false_ne_true), (fun h => absurd h Bool.false_ne_true), (fun h => absurd h Bool.false_ne_true), (fun h => absurd h Bool.false_ne_true), (fun h => absurd h Bool.false_ne_true), (fun h => absurd h Bool.false_ne_true), (fun h => absurd h Bool.false_ne_true), (fun h => absurd h Bool.false_ne_true), (fun h => absurd h Bool.false_ne_true), (fun h => absurd h Bool.false_ne_true)⟩
      case hstep =>
        rintro L ac ww i o ho hL hd ⟨t17, t18, t19, t20, t21, t22, t23, t24, t25, t26, t27, t28, t29, t30, t31, t32, t33, t34, t35, t36, t37, t38, t39, t40, t41, t42, rfl, I0, I1, I2, I3, I4, I5, I6, f0, f1, f2, f3, f4, f5, f6, f7, f8, f9, f10, f11, f12, f13, f14, f15, f16, f17, f18, f19, f20, f21, f22, f23, f24, f25, f26⟩
        have hi : i < 27 := (Array.getElem?_eq_some_iff.1 ho).1
        obtain rfl | rfl | rfl | rfl | rfl | rfl | rfl | rfl | rfl | rfl | rfl | rfl | rfl | rfl | rfl | rfl | rfl | rfl | rfl | rfl | rfl | rfl | rfl | rfl | rfl | rfl | rfl : i = 0 ∨ i = 1 ∨ i = 2 ∨ i = 3 ∨ i = 4 ∨ i = 5 ∨ i = 6 ∨ i = 7 ∨ i = 8 ∨ i = 9 ∨ i = 10 ∨ i = 11 ∨ i = 12 ∨ i = 13 ∨ i = 14 ∨ i = 15 ∨ i = 16 ∨ i = 17 ∨ i = 18 ∨ i = 19 ∨ i = 20 ∨ i = 21 ∨ i = 22 ∨ i = 23 ∨ i = 24 ∨ i = 25 ∨ i = 26 := by omega
        · obtain rfl := Option.some.inj ho
          have h26 : L 26 = false := by
            cases hh : L 26
            · rfl
            · exact absurd ((I0 hh 0 (by omega)).symm.trans hL) (by decide)
          refine wpOp_step rfl (fun K' hK => ?_)
          go_simp
          refine hK _ _ ?_
          exact ⟨_, _, _, _, _, _, _, _, _, _, _, _, _, _, _, _, _, _, _, _, _, _, _, _, _, _, rfl, (upd_all I0 (by decide)), (fun h => I1 (by rw [upd_other (by decide)] at h; exact h)), (fun h => I2 (by rw [upd_other (by decide)] at h; exact h)), (fun h => upd_mono (I3 (upd_ne h (by decide)))), (fun h => upd_mono (I4 (upd_ne h (by decide)))), (fun h => upd_mono (I5 (upd_ne h (by decide)))), (fun h => upd_mono (I6 (upd_ne h (by decide)))), (fun _ => by first | rfl | simp), (kp f1), (kp f2), (kp f3), (kp f4), (kp f5), (kp f6), (kp f7), (kp f8), (kp f9), (kp f10), (kp f11), (kp f12), (kp f13), (fun h => by
              obtain ⟨gs, e1, e2⟩ := f14 (upd_ne h (by decide))
              exact ⟨gs, e1, fun h21 => e2 (by rw [upd_other (by decide)] at h21; exact h21)⟩), (kp f15), (kp f16), (kp f17), (kp f18), (kp f19), (kp f20), (kp f21), (kp f22), (fun h => by
              obtain ⟨gs, e1, e2⟩ := f23 (upd_ne h (by decide))
              exact ⟨gs, e1, fun h24 => e2 (by rw [upd_other (by decide)] at h24; exact h24)⟩), (fun h => by
              obtain ⟨A9, c9, e1, e2, e3⟩ := f24 (upd_ne h (by decide))
              exact ⟨A9, c9, e1, e2, fun h26 => e3 (by rw [upd_other (by decide)] at h26; exact h26)⟩), (kp f25), (kp f26)⟩
        · obtain rfl := Option.some.inj ho
          have g0 := f0 (hd ⟨0, .data⟩ (by simp) rfl)
          subst g0
          have h26 : L 26 = false := by
            cases hh : L 26
            · rfl
            · exact absurd ((I0 hh 1 (by omega)).symm.trans hL) (by decide)
          obtain ⟨k0, k1, k2, k3, k4⟩ := HC.out ww (I1 h26)
          refine wpOp_step rfl (fun K' hK => ?_)
          go_simp
          refine hK _ _ ?_
          exact ⟨_, _, _, _, _, _, _, _, _, _, _, _, _, _, _, _, _, _, _, _, _, _, _, _, _, _, rfl, (upd_all I0 (by decide)), (fun h => I1 (by rw [upd_other (by decide)] at h; exact h)), (fun h => I2 (by rw [upd_other (by decide)] at h; exact h)), (fun h => upd_mono (I3 (upd_ne h (by decide)))), (fun h => upd_mono (I4 (upd_ne h (by decide)))), (fun h => upd_mono (I5 (upd_ne h (by decide)))), (fun h => upd_mono (I6 (upd_ne h (by decide)))), (kp f0), (fun _ => rfl), (kp f2), (kp f3), (kp f4), (kp f5), (kp f6), (kp f7), (kp f8), (kp f9), (kp f10), (kp f11), (kp f12), (kp f13), (fun h => by
              obtain ⟨gs, e1, e2⟩ := f14 (upd_ne h (by decide))
              exact ⟨gs, e1, fun h21 => e2 (by rw [upd_other (by decide)] at h21; exact h21)⟩), (kp f15), (kp f16), (kp f17), (kp f18), (kp f19), (kp f20), (kp f21), (kp f22), (fun h => by
              obtain ⟨gs, e1, e2⟩ := f23 (upd_ne h (by decide))
              exact ⟨gs, e1, fun h24 => e2 (by rw [upd_other (by decide)] at h24; exact h24)⟩), (fun h => by
              obtain ⟨A9, c9, e1, e2, e3⟩ := f24 (upd_ne h (by decide))
              exact ⟨A9, c9, e1, e2, fun h26 => e3 (by rw [upd_other (by decide)] at h26; exact h26)⟩), (kp f25), (kp f26)⟩
        · obtain rfl := Option.some.inj ho
          have h26 : L 26 = false := by
            cases hh : L 26
            · rfl
            · exact absurd ((I0 hh 2 (by omega)).symm.trans hL) (by decide)
          refine wpOp_step rfl (fun K' hK => ?_)
          go_simp
          refine hK _ _ ?_
          exact ⟨_, _, _, _, _, _, _, _, _, _, _, _, _, _, _, _, _, _, _, _, _, _, _, _, _, _, rfl, (upd_all I0 (by decide)), (fun h => I1 (by rw [upd_other (by decide)] at h; exact h)), (fun h => I2 (by rw [upd_other (by decide)] at h; exact h)), (fun h => upd_mono (I3 (upd_ne h (by decide)))), (fun h => upd_mono (I4 (upd_ne h (by decide)))), (fun h => upd_mono (I5 (upd_ne h (by decide)))), (fun h => upd_mono (I6 (upd_ne h (by decide)))), (kp f0), (kp f1), (fun _ => by first | rfl | simp), (kp f3), (kp f4), (kp f5), (kp f6), (kp f7), (kp f8), (kp f9), (kp f10), (kp f11), (kp f12), (kp f13), (fun h => by
              obtain ⟨gs, e1, e2⟩ := f14 (upd_ne h (by decide))
              exact ⟨gs, e1, fun h21 => e2 (by rw [upd_other (by decide)] at h21; exact h21)⟩), (kp f15), (kp f16), (kp f17), (kp f18), (kp f19), (kp f20), (kp f21), (kp f22), (fun h => by
              obtain ⟨gs, e1, e2⟩ := f23 (upd_ne h (by decide))
              exact ⟨gs, e1, fun h24 => e2 (by rw [upd_other (by decide)] at h24; exact h24)⟩), (fun h => by
              obtain ⟨A9, c9, e1, e2, e3⟩ := f24 (upd_ne h (by decide))
              exact ⟨A9, c9, e1, e2, fun h26 => e3 (by rw [upd_other (by decide)] at h26; exact h26)⟩), (kp f25), (kp f26)⟩
        · obtain rfl := Option.some.inj ho
          have g2 := f2 (hd ⟨2, .data⟩ (by simp) rfl)
          subst g2
          have h26 : L 26 = false := by
            cases hh : L 26
            · rfl
            · exact absurd ((I0 hh 3 (by omega)).symm.trans hL) (by decide)
          obtain ⟨k0, k1, k2, k3, k4⟩ := HC.out ww (I1 h26)
          refine wpOp_step rfl (fun K' hK => ?_)
          go_simp
          refine hK _ _ ?_
          exact ⟨_, _, _, _, _, _, _, _, _, _, _, _, _, _, _, _, _, _, _, _, _, _, _, _, _, _, rfl, (upd_all I0 (by decide)), (fun h => I1 (by rw [upd_other (by decide)] at h; exact h)), (fun h => I2 (by rw [upd_other (by decide)] at h; exact h)), (fun h => upd_mono (I3 (upd_ne h (by decide)))), (fun h => upd_mono (I4 (upd_ne h (by decide)))), (fun h => upd_mono (I5 (upd_ne h (by decide)))), (fun h => upd_mono (I6 (upd_ne h (by decide)))), (kp f0), (kp f1), (kp f2), (fun _ => rfl), (kp f4), (kp f5), (kp f6), (kp f7), (kp f8), (kp f9), (kp f10), (kp f11), (kp f12), (kp f13), (fun h => by
              obtain ⟨gs, e1, e2⟩ := f14 (upd_ne h (by decide))
              exact ⟨gs, e1, fun h21 => e2 (by rw [upd_other (by decide)] at h21; exact h21)⟩), (kp f15), (kp f16), (kp f17), (kp f18), (kp f19), (kp f20), (kp f21), (kp f22), (fun h => by
              obtain ⟨gs, e1, e2⟩ := f23 (upd_ne h (by decide))
              exact ⟨gs, e1, fun h24 => e2 (by rw [upd_other (by decide)] at h24; exact h24)⟩), (fun h => by
              obtain ⟨A9, c9, e1, e2, e3⟩ := f24 (upd_ne h (by decide))
              exact ⟨A9, c9, e1, e2, fun h26 => e3 (by rw [upd_other (by decide)] at h26; exact h26)⟩), (kp f25), (kp f26)⟩
        · obtain rfl := Option.some.inj ho
          have h26 : L 26 = false := by
            cases hh : L 26
            · rfl
            · exact absurd ((I0 hh 4 (by omega)).symm.trans hL) (by decide)
          refine wpOp_step rfl (fun K' hK => ?_)
          go_simp
          refine hK _ _ ?_
          exact ⟨_, _, _, _, _, _, _, _, _, _, _, _, _, _, _, _, _, _, _, _, _, _, _, _, _, _, rfl, (upd_all I0 (by decide)), (fun h => I1 (by rw [upd_other (by decide)] at h; exact h)), (fun h => I2 (by rw [upd_other (by decide)] at h; exact h)), (fun h => upd_mono (I3 (upd_ne h (by decide)))), (fun h => upd_mono (I4 (upd_ne h (by decide)))), (fun h => upd_mono (I5 (upd_ne h (by decide)))), (fun h => upd_mono (I6 (upd_ne h (by decide)))), (kp f0), (kp f1), (kp f2), (kp f3), (fun _ => rfl), (kp f5), (kp f6), (kp f7), (kp f8), (kp f9), (kp f10), (kp f11), (kp f12), (kp f13), (fun h => by
              obtain ⟨gs, e1, e2⟩ := f14 (upd_ne h (by decide))
              exact ⟨gs, e1, fun h21 => e2 (by rw [upd_other (by decide)] at h21; exact h21)⟩), (kp f15), (kp f16), (kp f17), (kp f18), (kp f19), (kp f20), (kp f21), (kp f22), (fun h => by
              obtain ⟨gs, e1, e2⟩ := f23 (upd_ne h (by decide))
              exact ⟨gs, e1, fun h24 => e2 (by rw [upd_other (by decide)] at h24; exact h24)⟩), (fun h => by
              obtain ⟨A9, c9, e1, e2, e3⟩ := f24 (upd_ne h (by decide))
              exact ⟨A9, c9, e1, e2, fun h26 => e3 (by rw [upd_other (by decide)] at h26; exact h26)⟩), (kp f25), (kp f26)⟩
        · obtain rfl := Option.some.inj ho
          have g3 := f3 (hd ⟨3, .data⟩ (by simp) rfl)
          have g4 := f4 (hd ⟨4, .data⟩ (by simp) rfl)
          subst g3
          subst g4
          have h26 : L 26 = false := by
            cases hh : L 26
            · rfl
            · exact absurd ((I0 hh 5 (by omega)).symm.trans hL) (by decide)
          refine wpOp_step rfl (fun K' hK => ?_)
          go_simp
          refine hK _ _ ?_
          exact ⟨_, _, _, _, _, _, _, _, _, _, _, _, _, _, _, _, _, _, _, _, _, _, _, _, _, _, rfl, (upd_all I0 (by decide)), (fun h => I1 (by rw [upd_other (by decide)] at h; exact h)), (fun h => I2 (by rw [upd_other (by decide)] at h; exact h)), (fun h => upd_mono (I3 (upd_ne h (by decide)))), (fun h => upd_mono (I4 (upd_ne h (by decide)))), (fun h => upd_mono (I5 (upd_ne h (by decide)))), (fun h => upd_mono (I6 (upd_ne h (by decide)))), (kp f0), (kp f1), (kp f2), (kp f3), (kp f4), (fun _ => by first | rfl | simp), (kp f6), (kp f7), (kp f8), (kp f9), (kp f10), (kp f11), (kp f12), (kp f13), (fun h => by
              obtain ⟨gs, e1, e2⟩ := f14 (upd_ne h (by decide))
              exact ⟨gs, e1, fun h21 => e2 (by rw [upd_other (by decide)] at h21; exact h21)⟩), (kp f15), (kp f16), (kp f17), (kp f18), (kp f19), (kp f20), (kp f21), (kp f22), (fun h => by
              obtain ⟨gs, e1, e2⟩ := f23 (upd_ne h (by decide))
              exact ⟨gs, e1, fun h24 => e2 (by rw [upd_other (by decide)] at h24; exact h24)⟩), (fun h => by
              obtain ⟨A9, c9, e1, e2, e3⟩ := f24 (upd_ne h (by decide))
              exact ⟨A9, c9, e1, e2, fun h26 => e3 (by rw [upd_other (by decide)] at h26; exact h26)⟩), (kp f25), (kp f26)⟩
        · obtain rfl := Option.some.inj ho
          have g5 := f5 (hd ⟨5, .data⟩ (by simp) rfl)
          subst g5
          have h26 : L 26 = false := by
            cases hh : L 26
            · rfl
            · exact absurd ((I0 hh 6 (by omega)).symm.trans hL) (by decide)
          refine wpOp_step rfl (fun K' hK => ?_)
          go_simp
          refine hK _ _ ?_
          exact ⟨_, _, _, _, _, _, _, _, _, _, _, _, _, _, _, _, _, _, _, _, _, _, _, _, _, _, rfl, (upd_all I0 (by decide)), (fun h => I1 (by rw [upd_other (by decide)] at h; exact h)), (fun h => I2 (by rw [upd_other (by decide)] at h; exact h)), (fun h => upd_mono (I3 (upd_ne h (by decide)))), (fun h => upd_mono (I4 (upd_ne h (by decide)))), (fun h => upd_mono (I5 (upd_ne h (by decide)))), (fun h => upd_mono (I6 (upd_ne h (by decide)))), (kp f0), (kp f1), (kp f2), (kp f3), (kp f4), (kp f5), (fun _ => by first | rfl | simp), (kp f7), (kp f8), (kp f9), (kp f10), (kp f11), (kp f12), (kp f13), (fun h => by
              obtain ⟨gs, e1, e2⟩ := f14 (upd_ne h (by decide))
              exact ⟨gs, e1, fun h21 => e2 (by rw [upd_other (by decide)] at h21; exact h21)⟩), (kp f15), (kp f16), (kp f17), (kp f18), (kp f19), (kp f20), (kp f21), (kp f22), (fun h => by
              obtain ⟨gs, e1, e2⟩ := f23 (upd_ne h (by decide))
              exact ⟨gs, e1, fun h24 => e2 (by rw [upd_other (by decide)] at h24; exact h24)⟩), (fun h => by
              obtain ⟨A9, c9, e1, e2, e3⟩ := f24 (upd_ne h (by decide))
              exact ⟨A9, c9, e1, e2, fun h26 => e3 (by rw [upd_other (by decide)] at h26; exact h26)⟩), (kp f25), (kp f26)⟩
        · obtain rfl := Option.some.inj ho
          have g6 := f6 (hd ⟨6, .data⟩ (by simp) rfl)
          subst g6
          have h26 : L 26 = false := by
            cases hh : L 26
            · rfl
            · exact absurd ((I0 hh 7 (by omega)).symm.trans hL) (by decide)
          obtain ⟨k0, k1, k2, k3, k4⟩ := HC.out ww (I1 h26)
          refine wpOp_step rfl (fun K' hK => ?_)
          go_simp
          refine hK _ _ ?_
          exact ⟨_, _, _, _, _, _, _, _, _, _, _, _, _, _, _, _, _, _, _, _, _, _, _, _, _, _, rfl, (upd_all I0 (by decide)), (fun h => I1 (by rw [upd_other (by decide)] at h; exact h)), (fun h => I2 (by rw [upd_other (by decide)] at h; exact h)), (fun h => upd_mono (I3 (upd_ne h (by decide)))), (fun h => upd_mono (I4 (upd_ne h (by decide)))), (fun h => upd_mono (I5 (upd_ne h (by decide)))), (fun h => upd_mono (I6 (upd_ne h (by decide)))), (kp f0), (kp f1), (kp f2), (kp f3), (kp f4), (kp f5), (kp f6), (fun _ => rfl), (kp f8), (kp f9), (kp f10), (kp f11), (kp f12), (kp f13), (fun h => by
              obtain ⟨gs, e1, e2⟩ := f14 (upd_ne h (by decide))
              exact ⟨gs, e1, fun h21 => e2 (by rw [upd_other (by decide)] at h21; exact h21)⟩), (kp f15), (kp f16), (kp f17), (kp f18), (kp f19), (kp f20), (kp f21), (kp f22), (fun h => by
              obtain ⟨gs, e1, e2⟩ := f23 (upd_ne h (by decide))
              exact ⟨gs, e1, fun h24 => e2 (by rw [upd_other (by decide)] at h24; exact h24)⟩), (fun h => by
              obtain ⟨A9, c9, e1, e2, e3⟩ := f24 (upd_ne h (by decide))
              exact ⟨A9, c9, e1, e2, fun h26 => e3 (by rw [upd_other (by decide)] at h26; exact h26)⟩), (kp f25), (kp f26)⟩
        · obtain rfl := Option.some.inj ho
          have h26 : L 26 = false := by
            cases hh : L 26
            · rfl
            · exact absurd ((I0 hh 8 (by omega)).symm.trans hL) (by decide)
          refine wpOp_step rfl (fun K' hK => ?_)
          go_simp
          refine hK _ _ ?_
          exact ⟨_, _, _, _, _, _, _, _, _, _, _, _, _, _, _, _, _, _, _, _, _, _, _, _, _, _, rfl, (upd_all I0 (by decide)), (fun h => I1 (by rw [upd_other (by decide)] at h; exact h)), (fun h => I2 (by rw [upd_other (by decide)] at h; exact h)), (fun h => upd_mono (I3 (upd_ne h (by decide)))), (fun h => upd_mono (I4 (upd_ne h (by decide)))), (fun h => upd_mono (I5 (upd_ne h (by decide)))), (fun h => upd_mono (I6 (upd_ne h (by decide)))), (kp f0), (kp f1), (kp f2), (kp f3), (kp f4), (kp f5), (kp f6), (kp f7), (fun _ => by first | rfl | simp), (kp f9), (kp f10), (kp f11), (kp f12), (kp f13), (fun h => by
              obtain ⟨gs, e1, e2⟩ := f14 (upd_ne h (by decide))
              exact ⟨gs, e1, fun h21 => e2 (by rw [upd_other (by decide)] at h21; exact h21)⟩), (kp f15), (kp f16), (kp f17), (kp f18), (kp f19), (kp f20), (kp f21), (kp f22), (fun h => by
              obtain ⟨gs, e1, e2⟩ := f23 (upd_ne h (by decide))
              exact ⟨gs, e1, fun h24 => e2 (by rw [upd_other (by decide)] at h24; exact h24)⟩), (fun h => by
              obtain ⟨A9, c9, e1, e2, e3⟩ := f24 (upd_ne h (by decide))
              exact ⟨A9, c9, e1, e2, fun h26 => e3 (by rw [upd_other (by decide)] at h26; exact h26)⟩), (kp f25), (kp f26)⟩
        · obtain rfl := Option.some.inj ho
          have g8 := f8 (hd ⟨8, .data⟩ (by simp) rfl)
          subst g8
          have h26 : L 26 = false := by
            cases hh : L 26
            · rfl
            · exact absurd ((I0 hh 9 (by omega)).symm.trans hL) (by decide)
          obtain ⟨k0, k1, k2, k3, k4⟩ := HC.out ww (I1 h26)
          refine wpOp_step rfl (fun K' hK => ?_)
          go_simp
          refine hK _ _ ?_
          exact ⟨_, _, _, _, _, _, _, _, _, _, _, _, _, _, _, _, _, _, _, _, _, _, _, _, _, _, rfl, (upd_all I0 (by decide)), (fun h => I1 (by rw [upd_other (by decide)] at h; exact h)), (fun h => I2 (by rw [upd_other (by decide)] at h; exact h)), (fun h => upd_mono (I3 (upd_ne h (by decide)))), (fun h => upd_mono (I4 (upd_ne h (by decide)))), (fun h => upd_mono (I5 (upd_ne h (by decide)))), (fun h => upd_mono (I6 (upd_ne h (by decide)))), (kp f0), (kp f1), (kp f2), (kp f3), (kp f4), (kp f5), (kp f6), (kp f7), (kp f8), (fun _ => rfl), (kp f10), (kp f11), (kp f12), (kp f13), (fun h => by
              obtain ⟨gs, e1, e2⟩ := f14 (upd_ne h (by decide))
              exact ⟨gs, e1, fun h21 => e2 (by rw [upd_other (by decide)] at h21; exact h21)⟩), (kp f15), (kp f16), (kp f17), (kp f18), (kp f19), (kp f20), (kp f21), (kp f22), (fun h => by
              obtain ⟨gs, e1, e2⟩ := f23 (upd_ne h (by decide))
              exact ⟨gs, e1, fun h24 => e2 (by rw [upd_other (by decide)] at h24; exact h24)⟩), (fun h => by
              obtain ⟨A9, c9, e1, e2, e3⟩ := f24 (upd_ne h (by decide))
              exact ⟨A9, c9, e1, e2, fun h26 => e3 (by rw [upd_other (by decide)] at h26; exact h26)⟩), (kp f25), (kp f26)⟩
        · obtain rfl := Option.some.inj ho
          have h26 : L 26 = false := by
            cases hh : L 26
            · rfl
            · exact absurd ((I0 hh 10 (by omega)).symm.trans hL) (by decide)
          refine wpOp_step rfl (fun K' hK => ?_)
          go_simp
          refine hK _ _ ?_
          exact ⟨_, _, _, _, _, _, _, _, _, _, _, _, _, _, _, _, _, _, _, _, _, _, _, _, _, _, rfl, (upd_all I0 (by decide)), (fun h => I1 (by rw [upd_other (by decide)] at h; exact h)), (fun h => I2 (by rw [upd_other (by decide)] at h; exact h)), (fun h => upd_mono (I3 (upd_ne h (by decide)))), (fun h => upd_mono (I4 (upd_ne h (by decide)))), (fun h => upd_mono (I5 (upd_ne h (by decide)))), (fun h => upd_mono (I6 (upd_ne h (by decide)))), (kp f0), (kp f1), (kp f2), (kp f3), (kp f4), (kp f5), (kp f6), (kp f7), (kp f8), (kp f9), (fun _ => rfl), (kp f11), (kp f12), (kp f13), (fun h => by
              obtain ⟨gs, e1, e2⟩ := f14 (upd_ne h (by decide))
              exact ⟨gs, e1, fun h21 => e2 (by rw [upd_other (by decide)] at h21; exact h21)⟩), (kp f15), (kp f16), (kp f17), (kp f18), (kp f19), (kp f20), (kp f21), (kp f22), (fun h => by
              obtain ⟨gs, e1, e2⟩ := f23 (upd_ne h (by decide))
              exact ⟨gs, e1, fun h24 => e2 (by rw [upd_other (by decide)] at h24; exact h24)⟩), (fun h => by
              obtain ⟨A9, c9, e1, e2, e3⟩ := f24 (upd_ne h (by decide))
              exact ⟨A9, c9, e1, e2, fun h26 => e3 (by rw [upd_other (by decide)] at h26; exact h26)⟩), (kp f25), (kp f26)⟩
        · obtain rfl := Option.some.inj ho
          have g9 := f9 (hd ⟨9, .data⟩ (by simp) rfl)
          have g10 := f10 (hd ⟨10, .data⟩ (by simp) rfl)
          subst g9
          subst g10
          have h26 : L 26 = false := by
            cases hh : L 26
            · rfl
            · exact absurd ((I0 hh 11 (by omega)).symm.trans hL) (by decide)
          refine wpOp_step rfl (fun K' hK => ?_)
          go_simp
          refine hK _ _ ?_
          exact ⟨_, _, _, _, _, _, _, _, _, _, _, _, _, _, _, _, _, _, _, _, _, _, _, _, _, _, rfl, (upd_all I0 (by decide)), (fun h => I1 (by rw [upd_other (by decide)] at h; exact h)), (fun h => I2 (by rw [upd_other (by decide)] at h; exact h)), (fun h => upd_mono (I3 (upd_ne h (by decide)))), (fun h => upd_mono (I4 (upd_ne h (by decide)))), (fun h => upd_mono (I5 (upd_ne h (by decide)))), (fun h => upd_mono (I6 (upd_ne h (by decide)))), (kp f0), (kp f1), (kp f2), (kp f3), (kp f4), (kp f5), (kp f6), (kp f7), (kp f8), (kp f9), (kp f10), (fun _ => by first | rfl | simp), (kp f12), (kp f13), (fun h => by
              obtain ⟨gs, e1, e2⟩ := f14 (upd_ne h (by decide))
              exact ⟨gs, e1, fun h21 => e2 (by rw [upd_other (by decide)] at h21; exact h21)⟩), (kp f15), (kp f16), (kp f17), (kp f18), (kp f19), (kp f20), (kp f21), (kp f22), (fun h => by
              obtain ⟨gs, e1, e2⟩ := f23 (upd_ne h (by decide))
              exact ⟨gs, e1, fun h24 => e2 (by rw [upd_other (by decide)] at h24; exact h24)⟩), (fun h => by
              obtain ⟨A9, c9, e1, e2, e3⟩ := f24 (upd_ne h (by decide))
              exact ⟨A9, c9, e1, e2, fun h26 => e3 (by rw [upd_other (by decide)] at h26; exact h26)⟩), (kp f25), (kp f26)⟩
        · obtain rfl := Option.some.inj ho
          have g11 := f11 (hd ⟨11, .data⟩ (by simp) rfl)
          subst g11
          have h26 : L 26 = false := by
            cases hh : L 26
            · rfl
            · exact absurd ((I0 hh 12 (by omega)).symm.trans hL) (by decide)
          refine wpOp_step rfl (fun K' hK => ?_)
          go_simp
          refine hK _ _ ?_
          exact ⟨_, _, _, _, _, _, _, _, _, _, _, _, _, _, _, _, _, _, _, _, _, _, _, _, _, _, rfl, (upd_all I0 (by decide)), (fun h => I1 (by rw [upd_other (by decide)] at h; exact h)), (fun h => I2 (by rw [upd_other (by decide)] at h; exact h)), (fun h => upd_mono (I3 (upd_ne h (by decide)))), (fun h => upd_mono (I4 (upd_ne h (by decide)))), (fun h => upd_mono (I5 (upd_ne h (by decide)))), (fun h => upd_mono (I6 (upd_ne h (by decide)))), (kp f0), (kp f1), (kp f2), (kp f3), (kp f4), (kp f5), (kp f6), (kp f7), (kp f8), (kp f9), (kp f10), (kp f11), (fun _ => by first | rfl | simp), (kp f13), (fun h => by
              obtain ⟨gs, e1, e2⟩ := f14 (upd_ne h (by decide))
              exact ⟨gs, e1, fun h21 => e2 (by rw [upd_other (by decide)] at h21; exact h21)⟩), (kp f15), (kp f16), (kp f17), (kp f18), (kp f19), (kp f20), (kp f21), (kp f22), (fun h => by
              obtain ⟨gs, e1, e2⟩ := f23 (upd_ne h (by decide))
              exact ⟨gs, e1, fun h24 => e2 (by rw [upd_other (by decide)] at h24; exact h24)⟩), (fun h => by
              obtain ⟨A9, c9, e1, e2, e3⟩ := f24 (upd_ne h (by decide))
              exact ⟨A9, c9, e1, e2, fun h26 => e3 (by rw [upd_other (by decide)] at h26; exact h26)⟩), (kp f25), (kp f26)⟩
        · obtain rfl := Option.some.inj ho
          have g12 := f12 (hd ⟨12, .data⟩ (by simp) rfl)
          subst g12
          have h26 : L 26 = false := by
            cases hh : L 26
            · rfl
            · exact absurd ((I0 hh 13 (by omega)).symm.trans hL) (by decide)
          obtain ⟨k0, k1, k2, k3, k4⟩ := HC.out ww (I1 h26)
          refine wpOp_step rfl (fun K' hK => ?_)
          go_simp
          refine hK _ _ ?_
          exact ⟨_, _, _, _, _, _, _, _, _, _, _, _, _, _, _, _, _, _, _, _, _, _, _, _, _, _, rfl, (upd_all I0 (by decide)), (fun h => I1 (by rw [upd_other (by decide)] at h; exact h)), (fun h => I2 (by rw [upd_other (by decide)] at h; exact h)), (fun h => upd_mono (I3 (upd_ne h (by decide)))), (fun h => upd_mono (I4 (upd_ne h (by decide)))), (fun h => upd_mono (I5 (upd_ne h (by decide)))), (fun h => upd_mono (I6 (upd_ne h (by decide)))), (kp f0), (kp f1), (kp f2), (kp f3), (kp f4), (kp f5), (kp f6), (kp f7), (kp f8), (kp f9), (kp f10), (kp f11), (kp f12), (fun _ => rfl), (fun h => by
              obtain ⟨gs, e1, e2⟩ := f14 (upd_ne h (by decide))
              exact ⟨gs, e1, fun h21 => e2 (by rw [upd_other (by decide)] at h21; exact h21)⟩), (kp f15), (kp f16), (kp f17), (kp f18), (kp f19), (kp f20), (kp f21), (kp f22), (fun h => by
              obtain ⟨gs, e1, e2⟩ := f23 (upd_ne h (by decide))
              exact ⟨gs, e1, fun h24 => e2 (by rw [upd_other (by decide)] at h24; exact h24)⟩), (fun h => by
              obtain ⟨A9, c9, e1, e2, e3⟩ := f24 (upd_ne h (by decide))
              exact ⟨A9, c9, e1, e2, fun h26 => e3 (by rw [upd_other (by decide)] at h26; exact h26)⟩), (kp f25), (kp f26)⟩
        · obtain rfl := Option.some.inj ho
          have h26 : L 26 = false := by
            cases hh : L 26
            · rfl
            · exact absurd ((I0 hh 14 (by omega)).symm.trans hL) (by decide)
          have h21 : L 21 = false := by
            cases hh : L 21
            · rfl
            · exact absurd ((I3 hh)) (by rw [hL]; decide)
          have h23 : L 23 = false := by
            cases hh : L 23
            · rfl
            · exact absurd (I4 hh) (by rw [h21]; decide)
          have h24 : L 24 = false := by
            cases hh : L 24
            · rfl
            · exact absurd (I5 hh) (by rw [h23]; decide)
          have hB := I2 h24
          refine wpOp_step rfl (fun K' hK => ?_)
          go_simp
          refine hK _ _ ?_
          exact ⟨_, _, _, _, _, _, _, _, _, _, _, _, _, _, _, _, _, _, _, _, _, _, _, _, _, _, rfl, (upd_all I0 (by decide)), (fun _ => below_any (hB.alloc hB.size _) _), (fun _ => hB.alloc hB.size _), (fun _ => upd_self), (fun h => upd_mono (I4 (upd_ne h (by decide)))), (fun h => upd_mono (I5 (upd_ne h (by decide)))), (fun h => upd_mono (I6 (upd_ne h (by decide)))), (kp f0), (kp f1), (kp f2), (kp f3), (kp f4), (kp f5), (kp f6), (kp f7), (kp f8), (kp f9), (kp f10), (kp f11), (kp f12), (kp f13), (fun _ => ⟨_, rfl, fun _ => own_noneI ww wr.heap.size hB.size⟩), (kp f15), (kp f16), (kp f17), (kp f18), (kp f19), (kp f20), (fun h => absurd ((upd_ne h (by decide)).symm.trans h21) (by decide)), (fun h => absurd (I6 (upd_ne h (by decide))) (by rw [h21]; decide)), (fun h => absurd ((upd_ne h (by decide)).symm.trans h23) (by decide)), (fun h => absurd ((upd_ne h (by decide)).symm.trans h24) (by decide)), (kp f25), (fun h => absurd ((upd_ne h (by decide)).symm.trans h26) (by decide))⟩
        · obtain rfl := Option.some.inj ho
          have h26 : L 26 = false := by
            cases hh : L 26
            · rfl
            · exact absurd ((I0 hh 15 (by omega)).symm.trans hL) (by decide)
          refine wpOp_step rfl (fun K' hK => ?_)
          go_simp
          refine hK _ _ ?_
          exact ⟨_, _, _, _, _, _, _, _, _, _, _, _, _, _, _, _, _, _, _, _, _, _, _, _, _, _, rfl, (upd_all I0 (by decide)), (fun h => I1 (by rw [upd_other (by decide)] at h; exact h)), (fun h => I2 (by rw [upd_other (by decide)] at h; exact h)), (fun h => upd_mono (I3 (upd_ne h (by decide)))), (fun h => upd_mono (I4 (upd_ne h (by decide)))), (fun h => upd_mono (I5 (upd_ne h (by decide)))), (fun h => upd_mono (I6 (upd_ne h (by decide)))), (kp f0), (kp f1), (kp f2), (kp f3), (kp f4), (kp f5), (kp f6), (kp f7), (kp f8), (kp f9), (kp f10), (kp f11), (kp f12), (kp f13), (fun h => by
              obtain ⟨gs, e1, e2⟩ := f14 (upd_ne h (by decide))
              exact ⟨gs, e1, fun h21 => e2 (by rw [upd_other (by decide)] at h21; exact h21)⟩), (fun _ => by first | rfl | simp), (kp f16), (kp f17), (kp f18), (kp f19), (kp f20), (kp f21), (kp f22), (fun h => by
              obtain ⟨gs, e1, e2⟩ := f23 (upd_ne h (by decide))
              exact ⟨gs, e1, fun h24 => e2 (by rw [upd_other (by decide)] at h24; exact h24)⟩), (fun h => by
              obtain ⟨A9, c9, e1, e2, e3⟩ := f24 (upd_ne h (by decide))
              exact ⟨A9, c9, e1, e2, fun h26 => e3 (by rw [upd_other (by decide)] at h26; exact h26)⟩), (kp f25), (kp f26)⟩
        · obtain rfl := Option.some.inj ho
          have g15 := f15 (hd ⟨15, .data⟩ (by simp) rfl)
          subst g15
          have h26 : L 26 = false := by
            cases hh : L 26
            · rfl
            · exact absurd ((I0 hh 16 (by omega)).symm.trans hL) (by decide)
          obtain ⟨k0, k1, k2, k3, k4⟩ := HC.out ww (I1 h26)
          refine wpOp_step rfl (fun K' hK => ?_)
          go_simp
          refine hK _ _ ?_
          exact ⟨_, _, _, _, _, _, _, _, _, _, _, _, _, _, _, _, _, _, _, _, _, _, _, _, _, _, rfl, (upd_all I0 (by decide)), (fun h => I1 (by rw [upd_other (by decide)] at h; exact h)), (fun h => I2 (by rw [upd_other (by decide)] at h; exact h)), (fun h => upd_mono (I3 (upd_ne h (by decide)))), (fun h => upd_mono (I4 (upd_ne h (by decide)))), (fun h => upd_mono (I5 (upd_ne h (by decide)))), (fun h => upd_mono (I6 (upd_ne h (by decide)))), (kp f0), (kp f1), (kp f2), (kp f3), (kp f4), (kp f5), (kp f6), (kp f7), (kp f8), (kp f9), (kp f10), (kp f11), (kp f12), (kp f13), (fun h => by
              obtain ⟨gs, e1, e2⟩ := f14 (upd_ne h (by decide))
              exact ⟨gs, e1, fun h21 => e2 (by rw [upd_other (by decide)] at h21; exact h21)⟩), (kp f15), (fun _ => rfl), (kp f17), (kp f18), (kp f19), (kp f20), (kp f21), (kp f22), (fun h => by
              obtain ⟨gs, e1, e2⟩ := f23 (upd_ne h (by decide))
              exact ⟨gs, e1, fun h24 => e2 (by rw [upd_other (by decide)] at h24; exact h24)⟩), (fun h => by
              obtain ⟨A9, c9, e1, e2, e3⟩ := f24 (upd_ne h (by decide))
              exact ⟨A9, c9, e1, e2, fun h26 => e3 (by rw [upd_other (by decide)] at h26; exact h26)⟩), (kp f25), (kp f26)⟩
        · obtain rfl := Option.some.inj ho
          have h26 : L 26 = false := by
            cases hh : L 26
            · rfl
            · exact absurd ((I0 hh 17 (by omega)).symm.trans hL) (by decide)
          refine wpOp_step rfl (fun K' hK => ?_)
          go_simp
          refine hK _ _ ?_
          exact ⟨_, _, _, _, _, _, _, _, _, _, _, _, _, _, _, _, _, _, _, _, _, _, _, _, _, _, rfl, (upd_all I0 (by decide)), (fun h => I1 (by rw [upd_other (by decide)] at h; exact h)), (fun h => I2 (by rw [upd_other (by decide)] at h; exact h)), (fun h => upd_mono (I3 (upd_ne h (by decide)))), (fun h => upd_mono (I4 (upd_ne h (by decide)))), (fun h => upd_mono (I5 (upd_ne h (by decide)))), (fun h => upd_mono (I6 (upd_ne h (by decide)))), (kp f0), (kp f1), (kp f2), (kp f3), (kp f4), (kp f5), (kp f6), (kp f7), (kp f8), (kp f9), (kp f10), (kp f11), (kp f12), (kp f13), (fun h => by
              obtain ⟨gs, e1, e2⟩ := f14 (upd_ne h (by decide))
              exact ⟨gs, e1, fun h21 => e2 (by rw [upd_other (by decide)] at h21; exact h21)⟩), (kp f15), (kp f16), (fun _ => rfl), (kp f18), (kp f19), (kp f20), (kp f21), (kp f22), (fun h => by
              obtain ⟨gs, e1, e2⟩ := f23 (upd_ne h (by decide))
              exact ⟨gs, e1, fun h24 => e2 (by rw [upd_other (by decide)] at h24; exact h24)⟩), (fun h => by
              obtain ⟨A9, c9, e1, e2, e3⟩ := f24 (upd_ne h (by decide))
              exact ⟨A9, c9, e1, e2, fun h26 => e3 (by rw [upd_other (by decide)] at h26; exact h26)⟩), (kp f25), (kp f26)⟩
        · obtain rfl := Option.some.inj ho
          have g16 := f16 (hd ⟨16, .data⟩ (by simp) rfl)
          have g17 := f17 (hd ⟨17, .data⟩ (by simp) rfl)
          subst g16
          subst g17
          have h26 : L 26 = false := by
            cases hh : L 26
            · rfl
            · exact absurd ((I0 hh 18 (by omega)).symm.trans hL) (by decide)
          refine wpOp_step rfl (fun K' hK => ?_)
          go_simp
          refine hK _ _ ?_
          exact ⟨_, _, _, _, _, _, _, _, _, _, _, _, _, _, _, _, _, _, _, _, _, _, _, _, _, _, rfl, (upd_all I0 (by decide)), (fun h => I1 (by rw [upd_other (by decide)] at h; exact h)), (fun h => I2 (by rw [upd_other (by decide)] at h; exact h)), (fun h => upd_mono (I3 (upd_ne h (by decide)))), (fun h => upd_mono (I4 (upd_ne h (by decide)))), (fun h => upd_mono (I5 (upd_ne h (by decide)))), (fun h => upd_mono (I6 (upd_ne h (by decide)))), (kp f0), (kp f1), (kp f2), (kp f3), (kp f4), (kp f5), (kp f6), (kp f7), (kp f8), (kp f9), (kp f10), (kp f11), (kp f12), (kp f13), (fun h => by
              obtain ⟨gs, e1, e2⟩ := f14 (upd_ne h (by decide))
              exact ⟨gs, e1, fun h21 => e2 (by rw [upd_other (by decide)] at h21; exact h21)⟩), (kp f15), (kp f16), (kp f17), (fun _ => by first | rfl | simp), (kp f19), (kp f20), (kp f21), (kp f22), (fun h => by
              obtain ⟨gs, e1, e2⟩ := f23 (upd_ne h (by decide))
              exact ⟨gs, e1, fun h24 => e2 (by rw [upd_other (by decide)] at h24; exact h24)⟩), (fun h => by
              obtain ⟨A9, c9, e1, e2, e3⟩ := f24 (upd_ne h (by decide))
              exact ⟨A9, c9, e1, e2, fun h26 => e3 (by rw [upd_other (by decide)] at h26; exact h26)⟩), (kp f25), (kp f26)⟩
        · obtain rfl := Option.some.inj ho
          have g18 := f18 (hd ⟨18, .data⟩ (by simp) rfl)
          subst g18
          have h26 : L 26 = false := by
            cases hh : L 26
            · rfl
            · exact absurd ((I0 hh 19 (by omega)).symm.trans hL) (by decide)
          refine wpOp_step rfl (fun K' hK => ?_)
          go_simp
          refine hK _ _ ?_
          exact ⟨_, _, _, _, _, _, _, _, _, _, _, _, _, _, _, _, _, _, _, _, _, _, _, _, _, _, rfl, (upd_all I0 (by decide)), (fun h => I1 (by rw [upd_other (by decide)] at h; exact h)), (fun h => I2 (by rw [upd_other (by decide)] at h; exact h)), (fun h => upd_mono (I3 (upd_ne h (by decide)))), (fun h => upd_mono (I4 (upd_ne h (by decide)))), (fun h => upd_mono (I5 (upd_ne h (by decide)))), (fun h => upd_mono (I6 (upd_ne h (by decide)))), (kp f0), (kp f1), (kp f2), (kp f3), (kp f4), (kp f5), (kp f6), (kp f7), (kp f8), (kp f9), (kp f10), (kp f11), (kp f12), (kp f13), (fun h => by
              obtain ⟨gs, e1, e2⟩ := f14 (upd_ne h (by decide))
              exact ⟨gs, e1, fun h21 => e2 (by rw [upd_other (by decide)] at h21; exact h21)⟩), (kp f15), (kp f16), (kp f17), (kp f18), (fun _ => by first | rfl | simp), (kp f20), (kp f21), (kp f22), (fun h => by
              obtain ⟨gs, e1, e2⟩ := f23 (upd_ne h (by decide))
              exact ⟨gs, e1, fun h24 => e2 (by rw [upd_other (by decide)] at h24; exact h24)⟩), (fun h => by
              obtain ⟨A9, c9, e1, e2, e3⟩ := f24 (upd_ne h (by decide))
              exact ⟨A9, c9, e1, e2, fun h26 => e3 (by rw [upd_other (by decide)] at h26; exact h26)⟩), (kp f25), (kp f26)⟩
        · obtain rfl := Option.some.inj ho
          have g19 := f19 (hd ⟨19, .data⟩ (by simp) rfl)
          subst g19
          have h26 : L 26 = false := by
            cases hh : L 26
            · rfl
            · exact absurd ((I0 hh 20 (by omega)).symm.trans hL) (by decide)
          obtain ⟨k0, k1, k2, k3, k4⟩ := HC.out ww (I1 h26)
          refine wpOp_step rfl (fun K' hK => ?_)
          go_simp
          refine hK _ _ ?_
          exact ⟨_, _, _, _, _, _, _, _, _, _, _, _, _, _, _, _, _, _, _, _, _, _, _, _, _, _, rfl, (upd_all I0 (by decide)), (fun h => I1 (by rw [upd_other (by decide)] at h; exact h)), (fun h => I2 (by rw [upd_other (by decide)] at h; exact h)), (fun h => upd_mono (I3 (upd_ne h (by decide)))), (fun h => upd_mono (I4 (upd_ne h (by decide)))), (fun h => upd_mono (I5 (upd_ne h (by decide)))), (fun h => upd_mono (I6 (upd_ne h (by decide)))), (kp f0), (kp f1), (kp f2), (kp f3), (kp f4), (kp f5), (kp f6), (kp f7), (kp f8), (kp f9), (kp f10), (kp f11), (kp f12), (kp f13), (fun h => by
              obtain ⟨gs, e1, e2⟩ := f14 (upd_ne h (by decide))
              exact ⟨gs, e1, fun h21 => e2 (by rw [upd_other (by decide)] at h21; exact h21)⟩), (kp f15), (kp f16), (kp f17), (kp f18), (kp f19), (fun _ => rfl), (kp f21), (kp f22), (fun h => by
              obtain ⟨gs, e1, e2⟩ := f23 (upd_ne h (by decide))
              exact ⟨gs, e1, fun h24 => e2 (by rw [upd_other (by decide)] at h24; exact h24)⟩), (fun h => by
              obtain ⟨A9, c9, e1, e2, e3⟩ := f24 (upd_ne h (by decide))
              exact ⟨A9, c9, e1, e2, fun h26 => e3 (by rw [upd_other (by decide)] at h26; exact h26)⟩), (kp f25), (kp f26)⟩
        · obtain rfl := Option.some.inj ho
          have g14 := f14 (hd ⟨14, .data⟩ (by simp) rfl)
          have g20 := f20 (hd ⟨20, .data⟩ (by simp) rfl)
          subst g20
          have h26 : L 26 = false := by
            cases hh : L 26
            · rfl
            · exact absurd ((I0 hh 21 (by omega)).symm.trans hL) (by decide)
          obtain ⟨gs, rfl, e14⟩ := g14
          have o14 := e14 hL
          have h23 : L 23 = false := by
            cases hh : L 23
            · rfl
            · exact absurd (I4 hh) (by rw [hL]; decide)
          have h24 : L 24 = false := by
            cases hh : L 24
            · rfl
            · exact absurd (I5 hh) (by rw [h23]; decide)
          have h22 : L 22 = false := by
            cases hh : L 22
            · rfl
            · exact absurd (I6 hh) (by rw [hL]; decide)
          have hB := I2 h24
          have hG := I1 h26
          refine wpOp_step rfl (fun K' hK => ?_)
          refine app_stepI rfl (.tmp 31) (.tmp 37) rfl wr.heap.size _ [] rfl o14 A' m' cc wr.heap.size cl.r rfl (HI.out.below hB) (by simp <;> omega) hB.size ?_
          intro v' w' o1 g1 s1
          rw [List.nil_append] at o1
          have hrow := fun kk hk => (World.ownsRow.lt o14 kk hk).1
          have hB2 := hB.grown g1 hB.size hrow
          obtain ⟨A8, c8, e8, x8⟩ := o1.form
          rw [hl3] at e8
          subst e8
          refine hK _ _ ?_
          exact ⟨_, _, _, _, _, _, _, _, _, _, _, _, _, _, _, _, _, _, _, _, _, _, _, _, _, _, rfl, (upd_all I0 (by decide)), (fun _ => below_any hB2 _), (fun _ => hB2), (fun _ => upd_mono (hd ⟨14, .data⟩ (by simp) rfl)), (fun _ => upd_self), (fun h => upd_mono (I5 (upd_ne h (by decide)))), (fun _ => upd_self), (kp f0), (kp f1), (kp f2), (kp f3), (kp f4), (kp f5), (kp f6), (kp f7), (kp f8), (kp f9), (kp f10), (kp f11), (kp f12), (kp f13), (fun _ => ⟨gs, rfl, fun h => absurd (upd_self.symm.trans h) (by decide)⟩), (kp f15), (kp f16), (kp f17), (kp f18), (kp f19), (kp f20), (fun _ => ⟨A8, c8, rfl, o1⟩), (fun h => absurd ((upd_ne h (by decide)).symm.trans h22) (by decide)), (fun h => absurd ((upd_ne h (by decide)).symm.trans h23) (by decide)), (fun h => absurd ((upd_ne h (by decide)).symm.trans h24) (by decide)), (kp f25), (fun h => absurd ((upd_ne h (by decide)).symm.trans h26) (by decide))⟩
        · obtain rfl := Option.some.inj ho
          have g7 := f7 (hd ⟨7, .data⟩ (by simp) rfl)
          have g13 := f13 (hd ⟨13, .data⟩ (by simp) rfl)
          have g21 := f21 (hd ⟨21, .data⟩ (by simp) rfl)
          subst g7
          subst g13
          have h26 : L 26 = false := by
            cases hh : L 26
            · rfl
            · exact absurd ((I0 hh 22 (by omega)).symm.trans hL) (by decide)
          obtain ⟨A8, c8, rfl, o8⟩ := g21
          refine wpOp_step rfl (fun K' hK => ?_)
          go_simp
          refine hK _ _ ?_
          exact ⟨_, _, _, _, _, _, _, _, _, _, _, _, _, _, _, _, _, _, _, _, _, _, _, _, _, _, rfl, (upd_all I0 (by decide)), (fun h => I1 (by rw [upd_other (by decide)] at h; exact h)), (fun h => I2 (by rw [upd_other (by decide)] at h; exact h)), (fun h => upd_mono (I3 (upd_ne h (by decide)))), (fun h => upd_mono (I4 (upd_ne h (by decide)))), (fun h => upd_mono (I5 (upd_ne h (by decide)))), (fun _ => upd_mono (hd ⟨21, .data⟩ (by simp) rfl)), (kp f0), (kp f1), (kp f2), (kp f3), (kp f4), (kp f5), (kp f6), (kp f7), (kp f8), (kp f9), (kp f10), (kp f11), (kp f12), (kp f13), (fun h => by
              obtain ⟨gs, e1, e2⟩ := f14 (upd_ne h (by decide))
              exact ⟨gs, e1, fun h21 => e2 (by rw [upd_other (by decide)] at h21; exact h21)⟩), (kp f15), (kp f16), (kp f17), (kp f18), (kp f19), (kp f20), (fun _ => ⟨A8, c8, rfl, o8⟩), (fun _ => rfl), (fun h => by
              obtain ⟨gs, e1, e2⟩ := f23 (upd_ne h (by decide))
              exact ⟨gs, e1, fun h24 => e2 (by rw [upd_other (by decide)] at h24; exact h24)⟩), (fun h => by
              obtain ⟨A9, c9, e1, e2, e3⟩ := f24 (upd_ne h (by decide))
              exact ⟨A9, c9, e1, e2, fun h26 => e3 (by rw [upd_other (by decide)] at h26; exact h26)⟩), (kp f25), (kp f26)⟩
        · obtain rfl := Option.some.inj ho
          have g22 := f22 (hd ⟨22, .data⟩ (by simp) rfl)
          subst g22
          have h26 : L 26 = false := by
            cases hh : L 26
            · rfl
            · exact absurd ((I0 hh 23 (by omega)).symm.trans hL) (by decide)
          have h21 := I6 (hd ⟨22, .data⟩ (by simp) rfl)
          obtain ⟨A8, c8, rfl, o8⟩ := f21 h21
          have h24 : L 24 = false := by
            cases hh : L 24
            · rfl
            · exact absurd (I5 hh) (by rw [hL]; decide)
          have hB := I2 h24
          refine wpOp_step rfl (fun K' hK => ?_)
          go_simp
          refine hK _ _ ?_
          exact ⟨_, _, _, _, _, _, _, _, _, _, _, _, _, _, _, _, _, _, _, _, _, _, _, _, _, _, rfl, (upd_all I0 (by decide)), (fun _ => below_any (hB.alloc hB.size _) _), (fun _ => hB.alloc hB.size _), (fun h => upd_mono (I3 (upd_ne h (by decide)))), (fun _ => upd_mono h21), (fun _ => upd_self), (fun h => upd_mono (I6 (upd_ne h (by decide)))), (kp f0), (kp f1), (kp f2), (kp f3), (kp f4), (kp f5), (kp f6), (kp f7), (kp f8), (kp f9), (kp f10), (kp f11), (kp f12), (kp f13), (fun h => by
              obtain ⟨gs, e1, e2⟩ := f14 (upd_ne h (by decide))
              exact ⟨gs, e1, fun hh => absurd (h21.symm.trans ((upd_other (by decide)).symm.trans hh)) (by decide)⟩), (kp f15), (kp f16), (kp f17), (kp f18), (kp f19), (kp f20), (fun _ => ⟨A8, c8, rfl, World.ownsRow.alloc o8 _⟩), (kp f22), (fun _ => ⟨_, rfl, fun _ => Rw.new _ _ _⟩), (fun h => absurd ((upd_ne h (by decide)).symm.trans h24) (by decide)), (kp f25), (fun h => absurd ((upd_ne h (by decide)).symm.trans h26) (by decide))⟩
        · obtain rfl := Option.some.inj ho
          have g1 := f1 (hd ⟨1, .data⟩ (by simp) rfl)
          have g23 := f23 (hd ⟨23, .data⟩ (by simp) rfl)
          subst g1
          have h26 : L 26 = false := by
            cases hh : L 26
            · rfl
            · exact absurd ((I0 hh 24 (by omega)).symm.trans hL) (by decide)
          obtain ⟨gs, rfl, e23⟩ := g23
          have q23 := e23 hL
          have h23 := hd ⟨23, .data⟩ (by simp) rfl
          have h21 := I4 h23
          obtain ⟨A8, c8, rfl, o8⟩ := f21 h21
          have hB := I2 hL
          refine wpOp_step rfl (fun K' hK => ?_)
          refine app_stepC rfl (.tmp 18) (.tmp 40) rfl (w.heap.size + 2) _ k (flatC (h.cs.take k) rvs) rfl (row_below HROW.out hB (Nat.le_refl _)) gs cl.u cl.d A8 m' c8 rfl q23 (by omega) (Nat.le_trans hbase hB.size) ?_
          intro v' w' A9 c9 e9 o1 g1 s1
          subst e9
          have hG2 := World.grownBy.trans (I1 h26) g1
          have o8' := o8.far g1 (APART.out _ (fun kk hk => (World.ownsRow.lt o8 kk hk).1))
          have hsep : (Value.slice A9 (k + 1) c9).ownBlock = (Value.slice A8 m' c8).ownBlock → (Value.slice A8 m' c8).ownBlock = none := fun e => sep_new s1 e (fun kk hk => World.ownsRow.lt o8 kk hk) (fun kk hk => (World.ownsRow.lt HROW.out kk hk).2)
          refine hK _ _ ?_
          exact ⟨_, _, _, _, _, _, _, _, _, _, _, _, _, _, _, _, _, _, _, _, _, _, _, _, _, _, rfl, (upd_all I0 (by decide)), (fun _ => hG2), (fun h => absurd (upd_self.symm.trans h) (by decide)), (fun h => upd_mono (I3 (upd_ne h (by decide)))), (fun h => upd_mono (I4 (upd_ne h (by decide)))), (fun _ => upd_mono h23), (fun h => upd_mono (I6 (upd_ne h (by decide)))), (kp f0), (kp f1), (kp f2), (kp f3), (kp f4), (kp f5), (kp f6), (kp f7), (kp f8), (kp f9), (kp f10), (kp f11), (kp f12), (kp f13), (fun h => by
              obtain ⟨gs, e1, e2⟩ := f14 (upd_ne h (by decide))
              exact ⟨gs, e1, fun hh => absurd (h21.symm.trans ((upd_other (by decide)).symm.trans hh)) (by decide)⟩), (kp f15), (kp f16), (kp f17), (kp f18), (kp f19), (kp f20), (fun _ => ⟨A8, c8, rfl, o8'⟩), (kp f22), (fun _ => ⟨gs, rfl, fun h => absurd (upd_self.symm.trans h) (by decide)⟩), (fun _ => ⟨A9, c9, rfl, s1.imp id (fun e => ⟨_, e, hB.size⟩), fun _ => ⟨o1, hsep⟩⟩), (kp f25), (fun h => absurd ((upd_ne h (by decide)).symm.trans h26) (by decide))⟩
        · obtain rfl := Option.some.inj ho
          have h26 : L 26 = false := by
            cases hh : L 26
            · rfl
            · exact absurd ((I0 hh 25 (by omega)).symm.trans hL) (by decide)
          refine wpOp_step rfl (fun K' hK => ?_)
          go_simp
          refine hK _ _ ?_
          exact ⟨_, _, _, _, _, _, _, _, _, _, _, _, _, _, _, _, _, _, _, _, _, _, _, _, _, _, rfl, (upd_all I0 (by decide)), (fun h => I1 (by rw [upd_other (by decide)] at h; exact h)), (fun h => I2 (by rw [upd_other (by decide)] at h; exact h)), (fun h => upd_mono (I3 (upd_ne h (by decide)))), (fun h => upd_mono (I4 (upd_ne h (by decide)))), (fun h => upd_mono (I5 (upd_ne h (by decide)))), (fun h => upd_mono (I6 (upd_ne h (by decide)))), (kp f0), (kp f1), (kp f2), (kp f3), (kp f4), (kp f5), (kp f6), (kp f7), (kp f8), (kp f9), (kp f10), (kp f11), (kp f12), (kp f13), (fun h => by
              obtain ⟨gs, e1, e2⟩ := f14 (upd_ne h (by decide))
              exact ⟨gs, e1, fun h21 => e2 (by rw [upd_other (by decide)] at h21; exact h21)⟩), (kp f15), (kp f16), (kp f17), (kp f18), (kp f19), (kp f20), (kp f21), (kp f22), (fun h => by
              obtain ⟨gs, e1, e2⟩ := f23 (upd_ne h (by decide))
              exact ⟨gs, e1, fun h24 => e2 (by rw [upd_other (by decide)] at h24; exact h24)⟩), (fun h => by
              obtain ⟨A9, c9, e1, e2, e3⟩ := f24 (upd_ne h (by decide))
              exact ⟨A9, c9, e1, e2, fun h26 => e3 (by rw [upd_other (by decide)] at h26; exact h26)⟩), (fun _ => by first | rfl | simp), (kp f26)⟩
        · obtain rfl := Option.some.inj ho
          have g24 := f24 (hd ⟨24, .data⟩ (by simp) rfl)
          have g25 := f25 (hd ⟨25, .data⟩ (by simp) rfl)
          subst g25
          have hphase := Lib.hid (show ∀ k, k < 26 → L k = true by
            intro k hk
            obtain rfl | rfl | rfl | rfl | rfl | rfl | rfl | rfl | rfl | rfl | rfl | rfl | rfl | rfl | rfl | rfl | rfl | rfl | rfl | rfl | rfl | rfl | rfl | rfl | rfl | rfl : k = 0 ∨ k = 1 ∨ k = 2 ∨ k = 3 ∨ k = 4 ∨ k = 5 ∨ k = 6 ∨ k = 7 ∨ k = 8 ∨ k = 9 ∨ k = 10 ∨ k = 11 ∨ k = 12 ∨ k = 13 ∨ k = 14 ∨ k = 15 ∨ k = 16 ∨ k = 17 ∨ k = 18 ∨ k = 19 ∨ k = 20 ∨ k = 21 ∨ k = 22 ∨ k = 23 ∨ k = 24 ∨ k = 25 := by omega
            · exact hd ⟨0, .phase⟩ (by simp) rfl
            · exact hd ⟨1, .phase⟩ (by simp) rfl
            · exact hd ⟨2, .phase⟩ (by simp) rfl
            · exact hd ⟨3, .phase⟩ (by simp) rfl
            · exact hd ⟨4, .phase⟩ (by simp) rfl
            · exact hd ⟨5, .phase⟩ (by simp) rfl
            · exact hd ⟨6, .phase⟩ (by simp) rfl
            · exact hd ⟨7, .phase⟩ (by simp) rfl
            · exact hd ⟨8, .phase⟩ (by simp) rfl
            · exact hd ⟨9, .phase⟩ (by simp) rfl
            · exact hd ⟨10, .phase⟩ (by simp) rfl
            · exact hd ⟨11, .phase⟩ (by simp) rfl
            · exact hd ⟨12, .phase⟩ (by simp) rfl
            · exact hd ⟨13, .phase⟩ (by simp) rfl
            · exact hd ⟨14, .phase⟩ (by simp) rfl
            · exact hd ⟨15, .phase⟩ (by simp) rfl
            · exact hd ⟨16, .phase⟩ (by simp) rfl
            · exact hd ⟨17, .phase⟩ (by simp) rfl
            · exact hd ⟨18, .phase⟩ (by simp) rfl
            · exact hd ⟨19, .phase⟩ (by simp) rfl
            · exact hd ⟨20, .phase⟩ (by simp) rfl
            · exact hd ⟨21, .phase⟩ (by simp) rfl
            · exact hd ⟨22, .phase⟩ (by simp) rfl
            · exact hd ⟨23, .phase⟩ (by simp) rfl
            · exact hd ⟨24, .data⟩ (by simp) rfl
            · exact hd ⟨25, .data⟩ (by simp) rfl)
          obtain ⟨A9, c9, rfl, q24, e24⟩ := g24
          obtain ⟨o9, hsep⟩ := e24 hL
          have h21 := hphase.out 21 (by omega)
          obtain ⟨A8, c8, rfl, o8⟩ := f21 h21
          have hG := I1 hL
          obtain ⟨k0, k1, k2, k3, k4⟩ := HC.out ww hG
          have kf := HFZ.out ww hG
          refine wpOp_step rfl (fun K' hK => ?_)
          go_simp
          refine hK _ _ ?_
          exact ⟨_, _, _, _, _, _, _, _, _, _, _, _, _, _, _, _, _, _, _, _, _, _, _, _, _, _, rfl, (fun _ k hk => upd_mono (hphase.out k hk)), (fun h => absurd (upd_self.symm.trans h) (by decide)), (fun h => absurd ((upd_other (by decide)).symm.trans h) (by rw [hphase.out 24 (by omega)]; decide)), (fun h => upd_mono (I3 (upd_ne h (by decide)))), (fun h => upd_mono (I4 (upd_ne h (by decide)))), (fun h => upd_mono (I5 (upd_ne h (by decide)))), (fun h => upd_mono (I6 (upd_ne h (by decide)))), (kp f0), (kp f1), (kp f2), (kp f3), (kp f4), (kp f5), (kp f6), (kp f7), (kp f8), (kp f9), (kp f10), (kp f11), (kp f12), (kp f13), (fun h => by
              obtain ⟨gs, e1, e2⟩ := f14 (upd_ne h (by decide))
              exact ⟨gs, e1, fun hh => absurd (h21.symm.trans ((upd_other (by decide)).symm.trans hh)) (by decide)⟩), (kp f15), (kp f16), (kp f17), (kp f18), (kp f19), (kp f20), (fun _ => ⟨A8, c8, rfl, o8.far (only_put (g := w5.heap.size) (World.grownBy.refl _ _) 0 _) (APB.out _ (fun kk hk => (World.ownsRow.lt o8 kk hk).1))⟩), (kp f22), (fun h => by
              obtain ⟨gs, e1, e2⟩ := f23 (upd_ne h (by decide))
              exact ⟨gs, e1, fun hh => absurd ((hphase.out 24 (by omega)).symm.trans ((upd_other (by decide)).symm.trans hh)) (by decide)⟩), (fun _ => ⟨A9, c9, rfl, q24, fun h => absurd (upd_self.symm.trans h) (by decide)⟩), (kp f25), (fun _ => ⟨ww, rfl, hG, o9, hsep⟩)⟩
      case hdone =>
        rintro L ac ww hall ⟨t17, t18, t19, t20, t21, t22, t23, t24, t25, t26, t27, t28, t29, t30, t31, t32, t33, t34, t35, t36, t37, t38, t39, t40, t41, t42, rfl, I0, I1, I2, I3, I4, I5, I6, f0, f1, f2, f3, f4, f5, f6, f7, f8, f9, f10, f11, f12, f13, f14, f15, f16, f17, f18, f19, f20, f21, f22, f23, f24, f25, f26⟩
        have e0 := f0 (hall 0 (by decide))
        have e1 := f1 (hall 1 (by decide))
        have e2 := f2 (hall 2 (by decide))
        have e3 := f3 (hall 3 (by decide))
        have e4 := f4 (hall 4 (by decide))
        have e5 := f5 (hall 5 (by decide))
        have e6 := f6 (hall 6 (by decide))
        have e7 := f7 (hall 7 (by decide))
        have e8 := f8 (hall 8 (by decide))
        have e9 := f9 (hall 9 (by decide))
        have e10 := f10 (hall 10 (by decide))
        have e11 := f11 (hall 11 (by decide))
        have e12 := f12 (hall 12 (by decide))
        have e13 := f13 (hall 13 (by decide))
        have e14 := f14 (hall 14 (by decide))
        have e15 := f15 (hall 15 (by decide))
        have e16 := f16 (hall 16 (by decide))
        have e17 := f17 (hall 17 (by decide))
        have e18 := f18 (hall 18 (by decide))
        have e19 := f19 (hall 19 (by decide))
        have e20 := f20 (hall 20 (by decide))
        have e21 := f21 (hall 21 (by decide))
        have e22 := f22 (hall 22 (by decide))
        have e23 := f23 (hall 23 (by decide))
        have e24 := f24 (hall 24 (by decide))
        have e25 := f25 (hall 25 (by decide))
        have e26 := f26 (hall 26 (by decide))
        clear f0 f1 f2 f3 f4 f5 f6 f7 f8 f9 f10 f11 f12 f13 f14 f15 f16 f17 f18 f19 f20 f21 f22 f23 f24 f25 f26
        obtain ⟨A9, c9, rfl, q24, _⟩ := e24
        obtain ⟨A8, c8, rfl, o8⟩ := e21
        obtain ⟨w1, rfl, hG, o9, hsep⟩ := e26
        have NX := Lib.hid (HS.out.next hlc hlt HCL.out hG o9 hsep q24 o8)
        clear o9 o8 hsep q24 hG I0 I1 I2 I3 I4 I5 I6
        go_wp2
        go_roundw
        case rel => exact ⟨k + 1, A9, c9, _, by omega, by go_num, NX.out⟩
        case measure => simp [intOf]; omega
    · obtain rfl : k = n := by omega
      have htk : h.cs.take k = h.cs := List.take_of_length_le (by omega)
      rw [htk] at S
      have x0 : wr.cell? ⟨w5.heap.size, 0, none⟩ = some (.slice Av k cv) := S.box.cell 0
      have x1 : wr.cell? ⟨w5.heap.size, 1, none⟩ = some (.slice A5 m c5) := S.box.cell 1
      have y0 : wr.cell? ⟨w.heap.size + 1, 0, none⟩ = some (.slice none 0 0) := S.res.cell 0
      have y1 : wr.cell? ⟨w.heap.size + 1, 1, none⟩ = some (.slice none 0 0) := S.res.cell 1
      have y2 := S.res.frozen 0
      have y3 := S.res.frozen 1
      have q0 := ((S.res.put 0 (.slice Av k cv)).put 1 (.slice A5 m c5)).cell 0
      have q1 := ((S.res.put 0 (.slice Av k cv)).put 1 (.slice A5 m c5)).cell 1
      have bn := (S.bel.setCell (p := ⟨w.heap.size + 1, 0, none⟩) (by simp) (.slice Av k cv)).setCell (p := ⟨w.heap.size + 1, 1, none⟩) (by simp) (.slice A5 m c5)
      have ap : Apart (some (w.heap.size + 1)) (Value.slice Av k cv :: Value.slice A5 m c5 :: rvs) := S.own.apart_below (by omega)
      have oh : OwnH ((wr.setCell ⟨w.heap.size + 1, 0, none⟩ (.slice Av k cv)).setCell ⟨w.heap.size + 1, 1, none⟩ (.slice A5 m c5)) w.heap.size (.slice Av k cv) (.slice A5 m c5) h :=
        ⟨rvs, ((S.own.far (only_put (g := w.heap.size + 1) (World.grownBy.refl _ _) 0 (.slice Av k cv)) ap).far (only_put (g := w.heap.size + 1) (World.grownBy.refl _ _) 1 (.slice A5 m c5)) ap).base (by omega)⟩
      have OH := Lib.hid oh
      simp at q0 q1
      clear ap htk oh S
      go_wp2_with fail
      exact bodyPost_ret (v := .agg #[.slice Av k cv, .slice A5 m c5]) (by simp [results, Tryd.results88, go_sem, *]) rfl ⟨_, _, rfl, OH.out, bn⟩
end Go.Proofs.YthmddmddcdofaaaDoor

