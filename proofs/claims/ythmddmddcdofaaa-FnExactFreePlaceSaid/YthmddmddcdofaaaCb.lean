/- Heaps with counts in memory: how they are read, and those of a call's own. No conditions. -/
import Derived.Test.YthmddmddcdofaaaCa
import Derived.Test.YthmddmddcdofaaaKf
import Derived.Test.YthmddmddcdofaaaKz
namespace Go.Proofs.Ythmddmddcdofaaa
open Go.RowKit
set_option maxRecDepth 100000

/-- a heap with counts as a value -/
abbrev ctV (A : Option Addr) (n c : Nat) (R : Option Addr) (m d : Nat) (K : Option Addr) (p q : Nat) : Value := .agg #[.slice A n c, .slice R m d, .slice K p q]
/-- a heap with counts of the call's own -/
structure OwnCt (w : World) (base : Nat) (vc vr vk : Value) (rvs : List Value) (h : Hp) (l : List Int) : Prop where
  heap : OwnHx w base vc vr rvs h
  cnts : OwnI w base vk l
  sep : ∀ u ∈ vc :: vr :: rvs, u.ownBlock = none ∨ u.ownBlock ≠ vk.ownBlock
def OwnC (w : World) (base : Nat) (vc vr vk : Value) (h : Hp) (l : List Int) : Prop := ∃ rvs, OwnCt w base vc vr vk rvs h l
def GaveCt (w : World) (h : Hp) (l : List Int) (e : Ending) (w' : World) : Prop := ∃ vc vr vk, e = .returned (.agg #[vc, vr, vk]) ∧ OwnC w' w.heap.size vc vr vk h l ∧ Below w.heap.size w w'
def GaveCt2 (w : World) (h : Hp) (l : List Int) (ok : Bool) (e : Ending) (w' : World) : Prop := ∃ vc vr vk, e = .returned (.tuple #[.agg #[vc, vr, vk], .bool ok]) ∧ OwnC w' w.heap.size vc vr vk h l ∧ Below w.heap.size w w'
section
variable {w w' : World} {bs bs' B g : Nat} {vc vr vk : Value} {rvs : List Value} {h : Hp} {l : List Int}
theorem OwnCt.below (o : OwnCt w bs vc vr vk rvs h l) (hb : Below B w w') (hB : w.heap.size ≤ B) : OwnCt w' bs vc vr vk rvs h l := ⟨o.heap.below hb hB, o.cnts.below hb hB, o.sep⟩
theorem OwnCt.base (o : OwnCt w bs vc vr vk rvs h l) (hb : bs' ≤ bs) : OwnCt w bs' vc vr vk rvs h l := ⟨o.heap.base hb, o.cnts.base hb, o.sep⟩
theorem OwnCt.blocks (o : OwnCt w bs vc vr vk rvs h l) {v : Value} (hv : v ∈ vc :: vr :: vk :: rvs) {k : Nat} (hk : v.ownBlock = some k) : bs ≤ k ∧ k < w.heap.size := by
  simp only [List.mem_cons] at hv
  rcases hv with rfl | rfl | rfl | hv
  · exact o.heap.blocks (v := v) (by simp) hk
  · exact o.heap.blocks (v := v) (by simp) hk
  · exact World.ownsRow.lt o.cnts k hk
  · exact o.heap.blocks (v := v) (by simp [hv]) hk
theorem OwnCt.apart_below (o : OwnCt w bs vc vr vk rvs h l) (hb : g < bs) : Apart (some g) (vc :: vr :: vk :: rvs) := fun v hv => by
  cases e : v.ownBlock with
  | none => exact .inl rfl
  | some k =>
    right
    intro e'
    have := (o.blocks hv e).1
    have := Option.some.inj e'
    omega
theorem OwnCt.apart_new (o : OwnCt w bs vc vr vk rvs h l) (hb : w.heap.size ≤ g) : Apart (some g) (vc :: vr :: vk :: rvs) := fun v hv => by
  cases e : v.ownBlock with
  | none => exact .inl rfl
  | some k =>
    right
    intro e'
    have := (o.blocks hv e).2
    have := Option.some.inj e'
    omega
theorem OwnCt.far {row : Option Nat} (o : OwnCt w bs vc vr vk rvs h l) (hg : w.grownBy w' row) (ha : Apart row (vc :: vr :: vk :: rvs)) : OwnCt w' bs vc vr vk rvs h l :=
  ⟨o.heap.far hg (fun v hv => ha v (by simp only [List.mem_cons] at hv ⊢; rcases hv with e | e | e <;> simp [e])), o.cnts.far hg (ha vk (by simp)), o.sep⟩
theorem OwnCt.put (o : OwnCt w bs vc vr vk rvs h l) (ha : Apart (some g) (vc :: vr :: vk :: rvs)) (i : Nat) (u : Value) : OwnCt (w.setCell ⟨g, i, none⟩ u) bs vc vr vk rvs h l := o.far (put_any w g i u) ha
theorem OwnCt.slices (o : OwnCt w bs vc vr vk rvs h l) : ∃ A c R d K q, vc = .slice A h.cs.length c ∧ vr = .slice R h.rt.length d ∧ vk = .slice K l.length q := by
  obtain ⟨A, c, R, d, e1, e2, _⟩ := o.heap.form
  obtain ⟨K, q, e3, _⟩ := o.cnts.form
  exact ⟨A, c, R, d, K, q, e1, e2, e3⟩
theorem OwnC.slices (ho : OwnC w bs vc vr vk h l) : ∃ A n c R m d K p q, vc = .slice A n c ∧ vr = .slice R m d ∧ vk = .slice K p q := by
  obtain ⟨rvs, o⟩ := ho
  obtain ⟨A, c, R, d, K, q, e1, e2, e3⟩ := o.slices
  exact ⟨A, _, c, R, _, d, K, _, q, e1, e2, e3⟩
theorem OwnC.below (ho : OwnC w bs vc vr vk h l) (hb : Below B w w') (hB : w.heap.size ≤ B) : OwnC w' bs vc vr vk h l := by
  obtain ⟨rvs, o⟩ := ho
  exact ⟨rvs, o.below hb hB⟩
theorem OwnC.base (ho : OwnC w bs vc vr vk h l) (hb : bs' ≤ bs) : OwnC w bs' vc vr vk h l := by
  obtain ⟨rvs, o⟩ := ho
  exact ⟨rvs, o.base hb⟩
theorem OwnC.heap (ho : OwnC w bs vc vr vk h l) : OwnH w bs vc vr h := by
  obtain ⟨rvs, o⟩ := ho
  exact ⟨rvs, o.heap⟩
theorem own_zeroC (w : World) (bs : Nat) (hb : bs ≤ w.heap.size) : OwnC w bs (.slice none 0 0) (.slice none 0 0) (.slice none 0 0) Hps.zeroH [] := by
  obtain ⟨rvs, o⟩ := own_zeroH w bs hb
  refine ⟨rvs, o, World.ownsRow_nil _ _ _ _, fun u hu => ?_⟩
  obtain rfl : rvs = [] := List.eq_nil_of_length_eq_zero o.len
  simp only [List.mem_cons, List.not_mem_nil, or_false] at hu
  rcases hu with rfl | rfl <;> exact .inl rfl
/-- a heap with counts of the call's own goes into the box of a result -/
theorem OwnC.out {wr : World} (ho : OwnC wr bs vc vr vk h l) (hg : g < bs) (hb : Below w.heap.size w wr) (hw : w.heap.size ≤ g) :
    OwnC (((wr.setCell ⟨g, 0, none⟩ vc).setCell ⟨g, 1, none⟩ vr).setCell ⟨g, 2, none⟩ vk) w.heap.size vc vr vk h l ∧ Below w.heap.size w (((wr.setCell ⟨g, 0, none⟩ vc).setCell ⟨g, 1, none⟩ vr).setCell ⟨g, 2, none⟩ vk) := by
  obtain ⟨rvs, own⟩ := ho
  have ap := own.apart_below hg
  exact ⟨⟨rvs, (((own.put ap 0 vc).put ap 1 vr).put ap 2 vk).base (by omega)⟩, ((hb.setCell (p := ⟨g, 0, none⟩) hw vc).setCell (p := ⟨g, 1, none⟩) hw vr).setCell (p := ⟨g, 2, none⟩) hw vk⟩
/-- a heap and counts that were made one after the other are a heap with counts -/
theorem OwnHx.counted {w1 : World} (o : OwnHx w bs vc vr rvs h) (hb : Below w.heap.size w w1) (k : OwnI w1 w.heap.size vk l) (hbase : bs ≤ w.heap.size) : OwnCt w1 bs vc vr vk rvs h l := by
  refine ⟨o.below hb (Nat.le_refl _), k.base hbase, fun u hu => ?_⟩
  cases e : u.ownBlock with
  | none => exact .inl rfl
  | some j =>
    right
    intro e'
    have h1 := (o.blocks hu e).2
    have h2 := (World.ownsRow.lt k j e'.symm).1
    omega
theorem OwnC.of (ho : OwnH w bs vc vr h) {w1 : World} (hb : Below w.heap.size w w1) (k : OwnI w1 w.heap.size vk l) (hbase : bs ≤ w.heap.size) : OwnC w1 bs vc vr vk h l := by
  obtain ⟨rvs, o⟩ := ho
  exact ⟨rvs, o.counted hb k hbase⟩
end
end Go.Proofs.Ythmddmddcdofaaa
