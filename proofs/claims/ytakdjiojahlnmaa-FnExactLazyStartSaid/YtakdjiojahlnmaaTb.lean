/- Lazy heaps in memory: how they are read, and those of a call's own; a heap in a box beside other things that stay. No conditions. -/
import Derived.Test.YtakdjiojahlnmaaTa
import Derived.Test.YtakdjiojahlnmaaKf
import Derived.Test.YtakdjiojahlnmaaKz
import Derived.Test.YtakdjiojahlnmaaGf
import Derived.Test.YtakdjiojahlnmaaGb
namespace Go.Proofs.Ytakdjiojahlnmaa
open Go.RowKit
set_option maxRecDepth 100000

/-- a lazy heap as a value -/
abbrev lzV (A : Option Addr) (n c : Nat) (R : Option Addr) (m d : Nat) (D : Option Addr) (q e : Nat) (i : Int) : Value := .agg #[.slice A n c, .slice R m d, .slice D q e, .int .i64 i]
/-- a lazy heap of the call's own -/
structure OwnLx (w : World) (base : Nat) (vc vr vm : Value) (rvs : List Value) (h : Hp) (ms : List Bool) : Prop where
  heap : OwnHx w base vc vr rvs h
  mks : OwnO w base vm ms
  sep : ∀ u ∈ vc :: vr :: rvs, u.ownBlock = none ∨ u.ownBlock ≠ vm.ownBlock
def OwnLz (w : World) (base : Nat) (vc vr vm : Value) (h : Hp) (ms : List Bool) : Prop := ∃ rvs, OwnLx w base vc vr vm rvs h ms
def GaveLz (w : World) (l : Lz) (e : Ending) (w' : World) : Prop := ∃ vc vr vm, e = .returned (.agg #[vc, vr, vm, .int .i64 l.i]) ∧ OwnLz w' w.heap.size vc vr vm l.s l.ms ∧ Below w.heap.size w w'
/-- a lazy heap of the call's own, and a number -/
def GaveLzN (w : World) (l : Lz) (k : Int) (e : Ending) (w' : World) : Prop := ∃ vc vr vm, e = .returned (.tuple #[.agg #[vc, vr, vm, .int .i64 l.i], .int .i64 k]) ∧ OwnLz w' w.heap.size vc vr vm l.s l.ms ∧ Below w.heap.size w w'
section
variable {w w' : World} {bs bs' B g : Nat} {vc vr vm : Value} {rvs : List Value} {h : Hp} {ms : List Bool}
theorem OwnLx.below (o : OwnLx w bs vc vr vm rvs h ms) (hb : Below B w w') (hB : w.heap.size ≤ B) : OwnLx w' bs vc vr vm rvs h ms := ⟨o.heap.below hb hB, o.mks.below hb hB, o.sep⟩
theorem OwnLx.base (o : OwnLx w bs vc vr vm rvs h ms) (hb : bs' ≤ bs) : OwnLx w bs' vc vr vm rvs h ms := ⟨o.heap.base hb, o.mks.base hb, o.sep⟩
theorem OwnLx.blocks (o : OwnLx w bs vc vr vm rvs h ms) {v : Value} (hv : v ∈ vc :: vr :: vm :: rvs) {k : Nat} (hk : v.ownBlock = some k) : bs ≤ k ∧ k < w.heap.size := by
  simp only [List.mem_cons] at hv
  rcases hv with rfl | rfl | rfl | hv
  · exact o.heap.blocks (v := v) (by simp) hk
  · exact o.heap.blocks (v := v) (by simp) hk
  · exact World.ownsRow.lt o.mks k hk
  · exact o.heap.blocks (v := v) (by simp [hv]) hk
theorem OwnLx.apart_below (o : OwnLx w bs vc vr vm rvs h ms) (hb : g < bs) : Apart (some g) (vc :: vr :: vm :: rvs) := fun v hv => by
  cases e : v.ownBlock with
  | none => exact .inl rfl
  | some k =>
    right
    intro e'
    have := (o.blocks hv e).1
    have := Option.some.inj e'
    omega
theorem OwnLx.apart_new (o : OwnLx w bs vc vr vm rvs h ms) (hb : w.heap.size ≤ g) : Apart (some g) (vc :: vr :: vm :: rvs) := fun v hv => by
  cases e : v.ownBlock with
  | none => exact .inl rfl
  | some k =>
    right
    intro e'
    have := (o.blocks hv e).2
    have := Option.some.inj e'
    omega
theorem OwnLx.far {row : Option Nat} (o : OwnLx w bs vc vr vm rvs h ms) (hg : w.grownBy w' row) (ha : Apart row (vc :: vr :: vm :: rvs)) : OwnLx w' bs vc vr vm rvs h ms :=
  ⟨o.heap.far hg (fun v hv => ha v (by simp only [List.mem_cons] at hv ⊢; rcases hv with e | e | e <;> simp [e])), o.mks.far hg (ha vm (by simp)), o.sep⟩
theorem OwnLx.put (o : OwnLx w bs vc vr vm rvs h ms) (ha : Apart (some g) (vc :: vr :: vm :: rvs)) (i : Nat) (u : Value) : OwnLx (w.setCell ⟨g, i, none⟩ u) bs vc vr vm rvs h ms := o.far (put_any w g i u) ha
theorem OwnLx.slices (o : OwnLx w bs vc vr vm rvs h ms) : ∃ A c R d K q, vc = .slice A h.cs.length c ∧ vr = .slice R h.rt.length d ∧ vm = .slice K ms.length q ∧ h.cs.length ≤ c ∧ h.rt.length ≤ d := by
  obtain ⟨A, c, R, d, e1, e2, h1, h2, _⟩ := o.heap.form
  obtain ⟨K, q, e3, _⟩ := o.mks.form
  exact ⟨A, c, R, d, K, q, e1, e2, e3, h1, h2⟩
theorem OwnLz.slices (ho : OwnLz w bs vc vr vm h ms) : ∃ A n c R m d K p q, vc = .slice A n c ∧ vr = .slice R m d ∧ vm = .slice K p q := by
  obtain ⟨rvs, o⟩ := ho
  obtain ⟨A, c, R, d, K, q, e1, e2, e3, _⟩ := o.slices
  exact ⟨A, _, c, R, _, d, K, _, q, e1, e2, e3⟩
theorem OwnLz.below (ho : OwnLz w bs vc vr vm h ms) (hb : Below B w w') (hB : w.heap.size ≤ B) : OwnLz w' bs vc vr vm h ms := by
  obtain ⟨rvs, o⟩ := ho
  exact ⟨rvs, o.below hb hB⟩
theorem OwnLz.base (ho : OwnLz w bs vc vr vm h ms) (hb : bs' ≤ bs) : OwnLz w bs' vc vr vm h ms := by
  obtain ⟨rvs, o⟩ := ho
  exact ⟨rvs, o.base hb⟩
theorem OwnLz.heap (ho : OwnLz w bs vc vr vm h ms) : OwnH w bs vc vr h := by
  obtain ⟨rvs, o⟩ := ho
  exact ⟨rvs, o.heap⟩
theorem own_zeroLz (w : World) (bs : Nat) (hb : bs ≤ w.heap.size) : OwnLz w bs (.slice none 0 0) (.slice none 0 0) (.slice none 0 0) Hps.zeroH [] := by
  obtain ⟨rvs, o⟩ := own_zeroH w bs hb
  refine ⟨rvs, o, World.ownsRow_nil _ _ _ _, fun u hu => ?_⟩
  obtain rfl : rvs = [] := List.eq_nil_of_length_eq_zero o.len
  simp only [List.mem_cons, List.not_mem_nil, or_false] at hu
  rcases hu with rfl | rfl <;> exact .inl rfl
/-- a lazy heap of the call's own goes into the box of a result -/
theorem OwnLz.out {wr : World} (i : Int) (ho : OwnLz wr bs vc vr vm h ms) (hg : g < bs) (hb : Below w.heap.size w wr) (hw : w.heap.size ≤ g) :
    OwnLz ((((wr.setCell ⟨g, 0, none⟩ vc).setCell ⟨g, 1, none⟩ vr).setCell ⟨g, 2, none⟩ vm).setCell ⟨g, 3, none⟩ (.int .i64 i)) w.heap.size vc vr vm h ms ∧ Below w.heap.size w ((((wr.setCell ⟨g, 0, none⟩ vc).setCell ⟨g, 1, none⟩ vr).setCell ⟨g, 2, none⟩ vm).setCell ⟨g, 3, none⟩ (.int .i64 i)) := by
  obtain ⟨rvs, own⟩ := ho
  have ap := own.apart_below hg
  exact ⟨⟨rvs, ((((own.put ap 0 vc).put ap 1 vr).put ap 2 vm).put ap 3 _).base (by omega)⟩, (((hb.setCell (p := ⟨g, 0, none⟩) hw vc).setCell (p := ⟨g, 1, none⟩) hw vr).setCell (p := ⟨g, 2, none⟩) hw vm).setCell (p := ⟨g, 3, none⟩) hw _⟩
/-- a heap and marks that were made one after the other are a lazy heap -/
theorem OwnHx.lazy {w1 : World} (o : OwnHx w bs vc vr rvs h) (hb : Below w.heap.size w w1) (k : OwnO w1 w.heap.size vm ms) (hbase : bs ≤ w.heap.size) : OwnLx w1 bs vc vr vm rvs h ms := by
  refine ⟨o.below hb (Nat.le_refl _), k.base hbase, fun u hu => ?_⟩
  cases e : u.ownBlock with
  | none => exact .inl rfl
  | some j =>
    right
    intro e'
    have h1 := (o.blocks hu e).2
    have h2 := (World.ownsRow.lt k j e'.symm).1
    omega
theorem OwnLz.of (ho : OwnH w bs vc vr h) {w1 : World} (hb : Below w.heap.size w w1) (k : OwnO w1 w.heap.size vm ms) (hbase : bs ≤ w.heap.size) : OwnLz w1 bs vc vr vm h ms := by
  obtain ⟨rvs, o⟩ := ho
  exact ⟨rvs, o.lazy hb k hbase⟩
end

/-! a heap in a box beside other things -/
/-- what lies beside a heap in its box: further cells, and what holds of some blocks -/
structure Side where
  ext : List Value
  bl : List Nat
  P : World → Prop
/-- a heap of the call's own in the box b, a block of type T -/
structure BoxZ (T : TypeId) (K : Side) (w0 wr : World) (b : Nat) (vc vr : Value) (rvs : List Value) (h : Hp) : Prop where
  own : OwnHx wr w0.heap.size vc vr rvs h
  apart : Apart (some b) (vc :: vr :: rvs)
  box : Rw wr b T (vc :: vr :: K.ext).toArray
  low : Below w0.heap.size w0 wr
  lo : w0.heap.size ≤ b
  stays : ∀ w w' : World, (∀ g ∈ K.bl, w'.heap[g]? = w.heap[g]?) → K.P w → K.P w'
  has : K.P wr
  side : ∀ g ∈ K.bl, g < wr.heap.size ∧ g ≠ b ∧ ∀ v ∈ vc :: vr :: rvs, v.ownBlock ≠ some g
section
variable {T : TypeId} {K : Side} {w0 wr w1 : World} {b g c d i k : Nat} {vc vr : Value} {rvs : List Value} {h : Hp} {cl : Cl}
theorem BoxZ.c0 (S : BoxZ T K w0 wr b vc vr rvs h) : wr.cell? ⟨b, 0, none⟩ = some vc := (S.box.cell 0).trans (by simp)
theorem BoxZ.c1 (S : BoxZ T K w0 wr b vc vr rvs h) : wr.cell? ⟨b, 1, none⟩ = some vr := (S.box.cell 1).trans (by simp)
theorem BoxZ.cx (S : BoxZ T K w0 wr b vc vr rvs h) {j : Nat} {v : Value} (hj : K.ext[j]? = some v) : wr.cell? ⟨b, j + 2, none⟩ = some v := (S.box.cell (j + 2)).trans (by simp [hj])
theorem BoxZ.up (S : BoxZ T K w0 wr b vc vr rvs h) (hw : Below wr.heap.size wr w1) : BoxZ T K w0 w1 b vc vr rvs h :=
  ⟨S.own.below hw (Nat.le_refl _), S.apart, S.box.keep hw S.box.lt, S.low.trans (hw.mono S.low.size), S.lo, S.stays, S.stays _ _ (fun g hg => hw.block g (S.side g hg).1) S.has, fun g hg => ⟨Nat.lt_of_lt_of_le (S.side g hg).1 hw.size, (S.side g hg).2⟩⟩
theorem BoxZ.drew (S : BoxZ T K w0 wr b vc vr rvs h) : BoxZ T K w0 wr.drew b vc vr rvs h := S.up (Below.refl _ _).drew
theorem BoxZ.form (S : BoxZ T K w0 wr b vc vr rvs h) (hl : 0 < h.rt.length) : ∃ A c gr d, vc = .slice A h.cs.length c ∧ vr = .slice (some ⟨gr, 0, none⟩) h.rt.length d ∧ (0 < h.cs.length → ∃ g, A = some ⟨g, 0, none⟩) := by
  obtain ⟨A, c, R, d, e1, e2, _, _, fA, fR⟩ := S.own.form
  obtain ⟨gr, rfl, _, _⟩ := fR hl
  exact ⟨A, c, gr, d, e1, e2, fun h => by obtain ⟨g, e, _⟩ := fA h; exact ⟨g, e⟩⟩
theorem BoxZ.boxNe (S : BoxZ T K w0 wr b vc vr rvs h) {v : Value} (hv : v ∈ vc :: vr :: rvs) (hg : v.ownBlock = some g) : b ≠ g := by
  rcases S.apart v hv with e | e
  · rw [hg] at e; cases e
  · intro e'; rw [hg] at e; exact e (by rw [e'])
/-- nothing beside the heap changes when a block changes that is none of those -/
theorem BoxZ.far_side {row : Option Nat} (S : BoxZ T K w0 wr b vc vr rvs h) (hG : wr.grownBy w1 row) (hne : ∀ g ∈ K.bl, row ≠ some g) : K.P w1 := S.stays _ _ (fun g hg => hG.block g (S.side g hg).1 (fun e => hne g hg e.symm)) S.has
theorem BoxZ.into (S : BoxZ T K w0 wr b vc vr rvs h) {v : Value} (hv : v ∈ vc :: vr :: rvs) (hg : v.ownBlock = some g) {h' : Hp} (u : Value)
    (ho : OwnHx (wr.setCell ⟨g, i, none⟩ u) w0.heap.size vc vr rvs h') : BoxZ T K w0 (wr.setCell ⟨g, i, none⟩ u) b vc vr rvs h' := by
  have h1 := S.own.blocks hv hg
  refine ⟨ho, S.apart, S.box.other (S.boxNe hv hg) u, S.low.setCell (p := ⟨g, i, none⟩) (by show w0.heap.size ≤ g; omega) u, S.lo, S.stays, S.far_side (put_any wr g i u) fun g' hg' e => (S.side g' hg').2.2 v hv (hg.trans e), fun g' hg' => ⟨?_, (S.side g' hg').2⟩⟩
  have := (S.side g' hg').1
  simp only [World.setCell]
  first | exact this | simpa [World.setCell] using this
theorem BoxZ.ref1 {m : Nat} (S : BoxZ T K w0 wr b vc vr rvs h) (hc : h.cs[k]? = some cl) (hv : rvs[k]? = some (.slice (some ⟨g, 0, none⟩) m d)) (hm : cl.r.length = m) (x : Int) : BoxZ T K w0 (wr.setCell ⟨g, i, none⟩ (.int .i64 x)) b vc vr rvs ⟨h.cs.set k ⟨cl.u, cl.d, cl.r.set i x⟩, h.rt⟩ := by
  subst hm
  exact S.into (v := .slice (some ⟨g, 0, none⟩) cl.r.length d) (by simp [List.mem_of_getElem? hv]) rfl _ (S.own.ref1 hc hv x)
end
end Go.Proofs.Ytakdjiojahlnmaa
