/- What the claim LLazyTake stands on, part 3 of 6: texts of one seat put together, with what the claim needs of them. No conditions. -/
import Derived.Test.YtakdjiojahlnmaaShAb
namespace Go.Proofs.Ytakdjiojahlnmaa
open Go.RowKit
set_option maxRecDepth 100000
/-- a lazy heap as a value -/
abbrev lzV (A : Option Addr) (n c : Nat) (R : Option Addr) (m d : Nat) (D : Option Addr) (q e : Nat) (i : Int) : Value := .agg #[.slice A n c, .slice R m d, .slice D q e, .int .i64 i]
/-- a lazy heap of the call's own -/
structure OwnLx (w : World) (base : Nat) (vc vr vm : Value) (rvs : List Value) (h : Hp) (ms : List Bool) : Prop where
  heap : OwnHx w base vc vr rvs h
  mks : OwnO w base vm ms
  sep : ∀ u ∈ vc :: vr :: rvs, u.ownBlock = none ∨ u.ownBlock ≠ vm.ownBlock
def OwnLz (w : World) (base : Nat) (vc vr vm : Value) (h : Hp) (ms : List Bool) : Prop := ∃ rvs, OwnLx w base vc vr vm rvs h ms
def GaveLz (w : World) (l : Lz) (e : Ending) (w' : World) : Prop := ∃ vc vr vm, e = .returned (.agg #[vc, vr, vm, .int .i64 l.i]) ∧ OwnLz w' w.heap.size vc vr vm l.s l.ms ∧ Below w.heap.size w w'
/-- a lazy heap of the call's own, and a number -/
def GaveLzN (w : World) (l : Lz) (k : Int) (e : Ending) (w' : World) : Prop := ∃ vc vr vm, e = .returned (.tuple #[.agg #[vc, vr, vm, .int .i64 l.i], .int .i64 k]) ∧ OwnLz w' w.heap.size vc vr vm l.s l.ms ∧ Below w.heap.size w w'
section
variable {w w' : World} {bs bs' B g : Nat} {vc vr vm : Value} {rvs : List Value} {h : Hp} {ms : List Bool}
theorem OwnLx.below (o : OwnLx w bs vc vr vm rvs h ms) (hb : Below B w w') (hB : w.heap.size ≤ B) : OwnLx w' bs vc vr vm rvs h ms := ⟨o.heap.below hb hB, o.mks.below hb hB, o.sep⟩
theorem OwnLx.base (o : OwnLx w bs vc vr vm rvs h ms) (hb : bs' ≤ bs) : OwnLx w bs' vc vr vm rvs h ms := ⟨o.heap.base hb, o.mks.base hb, o.sep⟩
theorem OwnLx.blocks (o : OwnLx w bs vc vr vm rvs h ms) {v : Value} (hv : v ∈ vc :: vr :: vm :: rvs) {k : Nat} (hk : v.ownBlock = some k) : bs ≤ k ∧ k < w.heap.size := by
  simp only [List.mem_cons] at hv
  rcases hv with rfl | rfl | rfl | hv
  · exact o.heap.blocks (v := v) (by simp) hk
  · exact o.heap.blocks (v := v) (by simp) hk
  · exact World.ownsRow.lt o.mks k hk
  · exact o.heap.blocks (v := v) (by simp [hv]) hk
theorem OwnLx.apart_below (o : OwnLx w bs vc vr vm rvs h ms) (hb : g < bs) : Apart (some g) (vc :: vr :: vm :: rvs) := fun v hv => by
  cases e : v.ownBlock with
  | none => exact .inl rfl
  | some k =>
    right
    intro e'
    have := (o.blocks hv e).1
    have := Option.some.inj e'
    omega
theorem OwnLx.apart_new (o : OwnLx w bs vc vr vm rvs h ms) (hb : w.heap.size ≤ g) : Apart (some g) (vc :: vr :: vm :: rvs) := fun v hv => by
  cases e : v.ownBlock with
  | none => exact .inl rfl
  | some k =>
    right
    intro e'
    have := (o.blocks hv e).2
    have := Option.some.inj e'
    omega
theorem OwnLx.far {row : Option Nat} (o : OwnLx w bs vc vr vm rvs h ms) (hg : w.grownBy w' row) (ha : Apart row (vc :: vr :: vm :: rvs)) : OwnLx w' bs vc vr vm rvs h ms :=
  ⟨o.heap.far hg (fun v hv => ha v (by simp only [List.mem_cons] at hv ⊢; rcases hv with e | e | e <;> simp [e])), o.mks.far hg (ha vm (by simp)), o.sep⟩
theorem OwnLx.put (o : OwnLx w bs vc vr vm rvs h ms) (ha : Apart (some g) (vc :: vr :: vm :: rvs)) (i : Nat) (u : Value) : OwnLx (w.setCell ⟨g, i, none⟩ u) bs vc vr vm rvs h ms := o.far (put_any w g i u) ha
theorem OwnLx.slices (o : OwnLx w bs vc vr vm rvs h ms) : ∃ A c R d K q, vc = .slice A h.cs.length c ∧ vr = .slice R h.rt.length d ∧ vm = .slice K ms.length q ∧ h.cs.length ≤ c ∧ h.rt.length ≤ d := by
  obtain ⟨A, c, R, d, e1, e2, h1, h2, _⟩ := o.heap.form
  obtain ⟨K, q, e3, _⟩ := o.mks.form
  exact ⟨A, c, R, d, K, q, e1, e2, e3, h1, h2⟩
theorem OwnLz.slices (ho : OwnLz w bs vc vr vm h ms) : ∃ A n c R m d K p q, vc = .slice A n c ∧ vr = .slice R m d ∧ vm = .slice K p q := by
  obtain ⟨rvs, o⟩ := ho
  obtain ⟨A, c, R, d, K, q, e1, e2, e3, _⟩ := o.slices
  exact ⟨A, _, c, R, _, d, K, _, q, e1, e2, e3⟩
theorem OwnLz.below (ho : OwnLz w bs vc vr vm h ms) (hb : Below B w w') (hB : w.heap.size ≤ B) : OwnLz w' bs vc vr vm h ms := by
  obtain ⟨rvs, o⟩ := ho
  exact ⟨rvs, o.below hb hB⟩
theorem OwnLz.base (ho : OwnLz w bs vc vr vm h ms) (hb : bs' ≤ bs) : OwnLz w bs' vc vr vm h ms := by
  obtain ⟨rvs, o⟩ := ho
  exact ⟨rvs, o.base hb⟩
theorem OwnLz.heap (ho : OwnLz w bs vc vr vm h ms) : OwnH w bs vc vr h := by
  obtain ⟨rvs, o⟩ := ho
  exact ⟨rvs, o.heap⟩
theorem own_zeroLz (w : World) (bs : Nat) (hb : bs ≤ w.heap.size) : OwnLz w bs (.slice none 0 0) (.slice none 0 0) (.slice none 0 0) Hps.zeroH [] := by
  obtain ⟨rvs, o⟩ := own_zeroH w bs hb
  refine ⟨rvs, o, World.ownsRow_nil _ _ _ _, fun u hu => ?_⟩
  obtain rfl : rvs = [] := List.eq_nil_of_length_eq_zero o.len
  simp only [List.mem_cons, List.not_mem_nil, or_false] at hu
  rcases hu with rfl | rfl <;> exact .inl rfl
/-- a lazy heap of the call's own goes into the box of a result -/
theorem OwnLz.out {wr : World} (i : Int) (ho : OwnLz wr bs vc vr vm h ms) (hg : g < bs) (hb : Below w.heap.size w wr) (hw : w.heap.size ≤ g) :
    OwnLz ((((wr.setCell ⟨g, 0, none⟩ vc).setCell ⟨g, 1, none⟩ vr).setCell ⟨g, 2, none⟩ vm).setCell ⟨g, 3, none⟩ (.int .i64 i)) w.heap.size vc vr vm h ms ∧ Below w.heap.size w ((((wr.setCell ⟨g, 0, none⟩ vc).setCell ⟨g, 1, none⟩ vr).setCell ⟨g, 2, none⟩ vm).setCell ⟨g, 3, none⟩ (.int .i64 i)) := by
  obtain ⟨rvs, own⟩ := ho
  have ap := own.apart_below hg
  exact ⟨⟨rvs, ((((own.put ap 0 vc).put ap 1 vr).put ap 2 vm).put ap 3 _).base (by omega)⟩, (((hb.setCell (p := ⟨g, 0, none⟩) hw vc).setCell (p := ⟨g, 1, none⟩) hw vr).setCell (p := ⟨g, 2, none⟩) hw vm).setCell (p := ⟨g, 3, none⟩) hw _⟩
/-- a heap and marks that were made one after the other are a lazy heap -/
theorem OwnHx.lazy {w1 : World} (o : OwnHx w bs vc vr rvs h) (hb : Below w.heap.size w w1) (k : OwnO w1 w.heap.size vm ms) (hbase : bs ≤ w.heap.size) : OwnLx w1 bs vc vr vm rvs h ms := by
  refine ⟨o.below hb (Nat.le_refl _), k.base hbase, fun u hu => ?_⟩
  cases e : u.ownBlock with
  | none => exact .inl rfl
  | some j =>
    right
    intro e'
    have h1 := (o.blocks hu e).2
    have h2 := (World.ownsRow.lt k j e'.symm).1
    omega
theorem OwnLz.of (ho : OwnH w bs vc vr h) {w1 : World} (hb : Below w.heap.size w w1) (k : OwnO w1 w.heap.size vm ms) (hbase : bs ≤ w.heap.size) : OwnLz w1 bs vc vr vm h ms := by
  obtain ⟨rvs, o⟩ := ho
  exact ⟨rvs, o.lazy hb k hbase⟩
end
/-! a heap in a box beside other things -/
/-- what lies beside a heap in its box: further cells, and what holds of some blocks -/
structure Side where
  ext : List Value
  bl : List Nat
  P : World → Prop
/-- a heap of the call's own in the box b, a block of type T -/
structure BoxZ (T : TypeId) (K : Side) (w0 wr : World) (b : Nat) (vc vr : Value) (rvs : List Value) (h : Hp) : Prop where
  own : OwnHx wr w0.heap.size vc vr rvs h
  apart : Apart (some b) (vc :: vr :: rvs)
  box : Rw wr b T (vc :: vr :: K.ext).toArray
  low : Below w0.heap.size w0 wr
  lo : w0.heap.size ≤ b
  stays : ∀ w w' : World, (∀ g ∈ K.bl, w'.heap[g]? = w.heap[g]?) → K.P w → K.P w'
  has : K.P wr
  side : ∀ g ∈ K.bl, g < wr.heap.size ∧ g ≠ b ∧ ∀ v ∈ vc :: vr :: rvs, v.ownBlock ≠ some g
section
variable {T : TypeId} {K : Side} {w0 wr w1 : World} {b g c d i k : Nat} {vc vr : Value} {rvs : List Value} {h : Hp} {cl : Cl}
theorem BoxZ.c0 (S : BoxZ T K w0 wr b vc vr rvs h) : wr.cell? ⟨b, 0, none⟩ = some vc := (S.box.cell 0).trans (by simp)
theorem BoxZ.c1 (S : BoxZ T K w0 wr b vc vr rvs h) : wr.cell? ⟨b, 1, none⟩ = some vr := (S.box.cell 1).trans (by simp)
theorem BoxZ.cx (S : BoxZ T K w0 wr b vc vr rvs h) {j : Nat} {v : Value} (hj : K.ext[j]? = some v) : wr.cell? ⟨b, j + 2, none⟩ = some v := (S.box.cell (j + 2)).trans (by simp [hj])
theorem BoxZ.up (S : BoxZ T K w0 wr b vc vr rvs h) (hw : Below wr.heap.size wr w1) : BoxZ T K w0 w1 b vc vr rvs h :=
  ⟨S.own.below hw (Nat.le_refl _), S.apart, S.box.keep hw S.box.lt, S.low.trans (hw.mono S.low.size), S.lo, S.stays, S.stays _ _ (fun g hg => hw.block g (S.side g hg).1) S.has, fun g hg => ⟨Nat.lt_of_lt_of_le (S.side g hg).1 hw.size, (S.side g hg).2⟩⟩
theorem BoxZ.drew (S : BoxZ T K w0 wr b vc vr rvs h) : BoxZ T K w0 wr.drew b vc vr rvs h := S.up (Below.refl _ _).drew
theorem BoxZ.form (S : BoxZ T K w0 wr b vc vr rvs h) (hl : 0 < h.rt.length) : ∃ A c gr d, vc = .slice A h.cs.length c ∧ vr = .slice (some ⟨gr, 0, none⟩) h.rt.length d ∧ (0 < h.cs.length → ∃ g, A = some ⟨g, 0, none⟩) := by
  obtain ⟨A, c, R, d, e1, e2, _, _, fA, fR⟩ := S.own.form
  obtain ⟨gr, rfl, _, _⟩ := fR hl
  exact ⟨A, c, gr, d, e1, e2, fun h => by obtain ⟨g, e, _⟩ := fA h; exact ⟨g, e⟩⟩
theorem BoxZ.boxNe (S : BoxZ T K w0 wr b vc vr rvs h) {v : Value} (hv : v ∈ vc :: vr :: rvs) (hg : v.ownBlock = some g) : b ≠ g := by
  rcases S.apart v hv with e | e
  · rw [hg] at e; cases e
  · intro e'; rw [hg] at e; exact e (by rw [e'])
/-- nothing beside the heap changes when a block changes that is none of those -/
theorem BoxZ.far_side {row : Option Nat} (S : BoxZ T K w0 wr b vc vr rvs h) (hG : wr.grownBy w1 row) (hne : ∀ g ∈ K.bl, row ≠ some g) : K.P w1 := S.stays _ _ (fun g hg => hG.block g (S.side g hg).1 (fun e => hne g hg e.symm)) S.has
theorem BoxZ.into (S : BoxZ T K w0 wr b vc vr rvs h) {v : Value} (hv : v ∈ vc :: vr :: rvs) (hg : v.ownBlock = some g) {h' : Hp} (u : Value)
    (ho : OwnHx (wr.setCell ⟨g, i, none⟩ u) w0.heap.size vc vr rvs h') : BoxZ T K w0 (wr.setCell ⟨g, i, none⟩ u) b vc vr rvs h' := by
  have h1 := S.own.blocks hv hg
  refine ⟨ho, S.apart, S.box.other (S.boxNe hv hg) u, S.low.setCell (p := ⟨g, i, none⟩) (by show w0.heap.size ≤ g; omega) u, S.lo, S.stays, S.far_side (put_any wr g i u) fun g' hg' e => (S.side g' hg').2.2 v hv (hg.trans e), fun g' hg' => ⟨?_, (S.side g' hg').2⟩⟩
  have := (S.side g' hg').1
  simp only [World.setCell]
  first | exact this | simpa [World.setCell] using this
theorem BoxZ.ref1 {m : Nat} (S : BoxZ T K w0 wr b vc vr rvs h) (hc : h.cs[k]? = some cl) (hv : rvs[k]? = some (.slice (some ⟨g, 0, none⟩) m d)) (hm : cl.r.length = m) (x : Int) : BoxZ T K w0 (wr.setCell ⟨g, i, none⟩ (.int .i64 x)) b vc vr rvs ⟨h.cs.set k ⟨cl.u, cl.d, cl.r.set i x⟩, h.rt⟩ := by
  subst hm
  exact S.into (v := .slice (some ⟨g, 0, none⟩) cl.r.length d) (by simp [List.mem_of_getElem? hv]) rfl _ (S.own.ref1 hc hv x)
end
end Go.Proofs.Ytakdjiojahlnmaa

namespace Go.Proofs.Ytakdjiojahlnmaa
open Go.RowKit
set_option maxRecDepth 100000
set_option maxHeartbeats 16000000 in
theorem mLazyValid_any (A R D : Option Addr) (n c m d q ce : Nat) (i : Int) (h : Hp) (ms : List Bool) (w : World) (hs : HS w w.heap.size A n R m h) (hk : OS w w.heap.size D q ms) (hn : n ≤ 1099511627776) (hm : m ≤ 1099511627776) (hq : q ≤ 1099511627776) :
    Calls Try.prog 21 #[lzV A n c R m d D q ce i] w fun e w' => (∃ b : Bool, e = .returned (.bool b) ∧ (b = true ↔ Hps.okLz ⟨h, ms, i⟩)) ∧ Below w.heap.size w w' := by
  have b0 : Below w.heap.size w (w.alloc (.cells #[.slice A n c, .slice R m d, .slice D q ce, .int .i64 i] 30)) := (Below.refl _ _).alloc (Nat.le_refl _) _
  have r0 := hs.up b0
  have k0 := hk.up b0
  have q0 := Rw.new w 30 #[.slice A n c, .slice R m d, .slice D q ce, .int .i64 i]
  have HLC := Lib.hid hs.cells.1
  have HLM := Lib.hid hk.1
  have HLR := Lib.hid hs.roots.1
  clear hs hk
  go_enter Try.func21, Try.ntmps21
  go_wp2_with fail
  refine (mHeapValid_any _ _ _ _ _ _ h _ r0 (by omega) (by omega)).mono ?_
  cases hv : Hps.validH h
  · have HE : Hid (¬ Hps.okLz ⟨h, ms, i⟩) := Lib.hid (fun x => by
      have := x.1
      simp only [hv] at this
      cases this)
    clear hv
    rintro e w1 ⟨rfl, b1⟩
    have bb1 := b0.trans (b1.mono b0.size)
    clear b1 r0 k0 q0 b0
    go_wp2_with fail
    go_ret
    exact ⟨⟨false, rfl, ⟨fun x => (by cases x), fun x => absurd x HE.out⟩⟩, bb1⟩
  have HV := Lib.hid hv
  have HS3 := Lib.hid (Hps.valid_small hv).2.2
  have hn40 : n ≤ 40 := by have := HLC.out; have := (Hps.valid_small hv).1; omega
  have hm40 : m ≤ 4 := by have := HLR.out; have := (Hps.valid_small hv).2.1; omega
  have HRF := Lib.hid (Hps.valid_refs hv)
  have HRO := Lib.hid (Hps.valid_iff.1 hv).2.2.2
  clear hv
  rintro e w1 ⟨rfl, b1⟩
  have bb1 := b0.trans (b1.mono b0.size)
  have r1 := r0.up b1
  have k1 := k0.up b1
  have q1 := q0.keep b1 q0.lt
  have x0 : w1.cell? ⟨w.heap.size, 0, none⟩ = some (.slice A n c) := q1.cell 0
  have x1 : w1.cell? ⟨w.heap.size, 1, none⟩ = some (.slice R m d) := q1.cell 1
  have x2 : w1.cell? ⟨w.heap.size, 2, none⟩ = some (.slice D q ce) := q1.cell 2
  have x3 : w1.cell? ⟨w.heap.size, 3, none⟩ = some (.int .i64 i) := q1.cell 3
  clear b1 r0 k0 q0 b0
  by_cases hqn : q = n
  case neg =>
    have HE : Hid (¬ Hps.okLz ⟨h, ms, i⟩) := Lib.hid (fun x => hqn (by
      have h1 := x.2.1
      have h2 := HLC.out
      have h3 := HLM.out
      show q = n
      rw [← h2, ← h3]
      exact h1))
    have hne : ((q : Int) != (n : Int)) = true := by
      rw [bne_iff_ne]
      omega
    clear hqn
    go_wp2_with fail
    go_ret
    exact ⟨⟨false, rfl, ⟨fun x => (by cases x), fun x => absurd x HE.out⟩⟩, bb1⟩
  subst hqn
  have hne : ((q : Int) != (q : Int)) = false := by simp
  by_cases hi : 0 ≤ i ∧ i ≤ (q : Int)
  case neg =>
    have HE : Hid (¬ Hps.okLz ⟨h, ms, i⟩) := Lib.hid (fun x => hi (by
      have h1 := x.2.2.1
      have h3 := HLM.out
      rw [← h3]
      exact h1))
    have HD := Lib.hid (show (decide ((0 : Int) ≤ i) && decide (i ≤ (q : Int))) = false by
      rw [Bool.and_eq_false_iff, decide_eq_false_iff_not, decide_eq_false_iff_not]
      omega)
    clear hi
    go_wp2_with fail
    refine (l1In_any i 0 q _).mono ?_
    rw [HD.out]
    rintro e w4 ⟨rfl, rfl⟩
    go_wp2_with fail
    go_ret
    exact ⟨⟨false, rfl, ⟨fun x => (by cases x), fun x => absurd x HE.out⟩⟩, bb1⟩
  have HD := Lib.hid (show (decide ((0 : Int) ≤ i) && decide (i ≤ (q : Int))) = true by rw [decide_eq_true hi.1, decide_eq_true hi.2]; rfl)
  have HI := Lib.hid hi
  clear hi
  go_wp2_with fail
  refine (l1In_any i 0 q _).mono ?_
  rw [HD.out]
  rintro e w4 ⟨rfl, rfl⟩
  clear HD
  go_wp2_with fail
  refine (l7Reach_any A R R q c m d m d h h.rt _ r1 r1.roots (by omega) (by omega) HRO.out HRF.out (fun cl hcl => Nat.le_trans (HS3.out cl hcl) (by omega))).mono ?_
  have HRL := Lib.hid ((Hps.reachL_len h.cs h.rt).trans HLC.out)
  have HRC := Lib.hid (rfl : Hps.reachL h.cs h.rt = Hps.reachL h.cs h.rt)
  obtain ⟨rs, hrs⟩ : ∃ rs, Hps.reachL h.cs h.rt = rs := ⟨_, rfl⟩
  replace HRC := Lib.hid hrs
  rw [hrs] at HRL ⊢
  clear hrs
  rintro e w2 ⟨v1, rfl, o1, b2⟩
  obtain ⟨A1, c1, e1, -⟩ := o1.form
  rw [HRL.out] at e1
  subst e1
  have R1 := o1.reads
  have r2 := (r1.up b2).cells
  have k2 := k1.up b2
  have q2 := q1.keep b2 q1.lt
  have bb2 := bb1.trans (b2.mono bb1.size)
  clear r1 k1 q1 bb1 b2 x0 x1 x2 x3 o1
  go_wp2_with fail
  go_loopw [4] (fun j wr => ∃ k : Nat, k ≤ q ∧ j = .int .i64 k ∧ Hid (∀ x : Nat, x < k → ¬ Hps.badAt ⟨h, ms, i⟩ x) ∧ Below w2.heap.size w2 wr) (fun j _ => q - (intOf j).toNat)
  case atStart => exact ⟨0, Nat.zero_le _, rfl, Lib.hid (fun x hx => by omega), Below.refl _ _⟩
  case round =>
    obtain ⟨k, hkq, rfl, HP, hb⟩ := hrel
    have bb := bb2.trans (hb.mono bb2.size)
    have q3 := q2.keep hb q2.lt
    have x0 : wr.cell? ⟨w.heap.size, 0, none⟩ = some (.slice A q c) := q3.cell 0
    have x2 : wr.cell? ⟨w.heap.size, 2, none⟩ = some (.slice D q ce) := q3.cell 2
    have x3 : wr.cell? ⟨w.heap.size, 3, none⟩ = some (.int .i64 i) := q3.cell 3
    by_cases hlt : k < q
    · obtain ⟨g1, o1, rb, e1, -, hrb, d1⟩ := (R1.below hb).at_ hlt
      subst e1
      obtain ⟨g2, o2, mb, e2, -, hmb, d2⟩ := (k2.below hb).at_ hlt
      subst e2
      obtain ⟨g3, o3, cl, A', m', cc, e3, -, hcl, d3, -⟩ := (r2.below hb).at_ hlt
      subst e3
      have hlt' : (k : Int) < q := by omega
      have HB : Hid (Hps.badAt ⟨h, ms, i⟩ k ↔ ((rb = true ∧ mb = false) ∨ (mb = true ∧ cl.u = false) ∨ ((k : Int) < i ∧ mb = false ∧ cl.u = true))) := Lib.hid (by
        show ((Hps.reachL h.cs h.rt)[k]? = some true ∧ ms[k]? = some false) ∨ (ms[k]? = some true ∧ Hps.usedAt h.cs k = false) ∨ ((k : Int) < i ∧ ms[k]? = some false ∧ Hps.usedAt h.cs k = true) ↔ _
        rw [HRC.out, hrb, hmb, show Hps.usedAt h.cs k = cl.u by rw [Hps.usedAt, hcl]]
        simp)
      have HNO : Hid (Hps.badAt ⟨h, ms, i⟩ k → ¬ Hps.okLz ⟨h, ms, i⟩) := Lib.hid (fun x y => y.2.2.2 k (by show k < ms.length; rw [HLM.out]; exact hlt) x)
      have HGO : Hid (¬ Hps.badAt ⟨h, ms, i⟩ k → Hid (∀ x : Nat, x < k + 1 → ¬ Hps.badAt ⟨h, ms, i⟩ x)) := Lib.hid (fun hg => Lib.hid (fun x hx => by
        rcases Nat.lt_or_ge x k with h1 | h1
        · exact HP.out x h1
        · obtain rfl : x = k := by omega
          exact hg))
      obtain ⟨ub, hub⟩ : ∃ ub, cl.u = ub := ⟨_, rfl⟩
      rw [hub] at d3 HB
      clear hrb hmb hcl hub HP r2 k2 R1 q2 bb2 q3
      cases rb
      · cases mb
        · cases ub
          · by_cases hki : (k : Int) < i
            · have HN := HGO.out (fun x => by
                have := HB.out.1 x
                simp [hki] at this)
              have hkd : decide ((k : Int) < i) = true := decide_eq_true hki
              clear hki HB HNO HGO
              go_wp2_with fail
              go_roundw
              case rel => exact ⟨k + 1, by omega, by go_num, HN, hb⟩
              case measure => simp [intOf]; omega
            · have HN := HGO.out (fun x => by
                have := HB.out.1 x
                simp [hki] at this)
              have hkd : decide ((k : Int) < i) = false := decide_eq_false hki
              clear hki HB HNO HGO
              go_wp2_with fail
              go_roundw
              case rel => exact ⟨k + 1, by omega, by go_num, HN, hb⟩
              case measure => simp [intOf]; omega
          · by_cases hki : (k : Int) < i
            · have HE := Lib.hid (HNO.out (HB.out.2 (.inr (.inr ⟨hki, rfl, rfl⟩))))
              have hkd : decide ((k : Int) < i) = true := decide_eq_true hki
              clear hki HB HNO HGO
              go_wp2_with fail
              go_ret
              exact ⟨⟨false, rfl, ⟨fun x => (by cases x), fun x => absurd x HE.out⟩⟩, bb⟩
            · have HN := HGO.out (fun x => by
                have := HB.out.1 x
                simp [hki] at this)
              have hkd : decide ((k : Int) < i) = false := decide_eq_false hki
              clear hki HB HNO HGO
              go_wp2_with fail
              go_roundw
              case rel => exact ⟨k + 1, by omega, by go_num, HN, hb⟩
              case measure => simp [intOf]; omega
        · cases ub
          · by_cases hki : (k : Int) < i
            · have HE := Lib.hid (HNO.out (HB.out.2 (.inr (.inl ⟨rfl, rfl⟩))))
              have hkd : decide ((k : Int) < i) = true := decide_eq_true hki
              clear hki HB HNO HGO
              go_wp2_with fail
              go_ret
              exact ⟨⟨false, rfl, ⟨fun x => (by cases x), fun x => absurd x HE.out⟩⟩, bb⟩
            · have HE := Lib.hid (HNO.out (HB.out.2 (.inr (.inl ⟨rfl, rfl⟩))))
              have hkd : decide ((k : Int) < i) = false := decide_eq_false hki
              clear hki HB HNO HGO
              go_wp2_with fail
              go_ret
              exact ⟨⟨false, rfl, ⟨fun x => (by cases x), fun x => absurd x HE.out⟩⟩, bb⟩
          · by_cases hki : (k : Int) < i
            · have HN := HGO.out (fun x => by
                have := HB.out.1 x
                simp [hki] at this)
              have hkd : decide ((k : Int) < i) = true := decide_eq_true hki
              clear hki HB HNO HGO
              go_wp2_with fail
              go_roundw
              case rel => exact ⟨k + 1, by omega, by go_num, HN, hb⟩
              case measure => simp [intOf]; omega
            · have HN := HGO.out (fun x => by
                have := HB.out.1 x
                simp [hki] at this)
              have hkd : decide ((k : Int) < i) = false := decide_eq_false hki
              clear hki HB HNO HGO
              go_wp2_with fail
              go_roundw
              case rel => exact ⟨k + 1, by omega, by go_num, HN, hb⟩
              case measure => simp [intOf]; omega
      · cases mb
        · cases ub
          · by_cases hki : (k : Int) < i
            · have HE := Lib.hid (HNO.out (HB.out.2 (.inl ⟨rfl, rfl⟩)))
              have hkd : decide ((k : Int) < i) = true := decide_eq_true hki
              clear hki HB HNO HGO
              go_wp2_with fail
              go_ret
              exact ⟨⟨false, rfl, ⟨fun x => (by cases x), fun x => absurd x HE.out⟩⟩, bb⟩
            · have HE := Lib.hid (HNO.out (HB.out.2 (.inl ⟨rfl, rfl⟩)))
              have hkd : decide ((k : Int) < i) = false := decide_eq_false hki
              clear hki HB HNO HGO
              go_wp2_with fail
              go_ret
              exact ⟨⟨false, rfl, ⟨fun x => (by cases x), fun x => absurd x HE.out⟩⟩, bb⟩
          · by_cases hki : (k : Int) < i
            · have HE := Lib.hid (HNO.out (HB.out.2 (.inl ⟨rfl, rfl⟩)))
              have hkd : decide ((k : Int) < i) = true := decide_eq_true hki
              clear hki HB HNO HGO
              go_wp2_with fail
              go_ret
              exact ⟨⟨false, rfl, ⟨fun x => (by cases x), fun x => absurd x HE.out⟩⟩, bb⟩
            · have HE := Lib.hid (HNO.out (HB.out.2 (.inl ⟨rfl, rfl⟩)))
              have hkd : decide ((k : Int) < i) = false := decide_eq_false hki
              clear hki HB HNO HGO
              go_wp2_with fail
              go_ret
              exact ⟨⟨false, rfl, ⟨fun x => (by cases x), fun x => absurd x HE.out⟩⟩, bb⟩
        · cases ub
          · by_cases hki : (k : Int) < i
            · have HE := Lib.hid (HNO.out (HB.out.2 (.inr (.inl ⟨rfl, rfl⟩))))
              have hkd : decide ((k : Int) < i) = true := decide_eq_true hki
              clear hki HB HNO HGO
              go_wp2_with fail
              go_ret
              exact ⟨⟨false, rfl, ⟨fun x => (by cases x), fun x => absurd x HE.out⟩⟩, bb⟩
            · have HE := Lib.hid (HNO.out (HB.out.2 (.inr (.inl ⟨rfl, rfl⟩))))
              have hkd : decide ((k : Int) < i) = false := decide_eq_false hki
              clear hki HB HNO HGO
              go_wp2_with fail
              go_ret
              exact ⟨⟨false, rfl, ⟨fun x => (by cases x), fun x => absurd x HE.out⟩⟩, bb⟩
          · by_cases hki : (k : Int) < i
            · have HN := HGO.out (fun x => by
                have := HB.out.1 x
                simp [hki] at this)
              have hkd : decide ((k : Int) < i) = true := decide_eq_true hki
              clear hki HB HNO HGO
              go_wp2_with fail
              go_roundw
              case rel => exact ⟨k + 1, by omega, by go_num, HN, hb⟩
              case measure => simp [intOf]; omega
            · have HN := HGO.out (fun x => by
                have := HB.out.1 x
                simp [hki] at this)
              have hkd : decide ((k : Int) < i) = false := decide_eq_false hki
              clear hki HB HNO HGO
              go_wp2_with fail
              go_roundw
              case rel => exact ⟨k + 1, by omega, by go_num, HN, hb⟩
              case measure => simp [intOf]; omega
    · obtain rfl : k = q := by omega
      have HE : Hid (Hps.okLz ⟨h, ms, i⟩) := Lib.hid ⟨HV.out, HLM.out.trans HLC.out.symm, by
        have := HI.out
        show 0 ≤ i ∧ i ≤ (ms.length : Int)
        rw [HLM.out]
        exact this, fun x hx => HP.out x (by
        have h1 : x < ms.length := hx
        rw [HLM.out] at h1
        exact h1)⟩
      clear HP
      go_wp2_with fail
      go_ret
      exact ⟨⟨true, rfl, ⟨fun _ => HE.out, fun _ => rfl⟩⟩, bb⟩
end Go.Proofs.Ytakdjiojahlnmaa

namespace Go.Proofs.Ytakdjiojahlnmaa
open Go.RowKit
set_option maxRecDepth 100000
/-- an append of bools onto the call's own -/
theorem app_stepO {w : World} {o : Oper} {a : Act} {K : Act → World → Prop} {Q : Exit → Act → World → Prop} (_hgd : o.guard = none) (s x : Operand)
    (ho : o.op = .call { callee := .builtin .append, args := #[s, x], argTypes := #[28, 28] })
    (base : Nat) (v : Value) (xs : List Bool) (hs : a.eval s = v) (hown : OwnO w base v xs) (A : Option Addr) (m c B : Nat) (ys : List Bool) (hx : a.eval x = .slice A m c) (hr : OS w B A m ys)
    (hn : xs.length + m ≤ 1099511627776) (hbase : base ≤ w.heap.size)
    (h : ∀ v' w', OwnO w' base v' (xs ++ ys) → w.grownBy w' v.ownBlock → (v'.ownBlock = v.ownBlock ∨ v'.ownBlock = some w.heap.size) → K (a.put o.dst v') w') : Oper.wp Try.prog o a w K Q := by
  obtain ⟨v', w', hrun, h2, h3, h4⟩ := run_appendO w base v xs hown A m c B ys hr hn hbase o.type
  unfold Oper.wp execOp
  simp only [ho, resolve, invoke, builtin, Sem.run_bind, Sem.run_pure, Result.andThen_ok, List.map_toArray, List.map_cons, List.map_nil, hs, hx, hrun]
  exact h v' w' h2 h3 h4
section
variable {w w' : World} {bs : Nat} {vc vr vm : Value} {h : Hp} {ms : List Bool}
theorem OwnLz.new (ho : OwnH w bs vc vr h) (hb : bs ≤ w.heap.size) : OwnLz (w.alloc (.cells #[] 4)) bs vc vr (.slice (some ⟨w.heap.size, 0, none⟩) 0 0) h [] :=
  OwnLz.of ho ((Below.refl _ _).alloc (Nat.le_refl _) _) (own_noneO w w.heap.size (Nat.le_refl _)) hb
/-- a heap that is made behind the marks -/
theorem OwnLz.of2 (k : OwnO w bs vm ms) (hb : bs ≤ w.heap.size) (hB : Below w.heap.size w w') (ho : OwnH w' w.heap.size vc vr h) : OwnLz w' bs vc vr vm h ms := by
  obtain ⟨rvs, o⟩ := ho
  refine ⟨rvs, o.base hb, k.below hB (Nat.le_refl _), fun u hu => ?_⟩
  cases e : u.ownBlock with
  | none => exact .inl rfl
  | some j =>
    right
    intro e'
    have h1 := (o.blocks hu e).1
    have h2 := (World.ownsRow.lt k j e'.symm).2
    omega
/-- the marks become longer -/
theorem OwnLz.app {v' : Value} {l' : List Bool} (ho : OwnLz w bs vc vr vm h ms) (o1 : OwnO w' bs v' l') (g1 : w.grownBy w' vm.ownBlock) (s1 : v'.ownBlock = vm.ownBlock ∨ v'.ownBlock = some w.heap.size) : OwnLz w' bs vc vr v' h l' := by
  obtain ⟨rvs, o⟩ := ho
  refine ⟨rvs, o.heap.far g1 (fun u hu => o.sep u hu), o1, fun u hu => ?_⟩
  rcases s1 with e | e
  · rw [e]; exact o.sep u hu
  · cases e2 : u.ownBlock with
    | none => exact .inl rfl
    | some j =>
      right
      rw [e]
      intro e3
      have h1 := (o.heap.blocks hu e2).2
      have := Option.some.inj e3
      omega
theorem OwnLx.apart_lazy {rvs : List Value} {g : Nat} {cs : Array Value} (o : OwnLx w bs vc vr vm rvs h ms) (hr : Rw w g 30 cs) : Apart (some g) (vc :: vr :: vm :: rvs) := fun v hv => by
  right
  intro e
  simp only [List.mem_cons] at hv
  rcases hv with rfl | rfl | rfl | hv
  · exact row_type o.heap.row hr (by decide) e.symm
  · exact row_type o.heap.roots hr (by decide) e.symm
  · exact row_type o.mks hr (by decide) e.symm
  · obtain ⟨i, hi⟩ := List.mem_iff_getElem?.1 hv
    have hlt := (List.getElem?_eq_some_iff.1 hi).1
    have hc := List.getElem?_eq_getElem (show i < h.cs.length by rw [← o.heap.len]; exact hlt)
    exact row_type (o.heap.refs i _ v hc hi) hr (by decide) e.symm
end
/-- a lazy heap of the call's own in the box b -/
structure BoxL (w0 wr : World) (b : Nat) (vc vr vm : Value) (rvs : List Value) (h : Hp) (ms : List Bool) (i : Int) : Prop where
  own : OwnLx wr w0.heap.size vc vr vm rvs h ms
  apart : Apart (some b) (vc :: vr :: vm :: rvs)
  box : Rw wr b 30 #[vc, vr, vm, .int .i64 i]
  low : Below w0.heap.size w0 wr
  lo : w0.heap.size ≤ b
section
variable {w0 wr w1 : World} {b g d c k x i : Nat} {vc vr vm : Value} {rvs : List Value} {h : Hp} {cl old : Cl} {ms : List Bool} {at_ : Int}
theorem BoxL.boxNe (S : BoxL w0 wr b vc vr vm rvs h ms at_) {v : Value} (hv : v ∈ vc :: vr :: vm :: rvs) (hg : v.ownBlock = some g) : b ≠ g := by
  rcases S.apart v hv with e | e
  · rw [hg] at e; cases e
  · intro e'; rw [hg] at e; exact e (by rw [e'])
theorem BoxL.sepNe (S : BoxL w0 wr b vc vr vm rvs h ms at_) {v : Value} (hv : v ∈ vc :: vr :: rvs) (hg : v.ownBlock = some g) : vm.ownBlock = none ∨ vm.ownBlock ≠ some g := by
  right
  intro e
  rcases S.own.sep v hv with e1 | e1
  · rw [hg] at e1; cases e1
  · exact e1 (hg.trans e.symm)
theorem BoxL.move (S : BoxL w0 wr b vc vr vm rvs h ms at_) (j : Int) : BoxL w0 (wr.setCell ⟨b, 3, none⟩ (.int .i64 j)) b vc vr vm rvs h ms j :=
  ⟨S.own.put S.apart 3 _, S.apart, by simpa using S.box.put 3 (.int .i64 j), S.low.setCell (p := ⟨b, 3, none⟩) S.lo _, S.lo⟩
theorem BoxL.ref1 {m : Nat} (S : BoxL w0 wr b vc vr vm rvs h ms at_) (hc : h.cs[k]? = some cl) (hv : rvs[k]? = some (.slice (some ⟨g, 0, none⟩) m d)) (hm : cl.r.length = m) (y : Int) : BoxL w0 (wr.setCell ⟨g, i, none⟩ (.int .i64 y)) b vc vr vm rvs ⟨h.cs.set k ⟨cl.u, cl.d, cl.r.set i y⟩, h.rt⟩ ms at_ := by
  subst hm
  have hmem : (Value.slice (some ⟨g, 0, none⟩) cl.r.length d) ∈ vc :: vr :: rvs := by simp [List.mem_of_getElem? hv]
  have hmem2 : (Value.slice (some ⟨g, 0, none⟩) cl.r.length d) ∈ vc :: vr :: vm :: rvs := by simp [List.mem_of_getElem? hv]
  have h1 : w0.heap.size ≤ g ∧ g < wr.heap.size := S.own.heap.blocks hmem rfl
  exact ⟨⟨S.own.heap.ref1 hc hv y, S.own.mks.far (put_any wr g i _) (S.sepNe hmem rfl), S.own.sep⟩, S.apart, S.box.other (S.boxNe hmem2 rfl) _, S.low.setCell (p := ⟨g, i, none⟩) (by show w0.heap.size ≤ g; omega) _, S.lo⟩
theorem BoxL.took {n : Nat} (S : BoxL w0 wr b (.slice (some ⟨g, 0, none⟩) n c) vr vm rvs h ms at_) (hn : h.cs.length = n) (hc : h.cs[k]? = some old) :
    BoxL w0 (((wr.setCell ⟨g, k * 3, none⟩ (.bool true)).setCell ⟨g, k * 3 + 1, none⟩ (.int .i64 0)).setCell ⟨g, k * 3 + 2, none⟩ (.slice none 0 0)) b (.slice (some ⟨g, 0, none⟩) n c) vr vm (rvs.set k (.slice none 0 0)) ⟨h.cs.set k Hps.tookCl, h.rt⟩ ms at_ := by
  subst hn
  have hm : (Value.slice (some ⟨g, 0, none⟩) h.cs.length c) ∈ (Value.slice (some ⟨g, 0, none⟩) h.cs.length c) :: vr :: rvs := by simp
  have hm2 : (Value.slice (some ⟨g, 0, none⟩) h.cs.length c) ∈ (Value.slice (some ⟨g, 0, none⟩) h.cs.length c) :: vr :: vm :: rvs := by simp
  have h1 : w0.heap.size ≤ g ∧ g < wr.heap.size := S.own.heap.blocks hm rfl
  have h2 : b ≠ g := S.boxNe hm2 rfl
  have h3 := S.sepNe hm rfl
  refine ⟨⟨S.own.heap.cell (cl := Hps.tookCl) hc (World.ownsRow_nil _ _ _ _) (fun _ _ => .inl rfl), ((S.own.mks.far (put_any wr g _ _) h3).far (put_any _ g _ _) h3).far (put_any _ g _ _) h3, fun u hu => ?_⟩, fun u hu => ?_, ((S.box.other h2 _).other h2 _).other h2 _, ?_, S.lo⟩
  · simp only [List.mem_cons] at hu
    rcases hu with rfl | rfl | hu
    · exact S.own.sep _ (by simp)
    · exact S.own.sep u (by simp)
    · rcases List.mem_or_eq_of_mem_set hu with hu | rfl
      · exact S.own.sep u (by simp [hu])
      · exact .inl rfl
  · simp only [List.mem_cons] at hu
    rcases hu with rfl | rfl | rfl | hu
    · exact S.apart _ (by simp)
    · exact S.apart u (by simp)
    · exact S.apart u (by simp)
    · rcases List.mem_or_eq_of_mem_set hu with hu | rfl
      · exact S.apart u (by simp [hu])
      · exact .inl rfl
  · exact ((S.low.setCell (p := ⟨g, k * 3, none⟩) (by show w0.heap.size ≤ g; omega) _).setCell (p := ⟨g, k * 3 + 1, none⟩) (by show w0.heap.size ≤ g; omega) _).setCell (p := ⟨g, k * 3 + 2, none⟩) (by show w0.heap.size ≤ g; omega) _
theorem BoxL.mark {n : Nat} (S : BoxL w0 wr b vc vr (.slice (some ⟨g, 0, none⟩) n c) rvs h ms at_) (hn : ms.length = n) (t : Bool) : BoxL w0 (wr.setCell ⟨g, k, none⟩ (.bool t)) b vc vr (.slice (some ⟨g, 0, none⟩) n c) rvs h (ms.set k t) at_ := by
  have hm2 : (Value.slice (some ⟨g, 0, none⟩) n c) ∈ vc :: vr :: (Value.slice (some ⟨g, 0, none⟩) n c) :: rvs := by simp
  have h1 : w0.heap.size ≤ g ∧ g < wr.heap.size := S.own.blocks hm2 rfl
  exact ⟨⟨S.own.heap.far (put_any wr g k _) (fun u hu => by
    rcases S.own.sep u hu with e | e
    · exact .inl e
    · exact .inr e), S.own.mks.put' hn t, S.own.sep⟩, S.apart, S.box.other (S.boxNe hm2 rfl) _, S.low.setCell (p := ⟨g, k, none⟩) (by show w0.heap.size ≤ g; omega) _, S.lo⟩
end
/-- the number in the box -/
def atW (wr : World) (b : Nat) : Nat := match wr.cell? ⟨b, 3, none⟩ with
  | some (.int _ x) => x.toNat
  | _ => 0
theorem BoxL.at_ {w0 wr : World} {b k : Nat} {vc vr vm : Value} {rvs : List Value} {h : Hp} {ms : List Bool} (S : BoxL w0 wr b vc vr vm rvs h ms (k : Int)) : atW wr b = k := by
  have : wr.cell? ⟨b, 3, none⟩ = some (.int .i64 k) := S.box.cell 3
  rw [atW, this]
  rfl
theorem Hps.cut_cell {ms : List Bool} {cs : List Cl} {a j : Nat} {c : Cl} (hc : cs[a]? = some c) : ∃ c', (Hps.cutIJ ms cs a j)[a]? = some c' ∧ c'.r.length = c.r.length ∧ ∀ x, c'.r[j]? = some x → c.r[j]? = some x := by
  rw [Hps.cut_at hc]
  split
  · rw [if_neg (Nat.lt_irrefl _), if_pos rfl]
    refine ⟨_, rfl, ?_, fun x hx => ?_⟩
    · show ((c.r.take j).map (Hps.cutR ms) ++ c.r.drop j).length = _
      rw [List.length_append, List.length_map, List.length_take, List.length_drop]
      omega
    · have hx' : ((c.r.take j).map (Hps.cutR ms) ++ c.r.drop j)[j]? = some x := hx
      rcases Nat.lt_or_ge j c.r.length with hj | hj
      · have hl : ((c.r.take j).map (Hps.cutR ms)).length = j := by rw [List.length_map, List.length_take]; omega
        rw [List.getElem?_append_right (by rw [hl]; exact Nat.le_refl _), hl, Nat.sub_self, List.getElem?_drop, Nat.add_zero] at hx'
        exact hx'
      · rw [List.getElem?_eq_none (by rw [List.length_append, List.length_map, List.length_take, List.length_drop]; omega)] at hx'
        cases hx'
  · exact ⟨c, rfl, rfl, fun x hx => hx⟩
/-- a reference that is cut -/
theorem Hps.cut_cut {ms : List Bool} {cs : List Cl} {a j : Nat} {c c' : Cl} {y : Nat} (hc : cs[a]? = some c) (hn : c.r[j]? = some (y : Int)) (hm : ms[a]? = some false) (hy : ms[y]? = some false) (hc' : (Hps.cutIJ ms cs a j)[a]? = some c') : Hps.cutIJ ms cs a (j + 1) = (Hps.cutIJ ms cs a j).set a ⟨c'.u, c'.d, c'.r.set j (-1)⟩ := by
  obtain ⟨c2, h1, h2, h3, _, _, h6⟩ := Hps.cut_ref hc hn hm
  rw [hc'] at h1
  obtain rfl := Option.some.inj h1
  rw [h6, Hps.cutR, if_pos ⟨by omega, by rw [Int.toNat_natCast]; exact hy⟩]
set_option maxHeartbeats 16000000 in
theorem mLazyTake_any (A R D : Option Addr) (n c m d q ce : Nat) (i : Int) (h : Hp) (ms : List Bool) (w : World) (hs : HS w w.heap.size A n R m h) (hk : OS w w.heap.size D q ms) (hn : n ≤ 1099511627776) (hm : m ≤ 1099511627776) (hq : q ≤ 1099511627776) :
    Calls Try.prog 25 #[lzV A n c R m d D q ce i] w (GaveLzN w (Hps.takeLz ⟨h, ms, i⟩).1 (Hps.takeLz ⟨h, ms, i⟩).2) := by
  have B2 : Below w.heap.size w ((w.alloc (.cells #[.slice A n c, .slice R m d, .slice D q ce, .int .i64 i] 30)).alloc (.cells #[.slice none 0 0, .slice none 0 0, .slice none 0 0, .int .i64 0] 30)) := ((Below.refl _ _).alloc (Nat.le_refl _) _).alloc (by simp) _
  have q1 := (Rw.new w 30 #[.slice A n c, .slice R m d, .slice D q ce, .int .i64 i]).alloc (.cells #[.slice none 0 0, .slice none 0 0, .slice none 0 0, .int .i64 0] 30)
  have q2 := Rw.new (w.alloc (.cells #[.slice A n c, .slice R m d, .slice D q ce, .int .i64 i] 30)) 30 #[.slice none 0 0, .slice none 0 0, .slice none 0 0, .int .i64 0]
  simp only [World.size_alloc] at q2
  have s2 := hs.up B2
  have k2 := hk.up B2
  have HLC := Lib.hid hs.cells.1
  have HLM := Lib.hid hk.1
  have HLR := Lib.hid hs.roots.1
  obtain ⟨y1, hy1⟩ : ∃ y, (Hps.takeLz ⟨h, ms, i⟩).1 = y := ⟨_, rfl⟩
  obtain ⟨y2, hy2⟩ : ∃ y, (Hps.takeLz ⟨h, ms, i⟩).2 = y := ⟨_, rfl⟩
  have HY1 := Lib.hid hy1
  have HY2 := Lib.hid hy2
  rw [hy1, hy2]
  clear hy1 hy2 hs hk
  go_enter Try.func25, Try.ntmps25
  go_upto_region 1 with fail
  generalize (w.alloc (.cells #[.slice A n c, .slice R m d, .slice D q ce, .int .i64 i] 30)).alloc (.cells #[.slice none 0 0, .slice none 0 0, .slice none 0 0, .int .i64 0] 30) = w2 at B2 q1 q2 s2 k2 ⊢
  obtain ⟨p, hp⟩ : ∃ p, w.heap.size = p := ⟨_, rfl⟩
  rw [hp] at B2 q1 q2 ⊢
  have HQ := Lib.hid hp
  clear hp
  have x0 : w2.cell? ⟨p, 0, none⟩ = some (.slice A n c) := q1.cell 0
  have x1 : w2.cell? ⟨p, 1, none⟩ = some (.slice R m d) := q1.cell 1
  have x2 : w2.cell? ⟨p, 2, none⟩ = some (.slice D q ce) := q1.cell 2
  have x3 : w2.cell? ⟨p, 3, none⟩ = some (.int .i64 i) := q1.cell 3
  go_wp2_with fail
  refine (mLazyValid_any A R D n c m d q ce i h ms _ s2 k2 (by omega) (by omega) (by omega)).mono ?_
  rintro e w3 ⟨⟨bl, rfl, hbl⟩, b3⟩
  have HBL := Lib.hid hbl
  clear hbl
  replace B2 := B2.trans (b3.mono (by have := q2.lt; omega))
  replace q1 := q1.keep b3 q1.lt
  replace q2 := q2.keep b3 q2.lt
  replace s2 := s2.up b3
  replace k2 := k2.up b3
  clear b3 x0 x1 x2 x3 w2
  cases bl
  · have HE := Lib.hid (Hps.take_no (l := ⟨h, ms, i⟩) (fun x => by have := HBL.out.2 x; cases this))
    have HE1 := Lib.hid (show Hps.zeroLz = y1 by rw [← HY1.out, HE.out])
    have HE2 := Lib.hid (show (-1 : Int) = y2 by rw [← HY2.out, HE.out])
    clear HE
    have zf0 : w3.frozen? ⟨p + 1, 0, none⟩ = false := q2.frozen 0
    have zf1 : w3.frozen? ⟨p + 1, 1, none⟩ = false := q2.frozen 1
    have zf2 : w3.frozen? ⟨p + 1, 2, none⟩ = false := q2.frozen 2
    have zf3 : w3.frozen? ⟨p + 1, 3, none⟩ = false := q2.frozen 3
    have zc0 : w3.cell? ⟨p + 1, 0, none⟩ = some (.slice none 0 0) := q2.cell 0
    have zc1 : w3.cell? ⟨p + 1, 1, none⟩ = some (.slice none 0 0) := q2.cell 1
    have zc2 : w3.cell? ⟨p + 1, 2, none⟩ = some (.slice none 0 0) := q2.cell 2
    have zc3 : w3.cell? ⟨p + 1, 3, none⟩ = some (.int .i64 0) := q2.cell 3
    have P4 := ((((q2.put 0 (.slice none 0 0)).put 1 (.slice none 0 0)).put 2 (.slice none 0 0)).put 3 (.int .i64 0))
    have s8 : ((((w3.setCell ⟨p + 1, 0, none⟩ (.slice none 0 0)).setCell ⟨p + 1, 1, none⟩ (.slice none 0 0)).setCell ⟨p + 1, 2, none⟩ (.slice none 0 0)).setCell ⟨p + 1, 3, none⟩ (.int .i64 0)).cell? ⟨p + 1, 0, none⟩ = some (.slice none 0 0) := P4.cell 0
    have s9 : ((((w3.setCell ⟨p + 1, 0, none⟩ (.slice none 0 0)).setCell ⟨p + 1, 1, none⟩ (.slice none 0 0)).setCell ⟨p + 1, 2, none⟩ (.slice none 0 0)).setCell ⟨p + 1, 3, none⟩ (.int .i64 0)).cell? ⟨p + 1, 1, none⟩ = some (.slice none 0 0) := P4.cell 1
    have s10 : ((((w3.setCell ⟨p + 1, 0, none⟩ (.slice none 0 0)).setCell ⟨p + 1, 1, none⟩ (.slice none 0 0)).setCell ⟨p + 1, 2, none⟩ (.slice none 0 0)).setCell ⟨p + 1, 3, none⟩ (.int .i64 0)).cell? ⟨p + 1, 2, none⟩ = some (.slice none 0 0) := P4.cell 2
    have s11 : ((((w3.setCell ⟨p + 1, 0, none⟩ (.slice none 0 0)).setCell ⟨p + 1, 1, none⟩ (.slice none 0 0)).setCell ⟨p + 1, 2, none⟩ (.slice none 0 0)).setCell ⟨p + 1, 3, none⟩ (.int .i64 0)).cell? ⟨p + 1, 3, none⟩ = some (.int .i64 0) := P4.cell 3
    clear P4
    have HW := HQ.out
    have D := Lib.hid (OwnLz.out (w := w) (g := p + 1) 0 (own_zeroLz w3 w3.heap.size (Nat.le_refl _)) q2.lt (by rw [HW]; exact B2) (by omega))
    clear q1 q2 B2 s2 k2
    go_wp2_with fail
    obtain rfl := HE1.out
    obtain rfl := HE2.out
    exact bodyPost_ret (v := .tuple #[.agg #[.slice none 0 0, .slice none 0 0, .slice none 0 0, .int .i64 0], .int .i64 (-1)]) (by simp [results, Try.results25, go_sem, *]) rfl ⟨_, _, _, rfl, D.out.1, D.out.2⟩
  have HOK := Lib.hid (HBL.out.1 rfl)
  obtain ⟨i, rfl⟩ := Int.eq_ofNat_of_zero_le HOK.out.2.2.1.1
  have hiq : i ≤ q := by
    have h1 := HOK.out.2.2.1.2
    have h2 := HLM.out
    simp only at h1
    omega
  obtain rfl : n = q := by
    have h1 := HOK.out.2.1
    have h2 := HLM.out
    have h3 := HLC.out
    simp only at h1
    omega
  have HVH := Lib.hid HOK.out.1
  have H3 := Lib.hid (Hps.valid_small HOK.out.1).2.2
  have hn40 : n ≤ 40 := by have h1 := HLC.out; have h2 := (Hps.valid_small HOK.out.1).1; simp only at h2; omega
  have hm40 : m ≤ 4 := by have h1 := HLR.out; have h2 := (Hps.valid_small HOK.out.1).2.1; simp only at h2; omega
  have CALL := Lib.hid (fun (ww : World) (hB : Below w3.heap.size w3 ww) => l7Copy_any A R n c m d h ww (s2.up hB) (by omega) (by omega) (fun cl hcl => Nat.le_trans (H3.out cl hcl) (by omega)))
  have KS := Lib.hid (fun (ww : World) (hB : Below w3.heap.size w3 ww) => k2.up hB)
  have x0 : w3.cell? ⟨p, 0, none⟩ = some (.slice A n c) := q1.cell 0
  have x1 : w3.cell? ⟨p, 1, none⟩ = some (.slice R m d) := q1.cell 1
  have x2 : w3.cell? ⟨p, 2, none⟩ = some (.slice D n ce) := q1.cell 2
  have x3 : w3.cell? ⟨p, 3, none⟩ = some (.int .i64 i) := q1.cell 3
  have hp1 := q2.lt
  have HQ2 := Lib.hid q2
  have HB2 := Lib.hid B2
  clear HBL s2 k2 q1 q2 B2
  go_upto_region 3 with fail
  refine wp_region_inv (by kernel_rfl) (by kernel_rfl) (fun L ac ww => ∃ t4 t13 t14 t15 t16 t17 t18 t19 t20 t21 t22 : Value, ac = { tmps := #[lzV A n c R m d D n ce ↑i, Value.pointer (some { block := p, off := 0 }), Value.pointer (some { block := p + 1, off := 0 }), Value.int IntKind.i64 0, t4, undef, undef, undef, undef, Value.agg #[Value.slice A n c, Value.slice R m d, Value.slice D n ce, Value.int IntKind.i64 ↑i], Value.bool true, Value.bool false, undef, t13, t14, t15, t16, t17, t18, t19, t20, t21, t22, undef, undef, undef, undef, undef, undef, undef, undef, undef, undef, undef, undef, undef, undef, undef, undef, undef, undef, undef, undef, undef, undef, undef, undef, undef, undef, undef, undef, undef, undef, undef, undef, undef, undef, undef, undef, undef, undef, undef, undef, undef, undef, undef, undef, undef, undef, undef, undef, undef, undef, undef, undef, undef, undef, undef, undef, undef, undef, undef, undef, undef, undef, undef, undef, undef, undef, undef, undef, undef, undef, undef, undef, undef, undef, undef, undef, undef, undef, undef, undef, undef, undef, undef, undef, undef, undef], defers := [] } ∧ (L 11 = false → Below w3.heap.size w3 ww) ∧ (L 6 = true → L 2 = true) ∧ (L 6 = true → L 3 = true) ∧ (L 9 = true → L 6 = true) ∧ (L 11 = true → L 9 = true) ∧ (L 2 = true → L 1 = true) ∧ (L 6 = true → L 5 = true) ∧ (L 5 = true → L 4 = true) ∧ (L 1 = true → L 0 = true) ∧ (L 9 = true → L 8 = true) ∧ (L 8 = true → L 7 = true) ∧ (L 11 = true → L 10 = true) ∧ (L 0 = true → t13 = .pointer (some ⟨p, 0, none⟩)) ∧ (L 1 = true → t14 = .agg #[.slice A n c, .slice R m d]) ∧ (L 2 = true → ∃ (A5 : Option Addr) (n5 c5 : Nat) (R5 : Option Addr) (m5 d5 : Nat), t15 = .agg #[.slice A5 n5 c5, .slice R5 m5 d5] ∧ (L 6 = false → (L 3 = false → OwnH ww w3.heap.size (.slice A5 n5 c5) (.slice R5 m5 d5) h) ∧ (L 3 = true → OwnLz ww w3.heap.size (.slice A5 n5 c5) (.slice R5 m5 d5) t16 h []))) ∧ (L 3 = true → ∃ gs, t16 = .slice (some ⟨gs, 0, none⟩) 0 0 ∧ (L 6 = false → OwnO ww w3.heap.size t16 [])) ∧ (L 4 = true → t17 = .pointer (some ⟨p, 2, none⟩)) ∧ (L 5 = true → t18 = .slice D n ce) ∧ (L 6 = true → ∃ (A5 : Option Addr) (n5 c5 : Nat) (R5 : Option Addr) (m5 d5 : Nat) (A9 : Option Addr) (c9 : Nat), t15 = .agg #[.slice A5 n5 c5, .slice R5 m5 d5] ∧ t19 = .slice A9 n c9 ∧ (L 11 = false → OwnLz ww w3.heap.size (.slice A5 n5 c5) (.slice R5 m5 d5) (.slice A9 n c9) h ms)) ∧ (L 7 = true → t20 = .pointer (some ⟨p, 3, none⟩)) ∧ (L 8 = true → t21 = .int .i64 i) ∧ (L 9 = true → ∃ (A5 : Option Addr) (n5 c5 : Nat) (R5 : Option Addr) (m5 d5 : Nat) (A9 : Option Addr) (c9 : Nat), t15 = .agg #[.slice A5 n5 c5, .slice R5 m5 d5] ∧ t19 = .slice A9 n c9 ∧ t22 = .agg #[.slice A5 n5 c5, .slice R5 m5 d5, .slice A9 n c9, .int .i64 i]) ∧ (L 10 = true → ∃ gb : Nat, t4 = .pointer (some ⟨gb, 0, none⟩) ∧ w3.heap.size ≤ gb ∧ (L 11 = false → Rw ww gb 30 #[.slice none 0 0, .slice none 0 0, .slice none 0 0, .int .i64 0])) ∧ (L 11 = true → ∃ (A5 : Option Addr) (n5 c5 : Nat) (R5 : Option Addr) (m5 d5 : Nat) (A9 : Option Addr) (c9 gb : Nat) (w1 : World), t4 = .pointer (some ⟨gb, 0, none⟩) ∧ w3.heap.size ≤ gb ∧ ww = ((((w1.setCell ⟨gb, 0, none⟩ (.slice A5 n5 c5)).setCell ⟨gb, 1, none⟩ (.slice R5 m5 d5)).setCell ⟨gb, 2, none⟩ (.slice A9 n c9)).setCell ⟨gb, 3, none⟩ (.int .i64 i)) ∧ Rw w1 gb 30 #[.slice none 0 0, .slice none 0 0, .slice none 0 0, .int .i64 0] ∧ OwnLz w1 w3.heap.size (.slice A5 n5 c5) (.slice R5 m5 d5) (.slice A9 n c9) h ms ∧ Below w3.heap.size w3 w1)) ?h0 ?hstep ?hdone
  case h0 => exact ⟨_, _, _, _, _, _, _, _, _, _, _, rfl, fun _ => (Below.refl _ _).drew, fun h => absurd h Bool.false_ne_true, fun h => absurd h Bool.false_ne_true, fun h => absurd h Bool.false_ne_true, fun h => absurd h Bool.false_ne_true, fun h => absurd h Bool.false_ne_true, fun h => absurd h Bool.false_ne_true, fun h => absurd h Bool.false_ne_true, fun h => absurd h Bool.false_ne_true, fun h => absurd h Bool.false_ne_true, fun h => absurd h Bool.false_ne_true, fun h => absurd h Bool.false_ne_true, (fun h => absurd h Bool.false_ne_true), (fun h => absurd h Bool.false_ne_true), (fun h => absurd h Bool.false_ne_true), (fun h => absurd h Bool.false_ne_true), (fun h => absurd h Bool.false_ne_true), (fun h => absurd h Bool.false_ne_true), (fun h => absurd h Bool.false_ne_true), (fun h => absurd h Bool.false_ne_true), (fun h => absurd h Bool.false_ne_true), (fun h => absurd h Bool.false_ne_true), (fun h => absurd h Bool.false_ne_true), (fun h => absurd h Bool.false_ne_true)⟩
  case hstep =>
    rintro L ac ww i o ho hL hd ⟨t4, t13, t14, t15, t16, t17, t18, t19, t20, t21, t22, rfl, I0, I1, I2, I3, I4, I5, I6, I7, I8, I9, I10, I11, f0, f1, f2, f3, f4, f5, f6, f7, f8, f9, f10, f11⟩
    have hi : i < 12 := (Array.getElem?_eq_some_iff.1 ho).1
    obtain rfl | rfl | rfl | rfl | rfl | rfl | rfl | rfl | rfl | rfl | rfl | rfl : i = 0 ∨ i = 1 ∨ i = 2 ∨ i = 3 ∨ i = 4 ∨ i = 5 ∨ i = 6 ∨ i = 7 ∨ i = 8 ∨ i = 9 ∨ i = 10 ∨ i = 11 := by omega
    · obtain rfl := Option.some.inj ho
      have h11 : L 11 = false := by
        cases hh : L 11
        · rfl
        · exact absurd (I8 (I5 (I1 (I3 (I4 hh))))) (by rw [hL]; decide)
      have hB := I0 h11
      refine wpOp_step rfl (fun K' hK => ?_)
      go_simp
      refine hK _ _ ?_
      exact ⟨_, _, _, _, _, _, _, _, _, _, _, rfl, (fun h => I0 (by rw [upd_other (by decide)] at h; exact h)), (fun h => upd_mono (I1 (upd_ne h (by decide)))), (fun h => upd_mono (I2 (upd_ne h (by decide)))), (fun h => upd_mono (I3 (upd_ne h (by decide)))), (fun h => upd_mono (I4 (upd_ne h (by decide)))), (fun h => upd_mono (I5 (upd_ne h (by decide)))), (fun h => upd_mono (I6 (upd_ne h (by decide)))), (fun h => upd_mono (I7 (upd_ne h (by decide)))), (fun h => upd_mono (I8 (upd_ne h (by decide)))), (fun h => upd_mono (I9 (upd_ne h (by decide)))), (fun h => upd_mono (I10 (upd_ne h (by decide)))), (fun h => upd_mono (I11 (upd_ne h (by decide)))), (fun _ => rfl), (kp f1), (fun h => by
        obtain ⟨A5, n5, c5, R5, m5, d5, e, oo⟩ := f2 (upd_ne h (by decide))
        exact ⟨A5, n5, c5, R5, m5, d5, e, fun h6 => by
          rw [upd_other (by decide)] at h6
          rw [upd_other (by decide)]
          exact oo h6⟩), (fun h => by
        obtain ⟨gs, e, oo⟩ := f3 (upd_ne h (by decide))
        exact ⟨gs, e, fun h6 => by
          rw [upd_other (by decide)] at h6
          exact oo h6⟩), (kp f4), (kp f5), (fun h => by
        obtain ⟨A5, n5, c5, R5, m5, d5, A9, c9, e, e2, oo⟩ := f6 (upd_ne h (by decide))
        exact ⟨A5, n5, c5, R5, m5, d5, A9, c9, e, e2, fun h8 => by
          rw [upd_other (by decide)] at h8
          exact oo h8⟩), (kp f7), (kp f8), (kp f9), (fun h => by
        obtain ⟨gb, e, hgb, r⟩ := f10 (upd_ne h (by decide))
        exact ⟨gb, e, hgb, fun h8 => by
          rw [upd_other (by decide)] at h8
          exact r h8⟩), (fun h => absurd ((upd_ne h (by decide)).symm.trans h11) (by decide))⟩
    · obtain rfl := Option.some.inj ho
      have g0 := f0 (hd ⟨0, .data⟩ (by simp) rfl)
      subst g0
      have h11 : L 11 = false := by
        cases hh : L 11
        · rfl
        · exact absurd (I5 (I1 (I3 (I4 hh)))) (by rw [hL]; decide)
      have hB := I0 h11
      have y0 : ww.cell? ⟨p, 0, none⟩ = some (.slice A n c) := (hB.cell (p := ⟨p, 0, none⟩) (by show p < w3.heap.size; omega)).trans x0
      have y1 : ww.cell? ⟨p, 1, none⟩ = some (.slice R m d) := (hB.cell (p := ⟨p, 1, none⟩) (by show p < w3.heap.size; omega)).trans x1
      refine wpOp_step rfl (fun K' hK => ?_)
      go_simp
      refine hK _ _ ?_
      exact ⟨_, _, _, _, _, _, _, _, _, _, _, rfl, (fun h => I0 (by rw [upd_other (by decide)] at h; exact h)), (fun h => upd_mono (I1 (upd_ne h (by decide)))), (fun h => upd_mono (I2 (upd_ne h (by decide)))), (fun h => upd_mono (I3 (upd_ne h (by decide)))), (fun h => upd_mono (I4 (upd_ne h (by decide)))), (fun h => upd_mono (I5 (upd_ne h (by decide)))), (fun h => upd_mono (I6 (upd_ne h (by decide)))), (fun h => upd_mono (I7 (upd_ne h (by decide)))), (fun _ => upd_mono (hd ⟨0, .data⟩ (by simp) rfl)), (fun h => upd_mono (I9 (upd_ne h (by decide)))), (fun h => upd_mono (I10 (upd_ne h (by decide)))), (fun h => upd_mono (I11 (upd_ne h (by decide)))), (kp f0), (fun _ => rfl), (fun h => by
        obtain ⟨A5, n5, c5, R5, m5, d5, e, oo⟩ := f2 (upd_ne h (by decide))
        exact ⟨A5, n5, c5, R5, m5, d5, e, fun h6 => by
          rw [upd_other (by decide)] at h6
          rw [upd_other (by decide)]
          exact oo h6⟩), (fun h => by
        obtain ⟨gs, e, oo⟩ := f3 (upd_ne h (by decide))
        exact ⟨gs, e, fun h6 => by
          rw [upd_other (by decide)] at h6
          exact oo h6⟩), (kp f4), (kp f5), (fun h => by
        obtain ⟨A5, n5, c5, R5, m5, d5, A9, c9, e, e2, oo⟩ := f6 (upd_ne h (by decide))
        exact ⟨A5, n5, c5, R5, m5, d5, A9, c9, e, e2, fun h8 => by
          rw [upd_other (by decide)] at h8
          exact oo h8⟩), (kp f7), (kp f8), (kp f9), (fun h => by
        obtain ⟨gb, e, hgb, r⟩ := f10 (upd_ne h (by decide))
        exact ⟨gb, e, hgb, fun h8 => by
          rw [upd_other (by decide)] at h8
          exact r h8⟩), (fun h => absurd ((upd_ne h (by decide)).symm.trans h11) (by decide))⟩
    · obtain rfl := Option.some.inj ho
      have g1 := f1 (hd ⟨1, .data⟩ (by simp) rfl)
      subst g1
      have h11 : L 11 = false := by
        cases hh : L 11
        · rfl
        · exact absurd (I1 (I3 (I4 hh))) (by rw [hL]; decide)
      have hB := I0 h11
      have h6 : L 6 = false := by
        cases hh : L 6
        · rfl
        · exact absurd (I1 hh) (by rw [hL]; decide)
      refine wpOp_step rfl (fun K' hK => ?_)
      go_simp
      refine (CALL.out ww hB).mono ?_
      rintro e w' ⟨v1, v2, rfl, oh, b5⟩
      obtain ⟨A5, n5, c5, R5, m5, d5, rfl, rfl⟩ := oh.slices
      refine hK _ _ ?_
      exact ⟨_, _, _, _, _, _, _, _, _, _, _, rfl, (fun _ => hB.trans (b5.mono hB.size)), (fun h => upd_mono (I1 (upd_ne h (by decide)))), (fun h => upd_mono (I2 (upd_ne h (by decide)))), (fun h => upd_mono (I3 (upd_ne h (by decide)))), (fun h => upd_mono (I4 (upd_ne h (by decide)))), (fun _ => upd_mono (hd ⟨1, .data⟩ (by simp) rfl)), (fun h => upd_mono (I6 (upd_ne h (by decide)))), (fun h => upd_mono (I7 (upd_ne h (by decide)))), (fun h => upd_mono (I8 (upd_ne h (by decide)))), (fun h => upd_mono (I9 (upd_ne h (by decide)))), (fun h => upd_mono (I10 (upd_ne h (by decide)))), (fun h => upd_mono (I11 (upd_ne h (by decide)))), (kp f0), (kp f1), (fun _ => ⟨A5, n5, c5, R5, m5, d5, rfl, fun _ => ⟨fun _ => oh.base hB.size, fun hl3 => by
        obtain ⟨gs, e, o3⟩ := f3 (by rw [upd_other (by decide)] at hl3; exact hl3)
        exact OwnLz.of2 (o3 h6) hB.size b5 oh⟩⟩), (fun h => by
        obtain ⟨gs, e, oo⟩ := f3 (upd_ne h (by decide))
        exact ⟨gs, e, fun _ => (oo h6).below b5 (Nat.le_refl _)⟩), (kp f4), (kp f5), (fun h => absurd ((upd_ne h (by decide)).symm.trans h6) (by decide)), (kp f7), (kp f8), (fun h => absurd (I3 (upd_ne h (by decide))) (by rw [h6]; decide)), (fun h => by
        obtain ⟨gb, e, hgb, r⟩ := f10 (upd_ne h (by decide))
        have r := r h11
        exact ⟨gb, e, hgb, fun _ => r.keep b5 r.lt⟩), (fun h => absurd ((upd_ne h (by decide)).symm.trans h11) (by decide))⟩
    · obtain rfl := Option.some.inj ho
      have h11 : L 11 = false := by
        cases hh : L 11
        · rfl
        · exact absurd (I2 (I3 (I4 hh))) (by rw [hL]; decide)
      have hB := I0 h11
      have h6 : L 6 = false := by
        cases hh : L 6
        · rfl
        · exact absurd (I2 hh) (by rw [hL]; decide)
      refine wpOp_step rfl (fun K' hK => ?_)
      go_simp
      refine hK _ _ ?_
      exact ⟨_, _, _, _, _, _, _, _, _, _, _, rfl, (fun _ => hB.alloc hB.size _), (fun h => upd_mono (I1 (upd_ne h (by decide)))), (fun h => upd_mono (I2 (upd_ne h (by decide)))), (fun h => upd_mono (I3 (upd_ne h (by decide)))), (fun h => upd_mono (I4 (upd_ne h (by decide)))), (fun h => upd_mono (I5 (upd_ne h (by decide)))), (fun h => upd_mono (I6 (upd_ne h (by decide)))), (fun h => upd_mono (I7 (upd_ne h (by decide)))), (fun h => upd_mono (I8 (upd_ne h (by decide)))), (fun h => upd_mono (I9 (upd_ne h (by decide)))), (fun h => upd_mono (I10 (upd_ne h (by decide)))), (fun h => upd_mono (I11 (upd_ne h (by decide)))), (kp f0), (kp f1), (fun h => by
        obtain ⟨A5, n5, c5, R5, m5, d5, e, oo⟩ := f2 (upd_ne h (by decide))
        exact ⟨A5, n5, c5, R5, m5, d5, e, fun _ => ⟨fun h3 => absurd (upd_self.symm.trans h3) (by decide), fun _ => OwnLz.new ((oo h6).1 hL) hB.size⟩⟩), (fun _ => ⟨_, rfl, fun _ => own_noneO ww w3.heap.size hB.size⟩), (kp f4), (kp f5), (fun h => absurd ((upd_ne h (by decide)).symm.trans h6) (by decide)), (kp f7), (kp f8), (fun h => absurd (I3 (upd_ne h (by decide))) (by rw [h6]; decide)), (fun h => by
        obtain ⟨gb, e, hgb, r⟩ := f10 (upd_ne h (by decide))
        have r := r h11
        exact ⟨gb, e, hgb, fun _ => r.alloc _⟩), (fun h => absurd ((upd_ne h (by decide)).symm.trans h11) (by decide))⟩
    · obtain rfl := Option.some.inj ho
      have h11 : L 11 = false := by
        cases hh : L 11
        · rfl
        · exact absurd (I7 (I6 (I3 (I4 hh)))) (by rw [hL]; decide)
      have hB := I0 h11
      refine wpOp_step rfl (fun K' hK => ?_)
      go_simp
      refine hK _ _ ?_
      exact ⟨_, _, _, _, _, _, _, _, _, _, _, rfl, (fun h => I0 (by rw [upd_other (by decide)] at h; exact h)), (fun h => upd_mono (I1 (upd_ne h (by decide)))), (fun h => upd_mono (I2 (upd_ne h (by decide)))), (fun h => upd_mono (I3 (upd_ne h (by decide)))), (fun h => upd_mono (I4 (upd_ne h (by decide)))), (fun h => upd_mono (I5 (upd_ne h (by decide)))), (fun h => upd_mono (I6 (upd_ne h (by decide)))), (fun h => upd_mono (I7 (upd_ne h (by decide)))), (fun h => upd_mono (I8 (upd_ne h (by decide)))), (fun h => upd_mono (I9 (upd_ne h (by decide)))), (fun h => upd_mono (I10 (upd_ne h (by decide)))), (fun h => upd_mono (I11 (upd_ne h (by decide)))), (kp f0), (kp f1), (fun h => by
        obtain ⟨A5, n5, c5, R5, m5, d5, e, oo⟩ := f2 (upd_ne h (by decide))
        exact ⟨A5, n5, c5, R5, m5, d5, e, fun h6 => by
          rw [upd_other (by decide)] at h6
          rw [upd_other (by decide)]
          exact oo h6⟩), (fun h => by
        obtain ⟨gs, e, oo⟩ := f3 (upd_ne h (by decide))
        exact ⟨gs, e, fun h6 => by
          rw [upd_other (by decide)] at h6
          exact oo h6⟩), (fun _ => rfl), (kp f5), (fun h => by
        obtain ⟨A5, n5, c5, R5, m5, d5, A9, c9, e, e2, oo⟩ := f6 (upd_ne h (by decide))
        exact ⟨A5, n5, c5, R5, m5, d5, A9, c9, e, e2, fun h8 => by
          rw [upd_other (by decide)] at h8
          exact oo h8⟩), (kp f7), (kp f8), (kp f9), (fun h => by
        obtain ⟨gb, e, hgb, r⟩ := f10 (upd_ne h (by decide))
        exact ⟨gb, e, hgb, fun h8 => by
          rw [upd_other (by decide)] at h8
          exact r h8⟩), (fun h => absurd ((upd_ne h (by decide)).symm.trans h11) (by decide))⟩
    · obtain rfl := Option.some.inj ho
      have g4 := f4 (hd ⟨4, .data⟩ (by simp) rfl)
      subst g4
      have h11 : L 11 = false := by
        cases hh : L 11
        · rfl
        · exact absurd (I6 (I3 (I4 hh))) (by rw [hL]; decide)
      have hB := I0 h11
      have y2 : ww.cell? ⟨p, 2, none⟩ = some (.slice D n ce) := (hB.cell (p := ⟨p, 2, none⟩) (by show p < w3.heap.size; omega)).trans x2
      refine wpOp_step rfl (fun K' hK => ?_)
      go_simp
      refine hK _ _ ?_
      exact ⟨_, _, _, _, _, _, _, _, _, _, _, rfl, (fun h => I0 (by rw [upd_other (by decide)] at h; exact h)), (fun h => upd_mono (I1 (upd_ne h (by decide)))), (fun h => upd_mono (I2 (upd_ne h (by decide)))), (fun h => upd_mono (I3 (upd_ne h (by decide)))), (fun h => upd_mono (I4 (upd_ne h (by decide)))), (fun h => upd_mono (I5 (upd_ne h (by decide)))), (fun h => upd_mono (I6 (upd_ne h (by decide)))), (fun _ => upd_mono (hd ⟨4, .data⟩ (by simp) rfl)), (fun h => upd_mono (I8 (upd_ne h (by decide)))), (fun h => upd_mono (I9 (upd_ne h (by decide)))), (fun h => upd_mono (I10 (upd_ne h (by decide)))), (fun h => upd_mono (I11 (upd_ne h (by decide)))), (kp f0), (kp f1), (fun h => by
        obtain ⟨A5, n5, c5, R5, m5, d5, e, oo⟩ := f2 (upd_ne h (by decide))
        exact ⟨A5, n5, c5, R5, m5, d5, e, fun h6 => by
          rw [upd_other (by decide)] at h6
          rw [upd_other (by decide)]
          exact oo h6⟩), (fun h => by
        obtain ⟨gs, e, oo⟩ := f3 (upd_ne h (by decide))
        exact ⟨gs, e, fun h6 => by
          rw [upd_other (by decide)] at h6
          exact oo h6⟩), (kp f4), (fun _ => rfl), (fun h => by
        obtain ⟨A5, n5, c5, R5, m5, d5, A9, c9, e, e2, oo⟩ := f6 (upd_ne h (by decide))
        exact ⟨A5, n5, c5, R5, m5, d5, A9, c9, e, e2, fun h8 => by
          rw [upd_other (by decide)] at h8
          exact oo h8⟩), (kp f7), (kp f8), (kp f9), (fun h => by
        obtain ⟨gb, e, hgb, r⟩ := f10 (upd_ne h (by decide))
        exact ⟨gb, e, hgb, fun h8 => by
          rw [upd_other (by decide)] at h8
          exact r h8⟩), (fun h => absurd ((upd_ne h (by decide)).symm.trans h11) (by decide))⟩
    · obtain rfl := Option.some.inj ho
      have g3 := f3 (hd ⟨3, .data⟩ (by simp) rfl)
      have g5 := f5 (hd ⟨5, .data⟩ (by simp) rfl)
      subst g5
      have h11 : L 11 = false := by
        cases hh : L 11
        · rfl
        · exact absurd (I3 (I4 hh)) (by rw [hL]; decide)
      have hB := I0 h11
      have h3 := hd ⟨3, .data⟩ (by simp) rfl
      have h2 := hd ⟨2, .chain⟩ (by simp) rfl
      obtain ⟨gs, e3, o3⟩ := g3
      subst e3
      obtain ⟨A5, n5, c5, R5, m5, d5, rfl, o2⟩ := f2 h2
      have oc := (o2 hL).2 h3
      have o3i := o3 hL
      refine wpOp_step rfl (fun K' hK => ?_)
      refine app_stepO rfl (.tmp 16) (.tmp 18) rfl w3.heap.size _ [] rfl o3i D n ce ww.heap.size ms rfl (KS.out ww hB) (by simp <;> omega) hB.size ?_
      intro v' w' o1 g1 s1
      rw [List.nil_append] at o1
      have hrow := fun kk hk => (World.ownsRow.lt o3i kk hk).1
      have hB2 := hB.grown g1 hB.size hrow
      have oc2 := oc.app o1 g1 s1
      obtain ⟨A9, c9, e9, x9⟩ := o1.form
      rw [HLM.out] at e9
      subst e9
      refine hK _ _ ?_
      exact ⟨_, _, _, _, _, _, _, _, _, _, _, rfl, (fun _ => hB2), (fun _ => upd_mono (hd ⟨2, .chain⟩ (by simp) rfl)), (fun _ => upd_mono (hd ⟨3, .data⟩ (by simp) rfl)), (fun h => upd_mono (I3 (upd_ne h (by decide)))), (fun h => upd_mono (I4 (upd_ne h (by decide)))), (fun h => upd_mono (I5 (upd_ne h (by decide)))), (fun _ => upd_mono (hd ⟨5, .data⟩ (by simp) rfl)), (fun h => upd_mono (I7 (upd_ne h (by decide)))), (fun h => upd_mono (I8 (upd_ne h (by decide)))), (fun h => upd_mono (I9 (upd_ne h (by decide)))), (fun h => upd_mono (I10 (upd_ne h (by decide)))), (fun h => upd_mono (I11 (upd_ne h (by decide)))), (kp f0), (kp f1), (fun _ => ⟨_, _, _, _, _, _, rfl, fun h6 => absurd (upd_self.symm.trans h6) (by decide)⟩), (fun _ => ⟨gs, rfl, fun h6 => absurd (upd_self.symm.trans h6) (by decide)⟩), (kp f4), (kp f5), (fun _ => ⟨_, _, _, _, _, _, A9, c9, rfl, rfl, fun _ => oc2⟩), (kp f7), (kp f8), (fun h => absurd (I3 (upd_ne h (by decide))) (by rw [hL]; decide)), (fun h => by
        obtain ⟨gb, e, hgb, r⟩ := f10 (upd_ne h (by decide))
        have r := r h11
        exact ⟨gb, e, hgb, fun _ => r.far g1 (fun e => row_type o3i r (by decide) e)⟩), (fun h => absurd ((upd_ne h (by decide)).symm.trans h11) (by decide))⟩
    · obtain rfl := Option.some.inj ho
      have h11 : L 11 = false := by
        cases hh : L 11
        · rfl
        · exact absurd (I10 (I9 (I4 hh))) (by rw [hL]; decide)
      have hB := I0 h11
      refine wpOp_step rfl (fun K' hK => ?_)
      go_simp
      refine hK _ _ ?_
      exact ⟨_, _, _, _, _, _, _, _, _, _, _, rfl, (fun h => I0 (by rw [upd_other (by decide)] at h; exact h)), (fun h => upd_mono (I1 (upd_ne h (by decide)))), (fun h => upd_mono (I2 (upd_ne h (by decide)))), (fun h => upd_mono (I3 (upd_ne h (by decide)))), (fun h => upd_mono (I4 (upd_ne h (by decide)))), (fun h => upd_mono (I5 (upd_ne h (by decide)))), (fun h => upd_mono (I6 (upd_ne h (by decide)))), (fun h => upd_mono (I7 (upd_ne h (by decide)))), (fun h => upd_mono (I8 (upd_ne h (by decide)))), (fun h => upd_mono (I9 (upd_ne h (by decide)))), (fun h => upd_mono (I10 (upd_ne h (by decide)))), (fun h => upd_mono (I11 (upd_ne h (by decide)))), (kp f0), (kp f1), (fun h => by
        obtain ⟨A5, n5, c5, R5, m5, d5, e, oo⟩ := f2 (upd_ne h (by decide))
        exact ⟨A5, n5, c5, R5, m5, d5, e, fun h6 => by
          rw [upd_other (by decide)] at h6
          rw [upd_other (by decide)]
          exact oo h6⟩), (fun h => by
        obtain ⟨gs, e, oo⟩ := f3 (upd_ne h (by decide))
        exact ⟨gs, e, fun h6 => by
          rw [upd_other (by decide)] at h6
          exact oo h6⟩), (kp f4), (kp f5), (fun h => by
        obtain ⟨A5, n5, c5, R5, m5, d5, A9, c9, e, e2, oo⟩ := f6 (upd_ne h (by decide))
        exact ⟨A5, n5, c5, R5, m5, d5, A9, c9, e, e2, fun h8 => by
          rw [upd_other (by decide)] at h8
          exact oo h8⟩), (fun _ => rfl), (kp f8), (kp f9), (fun h => by
        obtain ⟨gb, e, hgb, r⟩ := f10 (upd_ne h (by decide))
        exact ⟨gb, e, hgb, fun h8 => by
          rw [upd_other (by decide)] at h8
          exact r h8⟩), (fun h => absurd ((upd_ne h (by decide)).symm.trans h11) (by decide))⟩
    · obtain rfl := Option.some.inj ho
      have g7 := f7 (hd ⟨7, .data⟩ (by simp) rfl)
      subst g7
      have h11 : L 11 = false := by
        cases hh : L 11
        · rfl
        · exact absurd (I9 (I4 hh)) (by rw [hL]; decide)
      have hB := I0 h11
      have y3 : ww.cell? ⟨p, 3, none⟩ = some (.int .i64 i) := (hB.cell (p := ⟨p, 3, none⟩) (by show p < w3.heap.size; omega)).trans x3
      refine wpOp_step rfl (fun K' hK => ?_)
      go_simp
      refine hK _ _ ?_
      exact ⟨_, _, _, _, _, _, _, _, _, _, _, rfl, (fun h => I0 (by rw [upd_other (by decide)] at h; exact h)), (fun h => upd_mono (I1 (upd_ne h (by decide)))), (fun h => upd_mono (I2 (upd_ne h (by decide)))), (fun h => upd_mono (I3 (upd_ne h (by decide)))), (fun h => upd_mono (I4 (upd_ne h (by decide)))), (fun h => upd_mono (I5 (upd_ne h (by decide)))), (fun h => upd_mono (I6 (upd_ne h (by decide)))), (fun h => upd_mono (I7 (upd_ne h (by decide)))), (fun h => upd_mono (I8 (upd_ne h (by decide)))), (fun h => upd_mono (I9 (upd_ne h (by decide)))), (fun _ => upd_mono (hd ⟨7, .data⟩ (by simp) rfl)), (fun h => upd_mono (I11 (upd_ne h (by decide)))), (kp f0), (kp f1), (fun h => by
        obtain ⟨A5, n5, c5, R5, m5, d5, e, oo⟩ := f2 (upd_ne h (by decide))
        exact ⟨A5, n5, c5, R5, m5, d5, e, fun h6 => by
          rw [upd_other (by decide)] at h6
          rw [upd_other (by decide)]
          exact oo h6⟩), (fun h => by
        obtain ⟨gs, e, oo⟩ := f3 (upd_ne h (by decide))
        exact ⟨gs, e, fun h6 => by
          rw [upd_other (by decide)] at h6
          exact oo h6⟩), (kp f4), (kp f5), (fun h => by
        obtain ⟨A5, n5, c5, R5, m5, d5, A9, c9, e, e2, oo⟩ := f6 (upd_ne h (by decide))
        exact ⟨A5, n5, c5, R5, m5, d5, A9, c9, e, e2, fun h8 => by
          rw [upd_other (by decide)] at h8
          exact oo h8⟩), (kp f7), (fun _ => rfl), (kp f9), (fun h => by
        obtain ⟨gb, e, hgb, r⟩ := f10 (upd_ne h (by decide))
        exact ⟨gb, e, hgb, fun h8 => by
          rw [upd_other (by decide)] at h8
          exact r h8⟩), (fun h => absurd ((upd_ne h (by decide)).symm.trans h11) (by decide))⟩
    · obtain rfl := Option.some.inj ho
      have g2 := f2 (hd ⟨2, .data⟩ (by simp) rfl)
      have g6 := f6 (hd ⟨6, .data⟩ (by simp) rfl)
      have g8 := f8 (hd ⟨8, .data⟩ (by simp) rfl)
      subst g8
      have h11 : L 11 = false := by
        cases hh : L 11
        · rfl
        · exact absurd (I4 hh) (by rw [hL]; decide)
      have hB := I0 h11
      obtain ⟨A5, n5, c5, R5, m5, d5, A9, c9, rfl, rfl, o6⟩ := g6
      refine wpOp_step rfl (fun K' hK => ?_)
      go_simp
      refine hK _ _ ?_
      exact ⟨_, _, _, _, _, _, _, _, _, _, _, rfl, (fun h => I0 (by rw [upd_other (by decide)] at h; exact h)), (fun h => upd_mono (I1 (upd_ne h (by decide)))), (fun h => upd_mono (I2 (upd_ne h (by decide)))), (fun _ => upd_mono (hd ⟨6, .data⟩ (by simp) rfl)), (fun h => upd_mono (I4 (upd_ne h (by decide)))), (fun h => upd_mono (I5 (upd_ne h (by decide)))), (fun h => upd_mono (I6 (upd_ne h (by decide)))), (fun h => upd_mono (I7 (upd_ne h (by decide)))), (fun h => upd_mono (I8 (upd_ne h (by decide)))), (fun _ => upd_mono (hd ⟨8, .data⟩ (by simp) rfl)), (fun h => upd_mono (I10 (upd_ne h (by decide)))), (fun h => upd_mono (I11 (upd_ne h (by decide)))), (kp f0), (kp f1), (fun h => by
        obtain ⟨A5, n5, c5, R5, m5, d5, e, oo⟩ := f2 (upd_ne h (by decide))
        exact ⟨A5, n5, c5, R5, m5, d5, e, fun h6 => by
          rw [upd_other (by decide)] at h6
          rw [upd_other (by decide)]
          exact oo h6⟩), (fun h => by
        obtain ⟨gs, e, oo⟩ := f3 (upd_ne h (by decide))
        exact ⟨gs, e, fun h6 => by
          rw [upd_other (by decide)] at h6
          exact oo h6⟩), (kp f4), (kp f5), (fun _ => ⟨_, _, _, _, _, _, A9, c9, rfl, rfl, fun h8 => by
          rw [upd_other (by decide)] at h8
          exact o6 h8⟩), (kp f7), (kp f8), (fun _ => ⟨_, _, _, _, _, _, _, _, rfl, rfl, rfl⟩), (fun h => by
        obtain ⟨gb, e, hgb, r⟩ := f10 (upd_ne h (by decide))
        exact ⟨gb, e, hgb, fun h8 => by
          rw [upd_other (by decide)] at h8
          exact r h8⟩), (fun h => absurd ((upd_ne h (by decide)).symm.trans h11) (by decide))⟩
    · obtain rfl := Option.some.inj ho
      have h11 : L 11 = false := by
        cases hh : L 11
        · rfl
        · exact absurd (I11 hh) (by rw [hL]; decide)
      have hB := I0 h11
      refine wpOp_step rfl (fun K' hK => ?_)
      go_simp
      refine hK _ _ ?_
      exact ⟨_, _, _, _, _, _, _, _, _, _, _, rfl, (fun _ => hB.alloc hB.size _), (fun h => upd_mono (I1 (upd_ne h (by decide)))), (fun h => upd_mono (I2 (upd_ne h (by decide)))), (fun h => upd_mono (I3 (upd_ne h (by decide)))), (fun h => upd_mono (I4 (upd_ne h (by decide)))), (fun h => upd_mono (I5 (upd_ne h (by decide)))), (fun h => upd_mono (I6 (upd_ne h (by decide)))), (fun h => upd_mono (I7 (upd_ne h (by decide)))), (fun h => upd_mono (I8 (upd_ne h (by decide)))), (fun h => upd_mono (I9 (upd_ne h (by decide)))), (fun h => upd_mono (I10 (upd_ne h (by decide)))), (fun h => upd_mono (I11 (upd_ne h (by decide)))), (kp f0), (kp f1), (fun h => by
        obtain ⟨A5, n5, c5, R5, m5, d5, e, oo⟩ := f2 (upd_ne h (by decide))
        exact ⟨A5, n5, c5, R5, m5, d5, e, fun h6 => by
          rw [upd_other (by decide)] at h6
          rw [upd_other (by decide)]
          exact ⟨fun h3 => ((oo h6).1 h3).below ((Below.refl ww.heap.size ww).alloc (Nat.le_refl _) _) (Nat.le_refl _), fun h3 => ((oo h6).2 h3).below ((Below.refl ww.heap.size ww).alloc (Nat.le_refl _) _) (Nat.le_refl _)⟩⟩), (fun h => by
        obtain ⟨gs, e, oo⟩ := f3 (upd_ne h (by decide))
        exact ⟨gs, e, fun h6 => by
          rw [upd_other (by decide)] at h6
          exact (oo h6).below ((Below.refl ww.heap.size ww).alloc (Nat.le_refl _) _) (Nat.le_refl _)⟩), (kp f4), (kp f5), (fun h => by
        obtain ⟨A5, n5, c5, R5, m5, d5, A9, c9, e, e2, oo⟩ := f6 (upd_ne h (by decide))
        exact ⟨A5, n5, c5, R5, m5, d5, A9, c9, e, e2, fun h8 => by
          rw [upd_other (by decide)] at h8
          exact (oo h8).below ((Below.refl ww.heap.size ww).alloc (Nat.le_refl _) _) (Nat.le_refl _)⟩), (kp f7), (kp f8), (kp f9), (fun _ => ⟨_, rfl, hB.size, fun _ => Rw.new _ _ _⟩), (fun h => absurd ((upd_ne h (by decide)).symm.trans h11) (by decide))⟩
    · obtain rfl := Option.some.inj ho
      have g9 := f9 (hd ⟨9, .data⟩ (by simp) rfl)
      have g10 := f10 (hd ⟨10, .data⟩ (by simp) rfl)
      have H9 := Lib.hid (hd ⟨9, .data⟩ (by simp) rfl)
      have H10 := Lib.hid (hd ⟨10, .data⟩ (by simp) rfl)
      have H6 := Lib.hid (I3 H9.out)
      obtain ⟨A5, n5, c5, R5, m5, d5, A9, c9, e9a, e9b, e9c⟩ := g9
      subst e9a
      subst e9b
      subst e9c
      obtain ⟨A6, n6, c6, R6, m6, d6, A8, c8, e6, e7, o6⟩ := f6 H6.out
      simp at e6 e7
      obtain ⟨⟨rfl, rfl, rfl⟩, rfl, rfl, rfl⟩ := e6
      obtain ⟨rfl, rfl⟩ := e7
      have oc := o6 hL
      have hB := I0 hL
      obtain ⟨gb, eb, hgb, r⟩ := g10
      subst eb
      have r := r hL
      have u0 : ww.cell? ⟨gb, 0, none⟩ = some (.slice none 0 0) := r.cell 0
      have v0 : ww.frozen? ⟨gb, 0, none⟩ = false := r.frozen 0
      have u1 : ww.cell? ⟨gb, 1, none⟩ = some (.slice none 0 0) := r.cell 1
      have v1 : ww.frozen? ⟨gb, 1, none⟩ = false := r.frozen 1
      have u2 : ww.cell? ⟨gb, 2, none⟩ = some (.slice none 0 0) := r.cell 2
      have v2 : ww.frozen? ⟨gb, 2, none⟩ = false := r.frozen 2
      have u3 : ww.cell? ⟨gb, 3, none⟩ = some (.int .i64 0) := r.cell 3
      have v3 : ww.frozen? ⟨gb, 3, none⟩ = false := r.frozen 3
      refine wpOp_step rfl (fun K' hK => ?_)
      go_simp
      refine hK _ _ ?_
      exact ⟨_, _, _, _, _, _, _, _, _, _, _, rfl, (fun h => absurd (upd_self.symm.trans h) (by decide)), (fun h => upd_mono (I1 (upd_ne h (by decide)))), (fun h => upd_mono (I2 (upd_ne h (by decide)))), (fun h => upd_mono (I3 (upd_ne h (by decide)))), (fun _ => upd_mono H9.out), (fun h => upd_mono (I5 (upd_ne h (by decide)))), (fun h => upd_mono (I6 (upd_ne h (by decide)))), (fun h => upd_mono (I7 (upd_ne h (by decide)))), (fun h => upd_mono (I8 (upd_ne h (by decide)))), (fun h => upd_mono (I9 (upd_ne h (by decide)))), (fun h => upd_mono (I10 (upd_ne h (by decide)))), (fun _ => upd_mono H10.out), (kp f0), (kp f1), (fun h => ⟨_, _, _, _, _, _, rfl, fun hh => absurd (H6.out.symm.trans ((upd_other (by decide)).symm.trans hh)) (by decide)⟩), (fun h => by
        obtain ⟨gs, e, oo⟩ := f3 (upd_ne h (by decide))
        exact ⟨gs, e, fun hh => absurd (H6.out.symm.trans ((upd_other (by decide)).symm.trans hh)) (by decide)⟩), (kp f4), (kp f5), (fun _ => ⟨_, _, _, _, _, _, _, _, rfl, rfl, fun hh => absurd (upd_self.symm.trans hh) (by decide)⟩), (kp f7), (kp f8), (kp f9), (fun _ => ⟨gb, rfl, hgb, fun hh => absurd (upd_self.symm.trans hh) (by decide)⟩), (fun _ => ⟨_, _, _, _, _, _, _, _, _, ww, rfl, hgb, rfl, r, oc, hB⟩)⟩
  case hdone =>
    rintro L ac ww hall ⟨t4, t13, t14, t15, t16, t17, t18, t19, t20, t21, t22, rfl, I0, I1, I2, I3, I4, I5, I6, I7, I8, I9, I10, I11, f0, f1, f2, f3, f4, f5, f6, f7, f8, f9, f10, f11⟩
    have e0 := f0 (hall 0 (by decide))
    have e1 := f1 (hall 1 (by decide))
    have e2 := f2 (hall 2 (by decide))
    have e3 := f3 (hall 3 (by decide))
    have e4 := f4 (hall 4 (by decide))
    have e5 := f5 (hall 5 (by decide))
    have e6 := f6 (hall 6 (by decide))
    have e7 := f7 (hall 7 (by decide))
    have e8 := f8 (hall 8 (by decide))
    have e9 := f9 (hall 9 (by decide))
    have e10 := f10 (hall 10 (by decide))
    have e11 := f11 (hall 11 (by decide))
    clear f0 f1 f2 f3 f4 f5 f6 f7 f8 f9 f10 f11
    obtain ⟨A5, n5, c5, R5, m5, d5, A9, c9, gb, w1, rfl, hgb, rfl, hr, oc, hB⟩ := e11
    obtain ⟨rv0, ox⟩ := oc
    have ap := ox.apart_lazy hr
    have S0 : BoxL w3 ((((w1.setCell ⟨gb, 0, none⟩ (.slice A5 n5 c5)).setCell ⟨gb, 1, none⟩ (.slice R5 m5 d5)).setCell ⟨gb, 2, none⟩ (.slice A9 n c9)).setCell ⟨gb, 3, none⟩ (.int .i64 i)) gb (.slice A5 n5 c5) (.slice R5 m5 d5) (.slice A9 n c9) rv0 h ms (i : Int) := by
      have P4 := (((hr.put 0 (.slice A5 n5 c5)).put 1 (.slice R5 m5 d5)).put 2 (.slice A9 n c9)).put 3 (.int .i64 i)
      exact ⟨(((ox.put ap 0 _).put ap 1 _).put ap 2 _).put ap 3 _, ap, by simpa using P4, (((hB.setCell (p := ⟨gb, 0, none⟩) hgb _).setCell (p := ⟨gb, 1, none⟩) hgb _).setCell (p := ⟨gb, 2, none⟩) hgb _).setCell (p := ⟨gb, 3, none⟩) hgb _, hgb⟩
    obtain ⟨_, _, _, _, ee1, ee2, -⟩ := ox.heap.form
    have hn5 : n5 = n := by
      injection ee1 with _ e _
      rw [e]
      exact HLC.out
    clear e0 e1 e2 e3 e4 e5 e6 e7 e8 e9 e10 I0 I1 I2 I3 I4 I5 I6 I7 I8 I9 I10 I11 hall ox ap hr hB ee1 ee2 x0 x1 x2 x3
    subst hn5
    generalize ((((w1.setCell ⟨gb, 0, none⟩ (.slice A5 n5 c5)).setCell ⟨gb, 1, none⟩ (.slice R5 m5 d5)).setCell ⟨gb, 2, none⟩ (.slice A9 n5 c9)).setCell ⟨gb, 3, none⟩ (.int .i64 i)) = w4 at S0 ⊢
    clear w1
    have hp5 : p + 1 < w3.heap.size := hp1
    obtain ⟨VC, hVC⟩ : ∃ V : Value, V = .slice A5 n5 c5 := ⟨_, rfl⟩
    clear VC hVC
    go_wp2_with fail
    go_loopw [5] (fun _ wr => ∃ (k : Nat) (rvs : List Value), i ≤ k ∧ k ≤ n5 ∧ Hid (Hps.unAt ms i = Hps.unAt ms k) ∧ BoxL w3 wr gb (.slice A5 n5 c5) (.slice R5 m5 d5) (.slice A9 n5 c9) rvs h ms (k : Int)) (fun _ wr => n5 - atW wr gb)
    case atStart => exact ⟨i, rv0, Nat.le_refl _, hiq, Lib.hid rfl, S0⟩
    case round =>
      clear S0 rv0
      obtain ⟨k, rvs, hik, hkq, HU, S⟩ := hrel
      have HAT := Lib.hid S.at_
      have x0 : wr.cell? ⟨gb, 0, none⟩ = some (.slice A5 n5 c5) := S.box.cell 0
      have x1 : wr.cell? ⟨gb, 1, none⟩ = some (.slice R5 m5 d5) := S.box.cell 1
      have x2 : wr.cell? ⟨gb, 2, none⟩ = some (.slice A9 n5 c9) := S.box.cell 2
      have x3 : wr.cell? ⟨gb, 3, none⟩ = some (.int .i64 k) := S.box.cell 3
      by_cases hlt : k < n5
      · have hlt' : (k : Int) < n5 := by omega
        have fz3 : wr.frozen? ⟨gb, 3, none⟩ = false := S.box.frozen 3
        have S1 := S.move ((k : Int) + 1)
        clear S
        go_upto_region 7 with fail
        generalize wr.setCell ⟨gb, 3, none⟩ (.int .i64 ((k : Int) + 1)) = w5 at S1 ⊢
        obtain ⟨gm, om, mb, e6, -, hmb, d6⟩ := S1.own.mks.reads.at_ hlt
        obtain ⟨g0, hA9, -, -⟩ : ∃ g, A9 = some ⟨g, 0, none⟩ ∧ w3.heap.size ≤ g ∧ g < w5.heap.size := by
          obtain ⟨_, _, ee, ff⟩ := S1.own.mks.form
          injection ee with ea eb ec
          rw [ea]
          exact ff (by omega)
        subst hA9
        injection e6 with e6
        injection e6 with e6 e7
        subst e6 e7
        rw [Nat.zero_add] at d6
        clear x0 x1 x2 x3 fz3
        have x2 : w5.cell? ⟨gb, 2, none⟩ = some (.slice (some ⟨g0, 0, none⟩) n5 c9) := S1.box.cell 2
        cases mb
        case true =>
          have HU2 := Lib.hid (HU.out.trans (Hps.unAt_set hmb))
          clear hmb HU
          go_wp2_with fail
          go_roundw
          case rel => exact ⟨k + 1, rvs, by omega, by omega, HU2, by simpa using S1⟩
          case measure =>
            have h1 : atW w5 gb = k + 1 := (show BoxL w3 w5 gb (.slice A5 n5 c5) (.slice R5 m5 d5) (.slice (some ⟨g0, 0, none⟩) n5 c9) rvs h ms ((k + 1 : Nat) : Int) by simpa using S1).at_
            have h2 := HAT.out
            rw [h1, h2]
            omega
        have HMB := Lib.hid hmb
        have HE := Lib.hid (show Hps.takeLz ⟨h, ms, (i : Int)⟩ = (Hps.tookLz ⟨h, ms, (i : Int)⟩ k, (k : Int)) by
          have h1 : Hps.unAt ms ((i : Int).toNat) = k := by
            rw [Int.toNat_natCast, HU.out]
            exact Hps.unAt_un HMB.out
          have h2 := Hps.take_yes (l := ⟨h, ms, (i : Int)⟩) HOK.out (by show Hps.unAt ms ((i : Int).toNat) < ms.length; rw [h1, HLM.out]; exact hlt)
          simp only [h1] at h2
          exact h2)
        have HE1 := Lib.hid (show Hps.tookLz ⟨h, ms, (i : Int)⟩ k = y1 by rw [← HY1.out, HE.out])
        have HE2 := Lib.hid (show (k : Int) = y2 by rw [← HY2.out, HE.out])
        clear hmb HU HE
        obtain ⟨K1, hK1⟩ : ∃ K1 : Int, (k : Int) + 1 = K1 := ⟨_, rfl⟩
        rw [hK1] at S1
        have HK1 := Lib.hid hK1
        clear hK1 hik hkq HAT
        have HRF := Lib.hid (Hps.valid_refs HVH.out)
        go_wp2_with fail
        clear d6 x2
        go_loopw [6] (fun iv wr => ∃ (a : Nat) (rvs : List Value), a ≤ n5 ∧ iv = .int .i64 a ∧ BoxL w3 wr gb (.slice A5 n5 c5) (.slice R5 m5 d5) (.slice (some ⟨g0, 0, none⟩) n5 c9) rvs ⟨Hps.cutIJ ms h.cs a 0, h.rt⟩ ms K1) (fun iv _ => n5 - (intOf iv).toNat)
        case atStart => exact ⟨0, rvs, by omega, rfl, by rw [Hps.cut_start]; exact S1⟩
        case round =>
          clear S1 rvs
          obtain ⟨a, rvs, ha, rfl, S⟩ := hrel
          by_cases hlt2 : a < n5
          · have hlt2' : (a : Int) < n5 := by omega
            have x0 : wr.cell? ⟨gb, 0, none⟩ = some (.slice A5 n5 c5) := S.box.cell 0
            obtain ⟨cl, hcl⟩ : ∃ cl, h.cs[a]? = some cl := ⟨_, List.getElem?_eq_getElem (by rw [HLC.out]; exact hlt2)⟩
            have HCL := Lib.hid hcl
            obtain ⟨len, hlen⟩ : ∃ len, cl.r.length = len := ⟨_, rfl⟩
            have HLEN := Lib.hid hlen
            have hl3 : len ≤ 3 := by
              rw [← hlen]
              exact H3.out cl (List.mem_of_getElem? hcl)
            clear hcl hlen
            go_wp2_with fail
            clear x0
            go_loopw [7] (fun jv wr => ∃ (j : Nat) (rvs : List Value), j ≤ len ∧ jv = .int .i64 j ∧ BoxL w3 wr gb (.slice A5 n5 c5) (.slice R5 m5 d5) (.slice (some ⟨g0, 0, none⟩) n5 c9) rvs ⟨Hps.cutIJ ms h.cs a j, h.rt⟩ ms K1) (fun jv _ => len - (intOf jv).toNat)
            case atStart => exact ⟨0, rvs, by omega, rfl, S⟩
            case round =>
              clear S rvs
              obtain ⟨j, rvs, hj, rfl, S⟩ := hrel
              obtain ⟨c', hc', hl', hr'⟩ := Hps.cut_cell (ms := ms) (j := j) HCL.out
              obtain ⟨gc, v, e4, -, hgc, hv, oi, y0, y1b, y2b, fz⟩ := S.own.heap.cell_at hc'
              subst e4
              obtain ⟨A2, c2, e5, f5⟩ := oi.form
              rw [hl', HLEN.out] at e5 f5
              subst e5
              have x0 : wr.cell? ⟨gb, 0, none⟩ = some (.slice (some ⟨gc, 0, none⟩) n5 c5) := S.box.cell 0
              have x2 : wr.cell? ⟨gb, 2, none⟩ = some (.slice (some ⟨g0, 0, none⟩) n5 c9) := S.box.cell 2
              by_cases hjl : j < len
              · have hjl' : (j : Int) < len := by omega
                obtain ⟨gr, hA2, -, hgr⟩ := f5 (by omega)
                subst hA2
                obtain ⟨_, _, x, e7, -, hx, d7⟩ := oi.reads.at_ (k := j) hjl
                injection e7 with e7
                injection e7 with e7 e8
                subst e7 e8
                rw [Nat.zero_add] at d7
                have hcx := hr' x hx
                obtain ⟨_, _, mi, e9, -, hmi, d8⟩ := S.own.mks.reads.at_ (k := a) hlt2
                injection e9 with e9
                injection e9 with e9 e8
                subst e9 e8
                rw [Nat.zero_add] at d8
                cases mi
                case true =>
                  have HN := Lib.hid (Hps.cut_same (ms := ms) (i := a) (j := j) HCL.out hcx (.inl (by rw [hmi]; simp)))
                  clear hcx hmi hx hc' hr' fz f5 hv oi y0 y1b
                  go_wp2_with fail
                  go_roundw
                  case rel => exact ⟨j + 1, rvs, by omega, by go_num, by rw [HN.out]; exact S⟩
                  case measure => simp [intOf]; omega
                by_cases hx0 : 0 ≤ x
                case neg =>
                  have hxd : decide ((0 : Int) ≤ x) = false := decide_eq_false hx0
                  have HX0 := Lib.hid hx0
                  clear hx0
                  have HN := Lib.hid (Hps.cut_same (ms := ms) (i := a) (j := j) HCL.out hcx (.inr (by rw [Hps.cutR, if_neg (fun e => HX0.out e.1)])))
                  clear hcx hmi hx hc' hr' fz f5 hv oi y0 y1b
                  go_wp2_with fail
                  go_roundw
                  case rel => exact ⟨j + 1, rvs, by omega, by go_num, by rw [HN.out]; exact S⟩
                  case measure => simp [intOf]; omega
                have hok := Hps.okRefs_at (HRF.out cl (List.mem_of_getElem? HCL.out)) hcx
                obtain ⟨y, rfl, hy, _⟩ := Hps.okRef_nat hok hx0
                rw [HLC.out] at hy
                obtain ⟨_, _, my, e10, -, hmy, d9⟩ := S.own.mks.reads.at_ (k := y) hy
                injection e10 with e10
                injection e10 with e10 e8
                subst e10 e8
                rw [Nat.zero_add] at d9
                have hy' : (y : Int) < n5 := by omega
                clear hok hx0
                cases my
                case true =>
                  have HN := Lib.hid (Hps.cut_same (ms := ms) (i := a) (j := j) HCL.out hcx (.inr (by rw [Hps.cutR, if_neg (fun e => by have := e.2; rw [Int.toNat_natCast, hmy] at this; cases this)])))
                  clear hmy hcx hmi hx hc' hr' fz f5 hv oi y0 y1b
                  go_wp2_with fail
                  go_roundw
                  case rel => exact ⟨j + 1, rvs, by omega, by go_num, by rw [HN.out]; exact S⟩
                  case measure => simp [intOf]; omega
                have HN := Lib.hid (Hps.cut_cut HCL.out hcx hmi hmy hc')
                have fzr : wr.frozen? ⟨gr, j, none⟩ = false := by
                  have oi2 := oi
                  rw [← HLEN.out, ← hl'] at oi2
                  exact World.ownsRow.frozenAt oi2 j
                have SN := S.ref1 (i := j) hc' hv (by rw [hl', HLEN.out]) (-1)
                have SN2 := Lib.hid (show BoxL w3 (wr.setCell ⟨gr, j, none⟩ (.int .i64 (-1))) gb (.slice (some ⟨gc, 0, none⟩) n5 c5) (.slice R5 m5 d5) (.slice (some ⟨g0, 0, none⟩) n5 c9) rvs ⟨Hps.cutIJ ms h.cs a (j + 1), h.rt⟩ ms K1 by rw [HN.out]; exact SN)
                clear hmy hcx hmi hx hc' hr' fz f5 hv oi y0 y1b SN S
                go_wp2_with fail
                go_roundw
                case rel => exact ⟨j + 1, rvs, by omega, by go_num, SN2.out⟩
                case measure => simp [intOf]; omega
              · obtain rfl : len = j := by omega
                have HN := Lib.hid (show Hps.cutIJ ms h.cs a len = Hps.cutIJ ms h.cs (a + 1) 0 by rw [← HLEN.out]; exact Hps.cut_next HCL.out)
                clear hc' hr' fz f5 hv oi y0 y1b
                go_wp2_with fail
                go_roundw
                case rel => exact ⟨a + 1, rvs, by omega, by go_num, by rw [← HN.out]; exact S⟩
                case measure => simp [intOf]; omega
          · obtain rfl : n5 = a := by omega
            have HCT := Lib.hid (show Hps.cutIJ ms h.cs n5 0 = Hps.cutL ms h.cs by rw [Hps.cutL, HLC.out])
            rw [HCT.out] at S
            obtain ⟨old, hold⟩ : ∃ old, (Hps.cutL ms h.cs)[k]? = some old := ⟨_, List.getElem?_eq_getElem (by rw [Hps.cutL, Hps.cut_len, HLC.out]; exact hlt)⟩
            obtain ⟨gc, v, e4, -, hgc, hv, oi, y0, y1b, y2b, fz⟩ := S.own.heap.cell_at hold
            subst e4
            have f0 := fz (k * 3)
            have f1 := fz (k * 3 + 1)
            have f2 := fz (k * 3 + 2)
            have S2 := S.took (by rw [Hps.cutL, Hps.cut_len]; exact HLC.out) hold
            have x0 : wr.cell? ⟨gb, 0, none⟩ = some (.slice (some ⟨gc, 0, none⟩) n5 c5) := S.box.cell 0
            clear S hold hv oi fz HCT
            go_upto_region 18 with fail
            generalize ((wr.setCell ⟨gc, k * 3, none⟩ (.bool true)).setCell ⟨gc, k * 3 + 1, none⟩ (.int .i64 0)).setCell ⟨gc, k * 3 + 2, none⟩ (.slice none 0 0) = w6 at S2 ⊢
            clear f0 f1 f2 y0 y1b y2b x0 hgc
            have x2 : w6.cell? ⟨gb, 2, none⟩ = some (.slice (some ⟨g0, 0, none⟩) n5 c9) := S2.box.cell 2
            have fm : w6.frozen? ⟨g0, k, none⟩ = false := S2.own.mks.frozen HLM.out k
            obtain ⟨_, _, mk, e9, -, -, d8⟩ := S2.own.mks.reads.at_ (k := k) hlt
            injection e9 with e9
            injection e9 with e9 e8
            subst e9 e8
            rw [Nat.zero_add] at d8
            have S3 := S2.mark (k := k) HLM.out true
            clear S2
            go_upto_region 19 with fail
            generalize w6.setCell ⟨g0, k, none⟩ (.bool true) = w7 at S3 ⊢
            clear x2 fm d8
            have x0 : w7.cell? ⟨gb, 0, none⟩ = some (.slice (some ⟨gc, 0, none⟩) n5 c5) := S3.box.cell 0
            have x1 : w7.cell? ⟨gb, 1, none⟩ = some (.slice R5 m5 d5) := S3.box.cell 1
            have x2 : w7.cell? ⟨gb, 2, none⟩ = some (.slice (some ⟨g0, 0, none⟩) n5 c9) := S3.box.cell 2
            have x3 : w7.cell? ⟨gb, 3, none⟩ = some (.int .i64 K1) := S3.box.cell 3
            have q4 := HQ2.out.keep S3.low hp5
            have zf0 : w7.frozen? ⟨p + 1, 0, none⟩ = false := q4.frozen 0
            have zf1 : w7.frozen? ⟨p + 1, 1, none⟩ = false := q4.frozen 1
            have zf2 : w7.frozen? ⟨p + 1, 2, none⟩ = false := q4.frozen 2
            have zf3 : w7.frozen? ⟨p + 1, 3, none⟩ = false := q4.frozen 3
            have zc0 : w7.cell? ⟨p + 1, 0, none⟩ = some (.slice none 0 0) := q4.cell 0
            have zc1 : w7.cell? ⟨p + 1, 1, none⟩ = some (.slice none 0 0) := q4.cell 1
            have zc2 : w7.cell? ⟨p + 1, 2, none⟩ = some (.slice none 0 0) := q4.cell 2
            have zc3 : w7.cell? ⟨p + 1, 3, none⟩ = some (.int .i64 0) := q4.cell 3
            have P4 := ((((q4.put 0 (.slice (some ⟨gc, 0, none⟩) n5 c5)).put 1 (.slice R5 m5 d5)).put 2 (.slice (some ⟨g0, 0, none⟩) n5 c9)).put 3 (.int .i64 K1))
            have s8 : ((((w7.setCell ⟨p + 1, 0, none⟩ (.slice (some ⟨gc, 0, none⟩) n5 c5)).setCell ⟨p + 1, 1, none⟩ (.slice R5 m5 d5)).setCell ⟨p + 1, 2, none⟩ (.slice (some ⟨g0, 0, none⟩) n5 c9)).setCell ⟨p + 1, 3, none⟩ (.int .i64 K1)).cell? ⟨p + 1, 0, none⟩ = some (.slice (some ⟨gc, 0, none⟩) n5 c5) := P4.cell 0
            have s9 : ((((w7.setCell ⟨p + 1, 0, none⟩ (.slice (some ⟨gc, 0, none⟩) n5 c5)).setCell ⟨p + 1, 1, none⟩ (.slice R5 m5 d5)).setCell ⟨p + 1, 2, none⟩ (.slice (some ⟨g0, 0, none⟩) n5 c9)).setCell ⟨p + 1, 3, none⟩ (.int .i64 K1)).cell? ⟨p + 1, 1, none⟩ = some (.slice R5 m5 d5) := P4.cell 1
            have s10 : ((((w7.setCell ⟨p + 1, 0, none⟩ (.slice (some ⟨gc, 0, none⟩) n5 c5)).setCell ⟨p + 1, 1, none⟩ (.slice R5 m5 d5)).setCell ⟨p + 1, 2, none⟩ (.slice (some ⟨g0, 0, none⟩) n5 c9)).setCell ⟨p + 1, 3, none⟩ (.int .i64 K1)).cell? ⟨p + 1, 2, none⟩ = some (.slice (some ⟨g0, 0, none⟩) n5 c9) := P4.cell 2
            have s11 : ((((w7.setCell ⟨p + 1, 0, none⟩ (.slice (some ⟨gc, 0, none⟩) n5 c5)).setCell ⟨p + 1, 1, none⟩ (.slice R5 m5 d5)).setCell ⟨p + 1, 2, none⟩ (.slice (some ⟨g0, 0, none⟩) n5 c9)).setCell ⟨p + 1, 3, none⟩ (.int .i64 K1)).cell? ⟨p + 1, 3, none⟩ = some (.int .i64 K1) := P4.cell 3
            clear P4
            have HW := HQ.out
            have D := Lib.hid (OwnLz.out (w := w) (g := p + 1) K1 ⟨_, S3.own⟩ (by omega) (by rw [HW]; exact HB2.out.trans (S3.low.mono (by omega))) (by omega))
            clear S3 q4
            go_wp2_with fail
            obtain rfl := HE1.out
            obtain rfl := HE2.out
            obtain rfl := HK1.out
            exact bodyPost_ret (v := .tuple #[.agg #[.slice (some ⟨gc, 0, none⟩) n5 c5, .slice R5 m5 d5, .slice (some ⟨g0, 0, none⟩) n5 c9, .int .i64 ((k : Int) + 1)], .int .i64 k]) (by simp [results, Try.results25, go_sem, *]) rfl ⟨_, _, _, rfl, D.out.1, D.out.2⟩
      · obtain rfl : n5 = k := by omega
        have HE := Lib.hid (Hps.take_end (l := ⟨h, ms, (i : Int)⟩) HOK.out (by
          show ¬ Hps.unAt ms ((i : Int).toNat) < ms.length
          rw [Int.toNat_natCast, HU.out, HLM.out, Hps.unAt_end (by rw [HLM.out]; exact Nat.le_refl _)]
          omega))
        have HE1 := Lib.hid (show (⟨h, ms, (n5 : Int)⟩ : Lz) = y1 by
          rw [← HY1.out, HE.out]
          show _ = (⟨h, ms, (ms.length : Int)⟩ : Lz)
          rw [HLM.out])
        have HE2 := Lib.hid (show (-1 : Int) = y2 by rw [← HY2.out, HE.out])
        have q4 := HQ2.out.keep S.low hp5
        have zf0 : wr.frozen? ⟨p + 1, 0, none⟩ = false := q4.frozen 0
        have zf1 : wr.frozen? ⟨p + 1, 1, none⟩ = false := q4.frozen 1
        have zf2 : wr.frozen? ⟨p + 1, 2, none⟩ = false := q4.frozen 2
        have zf3 : wr.frozen? ⟨p + 1, 3, none⟩ = false := q4.frozen 3
        have zc0 : wr.cell? ⟨p + 1, 0, none⟩ = some (.slice none 0 0) := q4.cell 0
        have zc1 : wr.cell? ⟨p + 1, 1, none⟩ = some (.slice none 0 0) := q4.cell 1
        have zc2 : wr.cell? ⟨p + 1, 2, none⟩ = some (.slice none 0 0) := q4.cell 2
        have zc3 : wr.cell? ⟨p + 1, 3, none⟩ = some (.int .i64 0) := q4.cell 3
        have P4 := ((((q4.put 0 (.slice A5 n5 c5)).put 1 (.slice R5 m5 d5)).put 2 (.slice A9 n5 c9)).put 3 (.int .i64 n5))
        have s8 : ((((wr.setCell ⟨p + 1, 0, none⟩ (.slice A5 n5 c5)).setCell ⟨p + 1, 1, none⟩ (.slice R5 m5 d5)).setCell ⟨p + 1, 2, none⟩ (.slice A9 n5 c9)).setCell ⟨p + 1, 3, none⟩ (.int .i64 n5)).cell? ⟨p + 1, 0, none⟩ = some (.slice A5 n5 c5) := P4.cell 0
        have s9 : ((((wr.setCell ⟨p + 1, 0, none⟩ (.slice A5 n5 c5)).setCell ⟨p + 1, 1, none⟩ (.slice R5 m5 d5)).setCell ⟨p + 1, 2, none⟩ (.slice A9 n5 c9)).setCell ⟨p + 1, 3, none⟩ (.int .i64 n5)).cell? ⟨p + 1, 1, none⟩ = some (.slice R5 m5 d5) := P4.cell 1
        have s10 : ((((wr.setCell ⟨p + 1, 0, none⟩ (.slice A5 n5 c5)).setCell ⟨p + 1, 1, none⟩ (.slice R5 m5 d5)).setCell ⟨p + 1, 2, none⟩ (.slice A9 n5 c9)).setCell ⟨p + 1, 3, none⟩ (.int .i64 n5)).cell? ⟨p + 1, 2, none⟩ = some (.slice A9 n5 c9) := P4.cell 2
        have s11 : ((((wr.setCell ⟨p + 1, 0, none⟩ (.slice A5 n5 c5)).setCell ⟨p + 1, 1, none⟩ (.slice R5 m5 d5)).setCell ⟨p + 1, 2, none⟩ (.slice A9 n5 c9)).setCell ⟨p + 1, 3, none⟩ (.int .i64 n5)).cell? ⟨p + 1, 3, none⟩ = some (.int .i64 n5) := P4.cell 3
        clear P4
        have HW := HQ.out
        have D := Lib.hid (OwnLz.out (w := w) (g := p + 1) (n5 : Int) ⟨_, S.own⟩ (by omega) (by rw [HW]; exact HB2.out.trans (S.low.mono (by omega))) (by omega))
        clear S q4 HU HE HAT
        go_wp2_with fail
        obtain rfl := HE1.out
        obtain rfl := HE2.out
        exact bodyPost_ret (v := .tuple #[.agg #[.slice A5 n5 c5, .slice R5 m5 d5, .slice A9 n5 c9, .int .i64 n5], .int .i64 (-1)]) (by simp [results, Try.results25, go_sem, *]) rfl ⟨_, _, _, rfl, D.out.1, D.out.2⟩
end Go.Proofs.Ytakdjiojahlnmaa

namespace Go.Proofs.Ytakdjiojahlnmaa
open Go.RowKit
set_option maxRecDepth 100000
set_option maxHeartbeats 4000000 in
theorem mLazyStart_any (A R : Option Addr) (n c m d : Nat) (h : Hp) (w : World) (hs : HS w w.heap.size A n R m h) (hn : n ≤ 1099511627776) (hm : m ≤ 1099511627776) :
    Calls Try.prog 13 #[heapV A n c R m d] w (GaveLz w (Hps.startLz h)) := by
  have B2 : Below w.heap.size w ((w.alloc (.cells #[.slice A n c, .slice R m d] 26)).alloc (.cells #[.slice none 0 0, .slice none 0 0, .slice none 0 0, .int .i64 0] 30)) := ((Below.refl _ _).alloc (Nat.le_refl _) _).alloc (by simp) _
  have q1 := (Rw.new w 26 #[.slice A n c, .slice R m d]).alloc (.cells #[.slice none 0 0, .slice none 0 0, .slice none 0 0, .int .i64 0] 30)
  have q2 := Rw.new (w.alloc (.cells #[.slice A n c, .slice R m d] 26)) 30 #[.slice none 0 0, .slice none 0 0, .slice none 0 0, .int .i64 0]
  simp only [World.size_alloc] at q2
  have s2 := hs.up B2
  have HY := Lib.hid (rfl : Hps.startLz h = Hps.startLz h)
  obtain ⟨y, hy⟩ : ∃ y, Hps.startLz h = y := ⟨_, rfl⟩
  replace HY := Lib.hid hy
  rw [hy]
  have HLC := Lib.hid hs.cells.1
  have HLR := Lib.hid hs.roots.1
  clear hy hs
  go_enter Try.func13, Try.ntmps13
  go_upto_region 1 with fail
  generalize (w.alloc (.cells #[.slice A n c, .slice R m d] 26)).alloc (.cells #[.slice none 0 0, .slice none 0 0, .slice none 0 0, .int .i64 0] 30) = w2 at B2 q1 q2 s2 ⊢
  obtain ⟨q, hq⟩ : ∃ q, w.heap.size = q := ⟨_, rfl⟩
  rw [hq] at B2 q1 q2 ⊢
  have HQ := Lib.hid hq
  clear hq
  have hql := q1.lt
  have hrl := q2.lt
  have x0 : w2.cell? ⟨q, 0, none⟩ = some (.slice A n c) := q1.cell 0
  have x1 : w2.cell? ⟨q, 1, none⟩ = some (.slice R m d) := q1.cell 1
  have SS := Lib.hid s2
  clear s2 q1
  cases hv : Hps.validH h
  · have HE := Lib.hid (show Hps.zeroLz = y by rw [← HY.out, Hps.startLz, if_neg (by rw [hv]; simp)])
    have HV := Lib.hid hv
    clear hv HY
    go_wp2_with fail
    refine (mHeapValid_any A R n c m d h _ SS.out (by omega) (by omega)).mono ?_
    rw [HV.out]
    rintro e w3 ⟨rfl, b3⟩
    have P := q2.keep b3 hrl
    have zf0 : w3.frozen? ⟨q + 1, 0, none⟩ = false := P.frozen 0
    have zf1 : w3.frozen? ⟨q + 1, 1, none⟩ = false := P.frozen 1
    have zf2 : w3.frozen? ⟨q + 1, 2, none⟩ = false := P.frozen 2
    have zf3 : w3.frozen? ⟨q + 1, 3, none⟩ = false := P.frozen 3
    have zc0 : w3.cell? ⟨q + 1, 0, none⟩ = some (.slice none 0 0) := P.cell 0
    have zc1 : w3.cell? ⟨q + 1, 1, none⟩ = some (.slice none 0 0) := P.cell 1
    have zc2 : w3.cell? ⟨q + 1, 2, none⟩ = some (.slice none 0 0) := P.cell 2
    have zc3 : w3.cell? ⟨q + 1, 3, none⟩ = some (.int .i64 0) := P.cell 3
    have P4 := ((((P.put 0 (.slice none 0 0)).put 1 (.slice none 0 0)).put 2 (.slice none 0 0)).put 3 (.int .i64 0))
    have s8 : (((((w3).setCell ⟨q + 1, 0, none⟩ (.slice none 0 0)).setCell ⟨q + 1, 1, none⟩ (.slice none 0 0)).setCell ⟨q + 1, 2, none⟩ (.slice none 0 0)).setCell ⟨q + 1, 3, none⟩ (.int .i64 0)).cell? ⟨q + 1, 0, none⟩ = some (.slice none 0 0) := P4.cell 0
    have s9 : (((((w3).setCell ⟨q + 1, 0, none⟩ (.slice none 0 0)).setCell ⟨q + 1, 1, none⟩ (.slice none 0 0)).setCell ⟨q + 1, 2, none⟩ (.slice none 0 0)).setCell ⟨q + 1, 3, none⟩ (.int .i64 0)).cell? ⟨q + 1, 1, none⟩ = some (.slice none 0 0) := P4.cell 1
    have s10 : (((((w3).setCell ⟨q + 1, 0, none⟩ (.slice none 0 0)).setCell ⟨q + 1, 1, none⟩ (.slice none 0 0)).setCell ⟨q + 1, 2, none⟩ (.slice none 0 0)).setCell ⟨q + 1, 3, none⟩ (.int .i64 0)).cell? ⟨q + 1, 2, none⟩ = some (.slice none 0 0) := P4.cell 2
    have s11 : (((((w3).setCell ⟨q + 1, 0, none⟩ (.slice none 0 0)).setCell ⟨q + 1, 1, none⟩ (.slice none 0 0)).setCell ⟨q + 1, 2, none⟩ (.slice none 0 0)).setCell ⟨q + 1, 3, none⟩ (.int .i64 0)).cell? ⟨q + 1, 3, none⟩ = some (.int .i64 0) := P4.cell 3
    clear P4
    have HW := HQ.out
    have D := Lib.hid (OwnLz.out (w := w) (g := q + 1) 0 (own_zeroLz w3 w3.heap.size (Nat.le_refl _)) (by have := b3.size; omega) (by rw [HW]; exact B2.trans (b3.mono (by have := B2.size; omega))) (by omega))
    clear P b3 x0 x1 SS q2 B2 hql hrl
    go_wp2_with fail
    obtain rfl := HE.out
    exact bodyPost_ret (v := .agg #[.slice none 0 0, .slice none 0 0, .slice none 0 0, .int .i64 0]) (by simp [results, Try.results13, go_sem, *]) rfl ⟨_, _, _, rfl, D.out.1, D.out.2⟩
  have HE := Lib.hid (show Hps.startLz h = ⟨h, Hps.reachH h, 0⟩ by rw [Hps.startLz, if_pos hv])
  rw [HY.out] at HE
  have HV := Lib.hid hv
  obtain ⟨h40, h4, h3⟩ := Hps.valid_small hv
  have H3 := Lib.hid h3
  have hn40 : n ≤ 40 := by have := HLC.out; omega
  have hm40 : m ≤ 4 := by have := HLR.out; omega
  clear hv HY h3 h40 h4
  go_wp2_with fail
  refine (mHeapValid_any A R n c m d h _ SS.out (by omega) (by omega)).mono ?_
  rw [HV.out]
  rintro e w3 ⟨rfl, b3⟩
  replace q2 := q2.keep b3 hrl
  replace B2 := B2.trans (b3.mono (by have := B2.size; omega))
  replace SS := Lib.hid (SS.out.up b3)
  replace x0 := (b3.cell (p := ⟨q, 0, none⟩) hql).trans x0
  replace x1 := (b3.cell (p := ⟨q, 1, none⟩) hql).trans x1
  replace hql := Nat.lt_of_lt_of_le hql b3.size
  replace hrl := Nat.lt_of_lt_of_le hrl b3.size
  clear b3 HV
  go_upto_region 3 with fail
  refine wp_region_inv (by kernel_rfl) (by kernel_rfl) (fun L ac ww => ∃ t7 t8 t9 t10 t11 : Value, ac = { tmps := #[heapV A n c R m d, Value.pointer (some { block := q, off := 0 }), Value.pointer (some { block := q + 1, off := 0 }), Value.agg #[Value.slice A n c, Value.slice R m d], Value.bool true, Value.bool false, undef, t7, t8, t9, t10, t11], defers := [] } ∧ (L 5 = false → Below w3.heap.size w3 ww) ∧ (L 0 = true → t7 = .agg #[.slice A n c, .slice R m d]) ∧ (L 1 = true → ∃ (A5 : Option Addr) (n5 c5 : Nat) (R5 : Option Addr) (m5 d5 : Nat), t8 = .agg #[.slice A5 n5 c5, .slice R5 m5 d5] ∧ (L 3 = false → OwnH ww w3.heap.size (.slice A5 n5 c5) (.slice R5 m5 d5) h)) ∧ (L 2 = true → t9 = .agg #[.slice A n c, .slice R m d]) ∧ (L 3 = true → ∃ (A5 : Option Addr) (n5 c5 : Nat) (R5 : Option Addr) (m5 d5 : Nat) (K5 : Option Addr) (p5 q5 : Nat), t8 = .agg #[.slice A5 n5 c5, .slice R5 m5 d5] ∧ t10 = .slice K5 p5 q5 ∧ L 1 = true ∧ (L 5 = false → OwnLz ww w3.heap.size (.slice A5 n5 c5) (.slice R5 m5 d5) (.slice K5 p5 q5) h (Hps.reachH h))) ∧ (L 4 = true → L 1 = true ∧ L 3 = true ∧ ∃ (A5 : Option Addr) (n5 c5 : Nat) (R5 : Option Addr) (m5 d5 : Nat) (K5 : Option Addr) (p5 q5 : Nat), t8 = .agg #[.slice A5 n5 c5, .slice R5 m5 d5] ∧ t10 = .slice K5 p5 q5 ∧ t11 = .agg #[.slice A5 n5 c5, .slice R5 m5 d5, .slice K5 p5 q5, .int .i64 0]) ∧ (L 5 = true → (∀ q, q < 5 → L q = true) ∧ ∃ (A5 : Option Addr) (n5 c5 : Nat) (R5 : Option Addr) (m5 d5 : Nat) (K5 : Option Addr) (p5 q5 : Nat) (wp : World), ww = ((((wp).setCell ⟨q + 1, 0, none⟩ (.slice A5 n5 c5)).setCell ⟨q + 1, 1, none⟩ (.slice R5 m5 d5)).setCell ⟨q + 1, 2, none⟩ (.slice K5 p5 q5)).setCell ⟨q + 1, 3, none⟩ (.int .i64 0) ∧ Below w3.heap.size w3 wp ∧ OwnLz wp w3.heap.size (.slice A5 n5 c5) (.slice R5 m5 d5) (.slice K5 p5 q5) h (Hps.reachH h))) ?h0 ?hstep ?hdone
  case h0 => exact ⟨_, _, _, _, _, rfl, fun _ => (Below.refl _ _).drew, (fun h => absurd h Bool.false_ne_true), (fun h => absurd h Bool.false_ne_true), (fun h => absurd h Bool.false_ne_true), (fun h => absurd h Bool.false_ne_true), (fun h => absurd h Bool.false_ne_true), (fun h => absurd h Bool.false_ne_true)⟩
  case hstep =>
    rintro L ac ww i o ho hL hd ⟨t7, t8, t9, t10, t11, rfl, I0, f0, f1, f2, f3, f4, f5⟩
    have hi : i < 6 := (Array.getElem?_eq_some_iff.1 ho).1
    obtain rfl | rfl | rfl | rfl | rfl | rfl : i = 0 ∨ i = 1 ∨ i = 2 ∨ i = 3 ∨ i = 4 ∨ i = 5 := by omega
    · obtain rfl := Option.some.inj ho
      have hL5 : L 5 = false := by
        cases e : L 5
        · rfl
        · exact absurd ((f5 e).1 0 (by decide)) (by rw [hL]; decide)
      have J := I0 hL5
      have z0 : ww.cell? ⟨q, 0, none⟩ = some (.slice A n c) := (J.cell (p := ⟨q, 0, none⟩) hql).trans x0
      have z1 : ww.cell? ⟨q, 1, none⟩ = some (.slice R m d) := (J.cell (p := ⟨q, 1, none⟩) hql).trans x1
      refine wpOp_step rfl (fun K' hK => ?_)
      go_simp
      refine hK _ _ ?_
      exact ⟨_, _, _, _, _, rfl, (fun _ => J), (fun _ => rfl), (fun h => by
        obtain ⟨A5, n5, c5, R5, m5, d5, e, r⟩ := f1 (upd_ne h (by decide))
        exact ⟨A5, n5, c5, R5, m5, d5, e, fun h4 => r (by rw [upd_other (by decide)] at h4; exact h4)⟩), (kp f2), (fun h => by
        obtain ⟨A5, n5, c5, R5, m5, d5, K5, p5, q5, e, e7, l1, r⟩ := f3 (upd_ne h (by decide))
        exact ⟨A5, n5, c5, R5, m5, d5, K5, p5, q5, e, e7, upd_mono l1, fun h6 => r (by rw [upd_other (by decide)] at h6; exact h6)⟩), (fun h => by
        obtain ⟨l1, l4, r⟩ := f4 (upd_ne h (by decide))
        exact ⟨upd_mono l1, upd_mono l4, r⟩), (fun h => absurd hL5 (by rw [upd_ne h (by decide)]; decide))⟩
    · obtain rfl := Option.some.inj ho
      have g0 := f0 (hd ⟨0, .data⟩ (by simp) rfl)
      subst g0
      have hL5 : L 5 = false := by
        cases e : L 5
        · rfl
        · exact absurd ((f5 e).1 1 (by decide)) (by rw [hL]; decide)
      have J := I0 hL5
      refine wpOp_step rfl (fun K' hK => ?_)
      go_simp
      refine (l7Copy_any A R n c m d h ww (SS.out.up J) (by omega) (by omega) (fun cl hcl => Nat.le_trans (H3.out cl hcl) (by omega))).mono ?_
      rintro e w' ⟨vc, vr, rfl, ow, b5⟩
      obtain ⟨A5, n5, c5, R5, m5, d5, rfl, rfl⟩ := ow.slices
      refine hK _ _ ?_
      exact ⟨_, _, _, _, _, rfl, (fun _ => J.trans (b5.mono J.size)), (kp f0), (fun _ => ⟨A5, n5, c5, R5, m5, d5, rfl, fun _ => ow.base J.size⟩), (kp f2), (fun h => by
        obtain ⟨_, _, _, _, _, _, _, _, _, _, _, l1, _⟩ := f3 (upd_ne h (by decide))
        exact absurd l1 (by rw [hL]; decide)), (fun h => absurd (f4 (upd_ne h (by decide))).1 (by rw [hL]; decide)), (fun h => absurd hL5 (by rw [upd_ne h (by decide)]; decide))⟩
    · obtain rfl := Option.some.inj ho
      have hL5 : L 5 = false := by
        cases e : L 5
        · rfl
        · exact absurd ((f5 e).1 2 (by decide)) (by rw [hL]; decide)
      have J := I0 hL5
      have z0 : ww.cell? ⟨q, 0, none⟩ = some (.slice A n c) := (J.cell (p := ⟨q, 0, none⟩) hql).trans x0
      have z1 : ww.cell? ⟨q, 1, none⟩ = some (.slice R m d) := (J.cell (p := ⟨q, 1, none⟩) hql).trans x1
      refine wpOp_step rfl (fun K' hK => ?_)
      go_simp
      refine hK _ _ ?_
      exact ⟨_, _, _, _, _, rfl, (fun _ => J), (kp f0), (fun h => by
        obtain ⟨A5, n5, c5, R5, m5, d5, e, r⟩ := f1 (upd_ne h (by decide))
        exact ⟨A5, n5, c5, R5, m5, d5, e, fun h4 => r (by rw [upd_other (by decide)] at h4; exact h4)⟩), (fun _ => rfl), (fun h => by
        obtain ⟨A5, n5, c5, R5, m5, d5, K5, p5, q5, e, e7, l1, r⟩ := f3 (upd_ne h (by decide))
        exact ⟨A5, n5, c5, R5, m5, d5, K5, p5, q5, e, e7, upd_mono l1, fun h6 => r (by rw [upd_other (by decide)] at h6; exact h6)⟩), (fun h => by
        obtain ⟨l1, l4, r⟩ := f4 (upd_ne h (by decide))
        exact ⟨upd_mono l1, upd_mono l4, r⟩), (fun h => absurd hL5 (by rw [upd_ne h (by decide)]; decide))⟩
    · obtain rfl := Option.some.inj ho
      have g2 := f2 (hd ⟨2, .data⟩ (by simp) rfl)
      subst g2
      have hL5 : L 5 = false := by
        cases e : L 5
        · rfl
        · exact absurd ((f5 e).1 3 (by decide)) (by rw [hL]; decide)
      have J := I0 hL5
      have l1 := Lib.hid (hd ⟨1, .chain⟩ (by simp) rfl)
      obtain ⟨A5, n5, c5, R5, m5, d5, e4, r4⟩ := f1 l1.out
      subst e4
      have oh := r4 hL
      refine wpOp_step rfl (fun K' hK => ?_)
      go_simp
      refine (mReachable_any A R n c m d h ww (SS.out.up J) (by omega) (by omega)).mono ?_
      rintro e w' ⟨vk, rfl, ok, b5⟩
      obtain ⟨K5, q5, e8, -⟩ := ok.form
      refine hK _ _ ?_
      exact ⟨_, _, _, _, _, rfl, (fun _ => J.trans (b5.mono J.size)), (kp f0), (fun _ => ⟨A5, n5, c5, R5, m5, d5, rfl, fun h => absurd h (by rw [upd_self]; decide)⟩), (kp f2), (fun _ => ⟨A5, n5, c5, R5, m5, d5, K5, _, q5, rfl, e8, upd_mono l1.out, fun _ => by
        rw [← e8]
        exact OwnLz.of oh b5 ok J.size⟩), (fun h => absurd (f4 (upd_ne h (by decide))).2.1 (by rw [hL]; decide)), (fun h => absurd hL5 (by rw [upd_ne h (by decide)]; decide))⟩
    · obtain rfl := Option.some.inj ho
      have g1 := f1 (hd ⟨1, .data⟩ (by simp) rfl)
      have g3 := f3 (hd ⟨3, .data⟩ (by simp) rfl)
      have hL5 : L 5 = false := by
        cases e : L 5
        · rfl
        · exact absurd ((f5 e).1 4 (by decide)) (by rw [hL]; decide)
      have J := I0 hL5
      have l4 := Lib.hid (hd ⟨3, .data⟩ (by simp) rfl)
      obtain ⟨A5, n5, c5, R5, m5, d5, K5, p5, q5, e4, e7, l1, r4⟩ := g3
      have L1 := Lib.hid l1
      clear l1
      subst e4
      subst e7
      clear g1
      refine wpOp_step rfl (fun K' hK => ?_)
      go_simp
      refine hK _ _ ?_
      exact ⟨_, _, _, _, _, rfl, (fun _ => J), (kp f0), (fun _ => ⟨A5, n5, c5, R5, m5, d5, rfl, fun h => absurd l4.out (by rw [upd_other (by decide)] at h; rw [h]; decide)⟩), (kp f2), (fun _ => ⟨A5, n5, c5, R5, m5, d5, K5, p5, q5, rfl, rfl, upd_mono L1.out, fun h => r4 (by rw [upd_other (by decide)] at h; exact h)⟩), (fun _ => ⟨upd_mono L1.out, upd_mono l4.out, A5, n5, c5, R5, m5, d5, K5, p5, q5, rfl, rfl, rfl⟩), (fun h => absurd hL5 (by rw [upd_ne h (by decide)]; decide))⟩
    · obtain rfl := Option.some.inj ho
      have g4 := f4 (hd ⟨4, .data⟩ (by simp) rfl)
      have lq : Hid (∀ q, q < 5 → L q = true) := Lib.hid (by
        intro q hq
        obtain rfl | rfl | rfl | rfl | rfl : q = 0 ∨ q = 1 ∨ q = 2 ∨ q = 3 ∨ q = 4 := by omega
        · exact hd ⟨0, .phase⟩ (by simp) rfl
        · exact hd ⟨1, .phase⟩ (by simp) rfl
        · exact hd ⟨2, .phase⟩ (by simp) rfl
        · exact hd ⟨3, .phase⟩ (by simp) rfl
        · exact hd ⟨4, .phase⟩ (by simp) rfl)
      have J := I0 hL
      obtain ⟨-, -, A5, n5, c5, R5, m5, d5, K5, p5, q5, e4, e7, e8⟩ := g4
      subst e8
      obtain ⟨A6, n6, c6, R6, m6, d6, K6, p6, q6, e4b, e7b, -, r4⟩ := f3 (lq.out 3 (by decide))
      have oc := r4 hL
      rw [e4] at e4b
      rw [e7] at e7b
      injection e4b with e4b
      simp at e4b
      obtain ⟨⟨rfl, rfl, rfl⟩, rfl, rfl, rfl⟩ := e4b
      injection e7b with h1 h2 h3
      subst h1
      subst h2
      subst h3
      subst e4
      subst e7
      have P := q2.keep J hrl
      have zf0 : ww.frozen? ⟨q + 1, 0, none⟩ = false := P.frozen 0
      have zf1 : ww.frozen? ⟨q + 1, 1, none⟩ = false := P.frozen 1
      have zf2 : ww.frozen? ⟨q + 1, 2, none⟩ = false := P.frozen 2
      have zf3 : ww.frozen? ⟨q + 1, 3, none⟩ = false := P.frozen 3
      have zc0 : ww.cell? ⟨q + 1, 0, none⟩ = some (.slice none 0 0) := P.cell 0
      have zc1 : ww.cell? ⟨q + 1, 1, none⟩ = some (.slice none 0 0) := P.cell 1
      have zc2 : ww.cell? ⟨q + 1, 2, none⟩ = some (.slice none 0 0) := P.cell 2
      have zc3 : ww.cell? ⟨q + 1, 3, none⟩ = some (.int .i64 0) := P.cell 3
      refine wpOp_step rfl (fun K' hK => ?_)
      go_simp
      refine hK _ _ ?_
      exact ⟨_, _, _, _, _, rfl, (fun h => absurd h (by rw [upd_self]; decide)), (kp f0), (fun _ => ⟨A5, n5, c5, R5, m5, d5, rfl, fun h => absurd (lq.out 3 (by decide)) (by rw [upd_other (by decide)] at h; rw [h]; decide)⟩), (kp f2), (fun _ => ⟨A5, n5, c5, R5, m5, d5, K5, p5, q5, rfl, rfl, upd_mono (lq.out 1 (by decide)), fun h => absurd h (by rw [upd_self]; decide)⟩), (fun _ => ⟨upd_mono (lq.out 1 (by decide)), upd_mono (lq.out 3 (by decide)), A5, n5, c5, R5, m5, d5, K5, p5, q5, rfl, rfl, rfl⟩), (fun _ => ⟨fun q hq => upd_mono (lq.out q hq), A5, n5, c5, R5, m5, d5, K5, p5, q5, ww, rfl, J, oc⟩)⟩
  case hdone =>
    rintro L ac ww hall ⟨t7, t8, t9, t10, t11, rfl, I0, f0, f1, f2, f3, f4, f5⟩
    have e0 := f0 (hall 0 (by decide))
    have e1 := f1 (hall 1 (by decide))
    have e2 := f2 (hall 2 (by decide))
    have e3 := f3 (hall 3 (by decide))
    have e4 := f4 (hall 4 (by decide))
    have e5 := f5 (hall 5 (by decide))
    clear f0 f1 f2 f3 f4 f5
    obtain ⟨-, A5, n5, c5, R5, m5, d5, K5, p5, q5, wp, rfl, r1, r9⟩ := e5
    have P := q2.keep r1 hrl
    have P4 := (((P.put 0 (.slice A5 n5 c5)).put 1 (.slice R5 m5 d5)).put 2 (.slice K5 p5 q5)).put 3 (.int .i64 0)
    have s8 : (((((wp).setCell ⟨q + 1, 0, none⟩ (.slice A5 n5 c5)).setCell ⟨q + 1, 1, none⟩ (.slice R5 m5 d5)).setCell ⟨q + 1, 2, none⟩ (.slice K5 p5 q5)).setCell ⟨q + 1, 3, none⟩ (.int .i64 0)).cell? ⟨q + 1, 0, none⟩ = some (.slice A5 n5 c5) := P4.cell 0
    have s9 : (((((wp).setCell ⟨q + 1, 0, none⟩ (.slice A5 n5 c5)).setCell ⟨q + 1, 1, none⟩ (.slice R5 m5 d5)).setCell ⟨q + 1, 2, none⟩ (.slice K5 p5 q5)).setCell ⟨q + 1, 3, none⟩ (.int .i64 0)).cell? ⟨q + 1, 1, none⟩ = some (.slice R5 m5 d5) := P4.cell 1
    have s10 : (((((wp).setCell ⟨q + 1, 0, none⟩ (.slice A5 n5 c5)).setCell ⟨q + 1, 1, none⟩ (.slice R5 m5 d5)).setCell ⟨q + 1, 2, none⟩ (.slice K5 p5 q5)).setCell ⟨q + 1, 3, none⟩ (.int .i64 0)).cell? ⟨q + 1, 2, none⟩ = some (.slice K5 p5 q5) := P4.cell 2
    have s11 : (((((wp).setCell ⟨q + 1, 0, none⟩ (.slice A5 n5 c5)).setCell ⟨q + 1, 1, none⟩ (.slice R5 m5 d5)).setCell ⟨q + 1, 2, none⟩ (.slice K5 p5 q5)).setCell ⟨q + 1, 3, none⟩ (.int .i64 0)).cell? ⟨q + 1, 3, none⟩ = some (.int .i64 0) := P4.cell 3
    have HW := HQ.out
    have D := Lib.hid (OwnLz.out (w := w) (g := q + 1) 0 r9 (by omega) (by rw [HW]; exact B2.trans (r1.mono (by have := B2.size; omega))) (by omega))
    clear I0 e0 e1 e2 e3 e4 hall r1 r9 P P4
    go_wp2_with fail
    obtain rfl := HE.out
    exact bodyPost_ret (v := .agg #[.slice A5 n5 c5, .slice R5 m5 d5, .slice K5 p5 q5, .int .i64 0]) (by simp [results, Try.results13, go_sem, *]) rfl ⟨_, _, _, rfl, D.out.1, D.out.2⟩
end Go.Proofs.Ytakdjiojahlnmaa

namespace Go.Proofs.Ytakdjiojahlnmaa
open Go.RowKit
set_option maxRecDepth 100000
theorem upd_keep {L : Nat → Bool} {i k : Nat} (h : L k = true) : upd L i k = true := by
  unfold upd
  split
  · rfl
  · exact h
abbrev cmCs (o : Cm) : Array Value := #[.int .i64 o.op, .int .i64 o.a, .int .i64 o.b, .int .i64 o.c]
/-- what is known while an instruction is drawn: it lies in the box b, the reader in gr -/
structure CmSt (w wr : World) (gr N b : Nat) (o : Cm) : Prop where
  rd : Rd wr gr N
  grown : w.grownBy wr (some gr)
  box : Rw wr b 128 (cmCs o)
  res : Rw wr w.heap.size 128 (cmCs ⟨0, 0, 0, 0⟩)
  lo : w.heap.size < b
  old : gr < w.heap.size
section
variable {w wr w' : World} {gr N b : Nat} {o : Cm}
theorem CmSt.pick (S : CmSt w wr gr N b o) (hr : Rd w' gr (N + 1)) (hg : wr.grownBy w' (some gr)) : CmSt w w' gr (N + 1) b o := by
  have h1 := S.lo
  have h2 := S.old
  exact ⟨hr, World.grownBy.trans S.grown hg, S.box.far hg (fun e => by injection e with e; omega), S.res.far hg (fun e => by injection e with e; omega), h1, h2⟩
theorem CmSt.alloc (S : CmSt w wr gr N b o) (ob : Obj) : CmSt w (wr.alloc ob) gr N b o :=
  ⟨S.rd.below ((Below.refl wr.heap.size wr).alloc (Nat.le_refl _) ob) S.rd.lt, World.grownBy.trans S.grown (World.grownBy_alloc wr ob _), S.box.alloc ob, S.res.alloc ob, S.lo, S.old⟩
theorem CmSt.more {N' : Nat} (S : CmSt w wr gr N b o) (h : N ≤ N') : CmSt w wr gr N' b o := ⟨S.rd.more h, S.grown, S.box, S.res, S.lo, S.old⟩
theorem CmSt.put (S : CmSt w wr gr N b o) (i : Nat) (u : Value) {o' : Cm} (h : (cmCs o).setIfInBounds i u = cmCs o') : CmSt w (wr.setCell ⟨b, i, none⟩ u) gr N b o' := by
  have h1 := S.lo
  have h2 := S.old
  have hb : Below b wr (wr.setCell ⟨b, i, none⟩ u) := (Below.refl b wr).setCell (p := ⟨b, i, none⟩) (Nat.le_refl _) u
  exact ⟨S.rd.below hb (by omega), grown_below S.grown (hb.mono (by omega)), h ▸ S.box.put i u, S.res.other (by omega) u, h1, h2⟩
end
/-- numbers of an instruction that is drawn -/
def SmallCm (o : Cm) : Prop := (0 ≤ o.op ∧ o.op ≤ 7) ∧ (-1 ≤ o.a ∧ o.a ≤ 4) ∧ (-1 ≤ o.b ∧ o.b ≤ 100) ∧ (-1 ≤ o.c ∧ o.c ≤ 100)
theorem small_of_ok {o : Cm} (h : Hps.okCm o = true) : SmallCm o := by
  have ha := Hps.okCm_a h
  rcases Hps.okCm_op h with e | e | e | e | e | e
  · have := (Hps.okCm_new e).1 h; exact ⟨by omega, by omega, by omega, by omega⟩
  · have := (Hps.okCm_get (.inl e)).1 h; exact ⟨by omega, by omega, by omega, by omega⟩
  · have := (Hps.okCm_get (.inr e)).1 h; exact ⟨by omega, by omega, by omega, by omega⟩
  · have := (Hps.okCm_copy e).1 h; exact ⟨by omega, by omega, by omega, by omega⟩
  · have := (Hps.okCm_drop e).1 h; exact ⟨by omega, by omega, by omega, by omega⟩
  · have := (Hps.okCm_data e).1 h; exact ⟨by omega, by omega, by omega, by omega⟩
/-- an instruction has been drawn -/
def DrewC (w : World) (gr N : Nat) (n : Int) (e : Ending) (w' : World) : Prop :=
  ∃ o : Cm, e = .returned (cmV o) ∧ (n = 0 → Hps.okCm o = true) ∧ SmallCm o ∧ Rd w' gr (N + 12) ∧ w.grownBy w' (some gr)
theorem odd_zero' (g N : Nat) (w : World) (_h : Rd w g N) : Calls Try.prog 79 #[.pointer (some ⟨g, 0, none⟩), .int .i64 0] w fun e w' => e = .returned (.bool false) ∧ w = w' := by
  go_enter Try.func79, Try.ntmps79
  go_wp2_with fail
  go_ret
  exact ⟨rfl, rfl⟩
/-- a number out of a table, at any index -/
theorem Tbl.two (w : World) (_gr : Nat) (t : TypeId) (x y : Int) : Rw (w.alloc (.cells #[.int .i64 x, .int .i64 y] t)) w.heap.size t #[.int .i64 x, .int .i64 y] := Rw.new _ _ _
set_option maxRecDepth 100000 in
set_option maxHeartbeats 8000000 in
theorem l20Command_any (gr N : Nat) (n : Int) (w : World) (h : Rd w gr N) (hN : N ≤ 1000000) (hn0 : 0 ≤ n) (hn : n ≤ 1000000) :
    Calls Try.prog 101 #[.pointer (some ⟨gr, 0, none⟩), .int .i64 n] w (DrewC w gr N n) := by
  have hgl := h.lt
  have h0 : Rd (w.alloc (.cells (cmCs ⟨0, 0, 0, 0⟩) 128)) gr N := h.below ((Below.refl w.heap.size w).alloc (Nat.le_refl _) _) hgl
  have r0 := Rw.new w 128 (cmCs ⟨0, 0, 0, 0⟩)
  have g0 : w.grownBy (w.alloc (.cells (cmCs ⟨0, 0, 0, 0⟩) 128)) (some gr) := World.grownBy_alloc _ _ _
  have z0 : w.heap.size + 1 = (w.alloc (.cells (cmCs ⟨0, 0, 0, 0⟩) 128)).heap.size := by simp
  go_enter Try.func101, Try.ntmps101
  go_upto_region 1 with fail
  generalize w.alloc (.cells (cmCs ⟨0, 0, 0, 0⟩) 128) = w0 at h0 r0 g0 z0 ⊢
  have HZ := Lib.hid z0
  clear z0
  refine wp_region_inv (by kernel_rfl) (by kernel_rfl) (fun L ac ww => ∃ t5 t6 t7 t8 t9 t10 t11 t12 t13 : Value, ac = { tmps := #[Value.pointer (some { block := gr, off := 0 }), Value.int IntKind.i64 n, undef, undef, Value.pointer (some { block := w.heap.size, off := 0 }), t5, t6, t7, t8, t9, t10, t11, t12, t13, undef, undef, undef, undef, undef, undef, undef, undef, undef, undef, undef, undef, undef, undef, undef, undef, undef, undef, undef, undef, undef, undef, undef, undef, undef, undef, undef, undef, undef, undef, undef, undef, undef, undef, undef, undef, undef, undef, undef, undef, undef, undef, undef, undef, undef, undef, undef, undef, undef, undef, undef, undef, undef, undef, undef, undef, undef, undef, undef, undef, undef, undef, undef, undef, undef, undef, undef, undef, undef, undef, undef, undef, undef, undef, undef, undef], defers := [] } ∧ (Rd ww gr (N + (L 2).toNat + (L 6).toNat)) ∧ (w0.grownBy ww (some gr)) ∧ (L 9 = true → L 6 = true) ∧ (L 9 = true → L 2 = true) ∧ (L 9 = true → L 8 = true) ∧ (L 9 = true → L 3 = true) ∧ (L 9 = true → L 4 = true) ∧ (L 0 = true → L 9 = true ∨ TblOf ww gr 10 1 6 t6) ∧ (L 1 = true → t7 = .pointer (some ⟨gr, 0, none⟩)) ∧ (L 2 = true → IntIn 0 9 t8) ∧ (L 3 = true → L 9 = true ∨ PtrOf ww gr 10 1 6 t9) ∧ (L 4 = true → IntIn 1 6 t10) ∧ (L 5 = true → t11 = .pointer (some ⟨gr, 0, none⟩)) ∧ (L 6 = true → IntIn 0 3 t12) ∧ (L 7 = true → ∃ op a : Int, t13 = .agg #[.int .i64 op, .int .i64 a, .int .i64 0, .int .i64 0] ∧ 1 ≤ op ∧ op ≤ 6 ∧ 0 ≤ a ∧ a ≤ 3) ∧ (L 8 = true → ∃ (g5 : Nat) (z0 z1 z2 z3 : Value), t5 = .pointer (some ⟨g5, 0, none⟩) ∧ w.heap.size < g5 ∧ Rw ww g5 128 #[z0, z1, z2, z3]) ∧ (L 9 = true → ∃ (g5 : Nat) (op a : Int), t5 = .pointer (some ⟨g5, 0, none⟩) ∧ CmSt w ww gr (N + 2) g5 ⟨op, a, 0, 0⟩ ∧ 1 ≤ op ∧ op ≤ 6 ∧ 0 ≤ a ∧ a ≤ 3)) ?h0 ?hstep ?hdone
  case h0 => exact ⟨_, _, _, _, _, _, _, _, _, rfl, by simpa using h0.below (Below.refl _ _).drew h0.lt, grown_below (World.grownBy.refl _ _) (Below.refl _ _).drew, fun h => absurd h Bool.false_ne_true, fun h => absurd h Bool.false_ne_true, fun h => absurd h Bool.false_ne_true, fun h => absurd h Bool.false_ne_true, fun h => absurd h Bool.false_ne_true, (fun h => absurd h Bool.false_ne_true), (fun h => absurd h Bool.false_ne_true), (fun h => absurd h Bool.false_ne_true), (fun h => absurd h Bool.false_ne_true), (fun h => absurd h Bool.false_ne_true), (fun h => absurd h Bool.false_ne_true), (fun h => absurd h Bool.false_ne_true), (fun h => absurd h Bool.false_ne_true), (fun h => absurd h Bool.false_ne_true), (fun h => absurd h Bool.false_ne_true)⟩
  case hstep =>
    rintro L ac ww i o ho hL hd ⟨t5, t6, t7, t8, t9, t10, t11, t12, t13, rfl, I0, I1, I2, I3, I4, I5, I6, f0, f1, f2, f3, f4, f5, f6, f7, f8, f9⟩
    have hi : i < 10 := (Array.getElem?_eq_some_iff.1 ho).1
    obtain rfl | rfl | rfl | rfl | rfl | rfl | rfl | rfl | rfl | rfl : i = 0 ∨ i = 1 ∨ i = 2 ∨ i = 3 ∨ i = 4 ∨ i = 5 ∨ i = 6 ∨ i = 7 ∨ i = 8 ∨ i = 9 := by omega
    · obtain rfl := Option.some.inj ho
      refine wpOp_step rfl (fun K' hK => ?_)
      go_simp
      refine hK _ _ ?_
      exact ⟨_, _, _, _, _, _, _, _, _, rfl, (by rw [upd_other (by decide), upd_other (by decide)]; exact I0.below ((Below.refl ww.heap.size ww).alloc (Nat.le_refl _) _) I0.lt), (World.grownBy.trans I1 (World.grownBy_alloc _ _ _)), (fun h => upd_keep (I2 (upd_ne h (by decide)))), (fun h => upd_keep (I3 (upd_ne h (by decide)))), (fun h => upd_keep (I4 (upd_ne h (by decide)))), (fun h => upd_keep (I5 (upd_ne h (by decide)))), (fun h => upd_keep (I6 (upd_ne h (by decide)))), (fun _ => .inr ⟨_, rfl, Tbl.new ww gr _ [1, 1, 1, 2, 3, 3, 3, 4, 5, 6] 1 6 I0.lt (by intro q hq; simp at hq; omega) _ rfl⟩), (kp f1), (kp f2), (fun h => (f3 (upd_ne h (by decide))).imp (fun e => upd_keep e) (fun T => T.alloc _)), (kp f4), (kp f5), (kp f6), (kp f7), (fun h => by
        obtain ⟨g5, z0, z1, z2, z3, e, hg5, hz⟩ := f8 (upd_ne h (by decide))
        exact ⟨g5, z0, z1, z2, z3, e, hg5, hz.alloc _⟩), (fun h => by
        obtain ⟨g5, op, a, e, S, q⟩ := f9 (upd_ne h (by decide))
        exact ⟨g5, op, a, e, S.alloc _, q⟩)⟩
    · obtain rfl := Option.some.inj ho
      refine wpOp_step rfl (fun K' hK => ?_)
      go_simp
      refine hK _ _ ?_
      exact ⟨_, _, _, _, _, _, _, _, _, rfl, (by rw [upd_other (by decide), upd_other (by decide)]; exact I0), (I1), (fun h => upd_keep (I2 (upd_ne h (by decide)))), (fun h => upd_keep (I3 (upd_ne h (by decide)))), (fun h => upd_keep (I4 (upd_ne h (by decide)))), (fun h => upd_keep (I5 (upd_ne h (by decide)))), (fun h => upd_keep (I6 (upd_ne h (by decide)))), (fun h => (f0 (upd_ne h (by decide))).imp (fun e => upd_keep e) id), (fun _ => rfl), (kp f2), (fun h => (f3 (upd_ne h (by decide))).imp (fun e => upd_keep e) id), (kp f4), (kp f5), (kp f6), (kp f7), (kp f8), (kp f9)⟩
    · obtain rfl := Option.some.inj ho
      have g1 := f1 (hd ⟨1, .data⟩ (by simp) rfl)
      subst g1
      refine wpOp_step rfl (fun K' hK => ?_)
      go_simp
      refine (pick_any gr (N + (L 2).toNat + (L 6).toNat) 10 ww I0 (by have := Bool.toNat_le (L 2); have := Bool.toNat_le (L 6); omega) (by omega)).mono ?_
      rintro e w' ⟨r, rfl, r0', r1', hr, G⟩
      refine hK _ _ ?_
      exact ⟨_, _, _, _, _, _, _, _, _, rfl, (by rw [upd_self, upd_other (by decide)]; rw [hL] at hr; exact hr.more (by simp; omega)), (World.grownBy.trans I1 G), (fun h => upd_keep (I2 (upd_ne h (by decide)))), (fun h => upd_keep (I3 (upd_ne h (by decide)))), (fun h => upd_keep (I4 (upd_ne h (by decide)))), (fun h => upd_keep (I5 (upd_ne h (by decide)))), (fun h => upd_keep (I6 (upd_ne h (by decide)))), (fun h => (f0 (upd_ne h (by decide))).imp (fun e => upd_keep e) (fun T => T.pick G)), (kp f1), (fun _ => ⟨r, rfl, r0', by omega⟩), (fun h => (f3 (upd_ne h (by decide))).imp (fun e => upd_keep e) (fun T => T.pick G)), (kp f4), (kp f5), (kp f6), (kp f7), (fun h => by
        obtain ⟨g5, z0, z1, z2, z3, e, hg5, hz⟩ := f8 (upd_ne h (by decide))
        exact ⟨g5, z0, z1, z2, z3, e, hg5, hz.far G (fun e => by injection e with e; omega)⟩), (fun h => absurd (I3 (upd_ne h (by decide))) (by rw [hL]; simp))⟩
    · obtain rfl := Option.some.inj ho
      have g0 := f0 (hd ⟨0, .data⟩ (by simp) rfl)
      have g2 := f2 (hd ⟨2, .data⟩ (by simp) rfl)
      have g0' := g0.resolve_left (fun e => absurd (I5 e) (by rw [hL]; simp))
      clear g0
      obtain ⟨g6, rfl, T6⟩ := g0'
      obtain ⟨q8, rfl, q81, q82⟩ := g2
      obtain ⟨n8, rfl⟩ := Int.eq_ofNat_of_zero_le (show 0 ≤ q8 by omega)
      have l8 : n8 < 10 := by omega
      have l8' : (n8 : Int) < 10 := by omega
      refine wpOp_step rfl (fun K' hK => ?_)
      go_simp
      refine hK _ _ ?_
      exact ⟨_, _, _, _, _, _, _, _, _, rfl, (by rw [upd_other (by decide), upd_other (by decide)]; exact I0), (I1), (fun h => upd_keep (I2 (upd_ne h (by decide)))), (fun h => upd_keep (I3 (upd_ne h (by decide)))), (fun h => upd_keep (I4 (upd_ne h (by decide)))), (fun h => upd_keep (I5 (upd_ne h (by decide)))), (fun h => upd_keep (I6 (upd_ne h (by decide)))), (fun _ => .inr ⟨g6, rfl, T6⟩), (kp f1), (fun _ => ⟨(n8 : Int), rfl, by omega, by omega⟩), (fun _ => .inr ⟨g6, n8, by simp, l8, T6⟩), (kp f4), (kp f5), (kp f6), (kp f7), (kp f8), (kp f9)⟩
    · obtain rfl := Option.some.inj ho
      have g3 := f3 (hd ⟨3, .data⟩ (by simp) rfl)
      have g3' := g3.resolve_left (fun e => absurd (I6 e) (by rw [hL]; simp))
      clear g3
      obtain ⟨g9, n9, rfl, l9, T9⟩ := g3'
      obtain ⟨q9, hq9, q91, q92⟩ := T9.2.2 n9 l9
      refine wpOp_step rfl (fun K' hK => ?_)
      go_simp
      refine hK _ _ ?_
      exact ⟨_, _, _, _, _, _, _, _, _, rfl, (by rw [upd_other (by decide), upd_other (by decide)]; exact I0), (I1), (fun h => upd_keep (I2 (upd_ne h (by decide)))), (fun h => upd_keep (I3 (upd_ne h (by decide)))), (fun h => upd_keep (I4 (upd_ne h (by decide)))), (fun h => upd_keep (I5 (upd_ne h (by decide)))), (fun h => upd_keep (I6 (upd_ne h (by decide)))), (fun h => (f0 (upd_ne h (by decide))).imp (fun e => upd_keep e) id), (kp f1), (kp f2), (fun _ => .inr ⟨g9, n9, rfl, l9, T9⟩), (fun _ => ⟨q9, rfl, q91, q92⟩), (kp f5), (kp f6), (kp f7), (kp f8), (kp f9)⟩
    · obtain rfl := Option.some.inj ho
      refine wpOp_step rfl (fun K' hK => ?_)
      go_simp
      refine hK _ _ ?_
      exact ⟨_, _, _, _, _, _, _, _, _, rfl, (by rw [upd_other (by decide), upd_other (by decide)]; exact I0), (I1), (fun h => upd_keep (I2 (upd_ne h (by decide)))), (fun h => upd_keep (I3 (upd_ne h (by decide)))), (fun h => upd_keep (I4 (upd_ne h (by decide)))), (fun h => upd_keep (I5 (upd_ne h (by decide)))), (fun h => upd_keep (I6 (upd_ne h (by decide)))), (fun h => (f0 (upd_ne h (by decide))).imp (fun e => upd_keep e) id), (kp f1), (kp f2), (fun h => (f3 (upd_ne h (by decide))).imp (fun e => upd_keep e) id), (kp f4), (fun _ => rfl), (kp f6), (kp f7), (kp f8), (kp f9)⟩
    · obtain rfl := Option.some.inj ho
      have g5 := f5 (hd ⟨5, .data⟩ (by simp) rfl)
      subst g5
      refine wpOp_step rfl (fun K' hK => ?_)
      go_simp
      refine (pick_any gr (N + (L 2).toNat + (L 6).toNat) 4 ww I0 (by have := Bool.toNat_le (L 2); have := Bool.toNat_le (L 6); omega) (by omega)).mono ?_
      rintro e w' ⟨r, rfl, r0', r1', hr, G⟩
      refine hK _ _ ?_
      exact ⟨_, _, _, _, _, _, _, _, _, rfl, (by rw [upd_self, upd_other (by decide)]; rw [hL] at hr; exact hr.more (by simp)), (World.grownBy.trans I1 G), (fun h => upd_keep (I2 (upd_ne h (by decide)))), (fun h => upd_keep (I3 (upd_ne h (by decide)))), (fun h => upd_keep (I4 (upd_ne h (by decide)))), (fun h => upd_keep (I5 (upd_ne h (by decide)))), (fun h => upd_keep (I6 (upd_ne h (by decide)))), (fun h => (f0 (upd_ne h (by decide))).imp (fun e => upd_keep e) (fun T => T.pick G)), (kp f1), (kp f2), (fun h => (f3 (upd_ne h (by decide))).imp (fun e => upd_keep e) (fun T => T.pick G)), (kp f4), (kp f5), (fun _ => ⟨r, rfl, r0', by omega⟩), (kp f7), (fun h => by
        obtain ⟨g5, z0, z1, z2, z3, e, hg5, hz⟩ := f8 (upd_ne h (by decide))
        exact ⟨g5, z0, z1, z2, z3, e, hg5, hz.far G (fun e => by injection e with e; omega)⟩), (fun h => absurd (I2 (upd_ne h (by decide))) (by rw [hL]; simp))⟩
    · obtain rfl := Option.some.inj ho
      have g4 := f4 (hd ⟨4, .data⟩ (by simp) rfl)
      have g6 := f6 (hd ⟨6, .data⟩ (by simp) rfl)
      obtain ⟨op, rfl, p1, p2⟩ := g4
      obtain ⟨aa, rfl, p3, p4⟩ := g6
      refine wpOp_step rfl (fun K' hK => ?_)
      go_simp
      refine hK _ _ ?_
      exact ⟨_, _, _, _, _, _, _, _, _, rfl, (by rw [upd_other (by decide), upd_other (by decide)]; exact I0), (I1), (fun h => upd_keep (I2 (upd_ne h (by decide)))), (fun h => upd_keep (I3 (upd_ne h (by decide)))), (fun h => upd_keep (I4 (upd_ne h (by decide)))), (fun h => upd_keep (I5 (upd_ne h (by decide)))), (fun h => upd_keep (I6 (upd_ne h (by decide)))), (fun h => (f0 (upd_ne h (by decide))).imp (fun e => upd_keep e) id), (kp f1), (kp f2), (fun h => (f3 (upd_ne h (by decide))).imp (fun e => upd_keep e) id), (fun _ => ⟨op, rfl, p1, p2⟩), (kp f5), (fun _ => ⟨aa, rfl, p3, p4⟩), (fun _ => ⟨op, aa, rfl, p1, p2, p3, p4⟩), (kp f8), (kp f9)⟩
    · obtain rfl := Option.some.inj ho
      refine wpOp_step rfl (fun K' hK => ?_)
      go_simp
      refine hK _ _ ?_
      exact ⟨_, _, _, _, _, _, _, _, _, rfl, (by rw [upd_other (by decide), upd_other (by decide)]; exact I0.below ((Below.refl ww.heap.size ww).alloc (Nat.le_refl _) _) I0.lt), (World.grownBy.trans I1 (World.grownBy_alloc _ _ _)), (fun h => upd_keep (I2 (upd_ne h (by decide)))), (fun h => upd_keep (I3 (upd_ne h (by decide)))), (fun h => upd_keep (I4 (upd_ne h (by decide)))), (fun h => upd_keep (I5 (upd_ne h (by decide)))), (fun h => upd_keep (I6 (upd_ne h (by decide)))), (fun h => (f0 (upd_ne h (by decide))).imp (fun e => upd_keep e) (fun T => T.alloc _)), (kp f1), (kp f2), (fun h => (f3 (upd_ne h (by decide))).imp (fun e => upd_keep e) (fun T => T.alloc _)), (kp f4), (kp f5), (kp f6), (kp f7), (fun _ => ⟨ww.heap.size, _, _, _, _, rfl, by have := I1.size; have := HZ.out; omega, Rw.new _ _ _⟩), (fun h => absurd (I4 (upd_ne h (by decide))) (by rw [hL]; simp))⟩
    · obtain rfl := Option.some.inj ho
      have g7 := f7 (hd ⟨7, .data⟩ (by simp) rfl)
      have g8 := f8 (hd ⟨8, .data⟩ (by simp) rfl)
      obtain ⟨g5, z0, z1, z2, z3, rfl, hg5, hz⟩ := g8
      obtain ⟨op, aa, rfl, p1, p2, p3, p4⟩ := g7
      have u0 := hz.cell 0
      have u1 := hz.cell 1
      have u2 := hz.cell 2
      have u3 := hz.cell 3
      have v0 := hz.frozen 0
      have v1 := hz.frozen 1
      have v2 := hz.frozen 2
      have v3 := hz.frozen 3
      simp at u0 u1 u2 u3
      have L2 := hd ⟨2, .phase⟩ (by simp) rfl
      have L6 := hd ⟨6, .chain⟩ (by simp) rfl
      have hgo : gr < w.heap.size := hgl
      have hB : Below g5 ww ((((ww.setCell ⟨g5, 0, none⟩ (.int .i64 op)).setCell ⟨g5, 1, none⟩ (.int .i64 aa)).setCell ⟨g5, 2, none⟩ (.int .i64 0)).setCell ⟨g5, 3, none⟩ (.int .i64 0)) := ((((Below.refl g5 ww).setCell (p := ⟨g5, 0, none⟩) (Nat.le_refl _) _).setCell (p := ⟨g5, 1, none⟩) (Nat.le_refl _) _).setCell (p := ⟨g5, 2, none⟩) (Nat.le_refl _) _).setCell (p := ⟨g5, 3, none⟩) (Nat.le_refl _) _
      have RDN := I0.below hB (by omega)
      have G1 := World.grownBy.trans g0 I1
      have RES := (r0.far I1 (fun e => by injection e with e; omega)).keep hB hg5
      have HB0 := hB
      refine wpOp_step rfl (fun K' hK => ?_)
      go_simp
      refine hK _ _ ?_
      exact ⟨_, _, _, _, _, _, _, _, _, rfl, (by rw [upd_other (by decide), upd_other (by decide)]; exact RDN), (grown_below I1 (hB.mono (by have := HZ.out; omega))), (fun _ => upd_keep (hd ⟨6, .chain⟩ (by simp) rfl)), (fun _ => upd_keep (hd ⟨2, .phase⟩ (by simp) rfl)), (fun _ => upd_keep (hd ⟨8, .data⟩ (by simp) rfl)), (fun _ => upd_keep (hd ⟨3, .phase⟩ (by simp) rfl)), (fun _ => upd_keep (hd ⟨4, .phase⟩ (by simp) rfl)), (fun _ => .inl upd_self), (kp f1), (kp f2), (fun _ => .inl upd_self), (kp f4), (kp f5), (kp f6), (kp f7), (fun _ => ⟨g5, _, _, _, _, rfl, hg5, (((hz.put 0 _).put 1 _).put 2 _).put 3 _⟩), (fun _ => ⟨g5, op, aa, rfl, ⟨RDN.more (by rw [L2, L6]; simp), grown_below G1 (hB.mono (by omega)), (((hz.put 0 _).put 1 _).put 2 _).put 3 _, RES, hg5, hgo⟩, p1, p2, p3, p4⟩)⟩
  case hdone =>
    rintro L ac ww hall ⟨t5, t6, t7, t8, t9, t10, t11, t12, t13, rfl, I0, I1, I2, I3, I4, I5, I6, f0, f1, f2, f3, f4, f5, f6, f7, f8, f9⟩
    have e0 := f0 (hall 0 (by decide))
    have e1 := f1 (hall 1 (by decide))
    have e2 := f2 (hall 2 (by decide))
    have e3 := f3 (hall 3 (by decide))
    have e4 := f4 (hall 4 (by decide))
    have e5 := f5 (hall 5 (by decide))
    have e6 := f6 (hall 6 (by decide))
    have e7 := f7 (hall 7 (by decide))
    have e8 := f8 (hall 8 (by decide))
    have e9 := f9 (hall 9 (by decide))
    clear f0 f1 f2 f3 f4 f5 f6 f7 f8 f9
    obtain ⟨b, op, aa, rfl, S, p1, p2, p3, p4⟩ := e9
    clear e0 e1 e2 e3 e4 e5 e6 e7 e8 I0 I1 I2 I3 I4 I5 I6 h0 r0 g0 HZ
    have y0 : ww.cell? ⟨b, 0, none⟩ = some (.int .i64 op) := S.box.cell 0
    have hlo := S.lo
    have hold := S.old
    clear hgl h
    go_upto_block 0 with fail
    go_cut [] from 14 (fun wc => ∃ o : Cm, Hps.okCm o = true ∧ CmSt w wc gr (N + 7) b o)
    case first =>
      have hcases : op = 1 ∨ op = 2 ∨ op = 3 ∨ op = 4 ∨ op = 5 ∨ op = 6 := by omega
      rcases hcases with rfl | rfl | rfl | rfl | rfl | rfl
      · go_wp2_with fail
        refine (pick_any _ _ _ _ S.rd (by omega) (by omega)).mono ?_
        rintro e w1 ⟨x1, rfl, ax1, cx1, hrx1, gx1⟩
        replace S := S.pick hrx1 gx1
        have cx1' : x1 < 4 := by omega
        clear cx1 hrx1 gx1
        go_wp2_with fail
        refine (pick_any _ _ _ _ S.rd (by omega) (by omega)).mono ?_
        rintro e w2 ⟨x2, rfl, ax2, cx2, hrx2, gx2⟩
        replace S := S.pick hrx2 gx2
        have cx2' : x2 < 3 := by omega
        clear cx2 hrx2 gx2
        have hsz := S.box.lt
        have T := Rw.new w2 3 #[.int .i64 x1, .int .i64 (1 + x2)]
        replace S := S.alloc (.cells #[.int .i64 x1, .int .i64 (1 + x2)] 3)
        go_wp2_with fail
        refine (pick_any _ _ _ _ S.rd (by omega) (by omega)).mono ?_
        rintro e w3 ⟨j, rfl, aj, cj, hrj, gj⟩
        have T3 := T.far gj (fun e => by injection e with e; omega)
        have t0 := T3.cell 0
        have t1 := T3.cell 1
        simp at t0 t1
        replace S := S.pick hrj gj
        have hjj : j = 0 ∨ j = 1 := by omega
        clear aj cj hrj gj T T3 hsz
        rcases hjj with rfl | rfl
        · have v2 := S.box.cell 2
          have fz2 := S.box.frozen 2
          replace S := S.put 2 (.int .i64 x1) (o' := ⟨1, aa, x1, 0⟩) rfl
          go_wp2_with fail
          refine (pick_any _ _ _ _ S.rd (by omega) (by omega)).mono ?_
          rintro e w4 ⟨x4, rfl, ax4, cx4, hrx4, gx4⟩
          replace S := S.pick hrx4 gx4
          have cx4' : x4 < 100 := by omega
          clear cx4 hrx4 gx4
          have v3 := S.box.cell 3
          have fz3 := S.box.frozen 3
          replace S := S.put 3 (.int .i64 x4) (o' := ⟨1, aa, x1, x4⟩) rfl
          go_wp2_with fail
          go_meet
          case rel => exact ⟨⟨1, aa, x1, x4⟩, (Hps.okCm_new rfl).2 ⟨⟨p3, p4⟩, ⟨by show (0 : Int) ≤ x1; omega, by show x1 ≤ (3 : Int); omega⟩, ⟨ax4, by show x4 ≤ 99; omega⟩⟩, S.more (by omega)⟩
        · have v2 := S.box.cell 2
          have fz2 := S.box.frozen 2
          replace S := S.put 2 (.int .i64 (1 + x2)) (o' := ⟨1, aa, (1 + x2), 0⟩) rfl
          go_wp2_with fail
          refine (pick_any _ _ _ _ S.rd (by omega) (by omega)).mono ?_
          rintro e w4 ⟨x4, rfl, ax4, cx4, hrx4, gx4⟩
          replace S := S.pick hrx4 gx4
          have cx4' : x4 < 100 := by omega
          clear cx4 hrx4 gx4
          have v3 := S.box.cell 3
          have fz3 := S.box.frozen 3
          replace S := S.put 3 (.int .i64 x4) (o' := ⟨1, aa, (1 + x2), x4⟩) rfl
          go_wp2_with fail
          go_meet
          case rel => exact ⟨⟨1, aa, (1 + x2), x4⟩, (Hps.okCm_new rfl).2 ⟨⟨p3, p4⟩, ⟨by show (0 : Int) ≤ (1 + x2); omega, by show (1 + x2) ≤ (3 : Int); omega⟩, ⟨ax4, by show x4 ≤ 99; omega⟩⟩, S.more (by omega)⟩
      · go_wp2_with fail
        refine (pick_any _ _ _ _ S.rd (by omega) (by omega)).mono ?_
        rintro e w1 ⟨x1, rfl, ax1, cx1, hrx1, gx1⟩
        replace S := S.pick hrx1 gx1
        have cx1' : x1 < 4 := by omega
        clear cx1 hrx1 gx1
        have v2 := S.box.cell 2
        have fz2 := S.box.frozen 2
        replace S := S.put 2 (.int .i64 x1) (o' := ⟨2, aa, x1, 0⟩) rfl
        go_wp2_with fail
        refine (pick_any _ _ _ _ S.rd (by omega) (by omega)).mono ?_
        rintro e w2 ⟨x2, rfl, ax2, cx2, hrx2, gx2⟩
        replace S := S.pick hrx2 gx2
        have cx2' : x2 < 3 := by omega
        clear cx2 hrx2 gx2
        have hw : IntKind.i64.wrap (1 + x2) = 1 + x2 := IntWalk.i64_in _ (by omega)
        go_wp2_with fail
        refine (pick_any _ _ _ _ S.rd (by omega) (by omega)).mono ?_
        rintro e w3 ⟨x3, rfl, ax3, cx3, hrx3, gx3⟩
        replace S := S.pick hrx3 gx3
        have cx3' : x3 < 3 := by omega
        clear cx3 hrx3 gx3
        have v3 := S.box.cell 3
        have fz3 := S.box.frozen 3
        replace S := S.put 3 (.int .i64 x3) (o' := ⟨2, aa, x1, x3⟩) rfl
        go_wp2_with fail
        go_meet
        case rel => exact ⟨⟨2, aa, x1, x3⟩, (Hps.okCm_get (.inl rfl)).2 ⟨⟨p3, p4⟩, ⟨ax1, by show x1 ≤ 3; omega⟩, ⟨ax3, by show x3 ≤ 2; omega⟩⟩, S.more (by omega)⟩
      · go_wp2_with fail
        refine (pick_any _ _ _ _ S.rd (by omega) (by omega)).mono ?_
        rintro e w1 ⟨x1, rfl, ax1, cx1, hrx1, gx1⟩
        replace S := S.pick hrx1 gx1
        have cx1' : x1 < 4 := by omega
        clear cx1 hrx1 gx1
        have v2 := S.box.cell 2
        have fz2 := S.box.frozen 2
        replace S := S.put 2 (.int .i64 x1) (o' := ⟨3, aa, x1, 0⟩) rfl
        go_wp2_with fail
        refine (pick_any _ _ _ _ S.rd (by omega) (by omega)).mono ?_
        rintro e w2 ⟨x2, rfl, ax2, cx2, hrx2, gx2⟩
        replace S := S.pick hrx2 gx2
        have cx2' : x2 < 3 := by omega
        clear cx2 hrx2 gx2
        have hw : IntKind.i64.wrap (1 + x2) = 1 + x2 := IntWalk.i64_in _ (by omega)
        go_wp2_with fail
        refine (pick_any _ _ _ _ S.rd (by omega) (by omega)).mono ?_
        rintro e w3 ⟨x3, rfl, ax3, cx3, hrx3, gx3⟩
        replace S := S.pick hrx3 gx3
        have cx3' : x3 < 3 := by omega
        clear cx3 hrx3 gx3
        have v3 := S.box.cell 3
        have fz3 := S.box.frozen 3
        replace S := S.put 3 (.int .i64 x3) (o' := ⟨3, aa, x1, x3⟩) rfl
        go_wp2_with fail
        go_meet
        case rel => exact ⟨⟨3, aa, x1, x3⟩, (Hps.okCm_get (.inr rfl)).2 ⟨⟨p3, p4⟩, ⟨ax1, by show x1 ≤ 3; omega⟩, ⟨ax3, by show x3 ≤ 2; omega⟩⟩, S.more (by omega)⟩
      · go_wp2_with fail
        refine (pick_any _ _ _ _ S.rd (by omega) (by omega)).mono ?_
        rintro e w1 ⟨x1, rfl, ax1, cx1, hrx1, gx1⟩
        replace S := S.pick hrx1 gx1
        have cx1' : x1 < 4 := by omega
        clear cx1 hrx1 gx1
        have v2 := S.box.cell 2
        have fz2 := S.box.frozen 2
        replace S := S.put 2 (.int .i64 x1) (o' := ⟨4, aa, x1, 0⟩) rfl
        go_wp2_with fail
        go_meet
        case rel => exact ⟨⟨4, aa, x1, 0⟩, (Hps.okCm_copy rfl).2 ⟨⟨p3, p4⟩, ⟨ax1, by show x1 ≤ 3; omega⟩, rfl⟩, S.more (by omega)⟩
      · go_wp2_with fail
        go_meet
        case rel => exact ⟨⟨5, aa, 0, 0⟩, (Hps.okCm_drop rfl).2 ⟨⟨p3, p4⟩, rfl, rfl⟩, S.more (by omega)⟩
      · go_wp2_with fail
        refine (pick_any _ _ _ _ S.rd (by omega) (by omega)).mono ?_
        rintro e w1 ⟨x1, rfl, ax1, cx1, hrx1, gx1⟩
        replace S := S.pick hrx1 gx1
        have cx1' : x1 < 100 := by omega
        clear cx1 hrx1 gx1
        have v2 := S.box.cell 2
        have fz2 := S.box.frozen 2
        replace S := S.put 2 (.int .i64 x1) (o' := ⟨6, aa, x1, 0⟩) rfl
        go_wp2_with fail
        go_meet
        case rel => exact ⟨⟨6, aa, x1, 0⟩, (Hps.okCm_data rfl).2 ⟨⟨p3, p4⟩, ⟨ax1, by show x1 ≤ 99; omega⟩, rfl⟩, S.more (by omega)⟩
    case rest =>
      clear y0 S p1 p2 p3 p4
      obtain ⟨o, ho, S⟩ := hcut
      have so := small_of_ok ho
      by_cases hn1 : n = 0
      · subst hn1
        have SS := Lib.hid S
        have HO := Lib.hid ho
        have SO := Lib.hid so
        have b0 : wc.cell? ⟨b, 0, none⟩ = some (.int .i64 o.op) := S.box.cell 0
        have b1 : wc.cell? ⟨b, 1, none⟩ = some (.int .i64 o.a) := S.box.cell 1
        have b2 : wc.cell? ⟨b, 2, none⟩ = some (.int .i64 o.b) := S.box.cell 2
        have b3 : wc.cell? ⟨b, 3, none⟩ = some (.int .i64 o.c) := S.box.cell 3
        have R := Lib.hid S.rd
        clear S ho so
        go_wp2_with fail
        refine (odd_zero' _ _ _ R.out).mono ?_
        rintro e w' ⟨rfl, rfl⟩
        have S9 := SS.out
        have rr := S9.res
        have r2 : (wc).frozen? ⟨w.heap.size, 0, none⟩ = false := rr.frozen 0
        have r3 : (wc).frozen? ⟨w.heap.size, 1, none⟩ = false := rr.frozen 1
        have r4 : (wc).frozen? ⟨w.heap.size, 2, none⟩ = false := rr.frozen 2
        have r5 : (wc).frozen? ⟨w.heap.size, 3, none⟩ = false := rr.frozen 3
        have s2 : (wc).cell? ⟨w.heap.size, 0, none⟩ = some (.int .i64 0) := rr.cell 0
        have s3 : (wc).cell? ⟨w.heap.size, 1, none⟩ = some (.int .i64 0) := rr.cell 1
        have s4 : (wc).cell? ⟨w.heap.size, 2, none⟩ = some (.int .i64 0) := rr.cell 2
        have s5 : (wc).cell? ⟨w.heap.size, 3, none⟩ = some (.int .i64 0) := rr.cell 3
        have bN : Below w.heap.size (wc) (((((wc).setCell ⟨w.heap.size, 0, none⟩ (.int .i64 (o.op))).setCell ⟨w.heap.size, 1, none⟩ (.int .i64 (o.a))).setCell ⟨w.heap.size, 2, none⟩ (.int .i64 (o.b))).setCell ⟨w.heap.size, 3, none⟩ (.int .i64 (o.c))) := ((((Below.refl _ _).setCell (p := ⟨w.heap.size, 0, none⟩) (Nat.le_refl _) _).setCell (p := ⟨w.heap.size, 1, none⟩) (Nat.le_refl _) _).setCell (p := ⟨w.heap.size, 2, none⟩) (Nat.le_refl _) _).setCell (p := ⟨w.heap.size, 3, none⟩) (Nat.le_refl _) _
        have RN := (((rr.put 0 (.int .i64 (o.op))).put 1 (.int .i64 (o.a))).put 2 (.int .i64 (o.b))).put 3 (.int .i64 (o.c))
        have n0 := RN.cell 0
        have n1 := RN.cell 1
        have n2 := RN.cell 2
        have n3 := RN.cell 3
        simp at n0 n1 n2 n3
        have rdN := (S9.rd.below bN hold).more (N' := N + 12) (by omega)
        have gN := grown_below S9.grown bN
        clear rr RN bN
        clear S9
        go_wp2_with fail
        exact bodyPost_ret (v := cmV o) (by simp [results, Try.results101, go_sem, *]) rfl ⟨o, rfl, (fun _ => HO.out), SO.out, rdN, gN⟩
      · have hn2 : 1 ≤ n := by omega
        have SO := Lib.hid so
        have R := Lib.hid S.rd
        clear ho so
        go_wp2_with fail
        refine (odd_any _ _ _ _ R.out (by omega) hn2 (by omega)).mono ?_
        rintro e w1 ⟨bb, rfl, hr1, g1⟩
        replace S := S.pick hr1 g1
        clear hr1 g1 R wc
        cases bb
        · have SS := Lib.hid S
          have b0 : w1.cell? ⟨b, 0, none⟩ = some (.int .i64 o.op) := S.box.cell 0
          have b1 : w1.cell? ⟨b, 1, none⟩ = some (.int .i64 o.a) := S.box.cell 1
          have b2 : w1.cell? ⟨b, 2, none⟩ = some (.int .i64 o.b) := S.box.cell 2
          have b3 : w1.cell? ⟨b, 3, none⟩ = some (.int .i64 o.c) := S.box.cell 3
          clear S
          have S9 := SS.out
          have rr := S9.res
          have r2 : (w1).frozen? ⟨w.heap.size, 0, none⟩ = false := rr.frozen 0
          have r3 : (w1).frozen? ⟨w.heap.size, 1, none⟩ = false := rr.frozen 1
          have r4 : (w1).frozen? ⟨w.heap.size, 2, none⟩ = false := rr.frozen 2
          have r5 : (w1).frozen? ⟨w.heap.size, 3, none⟩ = false := rr.frozen 3
          have s2 : (w1).cell? ⟨w.heap.size, 0, none⟩ = some (.int .i64 0) := rr.cell 0
          have s3 : (w1).cell? ⟨w.heap.size, 1, none⟩ = some (.int .i64 0) := rr.cell 1
          have s4 : (w1).cell? ⟨w.heap.size, 2, none⟩ = some (.int .i64 0) := rr.cell 2
          have s5 : (w1).cell? ⟨w.heap.size, 3, none⟩ = some (.int .i64 0) := rr.cell 3
          have bN : Below w.heap.size (w1) (((((w1).setCell ⟨w.heap.size, 0, none⟩ (.int .i64 (o.op))).setCell ⟨w.heap.size, 1, none⟩ (.int .i64 (o.a))).setCell ⟨w.heap.size, 2, none⟩ (.int .i64 (o.b))).setCell ⟨w.heap.size, 3, none⟩ (.int .i64 (o.c))) := ((((Below.refl _ _).setCell (p := ⟨w.heap.size, 0, none⟩) (Nat.le_refl _) _).setCell (p := ⟨w.heap.size, 1, none⟩) (Nat.le_refl _) _).setCell (p := ⟨w.heap.size, 2, none⟩) (Nat.le_refl _) _).setCell (p := ⟨w.heap.size, 3, none⟩) (Nat.le_refl _) _
          have RN := (((rr.put 0 (.int .i64 (o.op))).put 1 (.int .i64 (o.a))).put 2 (.int .i64 (o.b))).put 3 (.int .i64 (o.c))
          have n0 := RN.cell 0
          have n1 := RN.cell 1
          have n2 := RN.cell 2
          have n3 := RN.cell 3
          simp at n0 n1 n2 n3
          have rdN := (S9.rd.below bN hold).more (N' := N + 12) (by omega)
          have gN := grown_below S9.grown bN
          clear rr RN bN
          clear S9
          go_wp2_with fail
          exact bodyPost_ret (v := cmV o) (by simp [results, Try.results101, go_sem, *]) rfl ⟨o, rfl, (fun h => absurd h hn1), SO.out, rdN, gN⟩
        · go_wp2_with fail
          refine (pick_any _ _ _ _ S.rd (by omega) (by omega)).mono ?_
          rintro e w2 ⟨j, rfl, a2, c2, hr2, g2⟩
          replace S := S.pick hr2 g2
          clear hr2 g2
          have hj : j = 0 ∨ j = 1 ∨ j = 2 ∨ j = 3 := by omega
          clear a2 c2
          rcases hj with rfl | rfl | rfl | rfl
          · have hsz := S.box.lt
            have T := Rw.new w2 3 #[.int .i64 0, .int .i64 7]
            replace S := S.alloc (.cells #[.int .i64 0, .int .i64 7] 3)
            go_wp2_with fail
            refine (pick_any _ _ _ _ S.rd (by omega) (by omega)).mono ?_
            rintro e w3 ⟨j, rfl, aj, cj, hrj, gj⟩
            have T3 := T.far gj (fun e => by injection e with e; omega)
            have t0 := T3.cell 0
            have t1 := T3.cell 1
            simp at t0 t1
            replace S := S.pick hrj gj
            have hjj : j = 0 ∨ j = 1 := by omega
            clear aj cj hrj gj T T3 hsz
            obtain ⟨q, hq, q1, q2⟩ : ∃ q : Int, (j = 0 ∧ q = 0 ∨ j = 1 ∧ q = 7) ∧ -1 ≤ q ∧ q ≤ 100 := by
              rcases hjj with e | e
              · exact ⟨_, .inl ⟨e, rfl⟩, by omega, by omega⟩
              · exact ⟨_, .inr ⟨e, rfl⟩, by omega, by omega⟩
            have S8 := S.put 0 (.int .i64 q) (o' := ⟨q, o.a, o.b, o.c⟩) rfl
            have v0 := S.box.cell 0
            have fz0 := S.box.frozen 0
            have sm : SmallCm ⟨q, o.a, o.b, o.c⟩ := by
              obtain ⟨k1, k2, k3, k4⟩ := SO.out
              refine ⟨?_, ?_, ?_, ?_⟩ <;> first | assumption | (simp only; omega)
            obtain ⟨o', ho'⟩ : ∃ o' : Cm, o' = ⟨q, o.a, o.b, o.c⟩ := ⟨_, rfl⟩
            have W8 : ∃ w8, w3.setCell ⟨b, 0, none⟩ (.int .i64 q) = w8 := ⟨_, rfl⟩
            rw [← ho'] at S8 sm
            have b0 : (w3.setCell ⟨b, 0, none⟩ (.int .i64 q)).cell? ⟨b, 0, none⟩ = some (.int .i64 o'.op) := S8.box.cell 0
            have b1 : (w3.setCell ⟨b, 0, none⟩ (.int .i64 q)).cell? ⟨b, 1, none⟩ = some (.int .i64 o'.a) := S8.box.cell 1
            have b2 : (w3.setCell ⟨b, 0, none⟩ (.int .i64 q)).cell? ⟨b, 2, none⟩ = some (.int .i64 o'.b) := S8.box.cell 2
            have b3 : (w3.setCell ⟨b, 0, none⟩ (.int .i64 q)).cell? ⟨b, 3, none⟩ = some (.int .i64 o'.c) := S8.box.cell 3
            have S9 := S8
            have rr := S9.res
            have r2 : (w3.setCell ⟨b, 0, none⟩ (.int .i64 q)).frozen? ⟨w.heap.size, 0, none⟩ = false := rr.frozen 0
            have r3 : (w3.setCell ⟨b, 0, none⟩ (.int .i64 q)).frozen? ⟨w.heap.size, 1, none⟩ = false := rr.frozen 1
            have r4 : (w3.setCell ⟨b, 0, none⟩ (.int .i64 q)).frozen? ⟨w.heap.size, 2, none⟩ = false := rr.frozen 2
            have r5 : (w3.setCell ⟨b, 0, none⟩ (.int .i64 q)).frozen? ⟨w.heap.size, 3, none⟩ = false := rr.frozen 3
            have s2 : (w3.setCell ⟨b, 0, none⟩ (.int .i64 q)).cell? ⟨w.heap.size, 0, none⟩ = some (.int .i64 0) := rr.cell 0
            have s3 : (w3.setCell ⟨b, 0, none⟩ (.int .i64 q)).cell? ⟨w.heap.size, 1, none⟩ = some (.int .i64 0) := rr.cell 1
            have s4 : (w3.setCell ⟨b, 0, none⟩ (.int .i64 q)).cell? ⟨w.heap.size, 2, none⟩ = some (.int .i64 0) := rr.cell 2
            have s5 : (w3.setCell ⟨b, 0, none⟩ (.int .i64 q)).cell? ⟨w.heap.size, 3, none⟩ = some (.int .i64 0) := rr.cell 3
            have bN : Below w.heap.size (w3.setCell ⟨b, 0, none⟩ (.int .i64 q)) (((((w3.setCell ⟨b, 0, none⟩ (.int .i64 q)).setCell ⟨w.heap.size, 0, none⟩ (.int .i64 (o'.op))).setCell ⟨w.heap.size, 1, none⟩ (.int .i64 (o'.a))).setCell ⟨w.heap.size, 2, none⟩ (.int .i64 (o'.b))).setCell ⟨w.heap.size, 3, none⟩ (.int .i64 (o'.c))) := ((((Below.refl _ _).setCell (p := ⟨w.heap.size, 0, none⟩) (Nat.le_refl _) _).setCell (p := ⟨w.heap.size, 1, none⟩) (Nat.le_refl _) _).setCell (p := ⟨w.heap.size, 2, none⟩) (Nat.le_refl _) _).setCell (p := ⟨w.heap.size, 3, none⟩) (Nat.le_refl _) _
            have RN := (((rr.put 0 (.int .i64 (o'.op))).put 1 (.int .i64 (o'.a))).put 2 (.int .i64 (o'.b))).put 3 (.int .i64 (o'.c))
            have n0 := RN.cell 0
            have n1 := RN.cell 1
            have n2 := RN.cell 2
            have n3 := RN.cell 3
            simp at n0 n1 n2 n3
            have rdN := (S9.rd.below bN hold).more (N' := N + 12) (by omega)
            have gN := grown_below S9.grown bN
            clear rr RN bN
            have SM := Lib.hid sm
            clear S9 S8 S sm W8 ho' hjj
            rcases hq with ⟨rfl, rfl⟩ | ⟨rfl, rfl⟩ <;>
            · go_wp2_with fail
              exact bodyPost_ret (v := cmV o') (by simp [results, Try.results101, go_sem, *]) rfl ⟨o', rfl, fun h => absurd h hn1, SM.out, rdN, gN⟩
          · have hsz := S.box.lt
            have T := Rw.new w2 3 #[.int .i64 (-1), .int .i64 4]
            replace S := S.alloc (.cells #[.int .i64 (-1), .int .i64 4] 3)
            go_wp2_with fail
            refine (pick_any _ _ _ _ S.rd (by omega) (by omega)).mono ?_
            rintro e w3 ⟨j, rfl, aj, cj, hrj, gj⟩
            have T3 := T.far gj (fun e => by injection e with e; omega)
            have t0 := T3.cell 0
            have t1 := T3.cell 1
            simp at t0 t1
            replace S := S.pick hrj gj
            have hjj : j = 0 ∨ j = 1 := by omega
            clear aj cj hrj gj T T3 hsz
            obtain ⟨q, hq, q1, q2⟩ : ∃ q : Int, (j = 0 ∧ q = (-1) ∨ j = 1 ∧ q = 4) ∧ -1 ≤ q ∧ q ≤ 100 := by
              rcases hjj with e | e
              · exact ⟨_, .inl ⟨e, rfl⟩, by omega, by omega⟩
              · exact ⟨_, .inr ⟨e, rfl⟩, by omega, by omega⟩
            have S8 := S.put 1 (.int .i64 q) (o' := ⟨o.op, q, o.b, o.c⟩) rfl
            have v1 := S.box.cell 1
            have fz1 := S.box.frozen 1
            have sm : SmallCm ⟨o.op, q, o.b, o.c⟩ := by
              obtain ⟨k1, k2, k3, k4⟩ := SO.out
              refine ⟨?_, ?_, ?_, ?_⟩ <;> first | assumption | (simp only; omega)
            obtain ⟨o', ho'⟩ : ∃ o' : Cm, o' = ⟨o.op, q, o.b, o.c⟩ := ⟨_, rfl⟩
            have W8 : ∃ w8, w3.setCell ⟨b, 1, none⟩ (.int .i64 q) = w8 := ⟨_, rfl⟩
            rw [← ho'] at S8 sm
            have b0 : (w3.setCell ⟨b, 1, none⟩ (.int .i64 q)).cell? ⟨b, 0, none⟩ = some (.int .i64 o'.op) := S8.box.cell 0
            have b1 : (w3.setCell ⟨b, 1, none⟩ (.int .i64 q)).cell? ⟨b, 1, none⟩ = some (.int .i64 o'.a) := S8.box.cell 1
            have b2 : (w3.setCell ⟨b, 1, none⟩ (.int .i64 q)).cell? ⟨b, 2, none⟩ = some (.int .i64 o'.b) := S8.box.cell 2
            have b3 : (w3.setCell ⟨b, 1, none⟩ (.int .i64 q)).cell? ⟨b, 3, none⟩ = some (.int .i64 o'.c) := S8.box.cell 3
            have S9 := S8
            have rr := S9.res
            have r2 : (w3.setCell ⟨b, 1, none⟩ (.int .i64 q)).frozen? ⟨w.heap.size, 0, none⟩ = false := rr.frozen 0
            have r3 : (w3.setCell ⟨b, 1, none⟩ (.int .i64 q)).frozen? ⟨w.heap.size, 1, none⟩ = false := rr.frozen 1
            have r4 : (w3.setCell ⟨b, 1, none⟩ (.int .i64 q)).frozen? ⟨w.heap.size, 2, none⟩ = false := rr.frozen 2
            have r5 : (w3.setCell ⟨b, 1, none⟩ (.int .i64 q)).frozen? ⟨w.heap.size, 3, none⟩ = false := rr.frozen 3
            have s2 : (w3.setCell ⟨b, 1, none⟩ (.int .i64 q)).cell? ⟨w.heap.size, 0, none⟩ = some (.int .i64 0) := rr.cell 0
            have s3 : (w3.setCell ⟨b, 1, none⟩ (.int .i64 q)).cell? ⟨w.heap.size, 1, none⟩ = some (.int .i64 0) := rr.cell 1
            have s4 : (w3.setCell ⟨b, 1, none⟩ (.int .i64 q)).cell? ⟨w.heap.size, 2, none⟩ = some (.int .i64 0) := rr.cell 2
            have s5 : (w3.setCell ⟨b, 1, none⟩ (.int .i64 q)).cell? ⟨w.heap.size, 3, none⟩ = some (.int .i64 0) := rr.cell 3
            have bN : Below w.heap.size (w3.setCell ⟨b, 1, none⟩ (.int .i64 q)) (((((w3.setCell ⟨b, 1, none⟩ (.int .i64 q)).setCell ⟨w.heap.size, 0, none⟩ (.int .i64 (o'.op))).setCell ⟨w.heap.size, 1, none⟩ (.int .i64 (o'.a))).setCell ⟨w.heap.size, 2, none⟩ (.int .i64 (o'.b))).setCell ⟨w.heap.size, 3, none⟩ (.int .i64 (o'.c))) := ((((Below.refl _ _).setCell (p := ⟨w.heap.size, 0, none⟩) (Nat.le_refl _) _).setCell (p := ⟨w.heap.size, 1, none⟩) (Nat.le_refl _) _).setCell (p := ⟨w.heap.size, 2, none⟩) (Nat.le_refl _) _).setCell (p := ⟨w.heap.size, 3, none⟩) (Nat.le_refl _) _
            have RN := (((rr.put 0 (.int .i64 (o'.op))).put 1 (.int .i64 (o'.a))).put 2 (.int .i64 (o'.b))).put 3 (.int .i64 (o'.c))
            have n0 := RN.cell 0
            have n1 := RN.cell 1
            have n2 := RN.cell 2
            have n3 := RN.cell 3
            simp at n0 n1 n2 n3
            have rdN := (S9.rd.below bN hold).more (N' := N + 12) (by omega)
            have gN := grown_below S9.grown bN
            clear rr RN bN
            have SM := Lib.hid sm
            clear S9 S8 S sm W8 ho' hjj
            rcases hq with ⟨rfl, rfl⟩ | ⟨rfl, rfl⟩ <;>
            · go_wp2_with fail
              exact bodyPost_ret (v := cmV o') (by simp [results, Try.results101, go_sem, *]) rfl ⟨o', rfl, fun h => absurd h hn1, SM.out, rdN, gN⟩
          · have hsz := S.box.lt
            have T := Rw.new w2 3 #[.int .i64 (-1), .int .i64 100]
            replace S := S.alloc (.cells #[.int .i64 (-1), .int .i64 100] 3)
            go_wp2_with fail
            refine (pick_any _ _ _ _ S.rd (by omega) (by omega)).mono ?_
            rintro e w3 ⟨j, rfl, aj, cj, hrj, gj⟩
            have T3 := T.far gj (fun e => by injection e with e; omega)
            have t0 := T3.cell 0
            have t1 := T3.cell 1
            simp at t0 t1
            replace S := S.pick hrj gj
            have hjj : j = 0 ∨ j = 1 := by omega
            clear aj cj hrj gj T T3 hsz
            obtain ⟨q, hq, q1, q2⟩ : ∃ q : Int, (j = 0 ∧ q = (-1) ∨ j = 1 ∧ q = 100) ∧ -1 ≤ q ∧ q ≤ 100 := by
              rcases hjj with e | e
              · exact ⟨_, .inl ⟨e, rfl⟩, by omega, by omega⟩
              · exact ⟨_, .inr ⟨e, rfl⟩, by omega, by omega⟩
            have S8 := S.put 2 (.int .i64 q) (o' := ⟨o.op, o.a, q, o.c⟩) rfl
            have v2 := S.box.cell 2
            have fz2 := S.box.frozen 2
            have sm : SmallCm ⟨o.op, o.a, q, o.c⟩ := by
              obtain ⟨k1, k2, k3, k4⟩ := SO.out
              refine ⟨?_, ?_, ?_, ?_⟩ <;> first | assumption | (simp only; omega)
            obtain ⟨o', ho'⟩ : ∃ o' : Cm, o' = ⟨o.op, o.a, q, o.c⟩ := ⟨_, rfl⟩
            have W8 : ∃ w8, w3.setCell ⟨b, 2, none⟩ (.int .i64 q) = w8 := ⟨_, rfl⟩
            rw [← ho'] at S8 sm
            have b0 : (w3.setCell ⟨b, 2, none⟩ (.int .i64 q)).cell? ⟨b, 0, none⟩ = some (.int .i64 o'.op) := S8.box.cell 0
            have b1 : (w3.setCell ⟨b, 2, none⟩ (.int .i64 q)).cell? ⟨b, 1, none⟩ = some (.int .i64 o'.a) := S8.box.cell 1
            have b2 : (w3.setCell ⟨b, 2, none⟩ (.int .i64 q)).cell? ⟨b, 2, none⟩ = some (.int .i64 o'.b) := S8.box.cell 2
            have b3 : (w3.setCell ⟨b, 2, none⟩ (.int .i64 q)).cell? ⟨b, 3, none⟩ = some (.int .i64 o'.c) := S8.box.cell 3
            have S9 := S8
            have rr := S9.res
            have r2 : (w3.setCell ⟨b, 2, none⟩ (.int .i64 q)).frozen? ⟨w.heap.size, 0, none⟩ = false := rr.frozen 0
            have r3 : (w3.setCell ⟨b, 2, none⟩ (.int .i64 q)).frozen? ⟨w.heap.size, 1, none⟩ = false := rr.frozen 1
            have r4 : (w3.setCell ⟨b, 2, none⟩ (.int .i64 q)).frozen? ⟨w.heap.size, 2, none⟩ = false := rr.frozen 2
            have r5 : (w3.setCell ⟨b, 2, none⟩ (.int .i64 q)).frozen? ⟨w.heap.size, 3, none⟩ = false := rr.frozen 3
            have s2 : (w3.setCell ⟨b, 2, none⟩ (.int .i64 q)).cell? ⟨w.heap.size, 0, none⟩ = some (.int .i64 0) := rr.cell 0
            have s3 : (w3.setCell ⟨b, 2, none⟩ (.int .i64 q)).cell? ⟨w.heap.size, 1, none⟩ = some (.int .i64 0) := rr.cell 1
            have s4 : (w3.setCell ⟨b, 2, none⟩ (.int .i64 q)).cell? ⟨w.heap.size, 2, none⟩ = some (.int .i64 0) := rr.cell 2
            have s5 : (w3.setCell ⟨b, 2, none⟩ (.int .i64 q)).cell? ⟨w.heap.size, 3, none⟩ = some (.int .i64 0) := rr.cell 3
            have bN : Below w.heap.size (w3.setCell ⟨b, 2, none⟩ (.int .i64 q)) (((((w3.setCell ⟨b, 2, none⟩ (.int .i64 q)).setCell ⟨w.heap.size, 0, none⟩ (.int .i64 (o'.op))).setCell ⟨w.heap.size, 1, none⟩ (.int .i64 (o'.a))).setCell ⟨w.heap.size, 2, none⟩ (.int .i64 (o'.b))).setCell ⟨w.heap.size, 3, none⟩ (.int .i64 (o'.c))) := ((((Below.refl _ _).setCell (p := ⟨w.heap.size, 0, none⟩) (Nat.le_refl _) _).setCell (p := ⟨w.heap.size, 1, none⟩) (Nat.le_refl _) _).setCell (p := ⟨w.heap.size, 2, none⟩) (Nat.le_refl _) _).setCell (p := ⟨w.heap.size, 3, none⟩) (Nat.le_refl _) _
            have RN := (((rr.put 0 (.int .i64 (o'.op))).put 1 (.int .i64 (o'.a))).put 2 (.int .i64 (o'.b))).put 3 (.int .i64 (o'.c))
            have n0 := RN.cell 0
            have n1 := RN.cell 1
            have n2 := RN.cell 2
            have n3 := RN.cell 3
            simp at n0 n1 n2 n3
            have rdN := (S9.rd.below bN hold).more (N' := N + 12) (by omega)
            have gN := grown_below S9.grown bN
            clear rr RN bN
            have SM := Lib.hid sm
            clear S9 S8 S sm W8 ho' hjj
            rcases hq with ⟨rfl, rfl⟩ | ⟨rfl, rfl⟩ <;>
            · go_wp2_with fail
              exact bodyPost_ret (v := cmV o') (by simp [results, Try.results101, go_sem, *]) rfl ⟨o', rfl, fun h => absurd h hn1, SM.out, rdN, gN⟩
          · have hsz := S.box.lt
            have T := Rw.new w2 3 #[.int .i64 (-1), .int .i64 100]
            replace S := S.alloc (.cells #[.int .i64 (-1), .int .i64 100] 3)
            go_wp2_with fail
            refine (pick_any _ _ _ _ S.rd (by omega) (by omega)).mono ?_
            rintro e w3 ⟨j, rfl, aj, cj, hrj, gj⟩
            have T3 := T.far gj (fun e => by injection e with e; omega)
            have t0 := T3.cell 0
            have t1 := T3.cell 1
            simp at t0 t1
            replace S := S.pick hrj gj
            have hjj : j = 0 ∨ j = 1 := by omega
            clear aj cj hrj gj T T3 hsz
            obtain ⟨q, hq, q1, q2⟩ : ∃ q : Int, (j = 0 ∧ q = (-1) ∨ j = 1 ∧ q = 100) ∧ -1 ≤ q ∧ q ≤ 100 := by
              rcases hjj with e | e
              · exact ⟨_, .inl ⟨e, rfl⟩, by omega, by omega⟩
              · exact ⟨_, .inr ⟨e, rfl⟩, by omega, by omega⟩
            have S8 := S.put 3 (.int .i64 q) (o' := ⟨o.op, o.a, o.b, q⟩) rfl
            have v3 := S.box.cell 3
            have fz3 := S.box.frozen 3
            have sm : SmallCm ⟨o.op, o.a, o.b, q⟩ := by
              obtain ⟨k1, k2, k3, k4⟩ := SO.out
              refine ⟨?_, ?_, ?_, ?_⟩ <;> first | assumption | (simp only; omega)
            obtain ⟨o', ho'⟩ : ∃ o' : Cm, o' = ⟨o.op, o.a, o.b, q⟩ := ⟨_, rfl⟩
            have W8 : ∃ w8, w3.setCell ⟨b, 3, none⟩ (.int .i64 q) = w8 := ⟨_, rfl⟩
            rw [← ho'] at S8 sm
            have b0 : (w3.setCell ⟨b, 3, none⟩ (.int .i64 q)).cell? ⟨b, 0, none⟩ = some (.int .i64 o'.op) := S8.box.cell 0
            have b1 : (w3.setCell ⟨b, 3, none⟩ (.int .i64 q)).cell? ⟨b, 1, none⟩ = some (.int .i64 o'.a) := S8.box.cell 1
            have b2 : (w3.setCell ⟨b, 3, none⟩ (.int .i64 q)).cell? ⟨b, 2, none⟩ = some (.int .i64 o'.b) := S8.box.cell 2
            have b3 : (w3.setCell ⟨b, 3, none⟩ (.int .i64 q)).cell? ⟨b, 3, none⟩ = some (.int .i64 o'.c) := S8.box.cell 3
            have S9 := S8
            have rr := S9.res
            have r2 : (w3.setCell ⟨b, 3, none⟩ (.int .i64 q)).frozen? ⟨w.heap.size, 0, none⟩ = false := rr.frozen 0
            have r3 : (w3.setCell ⟨b, 3, none⟩ (.int .i64 q)).frozen? ⟨w.heap.size, 1, none⟩ = false := rr.frozen 1
            have r4 : (w3.setCell ⟨b, 3, none⟩ (.int .i64 q)).frozen? ⟨w.heap.size, 2, none⟩ = false := rr.frozen 2
            have r5 : (w3.setCell ⟨b, 3, none⟩ (.int .i64 q)).frozen? ⟨w.heap.size, 3, none⟩ = false := rr.frozen 3
            have s2 : (w3.setCell ⟨b, 3, none⟩ (.int .i64 q)).cell? ⟨w.heap.size, 0, none⟩ = some (.int .i64 0) := rr.cell 0
            have s3 : (w3.setCell ⟨b, 3, none⟩ (.int .i64 q)).cell? ⟨w.heap.size, 1, none⟩ = some (.int .i64 0) := rr.cell 1
            have s4 : (w3.setCell ⟨b, 3, none⟩ (.int .i64 q)).cell? ⟨w.heap.size, 2, none⟩ = some (.int .i64 0) := rr.cell 2
            have s5 : (w3.setCell ⟨b, 3, none⟩ (.int .i64 q)).cell? ⟨w.heap.size, 3, none⟩ = some (.int .i64 0) := rr.cell 3
            have bN : Below w.heap.size (w3.setCell ⟨b, 3, none⟩ (.int .i64 q)) (((((w3.setCell ⟨b, 3, none⟩ (.int .i64 q)).setCell ⟨w.heap.size, 0, none⟩ (.int .i64 (o'.op))).setCell ⟨w.heap.size, 1, none⟩ (.int .i64 (o'.a))).setCell ⟨w.heap.size, 2, none⟩ (.int .i64 (o'.b))).setCell ⟨w.heap.size, 3, none⟩ (.int .i64 (o'.c))) := ((((Below.refl _ _).setCell (p := ⟨w.heap.size, 0, none⟩) (Nat.le_refl _) _).setCell (p := ⟨w.heap.size, 1, none⟩) (Nat.le_refl _) _).setCell (p := ⟨w.heap.size, 2, none⟩) (Nat.le_refl _) _).setCell (p := ⟨w.heap.size, 3, none⟩) (Nat.le_refl _) _
            have RN := (((rr.put 0 (.int .i64 (o'.op))).put 1 (.int .i64 (o'.a))).put 2 (.int .i64 (o'.b))).put 3 (.int .i64 (o'.c))
            have n0 := RN.cell 0
            have n1 := RN.cell 1
            have n2 := RN.cell 2
            have n3 := RN.cell 3
            simp at n0 n1 n2 n3
            have rdN := (S9.rd.below bN hold).more (N' := N + 12) (by omega)
            have gN := grown_below S9.grown bN
            clear rr RN bN
            have SM := Lib.hid sm
            clear S9 S8 S sm W8 ho' hjj
            rcases hq with ⟨rfl, rfl⟩ | ⟨rfl, rfl⟩ <;>
            · go_wp2_with fail
              exact bodyPost_ret (v := cmV o') (by simp [results, Try.results101, go_sem, *]) rfl ⟨o', rfl, fun h => absurd h hn1, SM.out, rdN, gN⟩
end Go.Proofs.Ytakdjiojahlnmaa

namespace Go.Proofs.Ytakdjiojahlnmaa
open Go.RowKit
set_option maxRecDepth 100000
/-- a valid program has been drawn -/
def DrewP0 (w : World) (gr N : Nat) (e : Ending) (w' : World) : Prop :=
  ∃ (v : Value) (l : List Cm), e = .returned v ∧ OwnM w' w.heap.size v l ∧ Hps.okCms l = true ∧ Rd w' gr (N + 600) ∧ w.grownBy w' (some gr)
/-- what is known while instructions are drawn -/
structure DrawSM (w : World) (gr N : Nat) (wr : World) (v : Value) (l : List Cm) : Prop where
  own : OwnM wr w.heap.size v l
  rd : Rd wr gr N
  grown : w.grownBy wr (some gr)
theorem DrawSM.pick {w wr w' : World} {gr N N' : Nat} {v : Value} {l : List Cm} (h : DrawSM w gr N wr v l) (hgr : gr < w.heap.size) (hr : Rd w' gr N') (hg : wr.grownBy w' (some gr)) : DrawSM w gr N' w' v l := by
  refine ⟨h.own.far hg ?_, hr, World.grownBy.trans h.grown hg⟩
  right
  intro e
  have := (World.ownsRow.lt h.own gr e).1
  omega
theorem DrawSM.more {w wr : World} {gr N N' : Nat} {v : Value} {l : List Cm} (h : DrawSM w gr N wr v l) (hN : N ≤ N') : DrawSM w gr N' wr v l := ⟨h.own, h.rd.more hN, h.grown⟩
theorem DrawSM.next {w wr w' : World} {gr N : Nat} {v v' : Value} {l m : List Cm} (h : DrawSM w gr N wr v l) (hgr : gr < w.heap.size) (ho : OwnM w' w.heap.size v' m) (hb : Below w.heap.size wr w') : DrawSM w gr N w' v' m :=
  ⟨ho, h.rd.below hb hgr, grown_below h.grown hb⟩
set_option maxHeartbeats 2000000 in
theorem l20Program_zero (gr N : Nat) (w : World) (h : Rd w gr N) (hN : N ≤ 100000) :
    Calls Try.prog 76 #[.pointer (some ⟨gr, 0, none⟩), .int .i64 0] w (DrewP0 w gr N) := by
  have hgl := h.lt
  have b0 : Below w.heap.size w (w.alloc (.cells #[] 128)) := (Below.refl _ _).alloc (Nat.le_refl _) _
  have st0 : DrawSM w gr N (w.alloc (.cells #[] 128)) (.slice (some ⟨w.heap.size, 0, none⟩) 0 0) [] := ⟨own_noneM w w.heap.size (Nat.le_refl _), h.below b0 hgl, World.grownBy_alloc _ _ _⟩
  clear b0
  go_enter Try.func76, Try.ntmps76
  go_wp2_with fail
  refine (pick_any _ _ _ _ st0.rd (by omega) (by omega)).mono ?_
  rintro e w1 ⟨r1, rfl, a1, c1, hr1, g1⟩
  have c1' : r1 < 41 := by omega
  have st1 := (st0.pick hgl hr1 g1).more (N' := N + 1 + 12 * (40 - r1.toNat)) (by omega)
  clear st0 hr1 g1 c1
  obtain ⟨q, rfl⟩ := Int.eq_ofNat_of_zero_le a1
  simp only [Int.toNat_natCast] at st1
  clear a1
  go_wp2_with fail
  go_loopw [5, 6] (fun v i wr => ∃ (k : Nat) (l : List Cm), k ≤ 40 ∧ i = .int .i64 k ∧ l.length + k ≤ 40 ∧ Hid (∀ o ∈ l, Hps.okCm o = true) ∧ DrawSM w gr (N + 1 + 12 * (40 - k)) wr v l) (fun _ i _ => (intOf i).toNat)
  case atStart => exact ⟨q, [], by omega, rfl, by simp; omega, Lib.hid (by simp), st1⟩
  case round =>
    clear st1
    obtain ⟨k, l, hk, rfl, hl, HL, st⟩ := hrel
    by_cases hk0 : 0 < k
    · have hk0' : (0 : Int) < k := by omega
      have S := Lib.hid st
      clear st
      go_wp2_with fail
      refine (l20Command_any _ _ 0 _ S.out.rd (by omega) (by omega) (by omega)).mono ?_
      rintro e w2 ⟨o, rfl, ho, -, hr2, g2⟩
      have st2 := (S.out.pick hgl hr2 g2).more (N' := N + 1 + 12 * (40 - (k - 1))) (by omega)
      have HO := Lib.hid (ho rfl)
      clear S hr2 g2 ho
      have hs4 := st2.grown.size
      have ow := World.ownsRow.alloc st2.own (.cells #[.int .i64 o.op, .int .i64 o.a, .int .i64 o.b, .int .i64 o.c] 128)
      have rr : MS (w2.alloc (.cells #[.int .i64 o.op, .int .i64 o.a, .int .i64 o.b, .int .i64 o.c] 128)) (w2.alloc (.cells #[.int .i64 o.op, .int .i64 o.a, .int .i64 o.b, .int .i64 o.c] 128)).heap.size (some ⟨w2.heap.size, 0, none⟩) 1 [o] := (own_oneM w2 o 0 (Nat.zero_le _)).reads
      have hln : l.length + 1 ≤ 1099511627776 := by omega
      go_wp2_with (at_builtin; refine wpList_appendM rfl (.tmp 14) (.tmp 17) rfl w.heap.size _ l rfl ow (some ⟨w2.heap.size, 0, none⟩) 1 1 _ [o] rfl rr hln (by simp; omega) ?_; intro v5 w5 o5 g5 s5)
      have bn : Below w.heap.size w2 w5 := ((Below.refl w.heap.size w2).alloc hs4 _).grown g5 (by simp; omega) (fun k hk => (World.ownsRow.lt st2.own k hk).1)
      have st5 := st2.next hgl o5 bn
      clear ow rr g5 s5 o5 bn st2
      go_roundw
      case rel => exact ⟨k - 1, l ++ [o], by omega, int_eq (by omega), by simp; omega, Lib.hid (by intro x hx; rcases List.mem_append.1 hx with hx | hx; exact HL.out x hx; rw [List.mem_singleton] at hx; rw [hx]; exact HO.out), st5⟩
      case measure => simp [intOf]; omega
    · obtain rfl : k = 0 := by omega
      have S := Lib.hid st
      have R := Lib.hid st.rd
      have hok := Lib.hid (Hps.okCms_iff.2 ⟨HL.out, by omega⟩)
      clear st HL
      go_wp2_with fail
      refine (odd_zero' _ _ _ R.out).mono ?_
      rintro e w' ⟨rfl, rfl⟩
      go_wp2_with fail
      go_ret
      exact ⟨_, l, rfl, S.out.own, hok.out, S.out.rd.more (by omega), S.out.grown⟩
end Go.Proofs.Ytakdjiojahlnmaa

