/- A heap of a call's own in a box, with a row of numbers beside it in the same box (a list of free cells), and other blocks that stay, while it is written into. No conditions. -/
import Derived.Test.YthmddmddcdofaaaGf
import Derived.Test.YthmddmddcdofaaaPc
namespace Go.Proofs.Ythmddmddcdofaaa
open Go.RowKit
set_option maxRecDepth 100000

/-- what lies beside a heap in its box: nothing, or a row of numbers of the call's own, and blocks that stay as they are -/
abbrev Beside := Option (Value × List Int × List (Nat × TypeId × Array Value))
def Beside.cells (K : Beside) (vc vr : Value) : Array Value := match K with
  | none => #[vc, vr]
  | some p => #[vc, vr, p.1]
/-- a block is one of those -/
def Beside.Has (K : Beside) (g : Nat) : Prop := ∃ p, K = some p ∧ (p.1.ownBlock = some g ∨ ∃ e ∈ p.2.2, e.1 = g)
structure Beside.Ok (K : Beside) (w0 wr : World) (b : Nat) (vs : List Value) : Prop where
  row : ∀ p, K = some p → OwnQ wr w0.heap.size p.1 p.2.1
  kept : ∀ p, K = some p → ∀ e ∈ p.2.2, Rw wr e.1 e.2.1 e.2.2 ∧ p.1.ownBlock ≠ some e.1
  apart : ∀ g, K.Has g → g ≠ b ∧ ∀ v ∈ vs, v.ownBlock ≠ some g
theorem Beside.ok_none (w0 wr : World) (b : Nat) (vs : List Value) : Beside.Ok none w0 wr b vs := ⟨fun _ e => (nomatch e), fun _ e => (nomatch e), fun _ ⟨_, e, _⟩ => (nomatch e)⟩
/-- a heap of the call's own in the box b, a block of type T -/
structure BoxX (T : TypeId) (K : Beside) (w0 wr : World) (b : Nat) (vc vr : Value) (rvs : List Value) (h : Hp) : Prop where
  own : OwnHx wr w0.heap.size vc vr rvs h
  apart : Apart (some b) (vc :: vr :: rvs)
  box : Rw wr b T (K.cells vc vr)
  low : Below w0.heap.size w0 wr
  lo : w0.heap.size ≤ b
  side : K.Ok w0 wr b (vc :: vr :: rvs)
section
variable {T : TypeId} {K : Beside} {w0 wr w1 : World} {b g c d i k : Nat} {vc vr : Value} {rvs : List Value} {h : Hp} {cl : Cl}
theorem Beside.Ok.lt {vs : List Value} (S : K.Ok w0 wr b vs) (hg : K.Has g) : g < wr.heap.size := by
  obtain ⟨p, e, h1 | ⟨x, hx, rfl⟩⟩ := hg
  · exact ((S.row p e).lt g h1).2
  · exact (S.kept p e x hx).1.lt
theorem Beside.Ok.up {vs : List Value} (S : K.Ok w0 wr b vs) (hw : Below wr.heap.size wr w1) : K.Ok w0 w1 b vs :=
  ⟨fun p e => (S.row p e).below hw (Nat.le_refl _), fun p e x hx => ⟨(S.kept p e x hx).1.keep hw (S.kept p e x hx).1.lt, (S.kept p e x hx).2⟩, S.apart⟩
theorem Beside.Ok.far {vs : List Value} {row : Option Nat} (S : K.Ok w0 wr b vs) (hG : wr.grownBy w1 row) (hne : ∀ g, K.Has g → row ≠ some g) : K.Ok w0 w1 b vs :=
  ⟨fun p e => (S.row p e).kept hG (by
      cases e1 : p.1.ownBlock with
      | none => exact .inl rfl
      | some g => exact .inr fun e2 => hne g ⟨p, e, .inl e1⟩ e2.symm),
    fun p e x hx => ⟨Rw.far (S.kept p e x hx).1 hG (fun e2 => hne x.1 ⟨p, e, .inr ⟨x, hx, rfl⟩⟩ e2.symm), (S.kept p e x hx).2⟩, S.apart⟩
theorem Beside.Ok.rows {vs vs' : List Value} (S : K.Ok w0 wr b vs) (hs : ∀ v ∈ vs', v ∈ vs ∨ ∀ g, K.Has g → v.ownBlock ≠ some g) : K.Ok w0 wr b vs' :=
  ⟨S.row, S.kept, fun g hg => ⟨(S.apart g hg).1, fun v hv => by
    rcases hs v hv with h1 | h1
    · exact (S.apart g hg).2 v h1
    · exact h1 g hg⟩⟩
theorem BoxSt.toX (S : BoxSt w0 wr b vc vr rvs h) : BoxX 26 none w0 wr b vc vr rvs h := ⟨S.own, S.apart, S.box, S.low, S.lo, Beside.ok_none _ _ _ _⟩
theorem BoxX.toSt (S : BoxX 26 none w0 wr b vc vr rvs h) : BoxSt w0 wr b vc vr rvs h := ⟨S.own, S.apart, S.box, S.low, S.lo⟩
theorem BoxX.c0 (S : BoxX T K w0 wr b vc vr rvs h) : wr.cell? ⟨b, 0, none⟩ = some vc := (S.box.cell 0).trans (by cases K <;> rfl)
theorem BoxX.c1 (S : BoxX T K w0 wr b vc vr rvs h) : wr.cell? ⟨b, 1, none⟩ = some vr := (S.box.cell 1).trans (by cases K <;> rfl)
theorem BoxX.up (S : BoxX T K w0 wr b vc vr rvs h) (hw : Below wr.heap.size wr w1) : BoxX T K w0 w1 b vc vr rvs h :=
  ⟨S.own.below hw (Nat.le_refl _), S.apart, S.box.keep hw S.box.lt, S.low.trans (hw.mono S.low.size), S.lo, S.side.up hw⟩
theorem BoxX.drew (S : BoxX T K w0 wr b vc vr rvs h) : BoxX T K w0 wr.drew b vc vr rvs h := S.up (Below.refl _ _).drew
theorem BoxX.form (S : BoxX T K w0 wr b vc vr rvs h) (hl : 0 < h.rt.length) : ∃ A c gr d, vc = .slice A h.cs.length c ∧ vr = .slice (some ⟨gr, 0, none⟩) h.rt.length d ∧ (0 < h.cs.length → ∃ g, A = some ⟨g, 0, none⟩) := by
  obtain ⟨A, c, R, d, e1, e2, _, _, fA, fR⟩ := S.own.form
  obtain ⟨gr, rfl, _, _⟩ := fR hl
  exact ⟨A, c, gr, d, e1, e2, fun h => by obtain ⟨g, e, _⟩ := fA h; exact ⟨g, e⟩⟩
theorem BoxSt.form (S : BoxSt w0 wr b vc vr rvs h) (hl : 0 < h.rt.length) : ∃ A c gr d, vc = .slice A h.cs.length c ∧ vr = .slice (some ⟨gr, 0, none⟩) h.rt.length d ∧ (0 < h.cs.length → ∃ g, A = some ⟨g, 0, none⟩) := S.toX.form hl
/-- a block of the heap is none of those beside it, nor the box -/
theorem BoxX.beside (S : BoxX T K w0 wr b vc vr rvs h) {v : Value} (hv : v ∈ vc :: vr :: rvs) (hg : v.ownBlock = some g) (g' : Nat) (hk : K.Has g') : some g ≠ some g' := fun e => (S.side.apart g' hk).2 v hv (hg.trans e)
theorem BoxX.boxNe (S : BoxX T K w0 wr b vc vr rvs h) {v : Value} (hv : v ∈ vc :: vr :: rvs) (hg : v.ownBlock = some g) : b ≠ g := by
  rcases S.apart v hv with e | e
  · rw [hg] at e; cases e
  · intro e'; rw [hg] at e; exact e (by rw [e'])
theorem BoxX.into (S : BoxX T K w0 wr b vc vr rvs h) {v : Value} (hv : v ∈ vc :: vr :: rvs) (hg : v.ownBlock = some g) {h' : Hp} (u : Value)
    (ho : OwnHx (wr.setCell ⟨g, i, none⟩ u) w0.heap.size vc vr rvs h') : BoxX T K w0 (wr.setCell ⟨g, i, none⟩ u) b vc vr rvs h' := by
  have h1 := S.own.blocks hv hg
  exact ⟨ho, S.apart, S.box.other (S.boxNe hv hg) u, S.low.setCell (p := ⟨g, i, none⟩) (by show w0.heap.size ≤ g; omega) u, S.lo, S.side.far (put_any wr g i u) (S.beside hv hg)⟩
theorem BoxX.root {m : Nat} (S : BoxX T K w0 wr b vc (.slice (some ⟨g, 0, none⟩) m d) rvs h) (hm : h.rt.length = m) (x : Int) : BoxX T K w0 (wr.setCell ⟨g, i, none⟩ (.int .i64 x)) b vc (.slice (some ⟨g, 0, none⟩) m d) rvs ⟨h.cs, h.rt.set i x⟩ := by
  subst hm
  exact S.into (v := .slice (some ⟨g, 0, none⟩) h.rt.length d) (by simp) rfl _ (S.own.root x)
theorem BoxX.data {n : Nat} (S : BoxX T K w0 wr b (.slice (some ⟨g, 0, none⟩) n d) vr rvs h) (hn : h.cs.length = n) (hc : h.cs[k]? = some cl) (x : Int) : BoxX T K w0 (wr.setCell ⟨g, k * 3 + 1, none⟩ (.int .i64 x)) b (.slice (some ⟨g, 0, none⟩) n d) vr rvs ⟨h.cs.set k ⟨cl.u, x, cl.r⟩, h.rt⟩ := by
  subst hn
  exact S.into (v := .slice (some ⟨g, 0, none⟩) h.cs.length d) (by simp) rfl _ (S.own.data hc x)
theorem BoxX.ref1 {m : Nat} (S : BoxX T K w0 wr b vc vr rvs h) (hc : h.cs[k]? = some cl) (hv : rvs[k]? = some (.slice (some ⟨g, 0, none⟩) m d)) (hm : cl.r.length = m) (x : Int) : BoxX T K w0 (wr.setCell ⟨g, i, none⟩ (.int .i64 x)) b vc vr rvs ⟨h.cs.set k ⟨cl.u, cl.d, cl.r.set i x⟩, h.rt⟩ := by
  subst hm
  exact S.into (v := .slice (some ⟨g, 0, none⟩) cl.r.length d) (by simp [List.mem_of_getElem? hv]) rfl _ (S.own.ref1 hc hv x)
theorem BoxX.snoc {v9 v8 : Value} (S : BoxX T K w0 wr b vc vr rvs h) (hG : wr.grownBy w1 vc.ownBlock)
    (o9 : w1.ownsRow w0.heap.size 31 3 v9 (h.cs.length + 1) (flatC h.cs rvs ++ [.bool cl.u, .int .i64 cl.d, v8])) (q : v9.ownBlock = vc.ownBlock ∨ v9.ownBlock = some wr.heap.size)
    (o8 : OwnI wr w0.heap.size v8 cl.r) (hap : ∀ v ∈ vc :: vr :: rvs, v8.ownBlock = none ∨ v8.ownBlock ≠ v.ownBlock) (h8b : v8.ownBlock ≠ some b) (h8k : ∀ g, K.Has g → v8.ownBlock ≠ some g) :
    BoxX T K w0 (w1.setCell ⟨b, 0, none⟩ v9) b v9 vr (rvs ++ [v8]) ⟨h.cs ++ [cl], h.rt⟩ := by
  have hn := S.own.snoc hG o9 q o8 hap
  have hlo := S.lo
  have hbl := S.box.lt
  have hvcb : some b ≠ vc.ownBlock := by
    rcases S.apart vc (by simp) with e | e
    · rw [e]; simp
    · exact fun h => e h.symm
  have ap : Apart (some b) (v9 :: vr :: (rvs ++ [v8])) := by
    intro v hv
    simp only [List.mem_cons, List.mem_append, List.not_mem_nil, or_false] at hv
    rcases hv with rfl | rfl | hv | rfl
    · right
      rcases q with e | e
      · rw [e]; exact fun h => hvcb h.symm
      · rw [e]; intro e'; injection e' with e'; omega
    · exact S.apart v (by simp)
    · exact S.apart v (by simp [hv])
    · exact .inr h8b
  have sd : K.Ok w0 wr b (v9 :: vr :: (rvs ++ [v8])) := S.side.rows fun v hv => by
    simp only [List.mem_cons, List.mem_append, List.not_mem_nil, or_false] at hv
    rcases hv with rfl | rfl | hv | rfl
    · right
      intro g hg
      rcases q with e9 | e9
      · rw [e9]
        exact (S.side.apart g hg).2 vc (by simp)
      · rw [e9]
        intro e'
        injection e' with e'
        have := S.side.lt hg
        omega
    · exact .inl (by simp)
    · exact .inl (by simp [hv])
    · exact .inr h8k
  refine ⟨hn.far (put_any w1 b 0 v9) ap, ap, ?_, ?_, hlo, (sd.far hG fun g hg => (S.side.apart g hg).2 vc (by simp)).far (put_any w1 b 0 v9) fun g hg e => (S.side.apart g hg).1 (Option.some.inj e).symm⟩
  · have := (Rw.far S.box hG hvcb).put 0 v9
    cases K with
    | none => exact this
    | some p => exact this
  · exact (S.low.grown hG S.low.size (fun kk hk => (S.own.blocks (v := vc) (by simp) hk).1)).setCell (p := ⟨b, 0, none⟩) (by show w0.heap.size ≤ b; omega) _
theorem BoxX.cell {n : Nat} {rv : Value} {old : Cl} (S : BoxX T K w0 wr b (.slice (some ⟨g, 0, none⟩) n c) vr rvs h) (hn : h.cs.length = n) (hc : h.cs[k]? = some old) (o : OwnI wr w0.heap.size rv cl.r) (hap : ∀ v ∈ (Value.slice (some ⟨g, 0, none⟩) n c) :: vr :: rvs, rv.ownBlock = none ∨ rv.ownBlock ≠ v.ownBlock) (h8b : rv.ownBlock = none ∨ rv.ownBlock ≠ some b) (h8k : ∀ g, K.Has g → rv.ownBlock ≠ some g) :
    BoxX T K w0 (((wr.setCell ⟨g, k * 3, none⟩ (.bool cl.u)).setCell ⟨g, k * 3 + 1, none⟩ (.int .i64 cl.d)).setCell ⟨g, k * 3 + 2, none⟩ rv) b (.slice (some ⟨g, 0, none⟩) n c) vr (rvs.set k rv) ⟨h.cs.set k cl, h.rt⟩ := by
  subst hn
  have hm : (Value.slice (some ⟨g, 0, none⟩) h.cs.length c) ∈ (Value.slice (some ⟨g, 0, none⟩) h.cs.length c) :: vr :: rvs := by simp
  have h1 : w0.heap.size ≤ g ∧ g < wr.heap.size := S.own.blocks hm rfl
  have h2 : b ≠ g := S.boxNe hm rfl
  have sn := S.beside hm rfl
  refine ⟨S.own.cell hc o hap, ?_, ((S.box.other h2 _).other h2 _).other h2 _, ?_, S.lo, (((S.side.far (put_any wr g _ _) sn).far (put_any _ g _ _) sn).far (put_any _ g _ _) sn).rows fun x hx => ?_⟩
  · intro x hx
    simp only [List.mem_cons] at hx
    rcases hx with rfl | rfl | hx
    · exact S.apart _ (by simp)
    · exact S.apart x (by simp)
    · rcases List.mem_or_eq_of_mem_set hx with hx | rfl
      · exact S.apart x (by simp [hx])
      · exact h8b
  · exact ((S.low.setCell (p := ⟨g, k * 3, none⟩) (by show w0.heap.size ≤ g; omega) _).setCell (p := ⟨g, k * 3 + 1, none⟩) (by show w0.heap.size ≤ g; omega) _).setCell (p := ⟨g, k * 3 + 2, none⟩) (by show w0.heap.size ≤ g; omega) _
  · simp only [List.mem_cons] at hx
    rcases hx with rfl | rfl | hx
    · exact .inl (by simp)
    · exact .inl (by simp)
    · rcases List.mem_or_eq_of_mem_set hx with hx | rfl
      · exact .inl (by simp [hx])
      · exact .inr h8k
/-- another row beside the heap -/
theorem BoxX.beside3 {v : Value} {xs fs : List Int} {ve : Value} {E : List (Nat × TypeId × Array Value)} (S : BoxX T (some (ve, fs, E)) w0 wr b vc vr rvs h) (hq : OwnQ wr w0.heap.size v xs) (ha : ∀ u ∈ vc :: vr :: rvs, u.ownBlock = none ∨ u.ownBlock ≠ v.ownBlock) (hb : v.ownBlock ≠ some b) (hE : ∀ e ∈ E, v.ownBlock ≠ some e.1) : BoxX T (some (v, xs, E)) w0 (wr.setCell ⟨b, 2, none⟩ v) b vc vr rvs h := by
  have hk : ∀ e ∈ E, e.1 ≠ b ∧ ∀ u ∈ vc :: vr :: rvs, u.ownBlock ≠ some e.1 := fun e he => S.side.apart e.1 ⟨_, rfl, .inr ⟨e, he, rfl⟩⟩
  refine ⟨S.own.far (put_any wr b 2 v) S.apart, S.apart, S.box.put 2 v, S.low.setCell (p := ⟨b, 2, none⟩) S.lo _, S.lo, ⟨fun p e => ?_, fun p e x hx => ?_, fun g' hg => ?_⟩⟩
  · cases e
    exact hq.kept (put_any wr b 2 v) (.inr hb)
  · cases e
    exact ⟨Rw.far (S.side.kept _ rfl x hx).1 (put_any wr b 2 v) (fun e => (hk x hx).1 (Option.some.inj e)), hE x hx⟩
  · obtain ⟨p, e, h1 | ⟨x, hx, rfl⟩⟩ := hg
    · cases e
      simp only at h1
      refine ⟨fun e => hb (by rw [h1, e]), fun u hu e => ?_⟩
      rcases ha u hu with h2 | h2
      · rw [e] at h2; cases h2
      · exact h2 (by rw [e, h1])
    · cases e
      exact hk x hx
/-- a further block that stays -/
theorem BoxX.more {ve : Value} {fs : List Int} {E : List (Nat × TypeId × Array Value)} {t : TypeId} {cs : Array Value} (S : BoxX T (some (ve, fs, E)) w0 wr b vc vr rvs h) (hr : Rw wr g t cs) (hb : g ≠ b) (hv : ∀ u ∈ vc :: vr :: rvs, u.ownBlock ≠ some g) (he : ve.ownBlock ≠ some g) : BoxX T (some (ve, fs, (g, t, cs) :: E)) w0 wr b vc vr rvs h := by
  refine ⟨S.own, S.apart, S.box, S.low, S.lo, ⟨fun p e => ?_, fun p e x hx => ?_, fun g' hg => ?_⟩⟩
  · cases e
    exact S.side.row (ve, fs, E) rfl
  · cases e
    rcases List.mem_cons.1 hx with rfl | hx
    · exact ⟨hr, he⟩
    · exact S.side.kept _ rfl x hx
  · obtain ⟨p, e, h1 | ⟨x, hx, rfl⟩⟩ := hg
    · cases e
      exact S.side.apart g' ⟨_, rfl, .inl h1⟩
    · cases e
      rcases List.mem_cons.1 hx with rfl | hx
      · exact ⟨hb, hv⟩
      · exact S.side.apart _ ⟨_, rfl, .inr ⟨x, hx, rfl⟩⟩
theorem BoxX.less {ve : Value} {fs : List Int} {E : List (Nat × TypeId × Array Value)} {x : Nat × TypeId × Array Value} (S : BoxX T (some (ve, fs, x :: E)) w0 wr b vc vr rvs h) : BoxX T (some (ve, fs, E)) w0 wr b vc vr rvs h ∧ Rw wr x.1 x.2.1 x.2.2 := by
  refine ⟨⟨S.own, S.apart, S.box, S.low, S.lo, ⟨fun p e => ?_, fun p e x hx => ?_, fun g' hg => ?_⟩⟩, (S.side.kept _ rfl x (by simp)).1⟩
  · cases e
    exact S.side.row (ve, fs, x :: E) rfl
  · cases e
    exact S.side.kept _ rfl _ (List.mem_cons_of_mem _ hx)
  · obtain ⟨p, e, h1 | ⟨x, hx, rfl⟩⟩ := hg
    · cases e
      exact S.side.apart g' ⟨_, rfl, .inl h1⟩
    · cases e
      exact S.side.apart _ ⟨_, rfl, .inr ⟨x, List.mem_cons_of_mem _ hx, rfl⟩⟩
theorem BoxX.ownH (S : BoxX T K w0 wr b vc vr rvs h) : OwnH wr w0.heap.size vc vr h := ⟨rvs, S.own⟩
end
end Go.Proofs.Ythmddmddcdofaaa
