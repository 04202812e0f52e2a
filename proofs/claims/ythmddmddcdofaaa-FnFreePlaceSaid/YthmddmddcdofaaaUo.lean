/- A sweeper in memory (a heap in a box, and its list of free cells beside it), and what the program's place and takePlace do to it. No conditions. -/
import Derived.Test.YthmddmddcdofaaaUm
import Derived.Test.YthmddmddcdofaaaMw
import Derived.Deep.Cut
namespace Go.Proofs.Ythmddmddcdofaaa
open Go.RowKit
set_option maxRecDepth 100000

/-- blocks that stay -/
abbrev KeptL := List (Nat × TypeId × Array Value)
/-- a heap in a sweeper of the call's own, with a list of numbers, beside blocks that stay -/
def SwFs (E : KeptL) (w0 wr : World) (b : Nat) (vc vr : Value) (rvs : List Value) (h : Hp) (fs : List Int) : Prop := ∃ ve, BoxX 45 (some (ve, fs, E)) w0 wr b vc vr rvs h
section
variable {E : KeptL} {w0 wr w1 : World} {b : Nat} {vc vr : Value} {rvs : List Value} {h : Hp} {fs : List Int}
theorem SwFs.up (S : SwFs E w0 wr b vc vr rvs h fs) (hw : Below wr.heap.size wr w1) : SwFs E w0 w1 b vc vr rvs h fs := by
  obtain ⟨ve, B⟩ := S
  exact ⟨ve, B.up hw⟩
theorem SwFs.c0 (S : SwFs E w0 wr b vc vr rvs h fs) : wr.cell? ⟨b, 0, none⟩ = some vc := by
  obtain ⟨ve, B⟩ := S
  exact B.c0
theorem SwFs.c1 (S : SwFs E w0 wr b vc vr rvs h fs) : wr.cell? ⟨b, 1, none⟩ = some vr := by
  obtain ⟨ve, B⟩ := S
  exact B.c1
theorem SwFs.fz (S : SwFs E w0 wr b vc vr rvs h fs) (i : Nat) : wr.frozen? ⟨b, i, none⟩ = false := by
  obtain ⟨ve, B⟩ := S
  exact B.box.frozen i
theorem SwFs.own (S : SwFs E w0 wr b vc vr rvs h fs) : OwnHx wr w0.heap.size vc vr rvs h := by
  obtain ⟨ve, B⟩ := S
  exact B.own
theorem SwFs.low (S : SwFs E w0 wr b vc vr rvs h fs) : Below w0.heap.size w0 wr := by
  obtain ⟨ve, B⟩ := S
  exact B.low
theorem SwFs.lo (S : SwFs E w0 wr b vc vr rvs h fs) : w0.heap.size ≤ b := by
  obtain ⟨ve, B⟩ := S
  exact B.lo
theorem SwFs.lt (S : SwFs E w0 wr b vc vr rvs h fs) : b < wr.heap.size := by
  obtain ⟨ve, B⟩ := S
  exact B.box.lt
/-- what lies in the list -/
theorem SwFs.none_ (S : SwFs E w0 wr b vc vr rvs h []) : ∃ A c, wr.cell? ⟨b, 2, none⟩ = some (.slice A 0 c) := by
  obtain ⟨ve, B⟩ := S
  have c2 : wr.cell? ⟨b, 2, none⟩ = some ve := B.box.cell 2
  obtain ⟨A, c, e⟩ := (B.side.row _ rfl).form
  exact ⟨A, c, c2.trans (congrArg some e)⟩
theorem SwFs.cons_ {x : Int} (S : SwFs E w0 wr b vc vr rvs h (x :: fs)) : ∃ g o c, wr.cell? ⟨b, 2, none⟩ = some (.slice (some ⟨g, o, none⟩) (fs.length + 1) c) ∧ fs.length + 1 ≤ c ∧ c ≤ 9223372036854775807 ∧ wr.cell? ⟨g, o, none⟩ = some (.int .i64 x) ∧ SwFs E w0 (wr.setCell ⟨b, 2, none⟩ (if c = 1 then .slice (some ⟨g, o, none⟩) 0 0 else .slice (some ⟨g, o + 1, none⟩) fs.length (c - 1))) b vc vr rvs h fs := by
  obtain ⟨ve, B⟩ := S
  have c2 : wr.cell? ⟨b, 2, none⟩ = some ve := B.box.cell 2
  obtain ⟨g, o, c, e, _, hx, hc, hc2, hr⟩ := (B.side.row _ rfl).head
  simp only at e
  subst e
  have ho : (if c = 1 then Value.slice (some ⟨g, o, none⟩) 0 0 else .slice (some ⟨g, o + 1, none⟩) fs.length (c - 1)).ownBlock = some g := by split <;> rfl
  obtain ⟨h1, h2⟩ := B.side.apart g ⟨_, rfl, .inl rfl⟩
  exact ⟨g, o, c, c2, hc, hc2, hx, _, B.beside3 hr (fun u hu => .inr (by rw [ho]; exact h2 u hu)) (by rw [ho]; exact fun e => h1 (Option.some.inj e)) fun e he => by rw [ho]; exact (B.side.kept _ rfl e he).2⟩
/-- another row beside the heap -/
theorem SwFs.free {v : Value} {xs : List Int} (S : SwFs E w0 wr b vc vr rvs h fs) (hq : OwnI wr w0.heap.size v xs) (ha : ∀ u ∈ vc :: vr :: rvs, u.ownBlock = none ∨ u.ownBlock ≠ v.ownBlock) (hb : v.ownBlock ≠ some b) (hE : ∀ e ∈ E, v.ownBlock ≠ some e.1) : SwFs E w0 (wr.setCell ⟨b, 2, none⟩ v) b vc vr rvs h xs := by
  obtain ⟨ve, B⟩ := S
  exact ⟨v, B.beside3 hq.queue ha hb hE⟩
theorem SwFs.keptLt (S : SwFs E w0 wr b vc vr rvs h fs) : ∀ e ∈ E, e.1 < wr.heap.size := fun e he => by
  obtain ⟨ve, B⟩ := S
  exact (B.side.kept _ rfl e he).1.lt
/-- a block that has just been made stays -/
theorem SwFs.more {t : TypeId} {cs : Array Value} (S : SwFs E w0 wr b vc vr rvs h fs) : SwFs ((wr.heap.size, t, cs) :: E) w0 (wr.alloc (.cells cs t)) b vc vr rvs h fs := by
  obtain ⟨ve, B⟩ := S
  have hb := B.box.lt
  refine ⟨ve, (B.up ((Below.refl _ _).alloc (Nat.le_refl _) _)).more (Rw.new wr t cs) (by omega) (fun u hu e => ?_) fun e => ?_⟩
  · have := (B.own.blocks hu e).2
    omega
  · have := ((B.side.row _ rfl).lt _ e).2
    omega
theorem SwFs.less {x : Nat × TypeId × Array Value} (S : SwFs (x :: E) w0 wr b vc vr rvs h fs) : SwFs E w0 wr b vc vr rvs h fs ∧ Rw wr x.1 x.2.1 x.2.2 := by
  obtain ⟨ve, B⟩ := S
  obtain ⟨B1, r⟩ := B.less
  exact ⟨⟨ve, B1⟩, r⟩
end
/-- the list is that of the cells that are not used -/
abbrev SwSt (E : KeptL) (w0 wr : World) (b : Nat) (vc vr : Value) (rvs : List Value) (h : Hp) : Prop := SwFs E w0 wr b vc vr rvs h (Hps.gapsL h.cs)

set_option maxHeartbeats 1000000 in
theorem place_any (E : KeptL) (w0 w : World) (b : Nat) (vc vr : Value) (rvs : List Value) (h : Hp) (S : SwSt E w0 w b vc vr rvs h) :
    Calls Try.prog 16 #[.pointer (some ⟨b, 0, none⟩)] w fun e w' => e = .returned (.int .i64 (Hps.gapH h)) ∧ w = w' := by
  obtain ⟨A0, c0, R0, d0, e1, e2, -⟩ := S.own.form
  have x0 := S.c0
  rw [e1] at x0
  obtain ⟨n, hn⟩ : ∃ n, h.cs.length = n := ⟨_, rfl⟩
  obtain ⟨p, hp⟩ : ∃ p, Hps.gapH h = p := ⟨_, rfl⟩
  rcases Hps.gaps_gap h with ⟨g1, g2⟩ | ⟨⟨l, g1⟩, g2⟩
  · have S1 : SwFs E w0 w b vc vr rvs h [] := g1 ▸ S
    obtain ⟨A, c, x2⟩ := S1.none_
    rw [hn] at x0 g2
    rw [hp] at g2 ⊢
    subst g2
    clear e1 e2 g1 hn hp S S1
    go_enter Try.func16, Try.ntmps16
    go_wp2_with fail
    go_ret
    exact ⟨rfl, rfl⟩
  · have S1 : SwFs E w0 w b vc vr rvs h ((Hps.gapH h : Int) :: l) := g1 ▸ S
    obtain ⟨g, o, c, x2, hc, hc2, y0, -⟩ := S1.cons_
    obtain ⟨m, hm⟩ : ∃ m, l.length = m := ⟨_, rfl⟩
    rw [hm] at x2 hc
    rw [hp] at y0 ⊢
    clear e1 e2 g1 g2 hn hp S S1 hm
    go_enter Try.func16, Try.ntmps16
    go_wp2_with fail
    go_ret
    exact ⟨rfl, rfl⟩

end Go.Proofs.Ythmddmddcdofaaa
