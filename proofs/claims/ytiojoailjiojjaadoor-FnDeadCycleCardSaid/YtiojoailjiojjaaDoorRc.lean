/- Dead cells by components, in plain mathematics: components that are taken each ahead of those to which it leads are dead together or not at all. No program, no conditions. -/
import Derived.Test.YtiojoailjiojjaaDoorRb
import Derived.Test.YtiojoailjiojjaaDoorRo
import Derived.Test.YtiojoailjiojjaaDoorPa
namespace Go.Proofs.YtiojoailjiojjaaDoor
namespace Hps

theorem mem_numsB {V : Nat} {x : Int} : x ∈ numsB V ↔ ∃ k : Nat, x = k ∧ k < 64 ∧ V.testBit k = true := by
  unfold numsB
  simp only [List.mem_map, List.mem_filter, List.mem_range]
  constructor
  · rintro ⟨k, ⟨h1, h2⟩, rfl⟩
    exact ⟨k, rfl, h1, h2⟩
  · rintro ⟨k, rfl, h1, h2⟩
    exact ⟨k, ⟨h1, h2⟩, rfl⟩
/-- the references of the cells of a list -/
def refsB (cs : List Cl) (l : List Int) : List Int := (l.map fun x => match cs[x.toNat]? with | some c => c.r | none => []).flatten
theorem refsB_snoc {cs : List Cl} {l : List Int} {k : Nat} {c : Cl} (hc : cs[k]? = some c) : refsB cs (l ++ [(k : Int)]) = refsB cs l ++ c.r := by
  simp [refsB, hc]
theorem mem_refsB {cs : List Cl} {V : Nat} (hV : ∀ i, V.testBit i = true → i < 64) {b : Nat} : (b : Int) ∈ refsB cs (numsB V) ↔ ∃ a, V.testBit a = true ∧ Edge cs a b := by
  unfold refsB
  simp only [List.mem_flatten, List.mem_map]
  constructor
  · rintro ⟨l, ⟨x, hx, rfl⟩, hb⟩
    obtain ⟨a, rfl, _, ha⟩ := mem_numsB.1 hx
    rw [Int.toNat_natCast] at hb
    cases e : cs[a]? with
    | none => rw [e] at hb; simp at hb
    | some c => rw [e] at hb; exact ⟨a, ha, c, e, hb⟩
  · rintro ⟨a, ha, c, hc, hb⟩
    exact ⟨c.r, ⟨(a : Int), mem_numsB.2 ⟨a, rfl, hV a ha, ha⟩, by rw [Int.toNat_natCast, hc]⟩, hb⟩
theorem refsB_len {cs : List Cl} (h3 : ∀ c ∈ cs, c.r.length ≤ 3) : ∀ l : List Int, (refsB cs l).length ≤ 3 * l.length
  | [] => by simp [refsB]
  | x :: l => by
    have ih := refsB_len h3 l
    have e : refsB cs (x :: l) = (match cs[x.toNat]? with | some c => c.r | none => []) ++ refsB cs l := by simp [refsB]
    rw [e, List.length_append, List.length_cons]
    cases q : cs[x.toNat]? with
    | none => simp; omega
    | some c =>
      have := h3 c (List.mem_of_getElem? q)
      simp only
      omega
/-- a cell of the set is among the numbers -/
def hasL (V : Nat) (L : List Int) : Bool := (numsB V).any fun x => decide (x ∈ L)
theorem hasL_iff {V : Nat} (hV : ∀ i, V.testBit i = true → i < 64) {L : List Int} : hasL V L = true ↔ ∃ k : Nat, V.testBit k = true ∧ (k : Int) ∈ L := by
  unfold hasL
  rw [List.any_eq_true]
  constructor
  · rintro ⟨x, hx, hd⟩
    obtain ⟨k, rfl, _, hk⟩ := mem_numsB.1 hx
    exact ⟨k, hk, by simpa using hd⟩
  · rintro ⟨k, hk, hd⟩
    exact ⟨(k : Int), mem_numsB.2 ⟨k, rfl, hV k hk, hk⟩, by simpa using hd⟩

/-- what holds when the components P are taken: L are the numbers to which something that is not dead leads, and D is the set of the dead cells -/
structure DeadSt (h : Hp) (n : Nat) (P : List Nat) (L : List Int) (D : Nat) : Prop where
  sub : ∀ x ∈ outOf h (reachL h.cs [(n : Int)]), x ∈ L
  alv : ∀ k : Nat, (k : Int) ∈ L → Rch h.cs [(n : Int)] k → Alive h n k
  kep : ∀ w ∈ P, ∀ a b : Nat, w.testBit a = true → Alive h n a → Edge h.cs a b → (b : Int) ∈ L
  ded : ∀ k : Nat, D.testBit k = true ↔ ∃ w ∈ P, w.testBit k = true ∧ ¬ Alive h n k
theorem alive_from {h : Hp} {n k : Nat} (ha : Alive h n k) : Rch h.cs [(n : Int)] k := by
  unfold Alive at ha
  induction ha with
  | @root k hk =>
    obtain ⟨j, h1, _, h3, _⟩ := mem_outside.1 hk
    obtain rfl : k = j := by omega
    exact (reachL_some.1 h3).2
  | step _ hc hm ih => exact .step ih hc hm
theorem DeadSt.start {h : Hp} {n : Nat} (hlt : ∀ k, Rch h.cs [(n : Int)] k → k < h.cs.length) : DeadSt h n [] (outOf h (reachL h.cs [(n : Int)])) 0 := by
  refine ⟨fun x hx => hx, fun k hk hr => .root (mem_outside.2 ⟨k, rfl, hlt k hr, reachL_some.2 ⟨hlt k hr, hr⟩, hk⟩), fun w hw => by simp at hw, fun k => by simp⟩
theorem DeadSt.some_ {h : Hp} {n : Nat} {f P Q : List Nat} {L : List Int} {D w : Nat} (C : Comps h.cs n f) (hf : f.reverse = P ++ w :: Q) (S : DeadSt h n P L D) {a : Nat} (ha : Alive h n a) (hw : w.testBit a = true) : ∃ k : Nat, w.testBit k = true ∧ (k : Int) ∈ L := by
  unfold Alive at ha
  induction ha with
  | root hk =>
    obtain ⟨j, h1, _, _, h4⟩ := mem_outside.1 hk
    exact ⟨_, hw, S.sub _ (by rw [h1]; exact h4)⟩
  | @step a' a c h1 h2 h3 ih =>
    by_cases q : w.testBit a' = true
    · exact ih q
    · have hin := (C.all a').2 (alive_from h1)
      obtain ⟨w', hw', hb⟩ := hin
      rw [← List.mem_reverse, hf, List.mem_append, List.mem_cons] at hw'
      rcases hw' with h4 | h4 | h4
      · exact ⟨a, hw, S.kep w' h4 a' a hb h1 ⟨c, h2, h3⟩⟩
      · exact absurd (h4 ▸ hb) q
      · have hp := List.pairwise_reverse.2 C.top
        rw [hf, List.pairwise_append] at hp
        have := (List.pairwise_cons.1 hp.2.1).1 w' h4 a' a hb (.inr ⟨c, h2, h3⟩)
        rw [hw] at this
        cases this
theorem DeadSt.dead {h : Hp} {n : Nat} {f P Q : List Nat} {L : List Int} {D w : Nat} (C : Comps h.cs n f) (hf : f.reverse = P ++ w :: Q) (S : DeadSt h n P L D) (hno : ¬ ∃ k : Nat, w.testBit k = true ∧ (k : Int) ∈ L) : DeadSt h n (P ++ [w]) L (D ||| w) := by
  have hna : ∀ a : Nat, w.testBit a = true → ¬ Alive h n a := fun a hw ha => hno (S.some_ C hf ha hw)
  refine ⟨S.sub, S.alv, fun w' hw' a b h1 h2 h3 => ?_, fun k => ?_⟩
  · rw [List.mem_append, List.mem_singleton] at hw'
    rcases hw' with h4 | h4
    · exact S.kep w' h4 a b h1 h2 h3
    · exact absurd h2 (hna a (h4 ▸ h1))
  · rw [Nat.testBit_or, Bool.or_eq_true, S.ded]
    simp only [List.mem_append, List.mem_singleton]
    constructor
    · rintro (⟨w', h1, h2⟩ | h1)
      · exact ⟨w', .inl h1, h2⟩
      · exact ⟨w, .inr rfl, h1, hna k h1⟩
    · rintro ⟨w', h1 | h1, h2⟩
      · exact .inl ⟨w', h1, h2⟩
      · exact .inr (h1 ▸ h2.1)
theorem DeadSt.alive {h : Hp} {n : Nat} {f P Q : List Nat} {L : List Int} {D w : Nat} (C : Comps h.cs n f) (hf : f.reverse = P ++ w :: Q) (S : DeadSt h n P L D) (hw64 : ∀ i, w.testBit i = true → i < 64) (hso : ∃ k : Nat, w.testBit k = true ∧ (k : Int) ∈ L) : DeadSt h n (P ++ [w]) (L ++ refsB h.cs (numsB w)) D := by
  have hwf : w ∈ f := by rw [← List.mem_reverse, hf]; simp
  have hal : ∀ a : Nat, w.testBit a = true → Alive h n a := by
    obtain ⟨k, h1, h2⟩ := hso
    intro a ha
    exact Rch.then (S.alv k h2 ((C.all k).1 ⟨w, hwf, h1⟩)) (C.str w hwf k a h1 ha)
  refine ⟨fun x hx => List.mem_append.2 (.inl (S.sub x hx)), fun k hk hr => ?_, fun w' hw' a b h1 h2 h3 => ?_, fun k => ?_⟩
  · rw [List.mem_append, mem_refsB hw64] at hk
    rcases hk with hk | ⟨a, h1, c, h2, h3⟩
    · exact S.alv k hk hr
    · exact .step (hal a h1) h2 h3
  · rw [List.mem_append, List.mem_singleton] at hw'
    rw [List.mem_append, mem_refsB hw64]
    rcases hw' with h4 | h4
    · exact .inl (S.kep w' h4 a b h1 h2 h3)
    · exact .inr ⟨a, h4 ▸ h1, h3⟩
  · rw [S.ded]
    simp only [List.mem_append, List.mem_singleton]
    constructor
    · rintro ⟨w', h1, h2⟩
      exact ⟨w', .inl h1, h2⟩
    · rintro ⟨w', h1 | h1, h2, h3⟩
      · exact ⟨w', h1, h2, h3⟩
      · exact absurd (hal k (h1 ▸ h2)) h3
theorem DeadSt.fin {h : Hp} {n : Nat} {f : List Nat} {L : List Int} {D : Nat} (C : Comps h.cs n f) (S : DeadSt h n f.reverse L D) (hlt : ∀ k, Rch h.cs [(n : Int)] k → k < h.cs.length) : D = Bm.wordN (deadL h (n : Int)) true := by
  apply Nat.eq_of_testBit_eq
  intro k
  rw [Bm.wordN_bit, Bool.eq_iff_iff, S.ded, decide_eq_true_eq, dead_iff]
  constructor
  · rintro ⟨w, h1, h2, h3⟩
    have := (C.all k).1 ⟨w, List.mem_reverse.1 h1, h2⟩
    exact ⟨hlt k this, this, h3⟩
  · rintro ⟨_, h2, h3⟩
    obtain ⟨w, h4, h5⟩ := (C.all k).2 h2
    exact ⟨w, List.mem_reverse.2 h4, h5, h3⟩
end Hps
end Go.Proofs.YtiojoailjiojjaaDoor
