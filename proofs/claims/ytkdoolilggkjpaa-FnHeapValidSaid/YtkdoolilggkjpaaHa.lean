/- Heaps in plain mathematics: cells, validity, what can be reached, counts of references. No program, no conditions. -/
import Derived.Below
namespace Go.Proofs.Ytkdoolilggkjpaa
/-- a cell: whether it is used, its number, its references -/
structure Cl where
  u : Bool
  d : Int
  r : List Int
  deriving DecidableEq, Inhabited
/-- a heap: its cells and its roots -/
structure Hp where
  cs : List Cl
  rt : List Int
  deriving DecidableEq, Inhabited

namespace Hps
/-- the cell is there and is used -/
def usedAt (cs : List Cl) (n : Nat) : Bool := match cs[n]? with
  | some c => c.u
  | none => false
theorem usedAt_iff {cs : List Cl} {n : Nat} : usedAt cs n = true ↔ ∃ c, cs[n]? = some c ∧ c.u = true := by
  unfold usedAt
  cases h : cs[n]? with
  | none => simp
  | some c => simp
theorem usedAt_lt {cs : List Cl} {n : Nat} (h : usedAt cs n = true) : n < cs.length := by
  obtain ⟨c, h1, _⟩ := usedAt_iff.1 h
  exact (List.getElem?_eq_some_iff.1 h1).1
/-- -1, or the number of a used cell -/
def okRef (cs : List Cl) (n : Int) : Bool := n == -1 || (decide (0 ≤ n) && usedAt cs n.toNat)
theorem okRef_iff {cs : List Cl} {n : Int} : okRef cs n = true ↔ n = -1 ∨ (0 ≤ n ∧ usedAt cs n.toNat = true) := by simp [okRef]
theorem okRef_nat {cs : List Cl} {n : Int} (h : okRef cs n = true) (h0 : 0 ≤ n) : ∃ k : Nat, n = k ∧ k < cs.length ∧ usedAt cs k = true := by
  rcases okRef_iff.1 h with h1 | ⟨_, h2⟩
  · omega
  · exact ⟨n.toNat, by omega, usedAt_lt h2, h2⟩
theorem okRef_lo {cs : List Cl} {n : Int} (h : okRef cs n = true) : -1 ≤ n ∧ n < cs.length := by
  rcases okRef_iff.1 h with h1 | ⟨h2, h3⟩
  · omega
  · have := usedAt_lt h3
    omega
def okRefs (cs : List Cl) (rs : List Int) : Bool := rs.all (okRef cs)
theorem okRefs_iff {cs : List Cl} {rs : List Int} : okRefs cs rs = true ↔ ∀ n ∈ rs, okRef cs n = true := by simp [okRefs]
theorem okRefs_at {cs : List Cl} {rs : List Int} (h : okRefs cs rs = true) {k : Nat} {n : Int} (hn : rs[k]? = some n) : okRef cs n = true := okRefs_iff.1 h n (List.mem_of_getElem? hn)
def okCell (cs : List Cl) (c : Cl) : Bool := (c.u || (c.d == 0 && decide (c.r.length = 0))) && (decide (0 ≤ c.d) && decide (c.d ≤ 99)) && decide (c.r.length ≤ 3) && okRefs cs c.r
theorem okCell_iff {cs : List Cl} {c : Cl} : okCell cs c = true ↔ (c.u = true ∨ (c.d = 0 ∧ c.r = [])) ∧ (0 ≤ c.d ∧ c.d ≤ 99) ∧ c.r.length ≤ 3 ∧ okRefs cs c.r = true := by
  simp [okCell, and_assoc]
def validH (h : Hp) : Bool := h.cs.all (okCell h.cs) && (decide (h.cs.length ≤ 40) && decide (h.rt.length = 4) && okRefs h.cs h.rt)
theorem valid_iff {h : Hp} : validH h = true ↔ (∀ c ∈ h.cs, okCell h.cs c = true) ∧ h.cs.length ≤ 40 ∧ h.rt.length = 4 ∧ okRefs h.cs h.rt = true := by
  simp [validH, and_assoc]
theorem valid_cell {h : Hp} (hv : validH h = true) {k : Nat} {c : Cl} (hc : h.cs[k]? = some c) : okCell h.cs c = true := (valid_iff.1 hv).1 c (List.mem_of_getElem? hc)
theorem valid_ref {h : Hp} (hv : validH h = true) {k j : Nat} {c : Cl} {n : Int} (hc : h.cs[k]? = some c) (hn : c.r[j]? = some n) : okRef h.cs n = true := okRefs_at (okCell_iff.1 (valid_cell hv hc)).2.2.2 hn
theorem valid_root {h : Hp} (hv : validH h = true) {j : Nat} {n : Int} (hn : h.rt[j]? = some n) : okRef h.cs n = true := okRefs_at (valid_iff.1 hv).2.2.2 hn
/-- the heap without cells -/
def emptyH : Hp := ⟨[], [-1, -1, -1, -1]⟩
theorem empty_valid : validH emptyH = true := by decide

/-- what can be reached from a list of numbers -/
inductive Rch (cs : List Cl) (from_ : List Int) : Nat → Prop
  | root {k : Nat} : ((k : Int) ∈ from_) → Rch cs from_ k
  | step {k m : Nat} {c : Cl} : Rch cs from_ k → cs[k]? = some c → ((m : Int) ∈ c.r) → Rch cs from_ m
theorem Rch.mono {cs : List Cl} {a b : List Int} (h : ∀ k : Nat, (k : Int) ∈ a → Rch cs b k) {k : Nat} (hr : Rch cs a k) : Rch cs b k := by
  induction hr with
  | root hk => exact h _ hk
  | step _ hc hm ih => exact .step ih hc hm
/-- a set that has the roots and leads on holds all that can be reached -/
theorem Rch.inside {cs : List Cl} {a : List Int} {S : Nat → Prop} (h0 : ∀ k : Nat, (k : Int) ∈ a → S k) (h1 : ∀ (k m : Nat) (c : Cl), S k → cs[k]? = some c → (m : Int) ∈ c.r → S m) {k : Nat} (hr : Rch cs a k) : S k := by
  induction hr with
  | root hk => exact h0 _ hk
  | step _ hc hm ih => exact h1 _ _ _ ih hc hm
theorem Rch.used {cs : List Cl} {a : List Int} (ha : okRefs cs a = true) (hc : ∀ c ∈ cs, okRefs cs c.r = true) {k : Nat} (hr : Rch cs a k) : usedAt cs k = true := by
  refine Rch.inside (S := fun k => usedAt cs k = true) (fun k hk => ?_) (fun k m c _ hcc hm => ?_) hr
  · rcases okRef_iff.1 (okRefs_iff.1 ha _ hk) with h | ⟨_, h⟩
    · omega
    · simpa using h
  · rcases okRef_iff.1 (okRefs_iff.1 (hc c (List.mem_of_getElem? hcc)) _ hm) with h | ⟨_, h⟩
    · omega
    · simpa using h
theorem valid_refs {h : Hp} (hv : validH h = true) : ∀ c ∈ h.cs, okRefs h.cs c.r = true := fun c hc => (okCell_iff.1 ((valid_iff.1 hv).1 c hc)).2.2.2
theorem Rch.live {h : Hp} (hv : validH h = true) {k : Nat} (hr : Rch h.cs h.rt k) : usedAt h.cs k = true := hr.used (valid_iff.1 hv).2.2.2 (valid_refs hv)
open Classical in
/-- for every cell whether it can be reached -/
noncomputable def reachL (cs : List Cl) (a : List Int) : List Bool := (List.range cs.length).map fun k => decide (Rch cs a k)
theorem reachL_len (cs : List Cl) (a : List Int) : (reachL cs a).length = cs.length := by simp [reachL]
open Classical in
theorem reachL_at {cs : List Cl} {a : List Int} {k : Nat} (hk : k < cs.length) : (reachL cs a)[k]? = some (decide (Rch cs a k)) := by
  simp [reachL, hk]
theorem reachL_true {cs : List Cl} {a : List Int} {k : Nat} (hk : k < cs.length) : (reachL cs a)[k]? = some true ↔ Rch cs a k := by
  rw [reachL_at hk]
  simp
/-- marks that hold what can be reached and nothing else are the marks -/
theorem reachL_eq {cs : List Cl} {a : List Int} {out : List Bool} (hl : out.length = cs.length) (h : ∀ k, k < cs.length → (out[k]? = some true ↔ Rch cs a k)) : out = reachL cs a := by
  apply List.ext_getElem?
  intro k
  rcases Nat.lt_or_ge k cs.length with hk | hk
  · have h1 := h k hk
    rw [← reachL_true hk] at h1
    rw [List.getElem?_eq_getElem (show k < out.length by omega)] at h1 ⊢
    rw [List.getElem?_eq_getElem (show k < (reachL cs a).length by rw [reachL_len]; omega)] at h1 ⊢
    simp only [Option.some.injEq] at h1
    congr 1
    rw [Bool.eq_iff_iff]
    exact h1
  · rw [List.getElem?_eq_none (by omega), List.getElem?_eq_none (by rw [reachL_len]; omega)]
noncomputable def reachH (h : Hp) : List Bool := if validH h = true then reachL h.cs h.rt else []

/-- all references: the roots', then the cells' -/
def refsOf (h : Hp) : List Int := h.rt ++ (h.cs.map (·.r)).flatten
def countsL (h : Hp) : List Int := (List.range h.cs.length).map fun (k : Nat) => (((refsOf h).count (k : Int) : Nat) : Int)
def countsH (h : Hp) : List Int := if validH h = true then countsL h else []
end Hps
end Go.Proofs.Ytkdoolilggkjpaa
