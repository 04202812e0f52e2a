/- A work list that marks what can be reached, in plain mathematics. No program, no conditions. -/
import Derived.Test.YtkdoolilggkjpaaHa
namespace Go.Proofs.Ytkdoolilggkjpaa
namespace Hps

/-- marks and a list of the marked ones -/
structure Wk (cs : List Cl) (a : List Int) (out : List Bool) (l : List Int) : Prop where
  len : out.length = cs.length
  mem : ∀ k : Nat, out[k]? = some true ↔ (k : Int) ∈ l
  cnt : l.length = out.count true
  rch : ∀ k : Nat, (k : Int) ∈ l → Rch cs a k
  nat : ∀ n ∈ l, ∃ k : Nat, n = k ∧ k < cs.length
theorem Wk.le {cs : List Cl} {a : List Int} {out : List Bool} {l : List Int} (h : Wk cs a out l) : l.length ≤ cs.length := by
  rw [h.cnt, ← h.len]
  exact List.count_le_length
theorem Wk.start (cs : List Cl) (a : List Int) : Wk cs a (List.replicate cs.length false) [] := by
  refine ⟨by simp, fun k => ?_, by simp [List.count_replicate], fun k hk => by simp at hk, fun n hn => by simp at hn⟩
  simp [List.getElem?_replicate]
theorem Wk.mark {cs : List Cl} {a : List Int} {out : List Bool} {l : List Int} (h : Wk cs a out l) {n : Nat} (hn : out[n]? = some false) (hr : Rch cs a n) : Wk cs a (out.set n true) (l ++ [(n : Int)]) := by
  obtain ⟨hlt, he⟩ := List.getElem?_eq_some_iff.1 hn
  refine ⟨by simp [h.len], fun k => ?_, ?_, fun k hk => ?_, fun m hm => ?_⟩
  · rw [List.getElem?_set, List.mem_append]
    by_cases hk : n = k
    · subst hk
      simp [hlt]
    · rw [if_neg hk, h.mem]
      have : ¬ (k : Int) = n := by omega
      simp [this]
  · rw [List.length_append, List.length_singleton, h.cnt, List.count_set hlt, he]
    simp
  · rw [List.mem_append] at hk
    rcases hk with hk | hk
    · exact h.rch k hk
    · simp at hk
      have : k = n := by omega
      rw [this]
      exact hr
  · rw [List.mem_append] at hm
    rcases hm with hm | hm
    · exact h.nat m hm
    · simp at hm
      exact ⟨n, hm, by rw [← h.len]; exact hlt⟩
/-- what stays marked -/
theorem set_true {out : List Bool} {n k : Nat} (h : out[k]? = some true) : (out.set n true)[k]? = some true := by
  rw [List.getElem?_set]
  by_cases hk : n = k
  · subst hk
    simp [(List.getElem?_eq_some_iff.1 h).1]
  · rw [if_neg hk]
    exact h
/-- the numbers xs that are at least 0 are marked -/
def Marked (out : List Bool) (xs : List Int) : Prop := ∀ k : Nat, (k : Int) ∈ xs → out[k]? = some true
theorem Marked.nil (out : List Bool) : Marked out [] := fun k hk => by simp at hk
theorem Marked.set {out : List Bool} {xs : List Int} (h : Marked out xs) (n : Nat) : Marked (out.set n true) xs := fun k hk => set_true (h k hk)
theorem Marked.snoc {out : List Bool} {xs : List Int} (h : Marked out xs) {n : Int} (hn : 0 ≤ n → out[n.toNat]? = some true) : Marked out (xs ++ [n]) := fun k hk => by
  rw [List.mem_append] at hk
  rcases hk with hk | hk
  · exact h k hk
  · simp at hk
    have := hn (by omega)
    rwa [← hk] at this
/-- the first k of the list have been worked off -/
def Done (cs : List Cl) (out : List Bool) (l : List Int) (k : Nat) : Prop := ∀ (i : Nat) (n : Nat) (c : Cl), i < k → l[i]? = some (n : Int) → cs[n]? = some c → Marked out c.r
theorem Done.zero (cs : List Cl) (out : List Bool) (l : List Int) : Done cs out l 0 := fun i n c h => by omega
theorem Done.more {cs : List Cl} {out : List Bool} {l : List Int} {k n : Nat} {m : Int} (h : Done cs out l k) (hk : k ≤ l.length) : Done cs (out.set n true) (l ++ [m]) k := fun i n' c hi hl hc => by
  rw [List.getElem?_append_left (by omega)] at hl
  exact (h i n' c hi hl hc).set n
theorem Done.succ {cs : List Cl} {out : List Bool} {l : List Int} {k n : Nat} {c : Cl} (h : Done cs out l k) (hl : l[k]? = some (n : Int)) (hc : cs[n]? = some c) (hm : Marked out c.r) : Done cs out l (k + 1) := fun i n' c' hi hl' hc' => by
  rcases Nat.lt_or_ge i k with h1 | h1
  · exact h i n' c' h1 hl' hc'
  · obtain rfl : i = k := by omega
    rw [hl] at hl'
    have : n = n' := by
      injection hl' with hl'
      omega
    subst this
    rw [hc] at hc'
    injection hc' with hc'
    subst hc'
    exact hm
/-- all worked off: the marks are right -/
theorem Wk.fin {cs : List Cl} {a : List Int} {out : List Bool} {l : List Int} (h : Wk cs a out l) (hr : Marked out a) (hd : Done cs out l l.length) : out = reachL cs a := by
  refine reachL_eq h.len fun k hk => ⟨fun hm => h.rch k ((h.mem k).1 hm), fun hr' => ?_⟩
  refine Rch.inside (S := fun k => out[k]? = some true) hr (fun k m c hk hc hm => ?_) hr'
  have hl := (h.mem k).1 hk
  obtain ⟨i, hi⟩ := List.mem_iff_getElem?.1 hl
  exact hd i k c (List.getElem?_eq_some_iff.1 hi).1 hi hc m hm
end Hps
end Go.Proofs.Ytkdoolilggkjpaa
