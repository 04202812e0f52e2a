/- Cycles that are lost in plain mathematics: counts of what leads into a set from outside, cells that one leads to, dead cells, and that collecting them frees exactly what cannot be reached. No program, no conditions. -/
import Derived.Test.YtakdjiojahlnmaaCa
namespace Go.Proofs.Ytakdjiojahlnmaa
namespace Hps

/-- the references of the roots and of those of the first i cells that are not in the set -/
def outTo (h : Hp) (s : List Bool) : Nat → List Int
  | 0 => h.rt
  | i + 1 => outTo h s i ++ (if s[i]? = some true then [] else match h.cs[i]? with | some c => c.r | none => [])
theorem outTo_in {h : Hp} {s : List Bool} {i : Nat} (hs : s[i]? = some true) : outTo h s (i + 1) = outTo h s i := by rw [outTo, if_pos hs, List.append_nil]
theorem outTo_out {h : Hp} {s : List Bool} {i : Nat} {c : Cl} (hs : s[i]? ≠ some true) (hc : h.cs[i]? = some c) : outTo h s (i + 1) = outTo h s i ++ c.r := by rw [outTo, if_neg hs, hc]
def outOf (h : Hp) (s : List Bool) : List Int := outTo h s h.cs.length
theorem mem_outTo {h : Hp} {s : List Bool} {n : Int} : ∀ i, n ∈ outTo h s i ↔ n ∈ h.rt ∨ ∃ (j : Nat) (c : Cl), j < i ∧ h.cs[j]? = some c ∧ s[j]? ≠ some true ∧ n ∈ c.r
  | 0 => by
    rw [outTo]
    constructor
    · exact .inl
    · rintro (h1 | ⟨j, c, hj, _⟩)
      · exact h1
      · omega
  | i + 1 => by
    rw [outTo, List.mem_append, mem_outTo i]
    constructor
    · rintro ((h1 | ⟨j, c, hj, h2⟩) | h1)
      · exact .inl h1
      · exact .inr ⟨j, c, by omega, h2⟩
      · split at h1
        · simp at h1
        · next hs =>
          cases e : h.cs[i]? with
          | none => rw [e] at h1; simp at h1
          | some c => rw [e] at h1; exact .inr ⟨i, c, by omega, e, hs, h1⟩
    · rintro (h1 | ⟨j, c, hj, hc, hs, h2⟩)
      · exact .inl (.inl h1)
      · rcases Nat.lt_or_ge j i with h3 | h3
        · exact .inl (.inr ⟨j, c, h3, hc, hs, h2⟩)
        · obtain rfl : j = i := by omega
          rw [if_neg hs, hc]
          exact .inr h2
theorem mem_outOf {h : Hp} {s : List Bool} {n : Int} : n ∈ outOf h s ↔ n ∈ h.rt ∨ ∃ (j : Nat) (c : Cl), h.cs[j]? = some c ∧ s[j]? ≠ some true ∧ n ∈ c.r := by
  rw [outOf, mem_outTo]
  constructor
  · rintro (h1 | ⟨j, c, _, h2⟩)
    · exact .inl h1
    · exact .inr ⟨j, c, h2⟩
  · rintro (h1 | ⟨j, c, h2, h3⟩)
    · exact .inl h1
    · exact .inr ⟨j, c, (List.getElem?_eq_some_iff.1 h2).1, h2, h3⟩
/-- how many references lead to a cell of the set from outside of it; -1 for other cells -/
def trialAt (h : Hp) (s : List Bool) (k : Nat) : Int := if s[k]? = some true then (((outOf h s).count (k : Int) : Nat) : Int) else -1
def trialL (h : Hp) (s : List Bool) : List Int := (List.range h.cs.length).map (trialAt h s)
/-- a set of used cells, with one element for every cell -/
def okSet (h : Hp) (s : List Bool) : Bool := decide (s.length = h.cs.length) && (List.range s.length).all fun k => !(s[k]? == some true) || usedAt h.cs k
theorem okSet_iff {h : Hp} {s : List Bool} : okSet h s = true ↔ s.length = h.cs.length ∧ ∀ k : Nat, s[k]? = some true → usedAt h.cs k = true := by
  unfold okSet
  simp only [Bool.and_eq_true, decide_eq_true_eq, List.all_eq_true, List.mem_range, Bool.or_eq_true, Bool.not_eq_true', beq_eq_false_iff_ne]
  constructor
  · rintro ⟨h1, h2⟩
    refine ⟨h1, fun k hk => ?_⟩
    rcases h2 k (List.getElem?_eq_some_iff.1 hk).1 with e | e
    · exact absurd hk e
    · exact e
  · rintro ⟨h1, h2⟩
    refine ⟨h1, fun k _ => ?_⟩
    by_cases e : s[k]? = some true
    · exact .inr (h2 k e)
    · exact .inl e
def trialH (h : Hp) (s : List Bool) : List Int := if validH h && okSet h s then trialL h s else []
theorem trialL_len (h : Hp) (s : List Bool) : (trialL h s).length = h.cs.length := by simp [trialL]
theorem trialL_at {h : Hp} {s : List Bool} {k : Nat} (hk : k < h.cs.length) : (trialL h s)[k]? = some (trialAt h s k) := by simp [trialL, hk]
theorem trial_pos {h : Hp} {s : List Bool} {k : Nat} : 0 < trialAt h s k ↔ s[k]? = some true ∧ (k : Int) ∈ outOf h s := by
  unfold trialAt
  by_cases e : s[k]? = some true
  · rw [if_pos e, ← List.count_pos_iff]
    constructor
    · intro h1
      exact ⟨e, by omega⟩
    · rintro ⟨_, h1⟩
      omega
  · rw [if_neg e]
    constructor
    · intro h1
      omega
    · rintro ⟨h1, _⟩
      exact absurd h1 e
/-- the cells to which a used cell leads -/
noncomputable def fromH (h : Hp) (n : Int) : List Bool := if validH h = true ∧ 0 ≤ n ∧ usedAt h.cs n.toNat = true then reachL h.cs [n] else []
/-- the cells of a set to which something leads from outside of it, up to number i -/
def outsideTo (h : Hp) (s : List Bool) (i : Nat) : List Int := ((List.range i).filter fun k => decide (0 < trialAt h s k)).map fun (k : Nat) => (k : Int)
def outsideL (h : Hp) (s : List Bool) : List Int := outsideTo h s h.cs.length
theorem outsideTo_yes {h : Hp} {s : List Bool} {k : Nat} (hp : 0 < trialAt h s k) : outsideTo h s (k + 1) = outsideTo h s k ++ [(k : Int)] := by
  simp [outsideTo, List.range_succ, List.filter_append, hp]
theorem outsideTo_no {h : Hp} {s : List Bool} {k : Nat} (hp : ¬ 0 < trialAt h s k) : outsideTo h s (k + 1) = outsideTo h s k := by
  simp [outsideTo, List.range_succ, List.filter_append, hp]
theorem outsideTo_len (h : Hp) (s : List Bool) (n : Nat) : (outsideTo h s n).length ≤ n := by
  simp only [outsideTo, List.length_map]
  exact Nat.le_trans (List.length_filter_le _ _) (by simp)
theorem mem_outside {h : Hp} {s : List Bool} {x : Int} : x ∈ outsideL h s ↔ ∃ k : Nat, x = k ∧ k < h.cs.length ∧ s[k]? = some true ∧ (k : Int) ∈ outOf h s := by
  unfold outsideL outsideTo
  simp only [List.mem_map, List.mem_filter, List.mem_range, decide_eq_true_eq, trial_pos]
  constructor
  · rintro ⟨k, ⟨h1, h2, h3⟩, rfl⟩
    exact ⟨k, rfl, h1, h2, h3⟩
  · rintro ⟨k, rfl, h1, h2, h3⟩
    exact ⟨k, ⟨h1, h2, h3⟩, rfl⟩
theorem outside_ok {h : Hp} {s : List Bool} (hs : okSet h s = true) : okRefs h.cs (outsideL h s) = true := by
  refine okRefs_iff.2 fun n hn => ?_
  obtain ⟨k, rfl, _, h2, _⟩ := mem_outside.1 hn
  exact okRef_iff.2 (.inr ⟨by omega, by simpa using (okSet_iff.1 hs).2 k h2⟩)
/-- for every cell whether it is in the first set and not in the second -/
def minusL (s t : List Bool) : List Bool := List.zipWith (fun a b => a && !b) s t
theorem minus_at {s t : List Bool} {k : Nat} (hl : s.length = t.length) : (minusL s t)[k]? = some true ↔ s[k]? = some true ∧ t[k]? ≠ some true := by
  unfold minusL
  rw [List.getElem?_zipWith]
  rcases Nat.lt_or_ge k s.length with hk | hk
  · rw [List.getElem?_eq_getElem hk, List.getElem?_eq_getElem (show k < t.length by omega)]
    cases s[k] <;> cases t[k]'(by omega) <;> simp
  · rw [List.getElem?_eq_none hk]
    simp
noncomputable def deadL (h : Hp) (n : Int) : List Bool := minusL (reachL h.cs [n]) (reachL h.cs (outsideL h (reachL h.cs [n])))
noncomputable def deadH (h : Hp) (n : Int) : List Bool := if validH h = true ∧ 0 ≤ n ∧ usedAt h.cs n.toNat = true then deadL h n else []
theorem deadL_len (h : Hp) (n : Int) : (deadL h n).length = h.cs.length := by simp [deadL, minusL, reachL_len]
theorem reachL_some {cs : List Cl} {a : List Int} {k : Nat} : (reachL cs a)[k]? = some true ↔ k < cs.length ∧ Rch cs a k := by
  constructor
  · intro h
    have hk := (List.getElem?_eq_some_iff.1 h).1
    rw [reachL_len] at hk
    exact ⟨hk, (reachL_true hk).1 h⟩
  · rintro ⟨hk, h⟩
    exact (reachL_true hk).2 h
theorem from_used {h : Hp} (hv : validH h = true) {n : Nat} (hn : usedAt h.cs n = true) {k : Nat} (hr : Rch h.cs [(n : Int)] k) : usedAt h.cs k = true :=
  hr.used (okRefs_iff.2 fun m hm => by rw [List.mem_singleton] at hm; subst hm; exact okRef_iff.2 (.inr ⟨by omega, by simpa using hn⟩)) (valid_refs hv)
theorem from_ok {h : Hp} (hv : validH h = true) {n : Nat} (hn : usedAt h.cs n = true) : okSet h (reachL h.cs [(n : Int)]) = true :=
  okSet_iff.2 ⟨reachL_len _ _, fun _ hk => from_used hv hn (reachL_some.1 hk).2⟩
theorem Rch.self (cs : List Cl) (n : Nat) : Rch cs [(n : Int)] n := .root (by simp)
theorem Rch.then {cs : List Cl} {a : List Int} {m k : Nat} (h1 : Rch cs a m) (h2 : Rch cs [(m : Int)] k) : Rch cs a k :=
  h2.mono fun x hx => by
    rw [List.mem_singleton] at hx
    obtain rfl : x = m := by omega
    exact h1
/-- what leads to a set's cell from outside keeps it alive -/
def Alive (h : Hp) (n k : Nat) : Prop := Rch h.cs (outsideL h (reachL h.cs [(n : Int)])) k
theorem dead_iff {h : Hp} {n k : Nat} : (deadL h (n : Int))[k]? = some true ↔ k < h.cs.length ∧ Rch h.cs [(n : Int)] k ∧ ¬ Alive h n k := by
  unfold deadL
  rw [minus_at (by rw [reachL_len, reachL_len]), reachL_some]
  constructor
  · rintro ⟨⟨h1, h2⟩, h3⟩
    exact ⟨h1, h2, fun q => h3 (reachL_some.2 ⟨h1, q⟩)⟩
  · rintro ⟨h1, h2, h3⟩
    exact ⟨⟨h1, h2⟩, fun q => h3 (reachL_some.1 q).2⟩
theorem dead_used {h : Hp} (hv : validH h = true) {n : Nat} (hn : usedAt h.cs n = true) {k : Nat} (hd : (deadL h (n : Int))[k]? = some true) : usedAt h.cs k = true := from_used hv hn (dead_iff.1 hd).2.1
/-- what can be reached is alive, if it is in the set -/
theorem reached_alive {h : Hp} (hv : validH h = true) {n k : Nat} (hr : Rch h.cs h.rt k) (hf : Rch h.cs [(n : Int)] k) : Alive h n k := by
  induction hr with
  | root hk =>
    have hf' := hf
    refine .root (mem_outside.2 ⟨_, rfl, ?_, reachL_some.2 ⟨?_, hf⟩, mem_outOf.2 (.inl hk)⟩) <;> exact usedAt_lt (Rch.live hv (.root hk))
  | @step k m c h1 hc hm ih =>
    by_cases q : Rch h.cs [(n : Int)] k
    · exact .step (ih q) hc hm
    · have hl := usedAt_lt (Rch.live hv (.step h1 hc hm))
      exact .root (mem_outside.2 ⟨_, rfl, hl, reachL_some.2 ⟨hl, hf⟩, mem_outOf.2 (.inr ⟨k, c, hc, fun e => q (reachL_some.1 e).2, hm⟩)⟩)
/-- P61: what can be reached is not dead -/
theorem dead_lost {h : Hp} (hv : validH h = true) {n k : Nat} (hd : (deadL h (n : Int))[k]? = some true) : ¬ Rch h.cs h.rt k := fun hr => (dead_iff.1 hd).2.2 (reached_alive hv hr (dead_iff.1 hd).2.1)
/-- P61: only dead cells refer to dead cells -/
theorem dead_back {h : Hp} {n j m : Nat} {c : Cl} (hc : h.cs[j]? = some c) (hm : (m : Int) ∈ c.r) (hd : (deadL h (n : Int))[m]? = some true) : (deadL h (n : Int))[j]? = some true := by
  obtain ⟨h1, h2, h3⟩ := dead_iff.1 hd
  refine dead_iff.2 ⟨(List.getElem?_eq_some_iff.1 hc).1, ?_, fun q => h3 (.step q hc hm)⟩
  refine Classical.byContradiction fun q => h3 (.root (mem_outside.2 ⟨_, rfl, h1, reachL_some.2 ⟨h1, h2⟩, mem_outOf.2 (.inr ⟨j, c, hc, fun e => q (reachL_some.1 e).2, hm⟩)⟩))
/-- an outside cell leads to what is not dead though it is in the set -/
theorem spared {h : Hp} (hv : validH h = true) {n k : Nat} (hf : Rch h.cs [(n : Int)] k) (hk : k < h.cs.length) (hd : (deadL h (n : Int))[k]? ≠ some true) (hr : ¬ Rch h.cs h.rt k) :
    ∃ j : Nat, usedAt h.cs j = true ∧ Rch h.cs [(j : Int)] k ∧ ¬ Rch h.cs [(n : Int)] j := by
  have ha : Alive h n k := Classical.byContradiction fun q => hd (dead_iff.2 ⟨hk, hf, q⟩)
  unfold Alive at ha
  have key : ∀ o : Nat, (o : Int) ∈ outsideL h (reachL h.cs [(n : Int)]) → Rch h.cs [(o : Int)] k → ∃ j : Nat, usedAt h.cs j = true ∧ Rch h.cs [(j : Int)] k ∧ ¬ Rch h.cs [(n : Int)] j := by
    intro o ho hok
    obtain ⟨o', e, h1, h2, h3⟩ := mem_outside.1 ho
    obtain rfl : o = o' := by omega
    rcases mem_outOf.1 h3 with h4 | ⟨j, c, hc, hs, hm⟩
    · exact absurd (Rch.then (.root h4) hok) hr
    · refine ⟨j, ?_, Rch.then (.step (Rch.self _ j) hc hm) hok, fun q => hs (reachL_some.2 ⟨(List.getElem?_eq_some_iff.1 hc).1, q⟩)⟩
      refine usedAt_iff.2 ⟨c, hc, ?_⟩
      cases hu : c.u
      · have := valid_unused hv hc hu
        rw [this] at hm
        simp [freeCl] at hm
      · rfl
  have gen : ∀ k', Rch h.cs (outsideL h (reachL h.cs [(n : Int)])) k' → ∃ o : Nat, (o : Int) ∈ outsideL h (reachL h.cs [(n : Int)]) ∧ Rch h.cs [(o : Int)] k' := by
    intro k' hk'
    induction hk' with
    | root h1 => exact ⟨_, h1, Rch.self _ _⟩
    | step _ hc hm ih =>
      obtain ⟨o, h1, h2⟩ := ih
      exact ⟨o, h1, .step h2 hc hm⟩
  obtain ⟨o, h1, h2⟩ := gen k ha
  exact key o h1 h2

/-! a heap without its dead cells -/
/-- nothing that stays leads to a cell that goes -/
structure Drp (x : Hp) (D : List Bool) : Prop where
  rt : ∀ k : Nat, (k : Int) ∈ x.rt → D[k]? ≠ some true
  back : ∀ {j m : Nat} {c : Cl}, x.cs[j]? = some c → (m : Int) ∈ c.r → D[m]? = some true → D[j]? = some true
theorem dead_drp {h : Hp} (hv : validH h = true) (n : Nat) : Drp h (deadL h (n : Int)) := ⟨fun _ hk hd => dead_lost hv hd (.root hk), dead_back⟩
theorem drop_stays {x : Hp} {D : List Bool} {k : Nat} (hd : D[k]? ≠ some true) : (dropH x D).cs[k]? = x.cs[k]? := by
  rcases Nat.lt_or_ge k x.cs.length with hk | hk
  · rw [dropH, dropL_at _ _ _ _ (List.getElem?_eq_getElem hk), if_neg hd, List.getElem?_eq_getElem hk]
  · rw [List.getElem?_eq_none hk, List.getElem?_eq_none (by rw [dropH, dropL_len]; exact hk)]
theorem drop_cases {x : Hp} {D : List Bool} {k : Nat} {c : Cl} (hc : (dropH x D).cs[k]? = some c) : (D[k]? ≠ some true ∧ x.cs[k]? = some c) ∨ (D[k]? = some true ∧ c = zeroCl) := by
  by_cases e : D[k]? = some true
  · have hk := (List.getElem?_eq_some_iff.1 hc).1
    rw [dropH, dropL_len] at hk
    rw [dropH, dropL_at _ _ _ _ (List.getElem?_eq_getElem hk), if_pos e] at hc
    exact .inr ⟨e, (Option.some.inj hc).symm⟩
  · rw [drop_stays e] at hc
    exact .inl ⟨e, hc⟩
theorem drop_len (x : Hp) (D : List Bool) : (dropH x D).cs.length = x.cs.length := by rw [dropH, dropL_len]
theorem drop_usedAt {x : Hp} {D : List Bool} {k : Nat} : usedAt (dropH x D).cs k = true ↔ usedAt x.cs k = true ∧ D[k]? ≠ some true := by
  constructor
  · intro h
    obtain ⟨c, hc, hu⟩ := usedAt_iff.1 h
    rcases drop_cases hc with ⟨h1, h2⟩ | ⟨_, rfl⟩
    · exact ⟨usedAt_iff.2 ⟨c, h2, hu⟩, h1⟩
    · cases hu
  · rintro ⟨h1, h2⟩
    obtain ⟨c, hc, hu⟩ := usedAt_iff.1 h1
    exact usedAt_iff.2 ⟨c, by rw [drop_stays h2]; exact hc, hu⟩
theorem drop_rch_sub {x : Hp} {D : List Bool} {a : List Int} {k : Nat} (h : Rch (dropH x D).cs a k) : Rch x.cs a k := by
  induction h with
  | root hk => exact .root hk
  | step _ hc hm ih =>
    rcases drop_cases hc with ⟨_, h2⟩ | ⟨_, rfl⟩
    · exact .step ih h2 hm
    · simp [zeroCl] at hm
theorem Drp.rch {x : Hp} {D : List Bool} (P : Drp x D) {a : List Int} (ha : ∀ k : Nat, (k : Int) ∈ a → D[k]? ≠ some true) {k : Nat} (h : Rch x.cs a k) : D[k]? ≠ some true ∧ Rch (dropH x D).cs a k := by
  induction h with
  | root hk => exact ⟨ha _ hk, .root hk⟩
  | step _ hc hm ih =>
    refine ⟨fun e => ih.1 (P.back hc hm e), .step ih.2 (by rw [drop_stays ih.1]; exact hc) hm⟩
theorem Drp.reach {x : Hp} {D : List Bool} (P : Drp x D) {k : Nat} : Rch (dropH x D).cs (dropH x D).rt k ↔ Rch x.cs x.rt k := ⟨fun h => drop_rch_sub h, fun h => (P.rch P.rt h).2⟩
theorem Drp.valid {x : Hp} {D : List Bool} (P : Drp x D) (hv : validH x = true) : validH (dropH x D) = true := by
  obtain ⟨v1, v2, v3, v4⟩ := valid_iff.1 hv
  have key : ∀ n : Int, okRef x.cs n = true → (∀ k : Nat, n = k → D[k]? ≠ some true) → okRef (dropH x D).cs n = true := fun n ho hd => by
    rcases okRef_iff.1 ho with e | ⟨e, hu⟩
    · exact okRef_iff.2 (.inl e)
    · exact okRef_iff.2 (.inr ⟨e, drop_usedAt.2 ⟨hu, hd _ (by omega)⟩⟩)
  refine valid_iff.2 ⟨fun c hc => ?_, by rw [drop_len]; exact v2, v3, okRefs_iff.2 fun n hn => key n (okRefs_iff.1 v4 n hn) fun k e => P.rt k (e ▸ hn)⟩
  obtain ⟨k, hk⟩ := List.mem_iff_getElem?.1 hc
  rcases drop_cases hk with ⟨h1, h2⟩ | ⟨_, rfl⟩
  · obtain ⟨w1, w2, w3, w4⟩ := okCell_iff.1 (valid_cell hv h2)
    exact okCell_iff.2 ⟨w1, w2, w3, okRefs_iff.2 fun n hn => key n (okRefs_iff.1 w4 n hn) fun m e q => h1 (P.back h2 (e ▸ hn) q)⟩
  · simp [okCell, zeroCl, okRefs]
theorem Drp.sim {x : Hp} {D : List Bool} (P : Drp x D) (hv : validH x = true) : Sim x (dropH x D) (fun k y => k = y ∧ Rch x.cs x.rt k) := by
  refine ⟨fun k x y h1 h2 => by omega, fun k m x h1 h2 => by omega, ⟨rfl, fun i n m h1 h2 => ?_⟩, ?_⟩
  · have e : n = m := by
      rw [show (dropH x D).rt = x.rt from rfl, h1] at h2
      exact Option.some.inj h2
    subst e
    rcases okRef_iff.1 (valid_root hv h1) with e | ⟨e, _⟩
    · exact .inl ⟨e, e⟩
    · exact .inr ⟨n.toNat, n.toNat, by omega, by omega, rfl, .root (by rw [Int.toNat_of_nonneg e]; exact List.mem_of_getElem? h1)⟩
  · rintro k _ ⟨rfl, hr⟩
    obtain ⟨c, hc, _⟩ := usedAt_iff.1 (hr.live hv)
    refine ⟨c, c, hc, by rw [drop_stays (P.rch P.rt hr).1]; exact hc, rfl, rfl, fun i n m h1 h2 => ?_⟩
    have e : n = m := by
      rw [h1] at h2
      exact Option.some.inj h2
    subst e
    rcases okRef_iff.1 (valid_ref hv hc h1) with e | ⟨e, _⟩
    · exact .inl ⟨e, e⟩
    · exact .inr ⟨n.toNat, n.toNat, by omega, by omega, rfl, .step hr hc (by rw [Int.toNat_of_nonneg e]; exact List.mem_of_getElem? h1)⟩
theorem Drp.same {x : Hp} {D : List Bool} (P : Drp x D) (hv : validH x = true) : sameV (dropH x D) x = true := by
  rw [sameV_comm]
  exact sameV_iff.2 ⟨hv, P.valid hv, (P.sim hv).view hv (P.valid hv)⟩
theorem drop_count : ∀ (cs : List Cl) (D : List Bool), (∀ k : Nat, D[k]? = some true → usedAt cs k = true) → (dropL cs D).countP (·.u) + D.count true = cs.countP (·.u)
  | [], D, h => by
    have : D.count true = 0 := by
      rw [List.count_eq_zero]
      intro hm
      obtain ⟨k, hk⟩ := List.mem_iff_getElem?.1 hm
      have := usedAt_lt (h k hk)
      simp at this
    rw [this]
    cases D <;> rfl
  | c :: cs, [], h => by simp [dropL]
  | c :: cs, b :: D, h => by
    have ih := drop_count cs D fun k hk => by
      have := h (k + 1) (by simpa using hk)
      simpa [usedAt] using this
    cases b
    · simp only [dropL, Bool.false_eq_true, if_false, List.countP_cons]
      rw [List.count_cons_of_ne (by decide)]
      omega
    · have hu : c.u = true := by
        have := h 0 (by simp)
        simpa [usedAt] using this
      simp only [dropL, if_true, List.countP_cons, List.count_cons_self, hu, zeroCl, Bool.false_eq_true, if_false]
      omega
theorem drop_usedN {x : Hp} {D : List Bool} (h : ∀ k : Nat, D[k]? = some true → usedAt x.cs k = true) : usedN (dropH x D) + D.count true = usedN x := by
  rw [usedN_eq, usedN_eq]
  exact drop_count x.cs D h

/-! collecting -/
/-- one step: the dead cells of cell number k go -/
noncomputable def ccStep (x : Hp × Nat) (k : Nat) : Hp × Nat := if usedAt x.1.cs k = true then (dropH x.1 (deadL x.1 (k : Int)), x.2 + (deadL x.1 (k : Int)).count true) else x
noncomputable def ccTo (h : Hp) : Nat → Hp × Nat
  | 0 => (h, 0)
  | k + 1 => ccStep (ccTo h k) k
noncomputable def cyclesH (h : Hp) (l : List Int) : (Hp × List Int) × Int :=
  if okCt h l = true then (((ccTo h h.cs.length).1, countsL (ccTo h h.cs.length).1), ((ccTo h h.cs.length).2 : Int)) else ((zeroH, []), -1)
/-- what holds before cell number m is suspected -/
structure Cc (h x : Hp) (f m : Nat) : Prop where
  ok : validH x = true
  len : x.cs.length = h.cs.length
  same : sameV x h = true
  cnt : usedN x + f = usedN h
  led : ∀ k, k < m → usedAt x.cs k = true → ¬ Rch x.cs x.rt k → ∃ j, m ≤ j ∧ usedAt x.cs j = true ∧ Rch x.cs [(j : Int)] k
theorem sameV_refl {h : Hp} (hv : validH h = true) : sameV h h = true := sameV_iff.2 ⟨hv, hv, rfl⟩
theorem Cc.start {h : Hp} (hv : validH h = true) : Cc h h 0 0 := ⟨hv, rfl, sameV_refl hv, rfl, fun k hk => by omega⟩
theorem Cc.step {h x : Hp} {f m : Nat} (C : Cc h x f m) : Cc h (ccStep (x, f) m).1 (ccStep (x, f) m).2 (m + 1) := by
  unfold ccStep
  by_cases hu : usedAt x.cs m = true
  · rw [if_pos hu]
    have P := dead_drp C.ok m
    have hv' := P.valid C.ok
    refine ⟨hv', by rw [drop_len]; exact C.len, sameV_trans (P.same C.ok) C.same, ?_, fun k hk hku hkr => ?_⟩
    · have h1 := drop_usedN (x := x) (D := deadL x (m : Int)) fun k hk => dead_used C.ok hu hk
      have h2 := C.cnt
      simp only
      omega
    · simp only at hku hkr ⊢
      rw [P.reach] at hkr
      obtain ⟨hku, hkd⟩ := drop_usedAt.1 hku
      -- a cell outside of the set that leads to a spared one
      have far : ∀ j, usedAt x.cs j = true → Rch x.cs [(j : Int)] k → ¬ Rch x.cs [(m : Int)] j → ∃ j, m + 1 ≤ j ∧ usedAt (dropH x (deadL x (m : Int))).cs j = true ∧ Rch (dropH x (deadL x (m : Int))).cs [(j : Int)] k := by
        intro j hj hjk hjm
        have fin : ∀ i, m ≤ i → usedAt x.cs i = true → Rch x.cs [(i : Int)] k → ¬ Rch x.cs [(m : Int)] i → ∃ j, m + 1 ≤ j ∧ usedAt (dropH x (deadL x (m : Int))).cs j = true ∧ Rch (dropH x (deadL x (m : Int))).cs [(j : Int)] k := by
          intro i hi hiu hik him
          have hid : (deadL x (m : Int))[i]? ≠ some true := fun e => him (dead_iff.1 e).2.1
          have hne : i ≠ m := fun e => him (e ▸ Rch.self _ _)
          refine ⟨i, by omega, drop_usedAt.2 ⟨hiu, hid⟩, (P.rch (fun y hy => ?_) hik).2⟩
          rw [List.mem_singleton] at hy
          obtain rfl : y = i := by omega
          exact hid
        rcases Nat.lt_or_ge j m with h1 | h1
        · obtain ⟨i, hi, hiu, hij⟩ := C.led j h1 hj (fun q => hkr (Rch.then q hjk))
          exact fin i hi hiu (Rch.then hij hjk) fun q => hjm (Rch.then q hij)
        · exact fin j h1 hj hjk hjm
      have hkl := usedAt_lt hku
      by_cases hf : Rch x.cs [(m : Int)] k
      · obtain ⟨j, h1, h2, h3⟩ := spared C.ok hf hkl hkd hkr
        exact far j h1 h2 h3
      · have hkm : k < m := by
          have : k ≠ m := fun e => hf (e ▸ Rch.self _ _)
          omega
        obtain ⟨j, h1, h2, h3⟩ := C.led k hkm hku hkr
        exact far j h2 h3 fun q => hf (Rch.then q h3)
  · rw [if_neg hu]
    refine ⟨C.ok, C.len, C.same, C.cnt, fun k hk hku hkr => ?_⟩
    have hne : ∀ j, usedAt x.cs j = true → j ≠ m := fun j hj e => hu (e ▸ hj)
    have := hne k hku
    obtain ⟨j, h1, h2, h3⟩ := C.led k (by omega) hku hkr
    have := hne j h2
    exact ⟨j, by omega, h2, h3⟩
theorem cc_to {h : Hp} (hv : validH h = true) : ∀ m, Cc h (ccTo h m).1 (ccTo h m).2 m
  | 0 => .start hv
  | m + 1 => (cc_to hv m).step
/-- at the end nothing has leaked -/
theorem Cc.fin {h x : Hp} {f : Nat} (C : Cc h x f h.cs.length) {k : Nat} (hu : usedAt x.cs k = true) : Rch x.cs x.rt k := by
  refine Classical.byContradiction fun q => ?_
  have hk := usedAt_lt hu
  rw [C.len] at hk
  obtain ⟨j, h1, h2, _⟩ := C.led k hk hu q
  have := usedAt_lt h2
  rw [C.len] at this
  omega
theorem leak_none {x : Hp} (h : ∀ k, usedAt x.cs k = true → Rch x.cs x.rt k) : leakL x = [] := by
  apply List.eq_nil_iff_forall_not_mem.2
  intro n hn
  obtain ⟨k, _, h1, h2⟩ := mem_leak.1 hn
  exact h2 (h k h1)
theorem order_same {a b : Hp} (h : sameV a b = true) : (orderH a).length = (orderH b).length := by
  obtain ⟨ha, hb, he⟩ := sameV_iff.1 h
  exact ((sim_of_view ha hb he).order ha hb).1
theorem usedN_parts {h : Hp} (hv : validH h = true) : usedN h = (orderH h).length + (leakL h).length := by
  have h1 := used_parts hv _ (Nat.le_refl _)
  rw [live_order hv, leakTo_all] at h1
  exact h1
/-- P2: exactly what can be reached is left, a program sees the same, and what had leaked was freed -/
theorem cycles_right {h : Hp} {l : List Int} (hc : okCt h l = true) : okCt (cyclesH h l).1.1 (cyclesH h l).1.2 = true ∧ (usedH (cyclesH h l).1.1).1 = (usedH (cyclesH h l).1.1).2 ∧ (cyclesH h l).2 = ((leakL h).length : Int) ∧ 0 ≤ (cyclesH h l).2 ∧ sameV (cyclesH h l).1.1 h = true := by
  have hv := (okCt_iff.1 hc).1
  have C := cc_to hv h.cs.length
  have h1 := leak_none fun k hk => C.fin hk
  have h2 := usedN_parts C.ok
  have h3 := usedN_parts hv
  have h4 := order_same C.same
  have h5 := C.cnt
  have h6 := live_order C.ok
  rw [h1] at h2
  simp only [List.length_nil, Nat.add_zero] at h2
  rw [cyclesH, if_pos hc]
  refine ⟨okCt_iff.2 ⟨C.ok, rfl⟩, ?_, ?_, by simp only; omega, C.same⟩
  · rw [usedH, if_pos C.ok]
    simp only
    rw [show usedTo (ccTo h h.cs.length).1.cs (ccTo h h.cs.length).1.cs.length = usedN (ccTo h h.cs.length).1 from rfl, h6, h2]
  · simp only
    omega
/-- P121: with counts and cycles as many cells are used as can be reached without freeing -/
theorem cycles_complete {l : List Cm} (hl : okCms l = true) : (usedH (cyclesH (runCt l).1 (runCt l).2).1.1).1 = (usedH (runH l)).2 := by
  obtain ⟨h1, h2, _⟩ := run_same hl
  obtain ⟨h3, h4, _, _, h5⟩ := cycles_right h1
  have hs := sameV_trans h5 h2
  obtain ⟨ha, hb, _⟩ := sameV_iff.1 hs
  rw [h4, usedH, usedH, if_pos ha, if_pos hb]
  simp only
  rw [live_order ha, live_order hb, order_same hs]
/-- P122: what is dead had leaked -/
theorem dead_leaked {h : Hp} (hv : validH h = true) {n : Nat} (hn : usedAt h.cs n = true) {k : Nat} (hd : (deadL h (n : Int))[k]? = some true) : (k : Int) ∈ leakL h := mem_leak.2 ⟨k, rfl, dead_used hv hn hd, dead_lost hv hd⟩
/-- P59: at most as many as lead to the cell altogether -/
theorem outTo_sub {h : Hp} {s : List Bool} (x : Int) : ∀ i, i ≤ h.cs.length → (outTo h s i).count x ≤ (refsTo h i).count x
  | 0, _ => by rw [refsTo_zero, outTo]; exact Nat.le_refl _
  | i + 1, hi => by
    have ih := outTo_sub (h := h) (s := s) x i (by omega)
    have hc := List.getElem?_eq_getElem (show i < h.cs.length by omega)
    rw [refsTo_succ hc, List.count_append]
    by_cases e : s[i]? = some true
    · rw [outTo_in e]
      omega
    · rw [outTo_out e hc, List.count_append]
      omega
theorem trial_le {h : Hp} {s : List Bool} {k : Nat} (hs : s[k]? = some true) : 0 ≤ trialAt h s k ∧ trialAt h s k ≤ (((refsOf h).count (k : Int) : Nat) : Int) := by
  have := outTo_sub (h := h) (s := s) (k : Int) h.cs.length (Nat.le_refl _)
  rw [refsTo_all] at this
  rw [trialAt, if_pos hs]
  unfold outOf
  omega
theorem trial_not {h : Hp} {s : List Bool} {k : Nat} (hs : s[k]? ≠ some true) : trialAt h s k = -1 := by rw [trialAt, if_neg hs]
/-- P59: with all used cells in the set the roots are counted -/
theorem trial_all {h : Hp} {s : List Bool} (hv : validH h = true) (hs : ∀ k, usedAt h.cs k = true → s[k]? = some true) {k : Nat} (hk : s[k]? = some true) : trialAt h s k = ((h.rt.count (k : Int) : Nat) : Int) := by
  have key : ∀ i, i ≤ h.cs.length → outTo h s i = h.rt := by
    intro i
    induction i with
    | zero => intro _; rfl
    | succ i ih =>
      intro hi
      have hc := List.getElem?_eq_getElem (show i < h.cs.length by omega)
      by_cases e : s[i]? = some true
      · rw [outTo_in e, ih (by omega)]
      · rw [outTo_out e hc, ih (by omega)]
        have hu : (h.cs[i]'(by omega)).u = false := by
          cases q : (h.cs[i]'(by omega)).u
          · rfl
          · exact absurd (hs i (usedAt_iff.2 ⟨_, hc, q⟩)) e
        rw [valid_unused hv hc hu]
        simp [freeCl]
  rw [trialAt, if_pos hk, outOf, key _ (Nat.le_refl _)]
end Hps
end Go.Proofs.Ytakdjiojahlnmaa
