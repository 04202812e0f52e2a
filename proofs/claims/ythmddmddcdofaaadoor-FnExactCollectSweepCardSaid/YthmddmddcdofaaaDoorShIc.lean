/- What the claim DECollectSweep stands on, part 3 of 3: texts of one seat put together, with what the claim needs of them. No conditions. -/
import Derived.Test.YthmddmddcdofaaaDoorShIb
namespace Go.Proofs.YthmddmddcdofaaaDoor
namespace Hps
/-- the references of the roots and of those of the first i cells that are not in the set -/
def outTo (h : Hp) (s : List Bool) : Nat → List Int
  | 0 => h.rt
  | i + 1 => outTo h s i ++ (if s[i]? = some true then [] else match h.cs[i]? with | some c => c.r | none => [])
def outOf (h : Hp) (s : List Bool) : List Int := outTo h s h.cs.length
theorem mem_outTo {h : Hp} {s : List Bool} {n : Int} : ∀ i, n ∈ outTo h s i ↔ n ∈ h.rt ∨ ∃ (j : Nat) (c : Cl), j < i ∧ h.cs[j]? = some c ∧ s[j]? ≠ some true ∧ n ∈ c.r
  | 0 => by
    rw [outTo]
    constructor
    · exact .inl
    · rintro (h1 | ⟨j, c, hj, _⟩)
      · exact h1
      · omega
  | i + 1 => by
    rw [outTo, List.mem_append, mem_outTo i]
    constructor
    · rintro ((h1 | ⟨j, c, hj, h2⟩) | h1)
      · exact .inl h1
      · exact .inr ⟨j, c, by omega, h2⟩
      · split at h1
        · simp at h1
        · next hs =>
          cases e : h.cs[i]? with
          | none => rw [e] at h1; simp at h1
          | some c => rw [e] at h1; exact .inr ⟨i, c, by omega, e, hs, h1⟩
    · rintro (h1 | ⟨j, c, hj, hc, hs, h2⟩)
      · exact .inl (.inl h1)
      · rcases Nat.lt_or_ge j i with h3 | h3
        · exact .inl (.inr ⟨j, c, h3, hc, hs, h2⟩)
        · obtain rfl : j = i := by omega
          rw [if_neg hs, hc]
          exact .inr h2
theorem mem_outOf {h : Hp} {s : List Bool} {n : Int} : n ∈ outOf h s ↔ n ∈ h.rt ∨ ∃ (j : Nat) (c : Cl), h.cs[j]? = some c ∧ s[j]? ≠ some true ∧ n ∈ c.r := by
  rw [outOf, mem_outTo]
  constructor
  · rintro (h1 | ⟨j, c, _, h2⟩)
    · exact .inl h1
    · exact .inr ⟨j, c, h2⟩
  · rintro (h1 | ⟨j, c, h2, h3⟩)
    · exact .inl h1
    · exact .inr ⟨j, c, (List.getElem?_eq_some_iff.1 h2).1, h2, h3⟩
/-- how many references lead to a cell of the set from outside of it; -1 for other cells -/
def trialAt (h : Hp) (s : List Bool) (k : Nat) : Int := if s[k]? = some true then (((outOf h s).count (k : Int) : Nat) : Int) else -1
theorem trial_pos {h : Hp} {s : List Bool} {k : Nat} : 0 < trialAt h s k ↔ s[k]? = some true ∧ (k : Int) ∈ outOf h s := by
  unfold trialAt
  by_cases e : s[k]? = some true
  · rw [if_pos e, ← List.count_pos_iff]
    constructor
    · intro h1
      exact ⟨e, by omega⟩
    · rintro ⟨_, h1⟩
      omega
  · rw [if_neg e]
    constructor
    · intro h1
      omega
    · rintro ⟨h1, _⟩
      exact absurd h1 e
/-- the cells of a set to which something leads from outside of it, up to number i -/
def outsideTo (h : Hp) (s : List Bool) (i : Nat) : List Int := ((List.range i).filter fun k => decide (0 < trialAt h s k)).map fun (k : Nat) => (k : Int)
def outsideL (h : Hp) (s : List Bool) : List Int := outsideTo h s h.cs.length
theorem mem_outside {h : Hp} {s : List Bool} {x : Int} : x ∈ outsideL h s ↔ ∃ k : Nat, x = k ∧ k < h.cs.length ∧ s[k]? = some true ∧ (k : Int) ∈ outOf h s := by
  unfold outsideL outsideTo
  simp only [List.mem_map, List.mem_filter, List.mem_range, decide_eq_true_eq, trial_pos]
  constructor
  · rintro ⟨k, ⟨h1, h2, h3⟩, rfl⟩
    exact ⟨k, rfl, h1, h2, h3⟩
  · rintro ⟨k, rfl, h1, h2, h3⟩
    exact ⟨k, ⟨h1, h2, h3⟩, rfl⟩
/-- for every cell whether it is in the first set and not in the second -/
def minusL (s t : List Bool) : List Bool := List.zipWith (fun a b => a && !b) s t
theorem minus_at {s t : List Bool} {k : Nat} (hl : s.length = t.length) : (minusL s t)[k]? = some true ↔ s[k]? = some true ∧ t[k]? ≠ some true := by
  unfold minusL
  rw [List.getElem?_zipWith]
  rcases Nat.lt_or_ge k s.length with hk | hk
  · rw [List.getElem?_eq_getElem hk, List.getElem?_eq_getElem (show k < t.length by omega)]
    cases s[k] <;> cases t[k]'(by omega) <;> simp
  · rw [List.getElem?_eq_none hk]
    simp
noncomputable def deadL (h : Hp) (n : Int) : List Bool := minusL (reachL h.cs [n]) (reachL h.cs (outsideL h (reachL h.cs [n])))
theorem reachL_some {cs : List Cl} {a : List Int} {k : Nat} : (reachL cs a)[k]? = some true ↔ k < cs.length ∧ Rch cs a k := by
  constructor
  · intro h
    have hk := (List.getElem?_eq_some_iff.1 h).1
    rw [reachL_len] at hk
    exact ⟨hk, (reachL_true hk).1 h⟩
  · rintro ⟨hk, h⟩
    exact (reachL_true hk).2 h
theorem from_used {h : Hp} (hv : validH h = true) {n : Nat} (hn : usedAt h.cs n = true) {k : Nat} (hr : Rch h.cs [(n : Int)] k) : usedAt h.cs k = true :=
  hr.used (okRefs_iff.2 fun m hm => by rw [List.mem_singleton] at hm; subst hm; exact okRef_iff.2 (.inr ⟨by omega, by simpa using hn⟩)) (valid_refs hv)
theorem Rch.self (cs : List Cl) (n : Nat) : Rch cs [(n : Int)] n := .root (by simp)
theorem Rch.then {cs : List Cl} {a : List Int} {m k : Nat} (h1 : Rch cs a m) (h2 : Rch cs [(m : Int)] k) : Rch cs a k :=
  h2.mono fun x hx => by
    rw [List.mem_singleton] at hx
    obtain rfl : x = m := by omega
    exact h1
/-- what leads to a set's cell from outside keeps it alive -/
def Alive (h : Hp) (n k : Nat) : Prop := Rch h.cs (outsideL h (reachL h.cs [(n : Int)])) k
theorem dead_iff {h : Hp} {n k : Nat} : (deadL h (n : Int))[k]? = some true ↔ k < h.cs.length ∧ Rch h.cs [(n : Int)] k ∧ ¬ Alive h n k := by
  unfold deadL
  rw [minus_at (by rw [reachL_len, reachL_len]), reachL_some]
  constructor
  · rintro ⟨⟨h1, h2⟩, h3⟩
    exact ⟨h1, h2, fun q => h3 (reachL_some.2 ⟨h1, q⟩)⟩
  · rintro ⟨h1, h2, h3⟩
    exact ⟨⟨h1, h2⟩, fun q => h3 (reachL_some.1 q).2⟩
theorem dead_used {h : Hp} (hv : validH h = true) {n : Nat} (hn : usedAt h.cs n = true) {k : Nat} (hd : (deadL h (n : Int))[k]? = some true) : usedAt h.cs k = true := from_used hv hn (dead_iff.1 hd).2.1
/-- what can be reached is alive, if it is in the set -/
theorem reached_alive {h : Hp} (hv : validH h = true) {n k : Nat} (hr : Rch h.cs h.rt k) (hf : Rch h.cs [(n : Int)] k) : Alive h n k := by
  induction hr with
  | root hk =>
    have hf' := hf
    refine .root (mem_outside.2 ⟨_, rfl, ?_, reachL_some.2 ⟨?_, hf⟩, mem_outOf.2 (.inl hk)⟩) <;> exact usedAt_lt (Rch.live hv (.root hk))
  | @step k m c h1 hc hm ih =>
    by_cases q : Rch h.cs [(n : Int)] k
    · exact .step (ih q) hc hm
    · have hl := usedAt_lt (Rch.live hv (.step h1 hc hm))
      exact .root (mem_outside.2 ⟨_, rfl, hl, reachL_some.2 ⟨hl, hf⟩, mem_outOf.2 (.inr ⟨k, c, hc, fun e => q (reachL_some.1 e).2, hm⟩)⟩)
/-- P61: what can be reached is not dead -/
theorem dead_lost {h : Hp} (hv : validH h = true) {n k : Nat} (hd : (deadL h (n : Int))[k]? = some true) : ¬ Rch h.cs h.rt k := fun hr => (dead_iff.1 hd).2.2 (reached_alive hv hr (dead_iff.1 hd).2.1)
/-- P61: only dead cells refer to dead cells -/
theorem dead_back {h : Hp} {n j m : Nat} {c : Cl} (hc : h.cs[j]? = some c) (hm : (m : Int) ∈ c.r) (hd : (deadL h (n : Int))[m]? = some true) : (deadL h (n : Int))[j]? = some true := by
  obtain ⟨h1, h2, h3⟩ := dead_iff.1 hd
  refine dead_iff.2 ⟨(List.getElem?_eq_some_iff.1 hc).1, ?_, fun q => h3 (.step q hc hm)⟩
  refine Classical.byContradiction fun q => h3 (.root (mem_outside.2 ⟨_, rfl, h1, reachL_some.2 ⟨h1, h2⟩, mem_outOf.2 (.inr ⟨j, c, hc, fun e => q (reachL_some.1 e).2, hm⟩)⟩))
/-- an outside cell leads to what is not dead though it is in the set -/
theorem spared {h : Hp} (hv : validH h = true) {n k : Nat} (hf : Rch h.cs [(n : Int)] k) (hk : k < h.cs.length) (hd : (deadL h (n : Int))[k]? ≠ some true) (hr : ¬ Rch h.cs h.rt k) :
    ∃ j : Nat, usedAt h.cs j = true ∧ Rch h.cs [(j : Int)] k ∧ ¬ Rch h.cs [(n : Int)] j := by
  have ha : Alive h n k := Classical.byContradiction fun q => hd (dead_iff.2 ⟨hk, hf, q⟩)
  unfold Alive at ha
  have key : ∀ o : Nat, (o : Int) ∈ outsideL h (reachL h.cs [(n : Int)]) → Rch h.cs [(o : Int)] k → ∃ j : Nat, usedAt h.cs j = true ∧ Rch h.cs [(j : Int)] k ∧ ¬ Rch h.cs [(n : Int)] j := by
    intro o ho hok
    obtain ⟨o', e, h1, h2, h3⟩ := mem_outside.1 ho
    obtain rfl : o = o' := by omega
    rcases mem_outOf.1 h3 with h4 | ⟨j, c, hc, hs, hm⟩
    · exact absurd (Rch.then (.root h4) hok) hr
    · refine ⟨j, ?_, Rch.then (.step (Rch.self _ j) hc hm) hok, fun q => hs (reachL_some.2 ⟨(List.getElem?_eq_some_iff.1 hc).1, q⟩)⟩
      refine usedAt_iff.2 ⟨c, hc, ?_⟩
      cases hu : c.u
      · have := valid_unused hv hc hu
        rw [this] at hm
        simp [freeCl] at hm
      · rfl
  have gen : ∀ k', Rch h.cs (outsideL h (reachL h.cs [(n : Int)])) k' → ∃ o : Nat, (o : Int) ∈ outsideL h (reachL h.cs [(n : Int)]) ∧ Rch h.cs [(o : Int)] k' := by
    intro k' hk'
    induction hk' with
    | root h1 => exact ⟨_, h1, Rch.self _ _⟩
    | step _ hc hm ih =>
      obtain ⟨o, h1, h2⟩ := ih
      exact ⟨o, h1, .step h2 hc hm⟩
  obtain ⟨o, h1, h2⟩ := gen k ha
  exact key o h1 h2
/-! a heap without its dead cells -/
/-- nothing that stays leads to a cell that goes -/
structure Drp (x : Hp) (D : List Bool) : Prop where
  rt : ∀ k : Nat, (k : Int) ∈ x.rt → D[k]? ≠ some true
  back : ∀ {j m : Nat} {c : Cl}, x.cs[j]? = some c → (m : Int) ∈ c.r → D[m]? = some true → D[j]? = some true
theorem dead_drp {h : Hp} (hv : validH h = true) (n : Nat) : Drp h (deadL h (n : Int)) := ⟨fun _ hk hd => dead_lost hv hd (.root hk), dead_back⟩
theorem drop_stays {x : Hp} {D : List Bool} {k : Nat} (hd : D[k]? ≠ some true) : (dropH x D).cs[k]? = x.cs[k]? := by
  rcases Nat.lt_or_ge k x.cs.length with hk | hk
  · rw [dropH, dropL_at _ _ _ _ (List.getElem?_eq_getElem hk), if_neg hd, List.getElem?_eq_getElem hk]
  · rw [List.getElem?_eq_none hk, List.getElem?_eq_none (by rw [dropH, dropL_len]; exact hk)]
theorem drop_cases {x : Hp} {D : List Bool} {k : Nat} {c : Cl} (hc : (dropH x D).cs[k]? = some c) : (D[k]? ≠ some true ∧ x.cs[k]? = some c) ∨ (D[k]? = some true ∧ c = zeroCl) := by
  by_cases e : D[k]? = some true
  · have hk := (List.getElem?_eq_some_iff.1 hc).1
    rw [dropH, dropL_len] at hk
    rw [dropH, dropL_at _ _ _ _ (List.getElem?_eq_getElem hk), if_pos e] at hc
    exact .inr ⟨e, (Option.some.inj hc).symm⟩
  · rw [drop_stays e] at hc
    exact .inl ⟨e, hc⟩
theorem drop_len (x : Hp) (D : List Bool) : (dropH x D).cs.length = x.cs.length := by rw [dropH, dropL_len]
theorem drop_usedAt {x : Hp} {D : List Bool} {k : Nat} : usedAt (dropH x D).cs k = true ↔ usedAt x.cs k = true ∧ D[k]? ≠ some true := by
  constructor
  · intro h
    obtain ⟨c, hc, hu⟩ := usedAt_iff.1 h
    rcases drop_cases hc with ⟨h1, h2⟩ | ⟨_, rfl⟩
    · exact ⟨usedAt_iff.2 ⟨c, h2, hu⟩, h1⟩
    · cases hu
  · rintro ⟨h1, h2⟩
    obtain ⟨c, hc, hu⟩ := usedAt_iff.1 h1
    exact usedAt_iff.2 ⟨c, by rw [drop_stays h2]; exact hc, hu⟩
theorem drop_rch_sub {x : Hp} {D : List Bool} {a : List Int} {k : Nat} (h : Rch (dropH x D).cs a k) : Rch x.cs a k := by
  induction h with
  | root hk => exact .root hk
  | step _ hc hm ih =>
    rcases drop_cases hc with ⟨_, h2⟩ | ⟨_, rfl⟩
    · exact .step ih h2 hm
    · simp [zeroCl] at hm
theorem Drp.rch {x : Hp} {D : List Bool} (P : Drp x D) {a : List Int} (ha : ∀ k : Nat, (k : Int) ∈ a → D[k]? ≠ some true) {k : Nat} (h : Rch x.cs a k) : D[k]? ≠ some true ∧ Rch (dropH x D).cs a k := by
  induction h with
  | root hk => exact ⟨ha _ hk, .root hk⟩
  | step _ hc hm ih =>
    refine ⟨fun e => ih.1 (P.back hc hm e), .step ih.2 (by rw [drop_stays ih.1]; exact hc) hm⟩
theorem Drp.reach {x : Hp} {D : List Bool} (P : Drp x D) {k : Nat} : Rch (dropH x D).cs (dropH x D).rt k ↔ Rch x.cs x.rt k := ⟨fun h => drop_rch_sub h, fun h => (P.rch P.rt h).2⟩
theorem Drp.valid {x : Hp} {D : List Bool} (P : Drp x D) (hv : validH x = true) : validH (dropH x D) = true := by
  obtain ⟨v1, v2, v3, v4⟩ := valid_iff.1 hv
  have key : ∀ n : Int, okRef x.cs n = true → (∀ k : Nat, n = k → D[k]? ≠ some true) → okRef (dropH x D).cs n = true := fun n ho hd => by
    rcases okRef_iff.1 ho with e | ⟨e, hu⟩
    · exact okRef_iff.2 (.inl e)
    · exact okRef_iff.2 (.inr ⟨e, drop_usedAt.2 ⟨hu, hd _ (by omega)⟩⟩)
  refine valid_iff.2 ⟨fun c hc => ?_, by rw [drop_len]; exact v2, v3, okRefs_iff.2 fun n hn => key n (okRefs_iff.1 v4 n hn) fun k e => P.rt k (e ▸ hn)⟩
  obtain ⟨k, hk⟩ := List.mem_iff_getElem?.1 hc
  rcases drop_cases hk with ⟨h1, h2⟩ | ⟨_, rfl⟩
  · obtain ⟨w1, w2, w3, w4⟩ := okCell_iff.1 (valid_cell hv h2)
    exact okCell_iff.2 ⟨w1, w2, w3, okRefs_iff.2 fun n hn => key n (okRefs_iff.1 w4 n hn) fun m e q => h1 (P.back h2 (e ▸ hn) q)⟩
  · simp [okCell, zeroCl, okRefs]
theorem Drp.sim {x : Hp} {D : List Bool} (P : Drp x D) (hv : validH x = true) : Sim x (dropH x D) (fun k y => k = y ∧ Rch x.cs x.rt k) := by
  refine ⟨fun k x y h1 h2 => by omega, fun k m x h1 h2 => by omega, ⟨rfl, fun i n m h1 h2 => ?_⟩, ?_⟩
  · have e : n = m := by
      rw [show (dropH x D).rt = x.rt from rfl, h1] at h2
      exact Option.some.inj h2
    subst e
    rcases okRef_iff.1 (valid_root hv h1) with e | ⟨e, _⟩
    · exact .inl ⟨e, e⟩
    · exact .inr ⟨n.toNat, n.toNat, by omega, by omega, rfl, .root (by rw [Int.toNat_of_nonneg e]; exact List.mem_of_getElem? h1)⟩
  · rintro k _ ⟨rfl, hr⟩
    obtain ⟨c, hc, _⟩ := usedAt_iff.1 (hr.live hv)
    refine ⟨c, c, hc, by rw [drop_stays (P.rch P.rt hr).1]; exact hc, rfl, rfl, fun i n m h1 h2 => ?_⟩
    have e : n = m := by
      rw [h1] at h2
      exact Option.some.inj h2
    subst e
    rcases okRef_iff.1 (valid_ref hv hc h1) with e | ⟨e, _⟩
    · exact .inl ⟨e, e⟩
    · exact .inr ⟨n.toNat, n.toNat, by omega, by omega, rfl, .step hr hc (by rw [Int.toNat_of_nonneg e]; exact List.mem_of_getElem? h1)⟩
theorem Drp.same {x : Hp} {D : List Bool} (P : Drp x D) (hv : validH x = true) : sameV (dropH x D) x = true := by
  rw [sameV_comm]
  exact sameV_iff.2 ⟨hv, P.valid hv, (P.sim hv).view hv (P.valid hv)⟩
theorem drop_count : ∀ (cs : List Cl) (D : List Bool), (∀ k : Nat, D[k]? = some true → usedAt cs k = true) → (dropL cs D).countP (·.u) + D.count true = cs.countP (·.u)
  | [], D, h => by
    have : D.count true = 0 := by
      rw [List.count_eq_zero]
      intro hm
      obtain ⟨k, hk⟩ := List.mem_iff_getElem?.1 hm
      have := usedAt_lt (h k hk)
      simp at this
    rw [this]
    cases D <;> rfl
  | c :: cs, [], h => by simp [dropL]
  | c :: cs, b :: D, h => by
    have ih := drop_count cs D fun k hk => by
      have := h (k + 1) (by simpa using hk)
      simpa [usedAt] using this
    cases b
    · simp only [dropL, Bool.false_eq_true, if_false, List.countP_cons]
      rw [List.count_cons_of_ne (by decide)]
      omega
    · have hu : c.u = true := by
        have := h 0 (by simp)
        simpa [usedAt] using this
      simp only [dropL, if_true, List.countP_cons, List.count_cons_self, hu, zeroCl, Bool.false_eq_true, if_false]
      omega
theorem drop_usedN {x : Hp} {D : List Bool} (h : ∀ k : Nat, D[k]? = some true → usedAt x.cs k = true) : usedN (dropH x D) + D.count true = usedN x := by
  rw [usedN_eq, usedN_eq]
  exact drop_count x.cs D h
/-! collecting -/
/-- one step: the dead cells of cell number k go -/
noncomputable def ccStep (x : Hp × Nat) (k : Nat) : Hp × Nat := if usedAt x.1.cs k = true then (dropH x.1 (deadL x.1 (k : Int)), x.2 + (deadL x.1 (k : Int)).count true) else x
/-- what holds before cell number m is suspected -/
structure Cc (h x : Hp) (f m : Nat) : Prop where
  ok : validH x = true
  len : x.cs.length = h.cs.length
  same : sameV x h = true
  cnt : usedN x + f = usedN h
  led : ∀ k, k < m → usedAt x.cs k = true → ¬ Rch x.cs x.rt k → ∃ j, m ≤ j ∧ usedAt x.cs j = true ∧ Rch x.cs [(j : Int)] k
theorem sameV_refl {h : Hp} (hv : validH h = true) : sameV h h = true := sameV_iff.2 ⟨hv, hv, rfl⟩
theorem Cc.start {h : Hp} (hv : validH h = true) : Cc h h 0 0 := ⟨hv, rfl, sameV_refl hv, rfl, fun k hk => by omega⟩
theorem Cc.step {h x : Hp} {f m : Nat} (C : Cc h x f m) : Cc h (ccStep (x, f) m).1 (ccStep (x, f) m).2 (m + 1) := by
  unfold ccStep
  by_cases hu : usedAt x.cs m = true
  · rw [if_pos hu]
    have P := dead_drp C.ok m
    have hv' := P.valid C.ok
    refine ⟨hv', by rw [drop_len]; exact C.len, sameV_trans (P.same C.ok) C.same, ?_, fun k hk hku hkr => ?_⟩
    · have h1 := drop_usedN (x := x) (D := deadL x (m : Int)) fun k hk => dead_used C.ok hu hk
      have h2 := C.cnt
      simp only
      omega
    · simp only at hku hkr ⊢
      rw [P.reach] at hkr
      obtain ⟨hku, hkd⟩ := drop_usedAt.1 hku
      -- a cell outside of the set that leads to a spared one
      have far : ∀ j, usedAt x.cs j = true → Rch x.cs [(j : Int)] k → ¬ Rch x.cs [(m : Int)] j → ∃ j, m + 1 ≤ j ∧ usedAt (dropH x (deadL x (m : Int))).cs j = true ∧ Rch (dropH x (deadL x (m : Int))).cs [(j : Int)] k := by
        intro j hj hjk hjm
        have fin : ∀ i, m ≤ i → usedAt x.cs i = true → Rch x.cs [(i : Int)] k → ¬ Rch x.cs [(m : Int)] i → ∃ j, m + 1 ≤ j ∧ usedAt (dropH x (deadL x (m : Int))).cs j = true ∧ Rch (dropH x (deadL x (m : Int))).cs [(j : Int)] k := by
          intro i hi hiu hik him
          have hid : (deadL x (m : Int))[i]? ≠ some true := fun e => him (dead_iff.1 e).2.1
          have hne : i ≠ m := fun e => him (e ▸ Rch.self _ _)
          refine ⟨i, by omega, drop_usedAt.2 ⟨hiu, hid⟩, (P.rch (fun y hy => ?_) hik).2⟩
          rw [List.mem_singleton] at hy
          obtain rfl : y = i := by omega
          exact hid
        rcases Nat.lt_or_ge j m with h1 | h1
        · obtain ⟨i, hi, hiu, hij⟩ := C.led j h1 hj (fun q => hkr (Rch.then q hjk))
          exact fin i hi hiu (Rch.then hij hjk) fun q => hjm (Rch.then q hij)
        · exact fin j h1 hj hjk hjm
      have hkl := usedAt_lt hku
      by_cases hf : Rch x.cs [(m : Int)] k
      · obtain ⟨j, h1, h2, h3⟩ := spared C.ok hf hkl hkd hkr
        exact far j h1 h2 h3
      · have hkm : k < m := by
          have : k ≠ m := fun e => hf (e ▸ Rch.self _ _)
          omega
        obtain ⟨j, h1, h2, h3⟩ := C.led k hkm hku hkr
        exact far j h2 h3 fun q => hf (Rch.then q h3)
  · rw [if_neg hu]
    refine ⟨C.ok, C.len, C.same, C.cnt, fun k hk hku hkr => ?_⟩
    have hne : ∀ j, usedAt x.cs j = true → j ≠ m := fun j hj e => hu (e ▸ hj)
    have := hne k hku
    obtain ⟨j, h1, h2, h3⟩ := C.led k (by omega) hku hkr
    have := hne j h2
    exact ⟨j, by omega, h2, h3⟩
/-- at the end nothing has leaked -/
theorem Cc.fin {h x : Hp} {f : Nat} (C : Cc h x f h.cs.length) {k : Nat} (hu : usedAt x.cs k = true) : Rch x.cs x.rt k := by
  refine Classical.byContradiction fun q => ?_
  have hk := usedAt_lt hu
  rw [C.len] at hk
  obtain ⟨j, h1, h2, _⟩ := C.led k hk hu q
  have := usedAt_lt h2
  rw [C.len] at this
  omega
end Hps
end Go.Proofs.YthmddmddcdofaaaDoor

namespace Go.Proofs.YthmddmddcdofaaaDoor
namespace Hps
/-- the heap of the cells on a list, in this order -/
def moveH (h : Hp) (o : List Int) : Hp := ⟨o.map fun n => ⟨true, (cellAt h.cs n).d, (cellAt h.cs n).r.map (nameL o)⟩, h.rt.map (nameL o)⟩
/-- a list of just the cells that can be reached, each once -/
structure Lives (h : Hp) (o : List Int) : Prop where
  nodup : o.Nodup
  mem : ∀ n : Int, n ∈ o ↔ ∃ k : Nat, n = k ∧ Rch h.cs h.rt k
section
variable {h : Hp} {o : List Int}
theorem Lives.cell (L : Lives h o) (hv : validH h = true) {x : Nat} {n : Int} (hx : o[x]? = some n) : ∃ (k : Nat) (c : Cl), n = k ∧ Rch h.cs h.rt k ∧ h.cs[k]? = some c ∧ (moveH h o).cs[x]? = some ⟨true, c.d, c.r.map (nameL o)⟩ := by
  obtain ⟨k, rfl, hk⟩ := (L.mem n).1 (List.mem_of_getElem? hx)
  obtain ⟨c, hc, _⟩ := usedAt_iff.1 (hk.live hv)
  refine ⟨k, c, rfl, hk, hc, ?_⟩
  simp [moveH, hx, cellAt, hc]
theorem Lives.neg (L : Lives h o) : (-1 : Int) ∉ o := fun hm => by
  obtain ⟨k, e, _⟩ := (L.mem _).1 hm
  omega
/-- a reference that is none or leads to a reachable cell -/
theorem Lives.name (L : Lives h o) {n : Int} (hn : n = -1 ∨ ∃ k : Nat, n = k ∧ Rch h.cs h.rt k) : RR (fun k x => o[x]? = some (k : Int)) n (nameL o n) := by
  rcases hn with rfl | ⟨k, rfl, hk⟩
  · exact .inl ⟨rfl, nameL_none L.neg⟩
  · obtain ⟨x, hx⟩ := List.mem_iff_getElem?.1 ((L.mem _).2 ⟨k, rfl, hk⟩)
    exact .inr ⟨k, x, rfl, nameL_at L.nodup hx, hx⟩
theorem ref_live (hv : validH h = true) {k : Nat} {c : Cl} (hk : Rch h.cs h.rt k) (hc : h.cs[k]? = some c) {n : Int} (hn : n ∈ c.r) : n = -1 ∨ ∃ m : Nat, n = m ∧ Rch h.cs h.rt m := by
  have ok := okRefs_iff.1 (valid_refs hv c (List.mem_of_getElem? hc)) n hn
  by_cases h0 : 0 ≤ n
  · obtain ⟨m, rfl, _⟩ := okRef_nat ok h0
    exact .inr ⟨m, rfl, .step hk hc hn⟩
  · rcases okRef_iff.1 ok with e | ⟨e, _⟩
    · exact .inl e
    · omega
theorem root_live (hv : validH h = true) {n : Int} (hn : n ∈ h.rt) : n = -1 ∨ ∃ m : Nat, n = m ∧ Rch h.cs h.rt m := by
  have ok := okRefs_iff.1 (valid_iff.1 hv).2.2.2 n hn
  by_cases h0 : 0 ≤ n
  · obtain ⟨m, rfl, _⟩ := okRef_nat ok h0
    exact .inr ⟨m, rfl, .root hn⟩
  · rcases okRef_iff.1 ok with e | ⟨e, _⟩
    · exact .inl e
    · omega
theorem Lives.names (L : Lives h o) {ns : List Int} (hn : ∀ n ∈ ns, n = -1 ∨ ∃ k : Nat, n = k ∧ Rch h.cs h.rt k) : LR (fun k x => o[x]? = some (k : Int)) ns (ns.map (nameL o)) := by
  refine ⟨by simp, fun i n m h1 h2 => ?_⟩
  rw [List.getElem?_map, h1, Option.map_some, Option.some.injEq] at h2
  rw [← h2]
  exact L.name (hn n (List.mem_of_getElem? h1))
/-- a heap and the heap of its moved cells are related -/
theorem Lives.sim (L : Lives h o) (hv : validH h = true) : Sim h (moveH h o) (fun k x => o[x]? = some (k : Int)) := by
  refine ⟨fun k x y h1 h2 => ?_, fun k m x h1 h2 => ?_, L.names (fun n hn => root_live hv hn), fun {k x} hx => ?_⟩
  · have e1 := nameL_at L.nodup h1
    have e2 := nameL_at L.nodup h2
    omega
  · rw [h1] at h2
    have := Option.some.inj h2
    omega
  · obtain ⟨k', c, e, hk, hc, hm⟩ := L.cell hv hx
    have e : k = k' := by omega
    subst e
    exact ⟨c, _, hc, hm, rfl, L.names (fun n hn => ref_live hv hk hc hn)⟩
theorem Lives.len (L : Lives h o) (hv : validH h = true) : o.length ≤ h.cs.length := by
  refine few_numbers _ o L.nodup fun x hx => ?_
  obtain ⟨k, rfl, hk⟩ := (L.mem x).1 hx
  exact ⟨k, rfl, usedAt_lt (hk.live hv)⟩
theorem Lives.okRef (L : Lives h o) (hv : validH h = true) {n : Int} (hn : n = -1 ∨ ∃ k : Nat, n = k ∧ Rch h.cs h.rt k) : okRef (moveH h o).cs (nameL o n) = true := by
  rcases L.name hn with ⟨_, e⟩ | ⟨k, x, _, e, hx⟩
  · rw [e]
    exact okRef_none _
  · obtain ⟨_, c, _, _, _, hm⟩ := L.cell hv hx
    rw [e, okRef_iff]
    exact .inr ⟨by omega, usedAt_iff.2 ⟨_, by rw [Int.toNat_natCast]; exact hm, rfl⟩⟩
theorem Lives.valid (L : Lives h o) (hv : validH h = true) : validH (moveH h o) = true := by
  obtain ⟨h1, h2, h3, h4⟩ := valid_iff.1 hv
  refine valid_iff.2 ⟨fun c hc => ?_, ?_, ?_, ?_⟩
  · obtain ⟨x, hx⟩ := List.mem_iff_getElem?.1 hc
    have hxl := (List.getElem?_eq_some_iff.1 hx).1
    simp only [moveH, List.length_map] at hxl
    obtain ⟨k, d, e, hk, hd, hm⟩ := L.cell hv (List.getElem?_eq_getElem hxl)
    rw [hm] at hx
    have hx := Option.some.inj hx
    subst hx
    have ok := okCell_iff.1 (valid_cell hv hd)
    refine okCell_iff.2 ⟨.inl rfl, ok.2.1, by simpa using ok.2.2.1, okRefs_iff.2 fun n hn => ?_⟩
    obtain ⟨m, hm1, rfl⟩ := List.mem_map.1 hn
    exact L.okRef hv (ref_live hv hk hd hm1)
  · have := L.len hv
    simp only [moveH, List.length_map]
    omega
  · simpa [moveH] using h3
  · refine okRefs_iff.2 fun n hn => ?_
    obtain ⟨m, hm1, rfl⟩ := List.mem_map.1 hn
    exact L.okRef hv (root_live hv hm1)
/-- moved cells: a program sees the same -/
theorem Lives.view (L : Lives h o) (hv : validH h = true) : viewH (moveH h o) = viewH h := ((L.sim hv).view hv (L.valid hv)).symm
end
end Hps
end Go.Proofs.YthmddmddcdofaaaDoor
namespace Go.Proofs.YthmddmddcdofaaaDoor
open Go.RowKit
set_option maxRecDepth 100000
namespace Hps
end Hps
end Go.Proofs.YthmddmddcdofaaaDoor
namespace Go.Proofs.YthmddmddcdofaaaDoor
open Go.RowKit
/-- a part of a slice of numbers -/
theorem IS.part {w : World} {B n i r : Nat} {g o : Nat} {xs : List Int} (h : IS w B (some ⟨g, o, none⟩) n xs) (hi : i + r ≤ n) : IS w B (some ⟨g, o + i, none⟩) r ((xs.drop i).take r) := by
  have hl := h.1
  refine ⟨by rw [List.length_take, List.length_drop]; omega, fun hr => ?_⟩
  obtain ⟨g', o', e, hb, hc⟩ := h.2 (by omega)
  have e := Option.some.inj e
  injection e with e1 e2
  subst e1 e2
  refine ⟨g, o + i, rfl, hb, fun k b hk => ?_⟩
  rw [List.getElem?_take] at hk
  split at hk
  · rw [List.getElem?_drop] at hk
    rw [Nat.add_assoc]
    exact hc _ _ hk
  · cases hk
section
variable {w0 wr w1 : World} {b : Nat} {vc vr v9 : Value} {rvs : List Value} {h : Hp} {x : Int}
end
end Go.Proofs.YthmddmddcdofaaaDoor

namespace Go.Proofs.YthmddmddcdofaaaDoor
namespace Hps
theorem not_at {marks : List Bool} {k : Nat} : (marks.map (!·))[k]? = some true ↔ marks[k]? = some false := by
  rw [List.getElem?_map]
  cases marks[k]? with
  | none => simp
  | some b => cases b <;> simp
/-- the swept heap -/
noncomputable def sweptH (h : Hp) : Hp := dropH h ((reachH h).map (!·))
theorem swept_valid {h : Hp} (hv : validH h = true) : validH (sweptH h) = true := collect_drop_valid hv
theorem reachH_at {h : Hp} (hv : validH h = true) {k : Nat} (hk : k < h.cs.length) : (reachH h)[k]? = some true ↔ Rch h.cs h.rt k := by
  rw [reachH, if_pos hv, reachL_true hk]
theorem collect_eq {h : Hp} (hv : validH h = true) : collectH h = (sweptH h, ((leakL h).length : Int)) := by
  rw [collectH_eq hv, reachH_len hv]
  have hf : ∀ n, n ≤ h.cs.length → freedTo h.cs (reachH h) n = (leakTo h n).length := by
    intro n
    induction n with
    | zero => intro _; rfl
    | succ n ih =>
      intro hn
      rw [freedTo, ih (by omega)]
      by_cases hu : usedAt h.cs n = true
      · by_cases hr : Rch h.cs h.rt n
        · have := (reachH_at hv (show n < h.cs.length by omega)).2 hr
          rw [leakTo_no (.inr hr), if_neg (fun e => by rw [this] at e; cases e.1), Nat.add_zero]
        · have h1 : (reachH h)[n]? = some false := by
            have hl : n < (reachH h).length := by rw [reachH_len hv]; omega
            rw [List.getElem?_eq_getElem hl]
            cases e : (reachH h)[n] with
            | false => rfl
            | true => exact absurd ((reachH_at hv (show n < h.cs.length by omega)).1 (by rw [List.getElem?_eq_getElem hl, e])) hr
          rw [leakTo_yes hu hr, if_pos ⟨h1, hu⟩, List.length_append, List.length_singleton]
      · rw [leakTo_no (.inl (by simpa using hu)), if_neg (fun e => hu e.2), Nat.add_zero]
  rw [hf _ (Nat.le_refl _), leakTo_all]
  rfl
end Hps
namespace Hps
theorem collect_no {h : Hp} (hv : validH h = false) : collectH h = (zeroH, -1) := by rw [collectH, sweepH_no (.inl hv)]
theorem collect_few (h : Hp) : (collectH h).1.cs.length ≤ 40 ∧ (collectH h).1.rt.length ≤ 4 ∧ ∀ cl ∈ (collectH h).1.cs, cl.r.length ≤ 3 := by
  cases hv : validH h
  · rw [collect_no hv]
    exact ⟨by decide, by decide, fun cl hcl => by simp [zeroH] at hcl⟩
  · obtain ⟨s1, s2, s3⟩ := valid_small (swept_valid hv)
    rw [collect_eq hv]
    exact ⟨s1, Nat.le_of_eq s2, s3⟩
end Hps
end Go.Proofs.YthmddmddcdofaaaDoor

namespace Go.Proofs.YthmddmddcdofaaaDoor
open Go.RowKit
set_option maxRecDepth 100000
/-- a heap with counts of the call's own -/
structure OwnCt (w : World) (base : Nat) (vc vr vk : Value) (rvs : List Value) (h : Hp) (l : List Int) : Prop where
  heap : OwnHx w base vc vr rvs h
  cnts : OwnI w base vk l
  sep : ∀ u ∈ vc :: vr :: rvs, u.ownBlock = none ∨ u.ownBlock ≠ vk.ownBlock
def OwnC (w : World) (base : Nat) (vc vr vk : Value) (h : Hp) (l : List Int) : Prop := ∃ rvs, OwnCt w base vc vr vk rvs h l
def GaveCt (w : World) (h : Hp) (l : List Int) (e : Ending) (w' : World) : Prop := ∃ vc vr vk, e = .returned (.agg #[vc, vr, vk]) ∧ OwnC w' w.heap.size vc vr vk h l ∧ Below w.heap.size w w'
section
variable {w w' : World} {bs bs' B g : Nat} {vc vr vk : Value} {rvs : List Value} {h : Hp} {l : List Int}
theorem OwnCt.below (o : OwnCt w bs vc vr vk rvs h l) (hb : Below B w w') (hB : w.heap.size ≤ B) : OwnCt w' bs vc vr vk rvs h l := ⟨o.heap.below hb hB, o.cnts.below hb hB, o.sep⟩
theorem OwnCt.base (o : OwnCt w bs vc vr vk rvs h l) (hb : bs' ≤ bs) : OwnCt w bs' vc vr vk rvs h l := ⟨o.heap.base hb, o.cnts.base hb, o.sep⟩
theorem OwnCt.blocks (o : OwnCt w bs vc vr vk rvs h l) {v : Value} (hv : v ∈ vc :: vr :: vk :: rvs) {k : Nat} (hk : v.ownBlock = some k) : bs ≤ k ∧ k < w.heap.size := by
  simp only [List.mem_cons] at hv
  rcases hv with rfl | rfl | rfl | hv
  · exact o.heap.blocks (v := v) (by simp) hk
  · exact o.heap.blocks (v := v) (by simp) hk
  · exact World.ownsRow.lt o.cnts k hk
  · exact o.heap.blocks (v := v) (by simp [hv]) hk
theorem OwnCt.apart_below (o : OwnCt w bs vc vr vk rvs h l) (hb : g < bs) : Apart (some g) (vc :: vr :: vk :: rvs) := fun v hv => by
  cases e : v.ownBlock with
  | none => exact .inl rfl
  | some k =>
    right
    intro e'
    have := (o.blocks hv e).1
    have := Option.some.inj e'
    omega
theorem OwnCt.apart_new (o : OwnCt w bs vc vr vk rvs h l) (hb : w.heap.size ≤ g) : Apart (some g) (vc :: vr :: vk :: rvs) := fun v hv => by
  cases e : v.ownBlock with
  | none => exact .inl rfl
  | some k =>
    right
    intro e'
    have := (o.blocks hv e).2
    have := Option.some.inj e'
    omega
theorem OwnCt.far {row : Option Nat} (o : OwnCt w bs vc vr vk rvs h l) (hg : w.grownBy w' row) (ha : Apart row (vc :: vr :: vk :: rvs)) : OwnCt w' bs vc vr vk rvs h l :=
  ⟨o.heap.far hg (fun v hv => ha v (by simp only [List.mem_cons] at hv ⊢; rcases hv with e | e | e <;> simp [e])), o.cnts.far hg (ha vk (by simp)), o.sep⟩
theorem OwnCt.put (o : OwnCt w bs vc vr vk rvs h l) (ha : Apart (some g) (vc :: vr :: vk :: rvs)) (i : Nat) (u : Value) : OwnCt (w.setCell ⟨g, i, none⟩ u) bs vc vr vk rvs h l := o.far (put_any w g i u) ha
theorem OwnCt.slices (o : OwnCt w bs vc vr vk rvs h l) : ∃ A c R d K q, vc = .slice A h.cs.length c ∧ vr = .slice R h.rt.length d ∧ vk = .slice K l.length q := by
  obtain ⟨A, c, R, d, e1, e2, _⟩ := o.heap.form
  obtain ⟨K, q, e3, _⟩ := o.cnts.form
  exact ⟨A, c, R, d, K, q, e1, e2, e3⟩
theorem OwnC.slices (ho : OwnC w bs vc vr vk h l) : ∃ A n c R m d K p q, vc = .slice A n c ∧ vr = .slice R m d ∧ vk = .slice K p q := by
  obtain ⟨rvs, o⟩ := ho
  obtain ⟨A, c, R, d, K, q, e1, e2, e3⟩ := o.slices
  exact ⟨A, _, c, R, _, d, K, _, q, e1, e2, e3⟩
theorem OwnC.below (ho : OwnC w bs vc vr vk h l) (hb : Below B w w') (hB : w.heap.size ≤ B) : OwnC w' bs vc vr vk h l := by
  obtain ⟨rvs, o⟩ := ho
  exact ⟨rvs, o.below hb hB⟩
theorem OwnC.base (ho : OwnC w bs vc vr vk h l) (hb : bs' ≤ bs) : OwnC w bs' vc vr vk h l := by
  obtain ⟨rvs, o⟩ := ho
  exact ⟨rvs, o.base hb⟩
theorem OwnC.heap (ho : OwnC w bs vc vr vk h l) : OwnH w bs vc vr h := by
  obtain ⟨rvs, o⟩ := ho
  exact ⟨rvs, o.heap⟩
/-- a heap with counts of the call's own goes into the box of a result -/
theorem OwnC.out {wr : World} (ho : OwnC wr bs vc vr vk h l) (hg : g < bs) (hb : Below w.heap.size w wr) (hw : w.heap.size ≤ g) :
    OwnC (((wr.setCell ⟨g, 0, none⟩ vc).setCell ⟨g, 1, none⟩ vr).setCell ⟨g, 2, none⟩ vk) w.heap.size vc vr vk h l ∧ Below w.heap.size w (((wr.setCell ⟨g, 0, none⟩ vc).setCell ⟨g, 1, none⟩ vr).setCell ⟨g, 2, none⟩ vk) := by
  obtain ⟨rvs, own⟩ := ho
  have ap := own.apart_below hg
  exact ⟨⟨rvs, (((own.put ap 0 vc).put ap 1 vr).put ap 2 vk).base (by omega)⟩, ((hb.setCell (p := ⟨g, 0, none⟩) hw vc).setCell (p := ⟨g, 1, none⟩) hw vr).setCell (p := ⟨g, 2, none⟩) hw vk⟩
/-- a heap and counts that were made one after the other are a heap with counts -/
theorem OwnHx.counted {w1 : World} (o : OwnHx w bs vc vr rvs h) (hb : Below w.heap.size w w1) (k : OwnI w1 w.heap.size vk l) (hbase : bs ≤ w.heap.size) : OwnCt w1 bs vc vr vk rvs h l := by
  refine ⟨o.below hb (Nat.le_refl _), k.base hbase, fun u hu => ?_⟩
  cases e : u.ownBlock with
  | none => exact .inl rfl
  | some j =>
    right
    intro e'
    have h1 := (o.blocks hu e).2
    have h2 := (World.ownsRow.lt k j e'.symm).1
    omega
theorem OwnC.of (ho : OwnH w bs vc vr h) {w1 : World} (hb : Below w.heap.size w w1) (k : OwnI w1 w.heap.size vk l) (hbase : bs ≤ w.heap.size) : OwnC w1 bs vc vr vk h l := by
  obtain ⟨rvs, o⟩ := ho
  exact ⟨rvs, o.counted hb k hbase⟩
end
end Go.Proofs.YthmddmddcdofaaaDoor

namespace Go.Proofs.YthmddmddcdofaaaDoor
open Go.RowKit
namespace Hps
/-- cells without those of a list -/
def zapL (cs : List Cl) (l : List Int) : List Cl := l.foldl (fun cs x => cs.set x.toNat zeroCl) cs
theorem zapL_snoc (cs : List Cl) (l : List Int) (x : Int) : zapL cs (l ++ [x]) = (zapL cs l).set x.toNat zeroCl := by simp [zapL, List.foldl_append]
theorem zapL_len (l : List Int) : ∀ cs : List Cl, (zapL cs l).length = cs.length := by
  induction l with
  | nil => intro cs; rfl
  | cons x l ih =>
    intro cs
    show (zapL (cs.set x.toNat zeroCl) l).length = _
    rw [ih, List.length_set]
theorem zapL_at (l : List Int) : ∀ (cs : List Cl), (∀ x ∈ l, 0 ≤ x) → ∀ k : Nat, (zapL cs l)[k]? = if (k : Int) ∈ l then cs[k]?.map (fun _ => zeroCl) else cs[k]? := by
  induction l with
  | nil => intro cs _ k; simp [zapL]
  | cons x l ih =>
    intro cs hx k
    show (zapL (cs.set x.toNat zeroCl) l)[k]? = _
    rw [ih _ (fun y hy => hx y (by simp [hy])) k, List.getElem?_set]
    have h0 := hx x (by simp)
    by_cases e : x.toNat = k
    · have e2 : (k : Int) = x := by omega
      rw [if_pos e, e]
      by_cases q : k < cs.length
      · simp [e2, q]
      · simp [e2, q]
    · have e2 : ¬ (k : Int) = x := by omega
      rw [if_neg e]
      simp [e2]
end Hps
end Go.Proofs.YthmddmddcdofaaaDoor

namespace Go.Proofs.YthmddmddcdofaaaDoor
open Go.RowKit
/-- the table of math/bits lies as laid -/
def TzT (w : World) : Prop := 0 < w.heap.size ∧ ∀ i : Nat, i < 64 → w.cell? ⟨0, i, none⟩ = some (.int .u8 (Lib.deBruijn64tab.getD i 0 : Nat))
theorem TzT.below {w w' : World} (h : TzT w) (hb : Below w.heap.size w w') : TzT w' := ⟨Nat.lt_of_lt_of_le h.1 hb.size, fun i hi => (hb.cell (p := ⟨0, i, none⟩) h.1).trans (h.2 i hi)⟩
namespace Bm
theorem tz_key (x : Nat) (hx : x < 18446744073709551616) (hx0 : x ≠ 0) : ∃ idx : Nat, idx < 64 ∧ IntKind.u64.wrap (bits BinOp.and IntKind.u64 (x : Int) (IntKind.u64.wrap (-(x : Int))) * 285870213051353865) / 288230376151711744 = (idx : Int) ∧ Lib.deBruijn64tab.getD idx 0 = Lib.ctz 64 x ∧ Lib.ctz 64 x < 64 := by
  obtain ⟨hlow, hk⟩ := Lib.lowest_bit 64 x hx0 hx
  obtain ⟨hi, htab⟩ := Lib.deBruijn64_at _ hk
  refine ⟨_, hi, ?_, htab, hk⟩
  have e1 : IntKind.u64.wrap (-(x : Int)) = ((18446744073709551616 - x : Nat) : Int) := by rw [IntKind.wrap_u64]; omega
  have hl2 : x &&& (18446744073709551616 - x) = 2 ^ Lib.ctz 64 x := hlow
  rw [e1, u64_and_nat x _ hx (by omega), hl2, IntKind.wrap_u64]
  generalize 2 ^ Lib.ctz 64 x = a
  omega
end Bm
set_option maxHeartbeats 1000000 in
theorem tz64_any (x : Nat) (w : World) (hT : TzT w) (h0 : x ≠ 0) (h1 : x < 18446744073709551616) :
    Calls Tryd.prog 122 #[.int .u64 x] w fun e w' => e = .returned (.int .i64 (Lib.ctz 64 x)) ∧ w = w' := by
  obtain ⟨idx, hi, key, htab, hk⟩ := Bm.tz_key x h1 h0
  have hcell := hT.2 idx hi
  rw [htab] at hcell
  have hx0 : ((x : Int) == 0) = false := by rw [beq_eq_false_iff_ne]; omega
  obtain ⟨k, hkk⟩ : ∃ k, Lib.ctz 64 x = k := ⟨_, rfl⟩
  rw [hkk] at hcell hk ⊢
  clear htab hkk
  go_enter Tryd.func122, Tryd.ntmps122
  go_wp2_with (simp only [key])
  go_ret
  exact ⟨rfl, rfl⟩
end Go.Proofs.YthmddmddcdofaaaDoor

namespace Go.Proofs.YthmddmddcdofaaaDoor
open Go.RowKit
set_option maxRecDepth 100000
namespace Hps
/-- the numbers of the bits that are set, ascending -/
def numsB (V : Nat) : List Int := ((List.range 64).filter V.testBit).map fun (k : Nat) => (k : Int)
theorem filter_first {p : Nat → Bool} {k : Nat} (hp : p k = true) (hb : ∀ j, j < k → p j = false) : ∀ n, k < n → (List.range n).filter p = k :: (List.range n).filter (fun i => p i && decide (i ≠ k))
  | 0, h => by omega
  | n + 1, h => by
    have hnil : ∀ m, m ≤ k → ∀ q : Nat → Bool, (∀ j, j < k → q j = false) → (List.range m).filter q = [] := fun m hm q hq => by
      rw [List.filter_eq_nil_iff]
      intro a ha
      rw [hq a (by have := List.mem_range.1 ha; omega)]
      simp
    rw [List.range_succ, List.filter_append, List.filter_append]
    by_cases hk : k < n
    · rw [filter_first hp hb n hk]
      have e : (p n && decide (n ≠ k)) = p n := by rw [decide_eq_true (show n ≠ k by omega), Bool.and_true]
      rw [List.cons_append]
      congr 2
      rw [List.filter_cons, List.filter_cons, e, List.filter_nil, List.filter_nil]
    · obtain rfl : n = k := by omega
      rw [hnil n (Nat.le_refl _) p hb, hnil n (Nat.le_refl _) _ (fun j hj => by rw [hb j hj]; rfl)]
      simp [hp]
theorem clear_low {x : Nat} (h0 : x ≠ 0) (h : x < 18446744073709551616) (i : Nat) : (x &&& (x - 1)).testBit i = (x.testBit i && decide (i ≠ Lib.ctz 64 x)) := by
  obtain ⟨m, hm, hk⟩ := Lib.ctzFrom_spec 64 x (by omega) h
  have e : Lib.ctz 64 x = Lib.ctzFrom 64 x := by simp [Lib.ctz, h0]
  rw [e]
  obtain ⟨k, hkk⟩ : ∃ k, Lib.ctzFrom 64 x = k := ⟨_, rfl⟩
  rw [hkk] at hm ⊢
  have hp : 0 < 2 ^ k := Nat.two_pow_pos k
  have hx1 : x - 1 = (2 * m) * 2 ^ k + (2 ^ k - 1) := by
    have : 2 ^ k * (2 * m + 1) = (2 * m) * 2 ^ k + 2 ^ k := by rw [Nat.mul_add, Nat.mul_one, Nat.mul_comm]
    omega
  have hx : x = (2 * m + 1) * 2 ^ k := by rw [hm, Nat.mul_comm]
  have hdiv : (x - 1) / 2 ^ k = 2 * m := by
    rw [hx1, Nat.mul_comm, Nat.mul_add_div hp, Nat.div_eq_of_lt (show 2 ^ k - 1 < 2 ^ k by omega)]
    omega
  rw [Nat.testBit_and]
  rcases Nat.lt_trichotomy i k with h1 | h1 | h1
  · have : x.testBit i = false := by
      rw [hx, Nat.testBit_mul_two_pow]
      simp
      omega
    rw [this]
    rfl
  · subst h1
    have : (x - 1).testBit i = false := by
      rw [Nat.testBit, Nat.shiftRight_eq_div_pow, hdiv]
      simp
    rw [this]
    simp
  · have e1 : ∀ y, y.testBit i = (y / 2 ^ k).testBit (i - k) := fun y => by
      rw [← Nat.shiftRight_eq_div_pow, Nat.testBit_shiftRight]
      congr 1
      omega
    have e2 : x / 2 ^ k = 2 * m + 1 := by rw [hx, Nat.mul_div_cancel _ hp]
    obtain ⟨j, hj⟩ : ∃ j, i - k = j + 1 := ⟨i - k - 1, by omega⟩
    rw [e1 x, e1 (x - 1), hdiv, e2, hj, Nat.testBit_succ, Nat.testBit_succ, show (2 * m + 1) / 2 = m by omega, show 2 * m / 2 = m by omega, decide_eq_true (show i ≠ k by omega)]
    simp
theorem nums_zero : numsB 0 = [] := by simp [numsB]
theorem nums_next {x : Nat} (h0 : x ≠ 0) (h : x < 18446744073709551616) : numsB x = (Lib.ctz 64 x : Int) :: numsB (x &&& (x - 1)) := by
  obtain ⟨h1, h2⟩ := Bm.ctz_bit h0 h
  have h3 := (Lib.lowest_bit 64 x h0 h).2
  unfold numsB
  rw [filter_first h1 h2 64 h3, List.map_cons]
  congr 2
  exact List.filter_congr fun i _ => (clear_low h0 h i).symm
theorem nums_len (x : Nat) : (numsB x).length ≤ 64 := by
  unfold numsB
  rw [List.length_map]
  exact Nat.le_trans (List.length_filter_le _ _) (by simp)
end Hps
set_option maxHeartbeats 1000000 in
theorem numbers_any (S : Nat) (w : World) (hT : TzT w) (hS : S < 18446744073709551616) :
    Calls Tryd.prog 68 #[.int .u64 S] w (GaveI w (Hps.numsB S)) := by
  go_enter Tryd.func68, Tryd.ntmps68
  go_wp2_with fail
  go_loopw [3, 4] (fun xs rest wr => ∃ (ys : List Int) (V : Nat), rest = .int .u64 V ∧ V < 18446744073709551616 ∧ OwnI wr w.heap.size xs ys ∧ ys ++ Hps.numsB V = Hps.numsB S ∧ Below w.heap.size w wr) (fun _ rest _ => match rest with | .int _ V => V.toNat | _ => 0)
  case atStart => exact ⟨[], S, rfl, hS, World.ownsRow_nil _ _ _ _, rfl, Below.refl _ _⟩
  case round =>
    obtain ⟨ys, V, rfl, hV, ho, hnum, hb⟩ := hrel
    obtain ⟨A, c, rfl, -⟩ := ho.form
    by_cases h0 : V = 0
    · subst h0
      rw [Hps.nums_zero, List.append_nil] at hnum
      go_wp2_with fail
      go_ret
      exact ⟨_, rfl, OwnI.cast hnum ho, hb⟩
    · have hV0 : ((V : Int) == 0) = false := by rw [beq_eq_false_iff_ne]; omega
      have hlen : ys.length ≤ 64 := by
        have := congrArg List.length hnum
        rw [List.length_append] at this
        have := Hps.nums_len S
        omega
      have hand : bits .and .u64 (V : Int) ((V : Int) - 1) = ((V &&& (V - 1) : Nat) : Int) := by
        rw [show (V : Int) - 1 = ((V - 1 : Nat) : Int) by omega]
        exact u64_and_nat _ _ hV (by omega)
      have hle : V &&& (V - 1) ≤ V - 1 := Nat.and_le_right
      have HN := Lib.hid (show (ys ++ [(Lib.ctz 64 V : Int)]) ++ Hps.numsB (V &&& (V - 1)) = Hps.numsB S by rw [← hnum, Hps.nums_next h0 hV]; simp)
      obtain ⟨kk, hkk⟩ : ∃ kk, Lib.ctz 64 V = kk := ⟨_, rfl⟩
      have TZ := tz64_any V wr (hT.below hb) h0 hV
      rw [hkk] at TZ HN
      clear hnum hkk
      go_wp2_with fail
      refine TZ.mono ?_
      rintro e w1 ⟨rfl, rfl⟩
      have ow := World.ownsRow.alloc ho (.cells #[.int .i64 kk] 3)
      have rr : IS (wr.alloc (.cells #[.int .i64 kk] 3)) (wr.alloc (.cells #[.int .i64 kk] 3)).heap.size (some ⟨wr.heap.size, 0, none⟩) 1 [(kk : Int)] := (own_oneI wr kk 0 (Nat.zero_le _)).reads
      have hsz := hb.size
      have hw1 : w.heap.size ≤ (wr.alloc (.cells #[.int .i64 kk] 3)).heap.size := by simp; omega
      clear TZ
      go_wp2_with (at_builtin; refine wpList_appendI rfl (.tmp 12) (.tmp 15) rfl w.heap.size _ ys rfl ow (some ⟨wr.heap.size, 0, none⟩) 1 1 _ [(kk : Int)] rfl rr (by simp; omega) hw1 ?_; intro v5 w5 o5 g5 s5)
      have bn : Below w.heap.size w w5 := (hb.alloc hb.size _).grown g5 (by simp; omega) (fun k hk => (World.ownsRow.lt ho k hk).1)
      clear ow rr g5 s5 ho
      go_roundw
      case rel => exact ⟨ys ++ [(kk : Int)], V &&& (V - 1), rfl, by omega, o5, HN.out, bn⟩
      case measure => simp; omega
end Go.Proofs.YthmddmddcdofaaaDoor

namespace Go.Proofs.YthmddmddcdofaaaDoor
namespace Hps
/-- the numbers of the cells that are not used, among the first n -/
def gapsTo (cs : List Cl) : Nat → List Int
  | 0 => []
  | n + 1 => gapsTo cs n ++ (if usedAt cs n = true then [] else [(n : Int)])
def gapsL (cs : List Cl) : List Int := gapsTo cs cs.length
theorem gapsTo_len (cs : List Cl) : ∀ n, (gapsTo cs n).length ≤ n
  | 0 => Nat.le_refl _
  | n + 1 => by
    have := gapsTo_len cs n
    rw [gapsTo, List.length_append]
    split <;> simp <;> omega
def lostW (cs : List Cl) (marks : List Bool) : Nat := usedW cs &&& (18446744073709551615 - Bm.wordN marks true)
theorem lostW_lt {cs : List Cl} (marks : List Bool) (h : cs.length ≤ 64) : lostW cs marks < 18446744073709551616 := Nat.lt_of_le_of_lt Nat.and_le_left (usedW_lt h)
theorem lostW_bit {cs : List Cl} {marks : List Bool} (hl : marks.length = cs.length) (h64 : cs.length ≤ 64) (i : Nat) : (lostW cs marks).testBit i = (usedAt cs i && decide (marks[i]? = some false)) := by
  have hM : Bm.wordN marks true < 18446744073709551616 := Bm.wordN_lt _ _ (by omega)
  rw [lostW, Nat.testBit_and, usedW_bit, show 18446744073709551615 - Bm.wordN marks true = 2 ^ 64 - (Bm.wordN marks true + 1) by omega, Nat.testBit_two_pow_sub_succ (by omega), Bm.wordN_bit]
  rcases Nat.lt_or_ge i cs.length with hi | hi
  · have hm := List.getElem?_eq_getElem (show i < marks.length by omega)
    rw [hm, decide_eq_true (show i < 64 by omega)]
    cases marks[i] <;> simp
  · have : usedAt cs i = false := by
      unfold usedAt
      rw [List.getElem?_eq_none hi]
    rw [this, Bool.false_and, Bool.false_and]
theorem mem_nums {V : Nat} {x : Int} : x ∈ numsB V ↔ ∃ k : Nat, x = k ∧ k < 64 ∧ V.testBit k = true := by
  unfold numsB
  simp only [List.mem_map, List.mem_filter, List.mem_range]
  constructor
  · rintro ⟨k, ⟨h1, h2⟩, rfl⟩
    exact ⟨k, rfl, h1, h2⟩
  · rintro ⟨k, rfl, h1, h2⟩
    exact ⟨k, ⟨h1, h2⟩, rfl⟩
/-- freeing what is used and not marked frees what is not marked -/
theorem zap_lost {cs : List Cl} {marks : List Bool} (hl : marks.length = cs.length) (h64 : cs.length ≤ 64) (hz : ∀ c ∈ cs, c.u = false → c = zeroCl) : zapL cs (numsB (lostW cs marks)) = dropL cs (marks.map (!·)) := by
  apply List.ext_getElem?
  intro k
  rw [zapL_at _ _ fun x hx => by obtain ⟨j, h1, _⟩ := mem_nums.1 hx; omega]
  rcases Nat.lt_or_ge k cs.length with hk | hk
  · have hc := List.getElem?_eq_getElem hk
    rw [dropL_at _ _ _ _ hc, hc]
    by_cases q : marks[k]? = some false
    · rw [if_pos (not_at.2 q)]
      by_cases u : usedAt cs k = true
      · rw [if_pos (mem_nums.2 ⟨k, rfl, by omega, by rw [lostW_bit hl h64, u, decide_eq_true q]; rfl⟩)]
        rfl
      · rw [if_neg fun e => by
          obtain ⟨j, e1, _, e2⟩ := mem_nums.1 e
          obtain rfl : k = j := by omega
          rw [lostW_bit hl h64, Bool.and_eq_true] at e2
          exact u e2.1]
        rw [hz cs[k] (List.getElem_mem hk) (by
          rw [usedAt, hc] at u
          simpa using u)]
    · rw [if_neg (fun e => q (not_at.1 e)), if_neg fun e => by
        obtain ⟨j, e1, _, e2⟩ := mem_nums.1 e
        obtain rfl : k = j := by omega
        rw [lostW_bit hl h64, Bool.and_eq_true, decide_eq_true_eq] at e2
        exact q e2.2]
  · rw [List.getElem?_eq_none hk, List.getElem?_eq_none (by rw [dropL_len]; exact hk)]
    split <;> rfl
theorem pcN_succ (V k : Nat) : pcN V (k + 1) = pcN V k + (if V.testBit k = true then 1 else 0) := by
  unfold pcN
  rw [List.range_succ, List.countP_append, List.countP_singleton]
/-- how many are lost -/
theorem pc_lost {cs : List Cl} {marks : List Bool} (hl : marks.length = cs.length) (h64 : cs.length ≤ 64) : pcN (lostW cs marks) 64 = freedTo cs marks marks.length := by
  have h1 : ∀ n, pcN (lostW cs marks) n = freedTo cs marks n := by
    intro n
    induction n with
    | zero => rfl
    | succ n ih =>
      rw [pcN_succ, ih, freedTo, lostW_bit hl h64]
      congr 1
      by_cases a : usedAt cs n = true <;> by_cases b : marks[n]? = some false <;> simp [a, b]
  have h2 : ∀ d, freedTo cs marks (marks.length + d) = freedTo cs marks marks.length := by
    intro d
    induction d with
    | zero => rfl
    | succ d ih =>
      rw [← Nat.add_assoc, freedTo, ih, if_neg, Nat.add_zero]
      rw [List.getElem?_eq_none (by omega)]
      simp
  rw [h1, show 64 = marks.length + (64 - marks.length) by omega, h2]
theorem valid_zero {h : Hp} (hv : validH h = true) : ∀ c ∈ h.cs, c.u = false → c = zeroCl := fun c hc hu => by
  have h1 := (okCell_iff.1 ((valid_iff.1 hv).1 c hc)).1
  rw [hu] at h1
  obtain ⟨u, d, r⟩ := c
  rcases h1 with h1 | ⟨h1, h2⟩
  · cases h1
  · simp only at hu h1 h2
    rw [hu, h1, h2, zeroCl]
/-! marks that keep what is referred to -/
section
variable {h : Hp} {marks : List Bool}
theorem keep_ref (hl : marks.length = h.cs.length) {x : Int} (hx : okRef h.cs x = true) : okV (Bm.wordN marks true) x = okRef (dropL h.cs (marks.map (!·))) x := by
  rw [Bool.eq_iff_iff, okRef_iff]
  unfold okV hasB
  rw [Bool.or_eq_true, beq_iff_eq, Bool.and_eq_true, decide_eq_true_eq, Bm.wordN_bit, decide_eq_true_eq, drop_used hl]
  rcases okRef_iff.1 hx with e | ⟨e1, e2⟩
  · simp [e]
  · simp [e2]
theorem keep_refs (hl : marks.length = h.cs.length) {rs : List Int} (hx : okRefs h.cs rs = true) : okVs (Bm.wordN marks true) rs = okRefs (dropL h.cs (marks.map (!·))) rs := by
  rw [Bool.eq_iff_iff, okVs_iff, okRefs_iff]
  constructor
  · intro H n hn
    rw [← keep_ref hl (okRefs_iff.1 hx n hn)]
    exact H n hn
  · intro H n hn
    rw [keep_ref hl (okRefs_iff.1 hx n hn)]
    exact H n hn
theorem cell_refs (hv : validH h = true) {k : Nat} {c : Cl} (hc : h.cs[k]? = some c) : okRefs h.cs c.r = true := (okCell_iff.1 (valid_cell hv hc)).2.2.2
theorem keep_no_root (hv : validH h = true) (hl : marks.length = h.cs.length) (e : okVs (Bm.wordN marks true) h.rt = false) : validH (dropH h (marks.map (!·))) = false := by
  rw [keep_refs hl (valid_iff.1 hv).2.2.2] at e
  cases hx : validH (dropH h (marks.map (!·)))
  · rfl
  · have := (valid_iff.1 hx).2.2.2
    rw [show (dropH h (marks.map (!·))).cs = dropL h.cs (marks.map (!·)) from rfl, show (dropH h (marks.map (!·))).rt = h.rt from rfl, e] at this
    cases this
theorem keep_no_cell (hv : validH h = true) (hl : marks.length = h.cs.length) {k : Nat} {c : Cl} (hc : h.cs[k]? = some c) (hm : (Bm.wordN marks true).testBit k = true) (e : okVs (Bm.wordN marks true) c.r = false) : validH (dropH h (marks.map (!·))) = false := by
  rw [keep_refs hl (cell_refs hv hc)] at e
  rw [Bm.wordN_bit, decide_eq_true_eq] at hm
  cases hx : validH (dropH h (marks.map (!·)))
  · rfl
  · have h1 : (dropH h (marks.map (!·))).cs[k]? = some c := (drop_stays (fun q => by rw [not_at.1 q] at hm; cases hm)).trans hc
    have := cell_refs hx h1
    rw [show (dropH h (marks.map (!·))).cs = dropL h.cs (marks.map (!·)) from rfl, e] at this
    cases this
theorem keep_all (hv : validH h = true) (hl : marks.length = h.cs.length) (hr : okVs (Bm.wordN marks true) h.rt = true) (hc : ∀ (k : Nat) (c : Cl), h.cs[k]? = some c → (Bm.wordN marks true).testBit k = true → okVs (Bm.wordN marks true) c.r = true) : validH (dropH h (marks.map (!·))) = true := by
  obtain ⟨h1, h2, h3, h4⟩ := valid_iff.1 hv
  refine valid_iff.2 ⟨fun c hcm => ?_, by rw [drop_len]; exact h2, h3, ?_⟩
  · obtain ⟨k, hk⟩ := List.mem_iff_getElem?.1 hcm
    rcases drop_cases hk with ⟨d1, d2⟩ | ⟨_, rfl⟩
    · obtain ⟨c1, c2, c3, c4⟩ := okCell_iff.1 (valid_cell hv d2)
      have hkl := (List.getElem?_eq_some_iff.1 d2).1
      refine okCell_iff.2 ⟨c1, c2, c3, ?_⟩
      show okRefs (dropL h.cs (marks.map (!·))) c.r = true
      rw [← keep_refs hl c4]
      refine hc k c d2 ?_
      rw [Bm.wordN_bit, decide_eq_true_eq]
      have hm := List.getElem?_eq_getElem (show k < marks.length by omega)
      rw [hm]
      cases hb : marks[k]
      · exact absurd (not_at.2 (by rw [hm, hb])) d1
      · rfl
    · simp [okCell, zeroCl, okRefs]
  · show okRefs (dropL h.cs (marks.map (!·))) h.rt = true
    rw [← keep_refs hl h4]
    exact hr
end
/-! steps with a list of free cells -/
end Hps
end Go.Proofs.YthmddmddcdofaaaDoor

namespace Go.Proofs.YthmddmddcdofaaaDoor
open Go.RowKit
set_option maxRecDepth 100000
theorem take_snocZ {xs : List Int} {j : Nat} {y : Int} (h : xs[j]? = some y) : xs.take (j + 1) = xs.take j ++ [y] := by
  rw [List.take_add_one, h]
  rfl
set_option maxHeartbeats 2000000 in
theorem freeCells_any (T : TypeId) (K : Beside) (w0 w : World) (b : Nat) (vc vr : Value) (rvs : List Value) (h : Hp) (V : Nat) (hT : TzT w) (S0 : BoxX T K w0 w b vc vr rvs h) (hV : V < 18446744073709551616) (hB : ∀ i, V.testBit i = true → i < h.cs.length) :
    Calls Tryd.prog 96 #[.pointer (some ⟨b, 0, none⟩), .int .u64 V] w fun e w' => (∃ v, e = .returned v) ∧ ∃ rvs', BoxX T K w0 w' b vc vr rvs' ⟨Hps.zapL h.cs (Hps.numsB V), h.rt⟩ := by
  obtain ⟨n, hn⟩ : ∃ n, h.cs.length = n := ⟨_, rfl⟩
  rw [hn] at hB
  have HB := Lib.hid hB
  have HNB := Lib.hid (fun (y : Int) (hy : y ∈ Hps.numsB V) => Hps.mem_nums.1 hy)
  have HM := Lib.hid (numbers_any V w hT hV)
  have hnl := Hps.nums_len V
  obtain ⟨A, c, R, d, rfl, rfl, -, -, fA, -⟩ := S0.own.form
  rw [hn] at S0 fA ⊢
  obtain ⟨m, hm⟩ : ∃ m, h.rt.length = m := ⟨_, rfl⟩
  rw [hm] at S0 ⊢
  have FA := Lib.hid fA
  have HN := Lib.hid hn
  obtain ⟨N, hNe⟩ : ∃ N, Hps.numsB V = N := ⟨_, rfl⟩
  rw [hNe] at HM HNB hnl ⊢
  clear hNe hT hB hn hm fA
  go_enter Tryd.func96, Tryd.ntmps96
  go_wp2_with fail
  refine HM.out.mono ?_
  rintro e w8 ⟨nv, rfl, on, b8⟩
  obtain ⟨A7, c7, e7, _⟩ := on.form
  subst e7
  obtain ⟨pp, hpp⟩ : ∃ pp, N.length = pp := ⟨_, rfl⟩
  have HP := Lib.hid hpp
  rw [hpp] at on hnl
  rw [hpp]
  have HLT := Lib.hid (fun v (hv : v ∈ (Value.slice A n c) :: (Value.slice R m d) :: rvs) k (hk : v.ownBlock = some k) => (S0.own.blocks hv hk).2)
  have S := S0.up b8
  have b8s := b8.size
  clear HM hpp b8 S0
  go_wp2_with fail
  go_loopw [9] (fun i wr => ∃ (j : Nat) (rvs : List Value), j ≤ pp ∧ i = .int .i64 j ∧ BoxX T K w0 wr b (.slice A n c) (.slice R m d) rvs ⟨Hps.zapL h.cs (N.take j), h.rt⟩ ∧ OwnI wr w.heap.size (.slice A7 pp c7) N) (fun i _ => pp - (intOf i).toNat)
  case atStart => exact ⟨0, rvs, Nat.zero_le _, rfl, S, on⟩
  case round =>
    clear S on
    obtain ⟨j, rv, hj, rfl, S, on⟩ := hrel
    have x0 : wr.cell? ⟨b, 0, none⟩ = some (.slice A n c) := S.c0
    by_cases hlj : j < pp
    · obtain ⟨g7, o7, y, rfl, hg7, hy, d7⟩ := on.reads.at_ hlj
      obtain ⟨z, rfl, _, hzb⟩ := HNB.out y (List.mem_of_getElem? hy)
      have hzn := HB.out z hzb
      obtain ⟨gc, hgce, hgc⟩ : ∃ gc, A = some ⟨gc, 0, none⟩ ∧ gc < w.heap.size := by
        obtain ⟨gc, e, _⟩ := FA.out (by omega)
        subst e
        exact ⟨gc, rfl, HLT.out (.slice (some ⟨gc, 0, none⟩) n c) (by simp) gc rfl⟩
      subst hgce
      have hne : (Value.slice (some ⟨g7, o7, none⟩) pp c7).ownBlock = none ∨ (Value.slice (some ⟨g7, o7, none⟩) pp c7).ownBlock ≠ some gc := .inr fun e => by have := (World.ownsRow.lt on gc e).1; omega
      have HNE := Lib.hid hne
      have hzl : (Hps.zapL h.cs (N.take j)).length = n := by rw [Hps.zapL_len]; exact HN.out
      obtain ⟨old, hold⟩ : ∃ old, (Hps.zapL h.cs (N.take j))[z]? = some old := ⟨_, List.getElem?_eq_getElem (show z < _ by rw [hzl]; exact hzn)⟩
      obtain ⟨g9, v, e9, _, _, -, -, y0, y1, y2, fz⟩ := S.own.cell_at hold
      injection e9 with e9
      injection e9 with e9
      subst e9
      have f0 := fz (z * 3)
      have f1 := fz (z * 3 + 1)
      have f2 := fz (z * 3 + 2)
      have SN := S.cell (cl := Hps.zeroCl) (rv := .slice none 0 0) hzl hold (World.ownsRow_nil _ _ _ _) (fun _ _ => .inl rfl) (.inl rfl) (fun _ _ => by simp [Value.ownBlock])
      have HTS := Lib.hid (show Hps.zapL h.cs (N.take (j + 1)) = (Hps.zapL h.cs (N.take j)).set z Hps.zeroCl by rw [take_snocZ hy, Hps.zapL_snoc]; rfl)
      rw [← HTS.out] at SN
      have SH := Lib.hid SN
      have on2 := Lib.hid (((on.far (put_any wr gc (z * 3) (.bool false)) HNE.out).far (put_any _ gc (z * 3 + 1) (.int .i64 0)) HNE.out).far (put_any _ gc (z * 3 + 2) (.slice none 0 0)) HNE.out)
      have hlj' : (j : Int) < pp := by omega
      have hzn' : (z : Int) < n := by omega
      clear hy hzb hold hzl S SN fz on hne
      go_wp2_with fail
      go_roundw
      case rel => exact ⟨j + 1, _, by omega, by go_num, SH.out, on2.out⟩
      case measure => simp [intOf]; omega
    · obtain rfl : j = pp := by omega
      rw [List.take_of_length_le (by rw [HP.out]; omega)] at S
      have SH := Lib.hid S
      clear S
      go_wp2_with fail
      go_end0
      exact ⟨⟨_, rfl⟩, rv, SH.out⟩
set_option maxHeartbeats 1000000 in
theorem freeList_any (A : Option Addr) (n c : Nat) (cs : List Cl) (w : World) (h : CS w w.heap.size A n cs) (hn : n ≤ 64) :
    Calls Tryd.prog 125 #[.slice A n c] w (GaveI w (Hps.gapsL cs)) := by
  have hlc := h.1
  have HF := Lib.hid (show Hps.gapsL cs = Hps.gapsTo cs n by rw [Hps.gapsL, hlc])
  have o0 : OwnI w w.heap.size (.slice none 0 0) [] := World.ownsRow_nil _ _ _ _
  have HO0 := Lib.hid o0
  clear o0
  go_enter Tryd.func125, Tryd.ntmps125
  go_wp2_with fail
  go_loopw [3, 8] (fun v i wr => ∃ k : Nat, k ≤ n ∧ i = .int .i64 k ∧ OwnI wr w.heap.size v (Hps.gapsTo cs k) ∧ Below w.heap.size w wr) (fun _ i _ => n - (intOf i).toNat)
  case atStart => exact ⟨0, Nat.zero_le _, rfl, HO0.out, Below.refl _ _⟩
  case round =>
    obtain ⟨k, hk, rfl, ow, bb⟩ := hrel
    by_cases hlt : k < n
    · obtain ⟨g, o, cl, A', m', cc, rfl, hg, hcl, d1, d2, d3, hmc, hi⟩ := (h.below bb).at_ hlt
      have hlt' : (k : Int) < n := by omega
      have hU : Hps.usedAt cs k = cl.u := by rw [Hps.usedAt, hcl]
      have hyn : (Hps.gapsTo cs k).length + 1 ≤ 1099511627776 := by have := Hps.gapsTo_len cs k; omega
      clear hcl
      cases hu : cl.u
      · rw [hu] at d1 hU
        have HY := Lib.hid (show Hps.gapsTo cs (k + 1) = Hps.gapsTo cs k ++ [(k : Int)] by rw [Hps.gapsTo, hU, if_neg (by decide)])
        have bW := bb.alloc bb.size (.cells #[.bool false, .int .i64 cl.d, .slice A' m' cc] 40)
        have ow1 := World.ownsRow.alloc (World.ownsRow.alloc ow (.cells #[.bool false, .int .i64 cl.d, .slice A' m' cc] 40)) (.cells #[.int .i64 k] 3)
        have bW2 := bW.alloc bW.size (.cells #[.int .i64 k] 3)
        have r1 : IS ((wr.alloc (.cells #[.bool false, .int .i64 cl.d, .slice A' m' cc] 40)).alloc (.cells #[.int .i64 k] 3)) ((wr.alloc (.cells #[.bool false, .int .i64 cl.d, .slice A' m' cc] 40)).alloc (.cells #[.int .i64 k] 3)).heap.size (some ⟨(wr.alloc (.cells #[.bool false, .int .i64 cl.d, .slice A' m' cc] 40)).heap.size, 0, none⟩) 1 [(k : Int)] := (own_oneI _ _ 0 (Nat.zero_le _)).reads
        simp only [World.size_alloc] at r1
        have hba := bW2.size
        clear hu hU
        go_wp2_with (at_builtin; refine wpList_appendI rfl (.tmp 16) (.tmp 18) rfl w.heap.size _ (Hps.gapsTo cs k) rfl ow1 (some ⟨wr.heap.size + 1, 0, none⟩) 1 1 _ [(k : Int)] rfl r1 hyn hba ?_; intro v5 w5 o5 g5 s5)
        have b5 : Below w.heap.size w w5 := bW2.grown g5 bW2.size (fun kk hkk => (World.ownsRow.lt ow1 kk hkk).1)
        go_roundw
        case rel => exact ⟨k + 1, by omega, by go_num, by rw [HY.out]; exact o5, b5⟩
        case measure => simp [intOf]; omega
      · rw [hu] at d1 hU
        have HY := Lib.hid (show Hps.gapsTo cs (k + 1) = Hps.gapsTo cs k by rw [Hps.gapsTo, if_pos hU, List.append_nil])
        have bW := bb.alloc bb.size (.cells #[.bool true, .int .i64 cl.d, .slice A' m' cc] 40)
        have ow1 := World.ownsRow.alloc ow (.cells #[.bool true, .int .i64 cl.d, .slice A' m' cc] 40)
        clear hu hU
        go_wp2_with fail
        go_roundw
        case rel => exact ⟨k + 1, by omega, by go_num, by rw [HY.out]; exact ow1, bW⟩
        case measure => simp [intOf]; omega
    · obtain rfl : k = n := by omega
      go_wp2_with fail
      go_ret
      exact ⟨_, rfl, by rw [HF.out]; exact ow, bb⟩
end Go.Proofs.YthmddmddcdofaaaDoor

namespace Go.Proofs.YthmddmddcdofaaaDoor
open Go.RowKit
set_option maxRecDepth 100000
/-- blocks that stay -/
abbrev KeptL := List (Nat × TypeId × Array Value)
/-- a heap in a sweeper of the call's own, with a list of numbers, beside blocks that stay -/
def SwFs (E : KeptL) (w0 wr : World) (b : Nat) (vc vr : Value) (rvs : List Value) (h : Hp) (fs : List Int) : Prop := ∃ ve, BoxX 104 (some (ve, fs, E)) w0 wr b vc vr rvs h
section
variable {E : KeptL} {w0 wr w1 : World} {b : Nat} {vc vr : Value} {rvs : List Value} {h : Hp} {fs : List Int}
theorem SwFs.up (S : SwFs E w0 wr b vc vr rvs h fs) (hw : Below wr.heap.size wr w1) : SwFs E w0 w1 b vc vr rvs h fs := by
  obtain ⟨ve, B⟩ := S
  exact ⟨ve, B.up hw⟩
theorem SwFs.c0 (S : SwFs E w0 wr b vc vr rvs h fs) : wr.cell? ⟨b, 0, none⟩ = some vc := by
  obtain ⟨ve, B⟩ := S
  exact B.c0
theorem SwFs.c1 (S : SwFs E w0 wr b vc vr rvs h fs) : wr.cell? ⟨b, 1, none⟩ = some vr := by
  obtain ⟨ve, B⟩ := S
  exact B.c1
theorem SwFs.fz (S : SwFs E w0 wr b vc vr rvs h fs) (i : Nat) : wr.frozen? ⟨b, i, none⟩ = false := by
  obtain ⟨ve, B⟩ := S
  exact B.box.frozen i
theorem SwFs.own (S : SwFs E w0 wr b vc vr rvs h fs) : OwnHx wr w0.heap.size vc vr rvs h := by
  obtain ⟨ve, B⟩ := S
  exact B.own
theorem SwFs.low (S : SwFs E w0 wr b vc vr rvs h fs) : Below w0.heap.size w0 wr := by
  obtain ⟨ve, B⟩ := S
  exact B.low
theorem SwFs.lo (S : SwFs E w0 wr b vc vr rvs h fs) : w0.heap.size ≤ b := by
  obtain ⟨ve, B⟩ := S
  exact B.lo
theorem SwFs.lt (S : SwFs E w0 wr b vc vr rvs h fs) : b < wr.heap.size := by
  obtain ⟨ve, B⟩ := S
  exact B.box.lt
/-- what lies in the list -/
theorem SwFs.none_ (S : SwFs E w0 wr b vc vr rvs h []) : ∃ A c, wr.cell? ⟨b, 2, none⟩ = some (.slice A 0 c) := by
  obtain ⟨ve, B⟩ := S
  have c2 : wr.cell? ⟨b, 2, none⟩ = some ve := B.box.cell 2
  obtain ⟨A, c, e⟩ := (B.side.row _ rfl).form
  exact ⟨A, c, c2.trans (congrArg some e)⟩
/-- another row beside the heap -/
theorem SwFs.free {v : Value} {xs : List Int} (S : SwFs E w0 wr b vc vr rvs h fs) (hq : OwnI wr w0.heap.size v xs) (ha : ∀ u ∈ vc :: vr :: rvs, u.ownBlock = none ∨ u.ownBlock ≠ v.ownBlock) (hb : v.ownBlock ≠ some b) (hE : ∀ e ∈ E, v.ownBlock ≠ some e.1) : SwFs E w0 (wr.setCell ⟨b, 2, none⟩ v) b vc vr rvs h xs := by
  obtain ⟨ve, B⟩ := S
  exact ⟨v, B.beside3 hq.queue ha hb hE⟩
theorem SwFs.keptLt (S : SwFs E w0 wr b vc vr rvs h fs) : ∀ e ∈ E, e.1 < wr.heap.size := fun e he => by
  obtain ⟨ve, B⟩ := S
  exact (B.side.kept _ rfl e he).1.lt
/-- a block that has just been made stays -/
theorem SwFs.more {t : TypeId} {cs : Array Value} (S : SwFs E w0 wr b vc vr rvs h fs) : SwFs ((wr.heap.size, t, cs) :: E) w0 (wr.alloc (.cells cs t)) b vc vr rvs h fs := by
  obtain ⟨ve, B⟩ := S
  have hb := B.box.lt
  refine ⟨ve, (B.up ((Below.refl _ _).alloc (Nat.le_refl _) _)).more (Rw.new wr t cs) (by omega) (fun u hu e => ?_) fun e => ?_⟩
  · have := (B.own.blocks hu e).2
    omega
  · have := ((B.side.row _ rfl).lt _ e).2
    omega
end
/-- the list is that of the cells that are not used -/
abbrev SwSt (E : KeptL) (w0 wr : World) (b : Nat) (vc vr : Value) (rvs : List Value) (h : Hp) : Prop := SwFs E w0 wr b vc vr rvs h (Hps.gapsL h.cs)
end Go.Proofs.YthmddmddcdofaaaDoor

namespace Go.Proofs.YthmddmddcdofaaaDoor
open Go.RowKit
set_option maxRecDepth 100000
set_option maxHeartbeats 4000000 in
theorem sweeperOf_any (A R : Option Addr) (n c m d : Nat) (h : Hp) (w : World) (hs : HS w w.heap.size A n R m h) (hn : n ≤ 64) (hm : m ≤ 1000000) (h3 : ∀ cl ∈ h.cs, cl.r.length ≤ 1000000) :
    Calls Tryd.prog 75 #[heapV A n c R m d] w (GaveCt w h (Hps.gapsL h.cs)) := by
  have B2 : Below w.heap.size w ((w.alloc (.cells #[.slice A n c, .slice R m d] 26)).alloc (.cells #[.slice none 0 0, .slice none 0 0, .slice none 0 0] 104)) := ((Below.refl _ _).alloc (Nat.le_refl _) _).alloc (by simp) _
  have q1 := (Rw.new w 26 #[.slice A n c, .slice R m d]).alloc (.cells #[.slice none 0 0, .slice none 0 0, .slice none 0 0] 104)
  have q2 := Rw.new (w.alloc (.cells #[.slice A n c, .slice R m d] 26)) 104 #[.slice none 0 0, .slice none 0 0, .slice none 0 0]
  simp only [World.size_alloc] at q2
  have s2 := hs.up B2
  have H3 := Lib.hid h3
  clear h3 hs
  go_enter Tryd.func75, Tryd.ntmps75
  go_upto_region 1 with fail
  generalize (w.alloc (.cells #[.slice A n c, .slice R m d] 26)).alloc (.cells #[.slice none 0 0, .slice none 0 0, .slice none 0 0] 104) = w2 at B2 q1 q2 s2 ⊢
  obtain ⟨q, hq⟩ : ∃ q, w.heap.size = q := ⟨_, rfl⟩
  rw [hq] at B2 q1 q2 ⊢
  have HQ := Lib.hid hq
  clear hq
  have hql := q1.lt
  have hrl := q2.lt
  have x0 : w2.cell? ⟨q, 0, none⟩ = some (.slice A n c) := q1.cell 0
  have x1 : w2.cell? ⟨q, 1, none⟩ = some (.slice R m d) := q1.cell 1
  have SS := Lib.hid s2
  clear s2 q1
  refine wp_region_inv (by kernel_rfl) (by kernel_rfl) (fun L ac ww => ∃ t3 t4 t5 t6 t7 t8 : Value, ac = { tmps := #[heapV A n c R m d, Value.pointer (some { block := q, off := 0 }), Value.pointer (some { block := q + 1, off := 0 }), t3, t4, t5, t6, t7, t8], defers := [] } ∧ (L 6 = false → Below w2.heap.size w2 ww) ∧ (L 0 = true → t3 = .agg #[.slice A n c, .slice R m d]) ∧ (L 1 = true → ∃ (A5 : Option Addr) (n5 c5 : Nat) (R5 : Option Addr) (m5 d5 : Nat), t4 = .agg #[.slice A5 n5 c5, .slice R5 m5 d5] ∧ (L 4 = false → OwnH ww w2.heap.size (.slice A5 n5 c5) (.slice R5 m5 d5) h)) ∧ (L 2 = true → t5 = .pointer (some ⟨q, 0, none⟩)) ∧ (L 3 = true → t6 = .slice A n c) ∧ (L 4 = true → ∃ (A5 : Option Addr) (n5 c5 : Nat) (R5 : Option Addr) (m5 d5 : Nat) (K5 : Option Addr) (p5 q5 : Nat), t4 = .agg #[.slice A5 n5 c5, .slice R5 m5 d5] ∧ t7 = .slice K5 p5 q5 ∧ L 1 = true ∧ (L 6 = false → OwnC ww w2.heap.size (.slice A5 n5 c5) (.slice R5 m5 d5) (.slice K5 p5 q5) h (Hps.gapsL h.cs))) ∧ (L 5 = true → L 1 = true ∧ L 4 = true ∧ ∃ (A5 : Option Addr) (n5 c5 : Nat) (R5 : Option Addr) (m5 d5 : Nat) (K5 : Option Addr) (p5 q5 : Nat), t4 = .agg #[.slice A5 n5 c5, .slice R5 m5 d5] ∧ t7 = .slice K5 p5 q5 ∧ t8 = .agg #[.slice A5 n5 c5, .slice R5 m5 d5, .slice K5 p5 q5]) ∧ (L 6 = true → (∀ q, q < 6 → L q = true) ∧ ∃ (A5 : Option Addr) (n5 c5 : Nat) (R5 : Option Addr) (m5 d5 : Nat) (K5 : Option Addr) (p5 q5 : Nat) (wp : World), ww = (((wp).setCell ⟨q + 1, 0, none⟩ (.slice A5 n5 c5)).setCell ⟨q + 1, 1, none⟩ (.slice R5 m5 d5)).setCell ⟨q + 1, 2, none⟩ (.slice K5 p5 q5) ∧ Below w2.heap.size w2 wp ∧ OwnC wp w2.heap.size (.slice A5 n5 c5) (.slice R5 m5 d5) (.slice K5 p5 q5) h (Hps.gapsL h.cs))) ?h0 ?hstep ?hdone
  case h0 => exact ⟨_, _, _, _, _, _, rfl, fun _ => (Below.refl _ _).drew, (fun h => absurd h Bool.false_ne_true), (fun h => absurd h Bool.false_ne_true), (fun h => absurd h Bool.false_ne_true), (fun h => absurd h Bool.false_ne_true), (fun h => absurd h Bool.false_ne_true), (fun h => absurd h Bool.false_ne_true), (fun h => absurd h Bool.false_ne_true)⟩
  case hstep =>
    rintro L ac ww i o ho hL hd ⟨t3, t4, t5, t6, t7, t8, rfl, I0, f0, f1, f2, f3, f4, f5, f6⟩
    have hi : i < 7 := (Array.getElem?_eq_some_iff.1 ho).1
    obtain rfl | rfl | rfl | rfl | rfl | rfl | rfl : i = 0 ∨ i = 1 ∨ i = 2 ∨ i = 3 ∨ i = 4 ∨ i = 5 ∨ i = 6 := by omega
    · obtain rfl := Option.some.inj ho
      have hL6 : L 6 = false := by
        cases e : L 6
        · rfl
        · exact absurd ((f6 e).1 0 (by decide)) (by rw [hL]; decide)
      have J := I0 hL6
      have z0 : ww.cell? ⟨q, 0, none⟩ = some (.slice A n c) := (J.cell (p := ⟨q, 0, none⟩) hql).trans x0
      have z1 : ww.cell? ⟨q, 1, none⟩ = some (.slice R m d) := (J.cell (p := ⟨q, 1, none⟩) hql).trans x1
      refine wpOp_step rfl (fun K' hK => ?_)
      go_simp
      refine hK _ _ ?_
      exact ⟨_, _, _, _, _, _, rfl, (fun _ => J), (fun _ => rfl), (fun h => by
        obtain ⟨A5, n5, c5, R5, m5, d5, e, r⟩ := f1 (upd_ne h (by decide))
        exact ⟨A5, n5, c5, R5, m5, d5, e, fun h4 => r (by rw [upd_other (by decide)] at h4; exact h4)⟩), (kp f2), (kp f3), (fun h => by
        obtain ⟨A5, n5, c5, R5, m5, d5, K5, p5, q5, e, e7, l1, r⟩ := f4 (upd_ne h (by decide))
        exact ⟨A5, n5, c5, R5, m5, d5, K5, p5, q5, e, e7, upd_mono l1, fun h6 => r (by rw [upd_other (by decide)] at h6; exact h6)⟩), (fun h => by
        obtain ⟨l1, l4, r⟩ := f5 (upd_ne h (by decide))
        exact ⟨upd_mono l1, upd_mono l4, r⟩), (fun h => absurd hL6 (by rw [upd_ne h (by decide)]; decide))⟩
    · obtain rfl := Option.some.inj ho
      have g0 := f0 (hd ⟨0, .data⟩ (by simp) rfl)
      subst g0
      have hL6 : L 6 = false := by
        cases e : L 6
        · rfl
        · exact absurd ((f6 e).1 1 (by decide)) (by rw [hL]; decide)
      have J := I0 hL6
      refine wpOp_step rfl (fun K' hK => ?_)
      go_simp
      refine (cloneHeap_any A R n c m d h ww (SS.out.up J) (by omega) (by omega) H3.out).mono ?_
      rintro e w' ⟨vc, vr, rfl, ow, b5⟩
      obtain ⟨A5, n5, c5, R5, m5, d5, rfl, rfl⟩ := ow.slices
      refine hK _ _ ?_
      exact ⟨_, _, _, _, _, _, rfl, (fun _ => J.trans (b5.mono J.size)), (kp f0), (fun _ => ⟨A5, n5, c5, R5, m5, d5, rfl, fun _ => ow.base J.size⟩), (kp f2), (kp f3), (fun h => by
        obtain ⟨_, _, _, _, _, _, _, _, _, _, _, l1, _⟩ := f4 (upd_ne h (by decide))
        exact absurd l1 (by rw [hL]; decide)), (fun h => absurd (f5 (upd_ne h (by decide))).1 (by rw [hL]; decide)), (fun h => absurd hL6 (by rw [upd_ne h (by decide)]; decide))⟩
    · obtain rfl := Option.some.inj ho
      have hL6 : L 6 = false := by
        cases e : L 6
        · rfl
        · exact absurd ((f6 e).1 2 (by decide)) (by rw [hL]; decide)
      have J := I0 hL6
      refine wpOp_step rfl (fun K' hK => ?_)
      go_simp
      refine hK _ _ ?_
      exact ⟨_, _, _, _, _, _, rfl, (fun _ => J), (kp f0), (fun h => by
        obtain ⟨A5, n5, c5, R5, m5, d5, e, r⟩ := f1 (upd_ne h (by decide))
        exact ⟨A5, n5, c5, R5, m5, d5, e, fun h4 => r (by rw [upd_other (by decide)] at h4; exact h4)⟩), (fun _ => rfl), (kp f3), (fun h => by
        obtain ⟨A5, n5, c5, R5, m5, d5, K5, p5, q5, e, e7, l1, r⟩ := f4 (upd_ne h (by decide))
        exact ⟨A5, n5, c5, R5, m5, d5, K5, p5, q5, e, e7, upd_mono l1, fun h6 => r (by rw [upd_other (by decide)] at h6; exact h6)⟩), (fun h => by
        obtain ⟨l1, l4, r⟩ := f5 (upd_ne h (by decide))
        exact ⟨upd_mono l1, upd_mono l4, r⟩), (fun h => absurd hL6 (by rw [upd_ne h (by decide)]; decide))⟩
    · obtain rfl := Option.some.inj ho
      have g2 := f2 (hd ⟨2, .data⟩ (by simp) rfl)
      subst g2
      have hL6 : L 6 = false := by
        cases e : L 6
        · rfl
        · exact absurd ((f6 e).1 3 (by decide)) (by rw [hL]; decide)
      have J := I0 hL6
      have z0 : ww.cell? ⟨q, 0, none⟩ = some (.slice A n c) := (J.cell (p := ⟨q, 0, none⟩) hql).trans x0
      refine wpOp_step rfl (fun K' hK => ?_)
      go_simp
      refine hK _ _ ?_
      exact ⟨_, _, _, _, _, _, rfl, (fun _ => J), (kp f0), (fun h => by
        obtain ⟨A5, n5, c5, R5, m5, d5, e, r⟩ := f1 (upd_ne h (by decide))
        exact ⟨A5, n5, c5, R5, m5, d5, e, fun h4 => r (by rw [upd_other (by decide)] at h4; exact h4)⟩), (kp f2), (fun _ => rfl), (fun h => by
        obtain ⟨A5, n5, c5, R5, m5, d5, K5, p5, q5, e, e7, l1, r⟩ := f4 (upd_ne h (by decide))
        exact ⟨A5, n5, c5, R5, m5, d5, K5, p5, q5, e, e7, upd_mono l1, fun h6 => r (by rw [upd_other (by decide)] at h6; exact h6)⟩), (fun h => by
        obtain ⟨l1, l4, r⟩ := f5 (upd_ne h (by decide))
        exact ⟨upd_mono l1, upd_mono l4, r⟩), (fun h => absurd hL6 (by rw [upd_ne h (by decide)]; decide))⟩
    · obtain rfl := Option.some.inj ho
      have g3 := f3 (hd ⟨3, .data⟩ (by simp) rfl)
      subst g3
      have hL6 : L 6 = false := by
        cases e : L 6
        · rfl
        · exact absurd ((f6 e).1 4 (by decide)) (by rw [hL]; decide)
      have J := I0 hL6
      have l1 := Lib.hid (hd ⟨1, .chain⟩ (by simp) rfl)
      obtain ⟨A5, n5, c5, R5, m5, d5, e4, r4⟩ := f1 l1.out
      subst e4
      have oh := r4 hL
      refine wpOp_step rfl (fun K' hK => ?_)
      go_simp
      refine (freeList_any A n c h.cs ww (SS.out.up J).cells hn).mono ?_
      rintro e w' ⟨vk, rfl, ok, b5⟩
      obtain ⟨K5, q5, e8, -⟩ := ok.form
      refine hK _ _ ?_
      exact ⟨_, _, _, _, _, _, rfl, (fun _ => J.trans (b5.mono J.size)), (kp f0), (fun _ => ⟨A5, n5, c5, R5, m5, d5, rfl, fun h => absurd h (by rw [upd_self]; decide)⟩), (kp f2), (kp f3), (fun _ => ⟨A5, n5, c5, R5, m5, d5, K5, _, q5, rfl, e8, upd_mono l1.out, fun _ => by
        rw [← e8]
        exact OwnC.of oh b5 ok J.size⟩), (fun h => absurd (f5 (upd_ne h (by decide))).2.1 (by rw [hL]; decide)), (fun h => absurd hL6 (by rw [upd_ne h (by decide)]; decide))⟩
    · obtain rfl := Option.some.inj ho
      have g1 := f1 (hd ⟨1, .data⟩ (by simp) rfl)
      have g4 := f4 (hd ⟨4, .data⟩ (by simp) rfl)
      have hL6 : L 6 = false := by
        cases e : L 6
        · rfl
        · exact absurd ((f6 e).1 5 (by decide)) (by rw [hL]; decide)
      have J := I0 hL6
      have l4 := Lib.hid (hd ⟨4, .data⟩ (by simp) rfl)
      obtain ⟨A5, n5, c5, R5, m5, d5, K5, p5, q5, e4, e7, l1, r4⟩ := g4
      have L1 := Lib.hid l1
      clear l1
      subst e4
      subst e7
      clear g1
      refine wpOp_step rfl (fun K' hK => ?_)
      go_simp
      refine hK _ _ ?_
      exact ⟨_, _, _, _, _, _, rfl, (fun _ => J), (kp f0), (fun _ => ⟨A5, n5, c5, R5, m5, d5, rfl, fun h => absurd l4.out (by rw [upd_other (by decide)] at h; rw [h]; decide)⟩), (kp f2), (kp f3), (fun _ => ⟨A5, n5, c5, R5, m5, d5, K5, p5, q5, rfl, rfl, upd_mono L1.out, fun h => r4 (by rw [upd_other (by decide)] at h; exact h)⟩), (fun _ => ⟨upd_mono L1.out, upd_mono l4.out, A5, n5, c5, R5, m5, d5, K5, p5, q5, rfl, rfl, rfl⟩), (fun h => absurd hL6 (by rw [upd_ne h (by decide)]; decide))⟩
    · obtain rfl := Option.some.inj ho
      have g5 := f5 (hd ⟨5, .data⟩ (by simp) rfl)
      have lq : Hid (∀ q, q < 6 → L q = true) := Lib.hid (by
        intro q hq
        obtain rfl | rfl | rfl | rfl | rfl | rfl : q = 0 ∨ q = 1 ∨ q = 2 ∨ q = 3 ∨ q = 4 ∨ q = 5 := by omega
        · exact hd ⟨0, .phase⟩ (by simp) rfl
        · exact hd ⟨1, .phase⟩ (by simp) rfl
        · exact hd ⟨2, .phase⟩ (by simp) rfl
        · exact hd ⟨3, .phase⟩ (by simp) rfl
        · exact hd ⟨4, .phase⟩ (by simp) rfl
        · exact hd ⟨5, .phase⟩ (by simp) rfl)
      have J := I0 hL
      obtain ⟨-, -, A5, n5, c5, R5, m5, d5, K5, p5, q5, e4, e7, e8⟩ := g5
      subst e8
      obtain ⟨A6, n6, c6, R6, m6, d6, K6, p6, q6, e4b, e7b, -, r4⟩ := f4 (lq.out 4 (by decide))
      have oc := r4 hL
      rw [e4] at e4b
      rw [e7] at e7b
      injection e4b with e4b
      simp at e4b
      obtain ⟨⟨rfl, rfl, rfl⟩, rfl, rfl, rfl⟩ := e4b
      injection e7b with h1 h2 h3
      subst h1
      subst h2
      subst h3
      subst e4
      subst e7
      have P := q2.keep J hrl
      have zf0 : ww.frozen? ⟨q + 1, 0, none⟩ = false := P.frozen 0
      have zf1 : ww.frozen? ⟨q + 1, 1, none⟩ = false := P.frozen 1
      have zf2 : ww.frozen? ⟨q + 1, 2, none⟩ = false := P.frozen 2
      have zc0 : ww.cell? ⟨q + 1, 0, none⟩ = some (.slice none 0 0) := P.cell 0
      have zc1 : ww.cell? ⟨q + 1, 1, none⟩ = some (.slice none 0 0) := P.cell 1
      have zc2 : ww.cell? ⟨q + 1, 2, none⟩ = some (.slice none 0 0) := P.cell 2
      refine wpOp_step rfl (fun K' hK => ?_)
      go_simp
      refine hK _ _ ?_
      exact ⟨_, _, _, _, _, _, rfl, (fun h => absurd h (by rw [upd_self]; decide)), (kp f0), (fun _ => ⟨A5, n5, c5, R5, m5, d5, rfl, fun h => absurd (lq.out 4 (by decide)) (by rw [upd_other (by decide)] at h; rw [h]; decide)⟩), (kp f2), (kp f3), (fun _ => ⟨A5, n5, c5, R5, m5, d5, K5, p5, q5, rfl, rfl, upd_mono (lq.out 1 (by decide)), fun h => absurd h (by rw [upd_self]; decide)⟩), (fun _ => ⟨upd_mono (lq.out 1 (by decide)), upd_mono (lq.out 4 (by decide)), A5, n5, c5, R5, m5, d5, K5, p5, q5, rfl, rfl, rfl⟩), (fun _ => ⟨fun q hq => upd_mono (lq.out q hq), A5, n5, c5, R5, m5, d5, K5, p5, q5, ww, rfl, J, oc⟩)⟩
  case hdone =>
    rintro L ac ww hall ⟨t3, t4, t5, t6, t7, t8, rfl, I0, f0, f1, f2, f3, f4, f5, f6⟩
    have e0 := f0 (hall 0 (by decide))
    have e1 := f1 (hall 1 (by decide))
    have e2 := f2 (hall 2 (by decide))
    have e3 := f3 (hall 3 (by decide))
    have e4 := f4 (hall 4 (by decide))
    have e5 := f5 (hall 5 (by decide))
    have e6 := f6 (hall 6 (by decide))
    clear f0 f1 f2 f3 f4 f5 f6
    obtain ⟨-, A5, n5, c5, R5, m5, d5, K5, p5, q5, wp, rfl, r1, r9⟩ := e6
    have P := q2.keep r1 hrl
    have P4 := ((P.put 0 (.slice A5 n5 c5)).put 1 (.slice R5 m5 d5)).put 2 (.slice K5 p5 q5)
    have s8 : ((((wp).setCell ⟨q + 1, 0, none⟩ (.slice A5 n5 c5)).setCell ⟨q + 1, 1, none⟩ (.slice R5 m5 d5)).setCell ⟨q + 1, 2, none⟩ (.slice K5 p5 q5)).cell? ⟨q + 1, 0, none⟩ = some (.slice A5 n5 c5) := P4.cell 0
    have s9 : ((((wp).setCell ⟨q + 1, 0, none⟩ (.slice A5 n5 c5)).setCell ⟨q + 1, 1, none⟩ (.slice R5 m5 d5)).setCell ⟨q + 1, 2, none⟩ (.slice K5 p5 q5)).cell? ⟨q + 1, 1, none⟩ = some (.slice R5 m5 d5) := P4.cell 1
    have s10 : ((((wp).setCell ⟨q + 1, 0, none⟩ (.slice A5 n5 c5)).setCell ⟨q + 1, 1, none⟩ (.slice R5 m5 d5)).setCell ⟨q + 1, 2, none⟩ (.slice K5 p5 q5)).cell? ⟨q + 1, 2, none⟩ = some (.slice K5 p5 q5) := P4.cell 2
    have HW := HQ.out
    have D := Lib.hid (OwnC.out (w := w) (g := q + 1) r9 (by omega) (by rw [HW]; exact B2.trans (r1.mono (by have := B2.size; omega))) (by omega))
    clear I0 e0 e1 e2 e3 e4 e5 hall r1 r9 P P4
    go_wp2_with fail
    exact bodyPost_ret (v := .agg #[.slice A5 n5 c5, .slice R5 m5 d5, .slice K5 p5 q5]) (by simp [results, Tryd.results75, go_sem, *]) rfl ⟨_, _, _, rfl, D.out.1, D.out.2⟩
theorem SwSt.of {w w1 : World} {vc vr vk : Value} {h : Hp} (o : OwnC w1 w.heap.size vc vr vk h (Hps.gapsL h.cs)) (hb : Below w.heap.size w w1) : ∃ rvs, SwSt [] w (w1.alloc (.cells #[vc, vr, vk] 104)) w1.heap.size vc vr rvs h := by
  obtain ⟨rvs, o⟩ := o
  have bA : Below w1.heap.size w1 (w1.alloc (.cells #[vc, vr, vk] 104)) := (Below.refl _ _).alloc (Nat.le_refl _) _
  refine ⟨rvs, vk, o.heap.below bA (Nat.le_refl _), o.heap.apart_new (Nat.le_refl _), Rw.new _ _ _, hb.alloc hb.size _, hb.size, ⟨fun p e => ?_, fun p e x hx => ?_, fun g hg => ?_⟩⟩
  · cases e
    exact (o.cnts.below bA (Nat.le_refl _)).queue
  · cases e
    cases hx
  · obtain ⟨p, e, h1 | ⟨x, hx, _⟩⟩ := hg
    · cases e
      have h2 := (World.ownsRow.lt o.cnts g h1).2
      refine ⟨by omega, fun v hv e => ?_⟩
      rcases o.sep v hv with h3 | h3
      · rw [e] at h3; cases h3
      · exact h3 (by rw [e]; exact h1.symm)
    · cases e
      cases hx
/-- the heap in a sweeper, as a heap of the call's own -/
theorem SwFs.ownH {w0 wr : World} {b : Nat} {vc vr : Value} {rvs : List Value} {h : Hp} {fs : List Int} {E : KeptL} (S : SwFs E w0 wr b vc vr rvs h fs) : OwnH wr w0.heap.size vc vr h := ⟨rvs, S.own⟩
set_option maxHeartbeats 2000000 in
theorem sweep_any (E : KeptL) (w0 w : World) (b : Nat) (vc vr : Value) (rvs : List Value) (h : Hp) (fs : List Int) (marks : List Bool) (hT : TzT w0) (S : SwFs E w0 w b vc vr rvs h fs) (hl : marks.length = h.cs.length) (h40 : h.cs.length ≤ 40) (hz : ∀ c ∈ h.cs, c.u = false → c = Hps.zeroCl) :
    Calls Tryd.prog 76 #[.pointer (some ⟨b, 0, none⟩), .int .u64 (Bm.wordN marks true : Nat)] w fun e w' => e = .returned (.int .i64 (Hps.freedTo h.cs marks marks.length : Nat)) ∧ ∃ rvs', SwSt E w0 w' b vc vr rvs' (Hps.dropH h (marks.map (!·))) := by
  have hU := Hps.usedW_lt (cs := h.cs) (by omega)
  have hM := Bm.wordN_lt marks true (by omega)
  have HAN := Lib.hid (u64_andNot_nat (Hps.usedW h.cs) (Bm.wordN marks true) hU hM)
  have hVl := Hps.lostW_lt marks (cs := h.cs) (by omega)
  have HPC := Lib.hid (Hps.pc_lost hl (by omega))
  have HZ := Lib.hid (Hps.zap_lost hl (by omega) hz)
  have HBT := Lib.hid (fun i (hi : (Hps.lostW h.cs marks).testBit i = true) => show i < h.cs.length by
    rw [Hps.lostW_bit hl (by omega), Bool.and_eq_true] at hi
    exact Hps.usedAt_lt hi.1)
  rw [← Hps.lostW] at HAN
  obtain ⟨V, hV⟩ : ∃ V, Hps.lostW h.cs marks = V := ⟨_, rfl⟩
  rw [hV] at HAN hVl HPC HZ HBT
  have HDL := Lib.hid (Hps.drop_len h (marks.map (!·)))
  obtain ⟨X, hX⟩ : ∃ X, Hps.dropH h (marks.map (!·)) = X := ⟨_, rfl⟩
  rw [hX] at HDL ⊢
  have HXE := Lib.hid (show (⟨Hps.dropL h.cs (marks.map (!·)), h.rt⟩ : Hp) = X from hX)
  obtain ⟨M, hMe⟩ : ∃ M, Bm.wordN marks true = M := ⟨_, rfl⟩
  rw [hMe] at hM HAN ⊢
  obtain ⟨U, hUe⟩ : ∃ U, Hps.usedW h.cs = U := ⟨_, rfl⟩
  rw [hUe] at hU HAN
  have HUE := Lib.hid hUe
  obtain ⟨A, c, R, d, rfl, rfl, -⟩ := S.own.form
  obtain ⟨n, hn⟩ : ∃ n, h.cs.length = n := ⟨_, rfl⟩
  obtain ⟨m, hm⟩ : ∃ m, h.rt.length = m := ⟨_, rfl⟩
  rw [hn, hm] at S ⊢
  rw [hn] at h40 HDL
  have HT := Lib.hid (fun w1 (hb : Below w0.heap.size w0 w1) => hT.below hb)
  have HC := Lib.hid S.own.reads.cells
  have x0 : w.cell? ⟨b, 0, none⟩ = some (.slice A n c) := S.c0
  have HCNT := Lib.hid (fun ww => count_any V ww hVl)
  rw [HPC.out] at HCNT
  have HN := Lib.hid hn
  obtain ⟨fr, hfr⟩ : ∃ fr, Hps.freedTo h.cs marks marks.length = fr := ⟨_, rfl⟩
  rw [hfr] at HCNT ⊢
  clear hV hMe hUe hl hz hT hn hm hfr HPC hX
  go_enter Tryd.func76, Tryd.ntmps76
  go_wp2_with fail
  refine (usedSet_any A n c h.cs _ HC.out (by omega)).mono ?_
  rw [HUE.out]
  rintro e w1 ⟨rfl, b1⟩
  replace S := S.up b1
  have hand := HAN.out
  clear b1 x0 HC
  go_wp2_with fail
  obtain ⟨ve, B⟩ := S
  refine (freeCells_any _ _ w0 _ b _ _ rvs h V (HT.out _ B.low) B hVl HBT.out).mono ?_
  rintro e w2 ⟨⟨ev, rfl⟩, rv2, B2⟩
  rw [HZ.out, HXE.out] at B2
  have S2 : SwFs E w0 w2 b (.slice A n c) (.slice R m d) rv2 X fs := ⟨ve, B2⟩
  have x0 : w2.cell? ⟨b, 0, none⟩ = some (.slice A n c) := S2.c0
  have HC := Lib.hid (show CS w2 w2.heap.size A n X.cs from S2.own.reads.cells)
  clear B B2 hand
  go_wp2_with fail
  refine (freeList_any A n c X.cs _ HC.out (by omega)).mono ?_
  rintro e w3 ⟨vk, rfl, ok, b3⟩
  obtain ⟨Ak, ck, ek, -⟩ := ok.form
  obtain ⟨nk, hnk⟩ : ∃ nk, (Hps.gapsL X.cs).length = nk := ⟨_, rfl⟩
  rw [hnk] at ek
  subst ek
  clear hnk
  have hlo2 := S2.low.size
  have hlb := S2.lt
  have HAP := Lib.hid (fun v (hv : v ∈ (Value.slice A n c) :: (.slice R m d) :: rv2) => show v.ownBlock = none ∨ v.ownBlock ≠ (Value.slice Ak nk ck).ownBlock by
    cases e : v.ownBlock with
    | none => exact .inl rfl
    | some k =>
      right
      intro e'
      have a1 := (S2.own.blocks hv e).2
      have a2 := (World.ownsRow.lt ok k e'.symm).1
      omega)
  have HNB := Lib.hid (show (Value.slice Ak nk ck).ownBlock ≠ some b from fun e => by
    have := (World.ownsRow.lt ok b e).1
    omega)
  have HNE := Lib.hid (fun e (he : e ∈ E) => show (Value.slice Ak nk ck).ownBlock ≠ some e.1 from fun e2 => by
    have a1 := S2.keptLt e he
    have a2 := (World.ownsRow.lt ok _ e2).1
    omega)
  replace S2 := S2.up b3
  have fz := S2.fz 2
  obtain ⟨ve3, B3⟩ := S2
  have c2 : w3.cell? ⟨b, 2, none⟩ = some ve3 := B3.box.cell 2
  have S4 := Lib.hid (SwFs.free ⟨ve3, B3⟩ (ok.base hlo2) HAP.out HNB.out HNE.out)
  clear x0 HC HAP HNB HNE ok b3 B3
  go_wp2_with fail
  refine (HCNT.out _).mono ?_
  rintro e w5 ⟨rfl, rfl⟩
  go_wp2_with fail
  go_ret
  exact ⟨rfl, _, S4.out⟩
end Go.Proofs.YthmddmddcdofaaaDoor

namespace Go.Proofs.YthmddmddcdofaaaDoor
open Go.RowKit
set_option maxRecDepth 100000
namespace Hps
end Hps
end Go.Proofs.YthmddmddcdofaaaDoor

namespace Go.Proofs.YthmddmddcdofaaaDoor
open Go.RowKit
set_option maxRecDepth 100000
namespace Hps
end Hps
end Go.Proofs.YthmddmddcdofaaaDoor

namespace Go.Proofs.YthmddmddcdofaaaDoor
open Go.RowKit
set_option maxRecDepth 100000
namespace Hps
end Hps
set_option maxHeartbeats 1000000 in
theorem flaggedSet_any (A : Option Addr) (n c : Nat) (bs : List Bool) (w : World) (h : OS w w.heap.size A n bs) (hn : n ≤ 64) :
    Calls Tryd.prog 73 #[.slice A n c] w fun e w' => e = .returned (.int .u64 (Bm.wordN bs true : Nat)) ∧ w = w' := by
  have hlb := h.1
  have HW := Lib.hid (show Bm.wordN bs true = Bm.setN bs true n by rw [Bm.wordN, hlb])
  go_enter Tryd.func73, Tryd.ntmps73
  go_wp2_with fail
  go_loopw [3, 8] (fun v i wr => ∃ k : Nat, k ≤ n ∧ i = .int .i64 k ∧ v = .int .u64 (Bm.setN bs true k : Nat) ∧ wr = w) (fun _ i _ => n - (intOf i).toNat)
  case atStart => exact ⟨0, Nat.zero_le _, rfl, rfl, rfl⟩
  case round =>
    obtain ⟨k, hk, rfl, rfl, rfl⟩ := hrel
    by_cases hlt : k < n
    · obtain ⟨g, o, b, rfl, hg, hb, d1⟩ := h.at_ hlt
      have hlt' : (k : Int) < n := by omega
      have hV := Bm.setN_64 bs true (k := k) (by omega)
      obtain ⟨p1, p2, p3⟩ := Hps.pow_in (k := k) (by omega)
      have hor := Hps.or_in (V := Bm.setN bs true k) (k := k) hV (by omega)
      have hkneg : ¬ ((k : Int) < 0) := by omega
      cases b
      · have HN := Lib.hid (show Bm.setN bs true (k + 1) = Bm.setN bs true k by rw [Bm.setN, if_neg (by rw [hb]; decide)])
        clear hb
        go_wp2_with fail
        go_roundw
        case rel => exact ⟨k + 1, by omega, by go_num, by rw [HN.out], trivial⟩
        case measure => simp [intOf]; omega
      · have HN := Lib.hid (show Bm.setN bs true (k + 1) = Bm.setN bs true k ||| 2 ^ k by rw [Bm.setN, if_pos hb])
        clear hb
        go_wp2_with fail
        go_roundw
        case rel => exact ⟨k + 1, by omega, by go_num, by rw [HN.out], trivial⟩
        case measure => simp [intOf]; omega
    · obtain rfl : k = n := by omega
      go_wp2_with fail
      go_ret
      exact ⟨by rw [HW.out]; rfl, rfl⟩
end Go.Proofs.YthmddmddcdofaaaDoor

namespace Go.Proofs.YthmddmddcdofaaaDoor
open Go.RowKit
set_option maxRecDepth 100000
set_option maxHeartbeats 2000000 in
theorem keepsTargets_any (A R : Option Addr) (n c m d : Nat) (h : Hp) (marks : List Bool) (w : World) (hs : HS w w.heap.size A n R m h) (hv : Hps.validH h = true) (hl : marks.length = h.cs.length) :
    Calls Tryd.prog 74 #[.int .u64 (Bm.wordN marks true : Nat), heapV A n c R m d] w fun e w' => e = .returned (.bool (Hps.validH (Hps.dropH h (marks.map (!·))))) ∧ Below w.heap.size w w' := by
  have hlc := hs.cells.1
  obtain ⟨h40, hr4, h3⟩ := Hps.valid_small hv
  have hM := Bm.wordN_lt marks true (by omega)
  have HNR := Lib.hid (Hps.keep_no_root hv hl)
  have HNC := Lib.hid (fun k cl hc => Hps.keep_no_cell (k := k) (c := cl) hv hl hc)
  have HALL := Lib.hid (Hps.keep_all hv hl)
  obtain ⟨M, hMe⟩ : ∃ M, Bm.wordN marks true = M := ⟨_, rfl⟩
  rw [hMe] at hM HNR HNC HALL ⊢
  obtain ⟨r, hr⟩ : ∃ r, Hps.validH (Hps.dropH h (marks.map (!·))) = r := ⟨_, rfl⟩
  rw [hr] at HNR HNC HALL ⊢
  have hlr := hs.roots.1
  rw [hlc] at h40
  rw [hlr] at hr4
  have hm4 : m ≤ 4 := by omega
  clear hr4
  have b0 : Below w.heap.size w (w.alloc (.cells #[.slice A n c, .slice R m d] 26)) := (Below.refl _ _).alloc (Nat.le_refl _) _
  have q1 := Rw.new w 26 #[.slice A n c, .slice R m d]
  have s0 := hs.up b0
  have HS3 := Lib.hid h3
  clear hMe hr hs hv hl h3 hlc hlr
  go_enter Tryd.func74, Tryd.ntmps74
  go_upto_region 1 with fail
  generalize w.alloc (.cells #[.slice A n c, .slice R m d] 26) = w2 at b0 q1 s0 ⊢
  obtain ⟨q, hq⟩ : ∃ q, w.heap.size = q := ⟨_, rfl⟩
  rw [hq] at q1 ⊢
  have HQ := Lib.hid hq
  have hql := q1.lt
  have hqe := hq
  clear hq
  have x0 : w2.cell? ⟨q, 0, none⟩ = some (.slice A n c) := q1.cell 0
  have x1 : w2.cell? ⟨q, 1, none⟩ = some (.slice R m d) := q1.cell 1
  have HQE := Lib.hid hqe
  clear hqe
  go_wp2_with fail
  refine (hasTargets_any R m d M h.rt w2 s0.roots hM (by omega)).mono ?_
  obtain ⟨k0, hk0⟩ : ∃ k0, Hps.okVs M h.rt = k0 := ⟨_, rfl⟩
  rw [hk0] at HNR HALL ⊢
  clear hk0
  rintro e w3 ⟨rfl, rfl⟩
  cases k0
  · obtain rfl := HNR.out rfl
    clear x0 x1
    go_wp2_with fail
    go_ret
    exact ⟨rfl, b0⟩
  have HK := Lib.hid (show ∀ (k : Nat) (cl : Cl), k < 0 → h.cs[k]? = some cl → M.testBit k = true → Hps.okVs M cl.r = true from fun k cl hk => absurd hk (Nat.not_lt_zero k))
  go_wp2_with fail
  go_loopw [15] (fun i wr => ∃ k : Nat, k ≤ n ∧ i = .int .i64 k ∧ Below w2.heap.size w2 wr ∧ Hid (∀ (j : Nat) (cl : Cl), j < k → h.cs[j]? = some cl → M.testBit j = true → Hps.okVs M cl.r = true)) (fun i _ => n - (intOf i).toNat)
  case atStart => exact ⟨0, Nat.zero_le _, rfl, Below.refl _ _, HK⟩
  case round =>
    clear HK x0 x1
    obtain ⟨k, hk, rfl, bb, HK⟩ := hrel
    by_cases hlt : k < n
    · obtain ⟨g, o, cl, A', m', cc, rfl, hg, hcl, d1, d2, d3, hmc, hi⟩ := (s0.cells.below bb).at_ hlt
      have hlt' : (k : Int) < n := by omega
      have hB : Hps.hasB M (k : Int) = M.testBit k := by simp [Hps.hasB]
      have hm3 : m' ≤ 3 := by have := HS3.out cl (List.mem_of_getElem? hcl); have := hi.1; omega
      have HCL := Lib.hid hcl
      have bA := bb.alloc bb.size (.cells #[.bool cl.u, .int .i64 cl.d, .slice A' m' cc] 40)
      have QC := Rw.new wr 40 #[.bool cl.u, .int .i64 cl.d, .slice A' m' cc]
      have hi2 : IS (wr.alloc (.cells #[.bool cl.u, .int .i64 cl.d, .slice A' m' cc] 40)) (wr.alloc (.cells #[.bool cl.u, .int .i64 cl.d, .slice A' m' cc] 40)).heap.size A' m' cl.r := ((hi.more bb.size).below ((Below.refl _ _).alloc (Nat.le_refl _) _)).more (by simp)
      have HB := Lib.hid hB
      clear hcl hB
      go_upto_region 6 with fail
      generalize wr.alloc (.cells #[.bool cl.u, .int .i64 cl.d, .slice A' m' cc] 40) = w4 at bA QC hi2 ⊢
      generalize wr.heap.size = gq at QC ⊢
      have z2 : w4.cell? ⟨gq, 2, none⟩ = some (.slice A' m' cc) := QC.cell 2
      clear d1 d2 d3
      go_wp2_with fail
      refine (has_any M (k : Int) w4 hM).mono ?_
      rw [HB.out]
      cases hbit : M.testBit k
      · have HN := Lib.hid (show ∀ (j : Nat) (cl : Cl), j < k + 1 → h.cs[j]? = some cl → M.testBit j = true → Hps.okVs M cl.r = true from fun j cl hj hc hb => by
          by_cases e : j = k
          · subst e
            rw [hbit] at hb
            cases hb
          · exact HK.out j cl (by omega) hc hb)
        clear hbit
        rintro e w5 ⟨rfl, rfl⟩
        go_wp2_with fail
        go_roundw
        case rel => exact ⟨k + 1, by omega, by go_num, bA, HN⟩
        case measure => simp [intOf]; omega
      · have HBT := Lib.hid hbit
        clear hbit
        rintro e w5 ⟨rfl, rfl⟩
        go_wp2_with fail
        refine (hasTargets_any A' m' cc M cl.r w4 hi2 hM (by omega)).mono ?_
        obtain ⟨k1, hk1⟩ : ∃ k1, Hps.okVs M cl.r = k1 := ⟨_, rfl⟩
        rw [hk1]
        rintro e w6 ⟨rfl, rfl⟩
        cases k1
        · obtain rfl := HNC.out k cl HCL.out HBT.out hk1
          have bF := b0.trans (bA.mono b0.size)
          clear hk1
          go_wp2_with fail
          go_ret
          exact ⟨rfl, bF⟩
        · have HN := Lib.hid (show ∀ (j : Nat) (cl : Cl), j < k + 1 → h.cs[j]? = some cl → M.testBit j = true → Hps.okVs M cl.r = true from fun j cl2 hj hc hb => by
            by_cases e : j = k
            · subst e
              rw [HCL.out] at hc
              obtain rfl := Option.some.inj hc
              exact hk1
            · exact HK.out j cl2 (by omega) hc hb)
          clear hk1
          go_wp2_with fail
          go_roundw
          case rel => exact ⟨k + 1, by omega, by go_num, bA, HN⟩
          case measure => simp [intOf]; omega
    · obtain rfl : k = n := by omega
      have hlc := s0.cells.1
      obtain rfl := HALL.out (by simp) fun j cl hc hb => HK.out j cl (by have := (List.getElem?_eq_some_iff.1 hc).1; omega) hc hb
      have bF := b0.trans (bb.mono b0.size)
      clear hlc
      go_wp2_with fail
      go_ret
      exact ⟨rfl, bF⟩
set_option maxHeartbeats 4000000 in
theorem sweepCells_any (A R D : Option Addr) (n c m d q e : Nat) (h : Hp) (bs : List Bool) (w : World) (hT : TzT w) (hs : HS w w.heap.size A n R m h) (ho : OS w w.heap.size D q bs) (hn : n ≤ 1099511627776) (hm : m ≤ 1099511627776) (hq : q ≤ 1099511627776) (hnc : n ≤ c) (hmd : m ≤ d) :
    Calls Tryd.prog 26 #[heapV A n c R m d, .slice D q e] w (GaveHN w (Hps.sweepH h bs).1 (Hps.sweepH h bs).2) := by
  have hlc := hs.cells.1
  have hlr := hs.roots.1
  have hlb := ho.1
  have b2 : Below w.heap.size w ((w.alloc (.cells #[.slice A n c, .slice R m d] 26)).alloc (.cells #[.slice none 0 0, .slice none 0 0] 26)) := ((Below.refl _ _).alloc (Nat.le_refl _) _).alloc (by simp) _
  have q1 := (Rw.new w 26 #[.slice A n c, .slice R m d]).alloc (.cells #[.slice none 0 0, .slice none 0 0] 26)
  have q3 := Rw.new (w.alloc (.cells #[.slice A n c, .slice R m d] 26)) 26 #[.slice none 0 0, .slice none 0 0]
  simp only [World.size_alloc] at q3
  have s2 := hs.up b2
  have o2 := ho.up b2
  have hT2 := hT.below b2
  have HLC := Lib.hid hlc
  clear hs ho hT
  go_enter Tryd.func26, Tryd.ntmps26
  go_upto_region 1 with fail
  generalize (w.alloc (.cells #[.slice A n c, .slice R m d] 26)).alloc (.cells #[.slice none 0 0, .slice none 0 0] 26) = w2 at b2 q1 q3 s2 o2 hT2 ⊢
  have x0 : w2.cell? ⟨w.heap.size, 0, none⟩ = some (.slice A n c) := q1.cell 0
  have x1 : w2.cell? ⟨w.heap.size, 1, none⟩ = some (.slice R m d) := q1.cell 1
  go_wp2_with fail
  refine (heapValid_any _ _ _ _ _ _ h _ s2 hn hm hnc hmd).mono ?_
  obtain ⟨r, hv⟩ : ∃ r, Hps.validH h = r := ⟨_, rfl⟩
  rw [hv]
  rintro e w3 ⟨rfl, b1⟩
  replace q1 := q1.keep b1 q1.lt
  replace q3 := q3.keep b1 q3.lt
  replace s2 := s2.up b1
  replace o2 := o2.up b1
  replace hT2 := hT2.below b1
  replace b2 := b2.trans (b1.mono b2.size)
  clear b1 x0 x1
  cases r
  · have HF := Lib.hid (Hps.sweepH_no (h := h) (bs := bs) (.inl hv))
    have r2 : (w3).frozen? ⟨w.heap.size + 1, 0, none⟩ = false := q3.frozen 0
    have r3 : (w3).frozen? ⟨w.heap.size + 1, 1, none⟩ = false := q3.frozen 1
    have r4 : (w3).cell? ⟨w.heap.size + 1, 0, none⟩ = some (.slice none 0 0) := q3.cell 0
    have r5 : (w3).cell? ⟨w.heap.size + 1, 1, none⟩ = some (.slice none 0 0) := q3.cell 1
    have r6 : (((w3).setCell ⟨w.heap.size + 1, 0, none⟩ (.slice none 0 0)).setCell ⟨w.heap.size + 1, 1, none⟩ (.slice none 0 0)).cell? ⟨w.heap.size + 1, 0, none⟩ = some (.slice none 0 0) := ((q3.put 0 (.slice none 0 0)).put 1 (.slice none 0 0)).cell 0
    have r7 : (((w3).setCell ⟨w.heap.size + 1, 0, none⟩ (.slice none 0 0)).setCell ⟨w.heap.size + 1, 1, none⟩ (.slice none 0 0)).cell? ⟨w.heap.size + 1, 1, none⟩ = some (.slice none 0 0) := ((q3.put 0 (.slice none 0 0)).put 1 (.slice none 0 0)).cell 1
    have D := Lib.hid (OwnH.out (w := w) (g := w.heap.size + 1) (own_zeroH w3 w3.heap.size (Nat.le_refl _)) (by exact q3.lt) (b2) (by omega))
    clear q1 q3 s2 o2 hT2 b2 hv
    go_wp2_with fail
    exact bodyPost_ret (v := .tuple #[.agg #[.slice none 0 0, .slice none 0 0], .int .i64 (-1)]) (by simp [results, Tryd.results26, go_sem, *]) rfl ⟨_, _, by rw [HF.out], by rw [HF.out]; exact D.out.1, D.out.2⟩
  have x0 : w3.cell? ⟨w.heap.size, 0, none⟩ = some (.slice A n c) := q1.cell 0
  have x1 : w3.cell? ⟨w.heap.size, 1, none⟩ = some (.slice R m d) := q1.cell 1
  by_cases hqn : q = n
  case neg =>
    have HF := Lib.hid (Hps.sweepH_no (h := h) (bs := bs) (.inr (by omega)))
    have hne : ((q : Int) != (n : Int)) = true := by rw [bne_iff_ne]; omega
    have r2 : (w3).frozen? ⟨w.heap.size + 1, 0, none⟩ = false := q3.frozen 0
    have r3 : (w3).frozen? ⟨w.heap.size + 1, 1, none⟩ = false := q3.frozen 1
    have r4 : (w3).cell? ⟨w.heap.size + 1, 0, none⟩ = some (.slice none 0 0) := q3.cell 0
    have r5 : (w3).cell? ⟨w.heap.size + 1, 1, none⟩ = some (.slice none 0 0) := q3.cell 1
    have r6 : (((w3).setCell ⟨w.heap.size + 1, 0, none⟩ (.slice none 0 0)).setCell ⟨w.heap.size + 1, 1, none⟩ (.slice none 0 0)).cell? ⟨w.heap.size + 1, 0, none⟩ = some (.slice none 0 0) := ((q3.put 0 (.slice none 0 0)).put 1 (.slice none 0 0)).cell 0
    have r7 : (((w3).setCell ⟨w.heap.size + 1, 0, none⟩ (.slice none 0 0)).setCell ⟨w.heap.size + 1, 1, none⟩ (.slice none 0 0)).cell? ⟨w.heap.size + 1, 1, none⟩ = some (.slice none 0 0) := ((q3.put 0 (.slice none 0 0)).put 1 (.slice none 0 0)).cell 1
    have D := Lib.hid (OwnH.out (w := w) (g := w.heap.size + 1) (own_zeroH w3 w3.heap.size (Nat.le_refl _)) (by exact q3.lt) (b2) (by omega))
    clear q1 q3 s2 o2 hT2 b2 hv hqn
    go_wp2_with fail
    exact bodyPost_ret (v := .tuple #[.agg #[.slice none 0 0, .slice none 0 0], .int .i64 (-1)]) (by simp [results, Tryd.results26, go_sem, *]) rfl ⟨_, _, by rw [HF.out], by rw [HF.out]; exact D.out.1, D.out.2⟩
  have hbl : bs.length = h.cs.length := by omega
  have hne : ((q : Int) != (n : Int)) = false := by rw [bne_eq_false_iff_eq]; omega
  obtain ⟨h40, hr4, h3⟩ := Hps.valid_small hv
  have hKT := fun (w1 : World) (hs : HS w1 w1.heap.size A n R m h) => keepsTargets_any A R n c m d h bs w1 hs hv hbl
  have HFL := Lib.hid (flaggedSet_any D q e bs w3 o2 (by omega))
  obtain ⟨r, hr⟩ : ∃ r, Hps.validH (Hps.dropH h (bs.map (!·))) = r := ⟨_, rfl⟩
  rw [hr] at hKT
  have HKT := Lib.hid hKT
  obtain ⟨M, hM⟩ : ∃ M, Bm.wordN bs true = M := ⟨_, rfl⟩
  rw [hM] at HFL HKT
  have HM := Lib.hid hM
  have HV := Lib.hid hv
  have HR := Lib.hid hr
  have HBL := Lib.hid hbl
  have H3 := Lib.hid (fun cl (hcl : cl ∈ h.cs) => show cl.r.length ≤ 1000000 by have := h3 cl hcl; omega)
  rw [hlc] at h40
  rw [hlr] at hr4
  have hm4 : m ≤ 4 := by omega
  clear hr4
  clear hv hr hbl hM h3 hKT hqn
  go_wp2_with fail
  refine HFL.out.mono ?_
  rintro e w4 ⟨rfl, rfl⟩
  clear HFL
  go_wp2_with fail
  refine (HKT.out _ s2).mono ?_
  rintro e w4 ⟨rfl, b1⟩
  replace q1 := q1.keep b1 q1.lt
  replace q3 := q3.keep b1 q3.lt
  replace s2 := s2.up b1
  replace hT2 := hT2.below b1
  replace b2 := b2.trans (b1.mono b2.size)
  clear b1 x0 x1 HKT o2
  cases r
  · have HF := Lib.hid (Hps.sweepH_bad HV.out HBL.out HR.out)
    have r2 : (w4).frozen? ⟨w.heap.size + 1, 0, none⟩ = false := q3.frozen 0
    have r3 : (w4).frozen? ⟨w.heap.size + 1, 1, none⟩ = false := q3.frozen 1
    have r4 : (w4).cell? ⟨w.heap.size + 1, 0, none⟩ = some (.slice none 0 0) := q3.cell 0
    have r5 : (w4).cell? ⟨w.heap.size + 1, 1, none⟩ = some (.slice none 0 0) := q3.cell 1
    have r6 : (((w4).setCell ⟨w.heap.size + 1, 0, none⟩ (.slice none 0 0)).setCell ⟨w.heap.size + 1, 1, none⟩ (.slice none 0 0)).cell? ⟨w.heap.size + 1, 0, none⟩ = some (.slice none 0 0) := ((q3.put 0 (.slice none 0 0)).put 1 (.slice none 0 0)).cell 0
    have r7 : (((w4).setCell ⟨w.heap.size + 1, 0, none⟩ (.slice none 0 0)).setCell ⟨w.heap.size + 1, 1, none⟩ (.slice none 0 0)).cell? ⟨w.heap.size + 1, 1, none⟩ = some (.slice none 0 0) := ((q3.put 0 (.slice none 0 0)).put 1 (.slice none 0 0)).cell 1
    have D := Lib.hid (OwnH.out (w := w) (g := w.heap.size + 1) (own_zeroH w4 w4.heap.size (Nat.le_refl _)) (by exact q3.lt) (b2) (by omega))
    clear q1 q3 s2 hT2 b2
    go_wp2_with fail
    exact bodyPost_ret (v := .tuple #[.agg #[.slice none 0 0, .slice none 0 0], .int .i64 (-1)]) (by simp [results, Tryd.results26, go_sem, *]) rfl ⟨_, _, by rw [HF.out], by rw [HF.out]; exact D.out.1, D.out.2⟩
  have HF := Lib.hid (Hps.sweepH_ok HV.out HBL.out HR.out)
  have x0 : w4.cell? ⟨w.heap.size, 0, none⟩ = some (.slice A n c) := q1.cell 0
  have x1 : w4.cell? ⟨w.heap.size, 1, none⟩ = some (.slice R m d) := q1.cell 1
  have hrl := q3.lt
  go_wp2_with fail
  refine (sweeperOf_any A R n c m d h w4 s2 (by omega) (by omega) H3.out).mono ?_
  rintro e w5 ⟨vc, vr, vk, rfl, oc, b5⟩
  obtain ⟨rv, S⟩ := SwSt.of oc b5
  obtain ⟨A5, n5, c5, R5, m5, d5, K5, p5, q5, rfl, rfl, rfl⟩ := oc.slices
  have Q3 := Lib.hid q3
  have B2 := Lib.hid b2
  have HT := Lib.hid hT2
  clear oc b5 x0 x1 q1 q3 b2 s2 hT2
  go_upto_region 7 with fail
  generalize w5.alloc (.cells #[.slice A5 n5 c5, .slice R5 m5 d5, .slice K5 p5 q5] 104) = w6 at S ⊢
  generalize w5.heap.size = b at S ⊢
  have HSW := Lib.hid (sweep_any [] w4 w6 b _ _ rv h _ bs HT.out S HBL.out (by have := HLC.out; omega) (Hps.valid_zero HV.out))
  rw [HM.out, HBL.out] at HSW
  obtain ⟨fr, hfr⟩ : ∃ fr, Hps.freedTo h.cs bs h.cs.length = fr := ⟨_, rfl⟩
  rw [hfr] at HF HSW
  clear S hfr
  go_wp2_with fail
  refine HSW.out.mono ?_
  rintro e w7 ⟨rfl, rv2, S7⟩
  have z0 : w7.cell? ⟨b, 0, none⟩ = some (.slice A5 n5 c5) := S7.c0
  have z1 : w7.cell? ⟨b, 1, none⟩ = some (.slice R5 m5 d5) := S7.c1
  have q3 := Q3.out.keep S7.low hrl
  have b2 := B2.out.trans (S7.low.mono B2.out.size)
  have hw4 := B2.out.size
  have OH := S7.ownH
  clear S7 HSW
  have r2 : (w7).frozen? ⟨w.heap.size + 1, 0, none⟩ = false := q3.frozen 0
  have r3 : (w7).frozen? ⟨w.heap.size + 1, 1, none⟩ = false := q3.frozen 1
  have r4 : (w7).cell? ⟨w.heap.size + 1, 0, none⟩ = some (.slice none 0 0) := q3.cell 0
  have r5 : (w7).cell? ⟨w.heap.size + 1, 1, none⟩ = some (.slice none 0 0) := q3.cell 1
  have r6 : (((w7).setCell ⟨w.heap.size + 1, 0, none⟩ (.slice A5 n5 c5)).setCell ⟨w.heap.size + 1, 1, none⟩ (.slice R5 m5 d5)).cell? ⟨w.heap.size + 1, 0, none⟩ = some (.slice A5 n5 c5) := ((q3.put 0 (.slice A5 n5 c5)).put 1 (.slice R5 m5 d5)).cell 0
  have r7 : (((w7).setCell ⟨w.heap.size + 1, 0, none⟩ (.slice A5 n5 c5)).setCell ⟨w.heap.size + 1, 1, none⟩ (.slice R5 m5 d5)).cell? ⟨w.heap.size + 1, 1, none⟩ = some (.slice R5 m5 d5) := ((q3.put 0 (.slice A5 n5 c5)).put 1 (.slice R5 m5 d5)).cell 1
  have D := Lib.hid (OwnH.out (w := w) (g := w.heap.size + 1) (OH) (by omega) (b2) (by omega))
  clear q3 b2 OH
  go_wp2_with fail
  exact bodyPost_ret (v := .tuple #[.agg #[.slice A5 n5 c5, .slice R5 m5 d5], .int .i64 fr]) (by simp [results, Tryd.results26, go_sem, *]) rfl ⟨_, _, by rw [HF.out], by rw [HF.out]; exact D.out.1, D.out.2⟩
end Go.Proofs.YthmddmddcdofaaaDoor

namespace Go.Proofs.YthmddmddcdofaaaDoor
open Go.RowKit
set_option maxRecDepth 100000
set_option maxHeartbeats 4000000 in
theorem collectSweep_any (A R : Option Addr) (n c m d : Nat) (h : Hp) (w : World) (hT : TzT w) (hs : HS w w.heap.size A n R m h) (hn : n ≤ 1099511627776) (hm : m ≤ 1099511627776) (hnc : n ≤ c) (hmd : m ≤ d) :
    Calls Tryd.prog 20 #[heapV A n c R m d] w (GaveHN w (Hps.collectH h).1 (Hps.collectH h).2) := by
  have B2 : Below w.heap.size w ((w.alloc (.cells #[.slice A n c, .slice R m d] 26)).alloc (.cells #[.slice none 0 0, .slice none 0 0] 26)) := ((Below.refl _ _).alloc (Nat.le_refl _) _).alloc (by simp) _
  have q1 := (Rw.new w 26 #[.slice A n c, .slice R m d]).alloc (.cells #[.slice none 0 0, .slice none 0 0] 26)
  have q2 := Rw.new (w.alloc (.cells #[.slice A n c, .slice R m d] 26)) 26 #[.slice none 0 0, .slice none 0 0]
  simp only [World.size_alloc] at q2
  have s2 := hs.up B2
  have hT2 := hT.below B2
  have hlc := hs.cells.1
  obtain ⟨bs, hbs⟩ : ∃ bs, Hps.reachH h = bs := ⟨_, rfl⟩
  have hbq : bs.length ≤ 1099511627776 := by
    rw [← hbs, Hps.reachH]
    split
    · rw [Hps.reachL_len, hlc]; exact hn
    · simp
  have HBS := Lib.hid hbs
  have HSW := Lib.hid (show Hps.sweepH h bs = Hps.collectH h by rw [← hbs]; rfl)
  obtain ⟨X, hX⟩ : ∃ X, (Hps.collectH h).1 = X := ⟨_, rfl⟩
  obtain ⟨y, hy⟩ : ∃ y, (Hps.collectH h).2 = y := ⟨_, rfl⟩
  have HX := Lib.hid hX
  have HY := Lib.hid hy
  rw [hX, hy]
  clear hs hT hbs hX hy hlc
  go_enter Tryd.func20, Tryd.ntmps20
  go_upto_region 1 with fail
  generalize (w.alloc (.cells #[.slice A n c, .slice R m d] 26)).alloc (.cells #[.slice none 0 0, .slice none 0 0] 26) = w2 at B2 q1 q2 s2 hT2 ⊢
  obtain ⟨q, hq⟩ : ∃ q, w.heap.size = q := ⟨_, rfl⟩
  rw [hq] at B2 q1 q2 ⊢
  have HQ := Lib.hid hq
  clear hq
  have hql := q1.lt
  have hrl := q2.lt
  have x0 : w2.cell? ⟨q, 0, none⟩ = some (.slice A n c) := q1.cell 0
  have x1 : w2.cell? ⟨q, 1, none⟩ = some (.slice R m d) := q1.cell 1
  have SS := Lib.hid s2
  have TT := Lib.hid hT2
  clear s2 q1 hT2
  refine wp_region_inv (by kernel_rfl) (by kernel_rfl) (fun L ac ww => ∃ t3 t4 t5 t6 t7 t8 t9 : Value, ac = { tmps := #[heapV A n c R m d, Value.pointer (some { block := q, off := 0 }), Value.pointer (some { block := q + 1, off := 0 }), t3, t4, t5, t6, t7, t8, t9], defers := [] } ∧ (L 6 = false → Below w2.heap.size w2 ww) ∧ (L 0 = true → t4 = .agg #[.slice A n c, .slice R m d]) ∧ (L 1 = true → t5 = .agg #[.slice A n c, .slice R m d]) ∧ (L 2 = true → ∃ (D : Option Addr) (e5 : Nat), t6 = .slice D bs.length e5 ∧ (L 3 = false → OS ww ww.heap.size D bs.length bs)) ∧ (L 3 = true → L 0 = true ∧ L 2 = true ∧ ∃ (A5 : Option Addr) (n5 c5 : Nat) (R5 : Option Addr) (m5 d5 : Nat), t7 = .tuple #[.agg #[.slice A5 n5 c5, .slice R5 m5 d5], .int .i64 y] ∧ (L 6 = false → OwnH ww w2.heap.size (.slice A5 n5 c5) (.slice R5 m5 d5) X)) ∧ (L 4 = true → L 3 = true ∧ ∃ (A5 : Option Addr) (n5 c5 : Nat) (R5 : Option Addr) (m5 d5 : Nat), t7 = .tuple #[.agg #[.slice A5 n5 c5, .slice R5 m5 d5], .int .i64 y] ∧ t8 = .agg #[.slice A5 n5 c5, .slice R5 m5 d5]) ∧ (L 5 = true → L 3 = true ∧ t9 = .int .i64 y) ∧ (L 6 = true → (∀ q, q < 6 → L q = true) ∧ ∃ (A5 : Option Addr) (n5 c5 : Nat) (R5 : Option Addr) (m5 d5 : Nat) (wp : World), ww = ((wp).setCell ⟨q + 1, 0, none⟩ (.slice A5 n5 c5)).setCell ⟨q + 1, 1, none⟩ (.slice R5 m5 d5) ∧ Below w2.heap.size w2 wp ∧ OwnH wp w2.heap.size (.slice A5 n5 c5) (.slice R5 m5 d5) X) ∧ (L 7 = true → L 6 = true ∧ t3 = .int .i64 y)) ?h0 ?hstep ?hdone
  case h0 => exact ⟨_, _, _, _, _, _, _, rfl, fun _ => (Below.refl _ _).drew, (fun h => absurd h Bool.false_ne_true), (fun h => absurd h Bool.false_ne_true), (fun h => absurd h Bool.false_ne_true), (fun h => absurd h Bool.false_ne_true), (fun h => absurd h Bool.false_ne_true), (fun h => absurd h Bool.false_ne_true), (fun h => absurd h Bool.false_ne_true), (fun h => absurd h Bool.false_ne_true)⟩
  case hstep =>
    rintro L ac ww i o ho hL hd ⟨t3, t4, t5, t6, t7, t8, t9, rfl, I0, f0, f1, f2, f3, f4, f5, f6, f7⟩
    have hi : i < 8 := (Array.getElem?_eq_some_iff.1 ho).1
    obtain rfl | rfl | rfl | rfl | rfl | rfl | rfl | rfl : i = 0 ∨ i = 1 ∨ i = 2 ∨ i = 3 ∨ i = 4 ∨ i = 5 ∨ i = 6 ∨ i = 7 := by omega
    · obtain rfl := Option.some.inj ho
      have hL6 : L 6 = false := by
        cases e : L 6
        · rfl
        · exact absurd ((f6 e).1 0 (by decide)) (by rw [hL]; decide)
      have J := I0 hL6
      have z0 : ww.cell? ⟨q, 0, none⟩ = some (.slice A n c) := (J.cell (p := ⟨q, 0, none⟩) hql).trans x0
      have z1 : ww.cell? ⟨q, 1, none⟩ = some (.slice R m d) := (J.cell (p := ⟨q, 1, none⟩) hql).trans x1
      refine wpOp_step rfl (fun K' hK => ?_)
      go_simp
      refine hK _ _ ?_
      exact ⟨_, _, _, _, _, _, _, rfl, (fun _ => J), (fun _ => rfl), (kp f1), (fun h => by
        obtain ⟨D, e5, e, r⟩ := f2 (upd_ne h (by decide))
        exact ⟨D, e5, e, fun h3 => r (by rw [upd_other (by decide)] at h3; exact h3)⟩), (fun h => by
        obtain ⟨l0, l2, A5, n5, c5, R5, m5, d5, e, r⟩ := f3 (upd_ne h (by decide))
        exact ⟨upd_mono l0, upd_mono l2, A5, n5, c5, R5, m5, d5, e, fun h6 => r (by rw [upd_other (by decide)] at h6; exact h6)⟩), (fun h => by
        obtain ⟨l3, r⟩ := f4 (upd_ne h (by decide))
        exact ⟨upd_mono l3, r⟩), (fun h => ⟨upd_mono (f5 (upd_ne h (by decide))).1, (f5 (upd_ne h (by decide))).2⟩), (fun h => absurd hL6 (by rw [upd_ne h (by decide)]; decide)), (fun h => absurd (f7 (upd_ne h (by decide))).1 (by rw [hL6]; decide))⟩
    · obtain rfl := Option.some.inj ho
      have hL6 : L 6 = false := by
        cases e : L 6
        · rfl
        · exact absurd ((f6 e).1 1 (by decide)) (by rw [hL]; decide)
      have J := I0 hL6
      have z0 : ww.cell? ⟨q, 0, none⟩ = some (.slice A n c) := (J.cell (p := ⟨q, 0, none⟩) hql).trans x0
      have z1 : ww.cell? ⟨q, 1, none⟩ = some (.slice R m d) := (J.cell (p := ⟨q, 1, none⟩) hql).trans x1
      refine wpOp_step rfl (fun K' hK => ?_)
      go_simp
      refine hK _ _ ?_
      exact ⟨_, _, _, _, _, _, _, rfl, (fun _ => J), (kp f0), (fun _ => rfl), (fun h => by
        obtain ⟨D, e5, e, r⟩ := f2 (upd_ne h (by decide))
        exact ⟨D, e5, e, fun h3 => r (by rw [upd_other (by decide)] at h3; exact h3)⟩), (fun h => by
        obtain ⟨l0, l2, A5, n5, c5, R5, m5, d5, e, r⟩ := f3 (upd_ne h (by decide))
        exact ⟨upd_mono l0, upd_mono l2, A5, n5, c5, R5, m5, d5, e, fun h6 => r (by rw [upd_other (by decide)] at h6; exact h6)⟩), (fun h => by
        obtain ⟨l3, r⟩ := f4 (upd_ne h (by decide))
        exact ⟨upd_mono l3, r⟩), (fun h => ⟨upd_mono (f5 (upd_ne h (by decide))).1, (f5 (upd_ne h (by decide))).2⟩), (fun h => absurd hL6 (by rw [upd_ne h (by decide)]; decide)), (fun h => absurd (f7 (upd_ne h (by decide))).1 (by rw [hL6]; decide))⟩
    · obtain rfl := Option.some.inj ho
      have g1 := f1 (hd ⟨1, .data⟩ (by simp) rfl)
      subst g1
      have hL6 : L 6 = false := by
        cases e : L 6
        · rfl
        · exact absurd ((f6 e).1 2 (by decide)) (by rw [hL]; decide)
      have J := I0 hL6
      refine wpOp_step rfl (fun K' hK => ?_)
      go_simp
      refine (reachable_any A R n c m d h ww (SS.out.up J) hn hm hnc hmd).mono ?_
      rw [HBS.out]
      rintro e w' ⟨vo, rfl, oo, b5⟩
      obtain ⟨D, e5, rfl, -⟩ := oo.form
      refine hK _ _ ?_
      exact ⟨_, _, _, _, _, _, _, rfl, (fun _ => J.trans (b5.mono J.size)), (kp f0), (kp f1), (fun _ => ⟨D, e5, rfl, fun _ => oo.reads⟩), (fun h => absurd (f3 (upd_ne h (by decide))).2.1 (by rw [hL]; decide)), (fun h => by
        obtain ⟨l3, r⟩ := f4 (upd_ne h (by decide))
        exact ⟨upd_mono l3, r⟩), (fun h => ⟨upd_mono (f5 (upd_ne h (by decide))).1, (f5 (upd_ne h (by decide))).2⟩), (fun h => absurd hL6 (by rw [upd_ne h (by decide)]; decide)), (fun h => absurd (f7 (upd_ne h (by decide))).1 (by rw [hL6]; decide))⟩
    · obtain rfl := Option.some.inj ho
      have g0 := f0 (hd ⟨0, .data⟩ (by simp) rfl)
      have g2 := f2 (hd ⟨2, .data⟩ (by simp) rfl)
      subst g0
      have hL6 : L 6 = false := by
        cases e : L 6
        · rfl
        · exact absurd ((f6 e).1 3 (by decide)) (by rw [hL]; decide)
      have J := I0 hL6
      have l0 := Lib.hid (hd ⟨0, .data⟩ (by simp) rfl)
      have l2 := Lib.hid (hd ⟨2, .data⟩ (by simp) rfl)
      obtain ⟨D, e5, rfl, r2⟩ := g2
      have ho := r2 hL
      refine wpOp_step rfl (fun K' hK => ?_)
      go_simp
      refine (sweepCells_any A R D n c m d bs.length e5 h bs ww (TT.out.below J) (SS.out.up J) ho hn hm hbq hnc hmd).mono ?_
      rw [HSW.out, HX.out, HY.out]
      rintro e w' ⟨vc, vr, rfl, ow, b5⟩
      obtain ⟨A5, n5, c5, R5, m5, d5, rfl, rfl⟩ := ow.slices
      refine hK _ _ ?_
      exact ⟨_, _, _, _, _, _, _, rfl, (fun _ => J.trans (b5.mono J.size)), (kp f0), (kp f1), (fun _ => ⟨D, e5, rfl, fun h => absurd h (by rw [upd_self]; decide)⟩), (fun _ => ⟨upd_mono l0.out, upd_mono l2.out, A5, n5, c5, R5, m5, d5, rfl, fun _ => ow.base J.size⟩), (fun h => absurd (f4 (upd_ne h (by decide))).1 (by rw [hL]; decide)), (fun h => absurd (f5 (upd_ne h (by decide))).1 (by rw [hL]; decide)), (fun h => absurd hL6 (by rw [upd_ne h (by decide)]; decide)), (fun h => absurd (f7 (upd_ne h (by decide))).1 (by rw [hL6]; decide))⟩
    · obtain rfl := Option.some.inj ho
      have g3 := f3 (hd ⟨3, .data⟩ (by simp) rfl)
      have hL6 : L 6 = false := by
        cases e : L 6
        · rfl
        · exact absurd ((f6 e).1 4 (by decide)) (by rw [hL]; decide)
      have J := I0 hL6
      have l3 := Lib.hid (hd ⟨3, .data⟩ (by simp) rfl)
      obtain ⟨l0, l2, A5, n5, c5, R5, m5, d5, rfl, r3⟩ := g3
      have L0 := Lib.hid l0
      have L2 := Lib.hid l2
      clear l0 l2
      refine wpOp_step rfl (fun K' hK => ?_)
      go_simp
      refine hK _ _ ?_
      exact ⟨_, _, _, _, _, _, _, rfl, (fun _ => J), (kp f0), (kp f1), (fun h => by
        obtain ⟨D, e5, e, r⟩ := f2 (upd_ne h (by decide))
        exact ⟨D, e5, e, fun h3 => r (by rw [upd_other (by decide)] at h3; exact h3)⟩), (fun _ => ⟨upd_mono L0.out, upd_mono L2.out, A5, n5, c5, R5, m5, d5, rfl, fun h6 => r3 (by rw [upd_other (by decide)] at h6; exact h6)⟩), (fun _ => ⟨upd_mono l3.out, A5, n5, c5, R5, m5, d5, rfl, rfl⟩), (fun h => ⟨upd_mono (f5 (upd_ne h (by decide))).1, (f5 (upd_ne h (by decide))).2⟩), (fun h => absurd hL6 (by rw [upd_ne h (by decide)]; decide)), (fun h => absurd (f7 (upd_ne h (by decide))).1 (by rw [hL6]; decide))⟩
    · obtain rfl := Option.some.inj ho
      have g3 := f3 (hd ⟨3, .data⟩ (by simp) rfl)
      have hL6 : L 6 = false := by
        cases e : L 6
        · rfl
        · exact absurd ((f6 e).1 5 (by decide)) (by rw [hL]; decide)
      have J := I0 hL6
      have l3 := Lib.hid (hd ⟨3, .data⟩ (by simp) rfl)
      obtain ⟨l0, l2, A5, n5, c5, R5, m5, d5, rfl, r3⟩ := g3
      have L0 := Lib.hid l0
      have L2 := Lib.hid l2
      clear l0 l2
      refine wpOp_step rfl (fun K' hK => ?_)
      go_simp
      refine hK _ _ ?_
      exact ⟨_, _, _, _, _, _, _, rfl, (fun _ => J), (kp f0), (kp f1), (fun h => by
        obtain ⟨D, e5, e, r⟩ := f2 (upd_ne h (by decide))
        exact ⟨D, e5, e, fun h3 => r (by rw [upd_other (by decide)] at h3; exact h3)⟩), (fun _ => ⟨upd_mono L0.out, upd_mono L2.out, A5, n5, c5, R5, m5, d5, rfl, fun h6 => r3 (by rw [upd_other (by decide)] at h6; exact h6)⟩), (fun h => by
        obtain ⟨l3, r⟩ := f4 (upd_ne h (by decide))
        exact ⟨upd_mono l3, r⟩), (fun _ => ⟨upd_mono l3.out, rfl⟩), (fun h => absurd hL6 (by rw [upd_ne h (by decide)]; decide)), (fun h => absurd (f7 (upd_ne h (by decide))).1 (by rw [hL6]; decide))⟩
    · obtain rfl := Option.some.inj ho
      have g4 := f4 (hd ⟨4, .data⟩ (by simp) rfl)
      have lq : Hid (∀ q, q < 6 → L q = true) := Lib.hid (by
        intro q hq
        obtain rfl | rfl | rfl | rfl | rfl | rfl : q = 0 ∨ q = 1 ∨ q = 2 ∨ q = 3 ∨ q = 4 ∨ q = 5 := by omega
        · exact hd ⟨0, .phase⟩ (by simp) rfl
        · exact hd ⟨1, .phase⟩ (by simp) rfl
        · exact hd ⟨2, .phase⟩ (by simp) rfl
        · exact hd ⟨3, .phase⟩ (by simp) rfl
        · exact hd ⟨4, .phase⟩ (by simp) rfl
        · exact hd ⟨5, .phase⟩ (by simp) rfl)
      have J := I0 hL
      obtain ⟨-, A5, n5, c5, R5, m5, d5, e7, e8⟩ := g4
      subst e8
      obtain ⟨l0, l2, A6, n6, c6, R6, m6, d6, e7b, r3⟩ := f3 (lq.out 3 (by decide))
      have L0 := Lib.hid l0
      have L2 := Lib.hid l2
      clear l0 l2
      have oc := r3 hL
      rw [e7] at e7b
      injection e7b with e7b
      simp at e7b
      obtain ⟨⟨rfl, rfl, rfl⟩, rfl, rfl, rfl⟩ := e7b
      subst e7
      have P := q2.keep J hrl
      have zf0 : ww.frozen? ⟨q + 1, 0, none⟩ = false := P.frozen 0
      have zf1 : ww.frozen? ⟨q + 1, 1, none⟩ = false := P.frozen 1
      have zc0 : ww.cell? ⟨q + 1, 0, none⟩ = some (.slice none 0 0) := P.cell 0
      have zc1 : ww.cell? ⟨q + 1, 1, none⟩ = some (.slice none 0 0) := P.cell 1
      refine wpOp_step rfl (fun K' hK => ?_)
      go_simp
      refine hK _ _ ?_
      exact ⟨_, _, _, _, _, _, _, rfl, (fun h => absurd h (by rw [upd_self]; decide)), (kp f0), (kp f1), (fun h => by
        obtain ⟨D, e5, e, r⟩ := f2 (upd_ne h (by decide))
        exact ⟨D, e5, e, fun h3 => absurd (lq.out 3 (by decide)) (by rw [upd_other (by decide)] at h3; rw [h3]; decide)⟩), (fun _ => ⟨upd_mono L0.out, upd_mono L2.out, A5, n5, c5, R5, m5, d5, rfl, fun h => absurd h (by rw [upd_self]; decide)⟩), (fun _ => ⟨upd_mono (lq.out 3 (by decide)), A5, n5, c5, R5, m5, d5, rfl, rfl⟩), (fun h => ⟨upd_mono (f5 (upd_ne h (by decide))).1, (f5 (upd_ne h (by decide))).2⟩), (fun _ => ⟨fun q hq => upd_mono (lq.out q hq), A5, n5, c5, R5, m5, d5, ww, rfl, J, oc⟩), (fun h => absurd (f7 (upd_ne h (by decide))).1 (by rw [hL]; decide))⟩
    · obtain rfl := Option.some.inj ho
      have g5 := f5 (hd ⟨5, .data⟩ (by simp) rfl)
      have l6 := Lib.hid (hd ⟨6, .chain⟩ (by simp) rfl)
      obtain ⟨-, rfl⟩ := g5
      refine wpOp_step rfl (fun K' hK => ?_)
      go_simp
      refine hK _ _ ?_
      exact ⟨_, _, _, _, _, _, _, rfl, (fun h => absurd l6.out (by rw [upd_other (by decide)] at h; rw [h]; decide)), (kp f0), (kp f1), (fun h => by
        obtain ⟨D, e5, e, r⟩ := f2 (upd_ne h (by decide))
        exact ⟨D, e5, e, fun h3 => r (by rw [upd_other (by decide)] at h3; exact h3)⟩), (fun h => by
        obtain ⟨l0, l2, A5, n5, c5, R5, m5, d5, e, r⟩ := f3 (upd_ne h (by decide))
        exact ⟨upd_mono l0, upd_mono l2, A5, n5, c5, R5, m5, d5, e, fun h6 => r (by rw [upd_other (by decide)] at h6; exact h6)⟩), (fun h => by
        obtain ⟨l3, r⟩ := f4 (upd_ne h (by decide))
        exact ⟨upd_mono l3, r⟩), (fun _ => ⟨upd_mono (f5 (hd ⟨5, .data⟩ (by simp) rfl)).1, rfl⟩), (fun h => by
        obtain ⟨a1, a2⟩ := f6 (upd_ne h (by decide))
        exact ⟨fun q hq => upd_mono (a1 q hq), a2⟩), (fun _ => ⟨upd_mono l6.out, rfl⟩)⟩
  case hdone =>
    rintro L ac ww hall ⟨t3, t4, t5, t6, t7, t8, t9, rfl, I0, f0, f1, f2, f3, f4, f5, f6, f7⟩
    have e0 := f0 (hall 0 (by decide))
    have e1 := f1 (hall 1 (by decide))
    have e2 := f2 (hall 2 (by decide))
    have e3 := f3 (hall 3 (by decide))
    have e4 := f4 (hall 4 (by decide))
    have e5 := f5 (hall 5 (by decide))
    have e6 := f6 (hall 6 (by decide))
    have e7 := f7 (hall 7 (by decide))
    clear f0 f1 f2 f3 f4 f5 f6 f7
    obtain ⟨-, A5, n5, c5, R5, m5, d5, wp, rfl, r1, r9⟩ := e6
    obtain ⟨-, rfl⟩ := e7
    have P := q2.keep r1 hrl
    have P4 := (P.put 0 (.slice A5 n5 c5)).put 1 (.slice R5 m5 d5)
    have s8 : (((wp).setCell ⟨q + 1, 0, none⟩ (.slice A5 n5 c5)).setCell ⟨q + 1, 1, none⟩ (.slice R5 m5 d5)).cell? ⟨q + 1, 0, none⟩ = some (.slice A5 n5 c5) := P4.cell 0
    have s9 : (((wp).setCell ⟨q + 1, 0, none⟩ (.slice A5 n5 c5)).setCell ⟨q + 1, 1, none⟩ (.slice R5 m5 d5)).cell? ⟨q + 1, 1, none⟩ = some (.slice R5 m5 d5) := P4.cell 1
    have HW := HQ.out
    have D := Lib.hid (OwnH.out (w := w) (g := q + 1) r9 (by omega) (by rw [HW]; exact B2.trans (r1.mono (by have := B2.size; omega))) (by omega))
    clear I0 e0 e1 e2 e3 e4 e5 hall r1 r9 P P4
    go_wp2_with fail
    exact bodyPost_ret (v := .tuple #[.agg #[.slice A5 n5 c5, .slice R5 m5 d5], .int .i64 y]) (by simp [results, Tryd.results20, go_sem, *]) rfl ⟨_, _, rfl, D.out.1, D.out.2⟩
end Go.Proofs.YthmddmddcdofaaaDoor

namespace Go.Proofs.YthmddmddcdofaaaDoor
open Go.RowKit
set_option maxRecDepth 100000
theorem tiny_cs (h : Hp) : Tiny (Hps.collectH h).1 := Hps.collect_few h
theorem size_small {h : Hp} (hz : sizeH h ≤ 1048576) : h.cs.length ≤ 1048576 ∧ h.rt.length ≤ 1048576 ∧ ∀ cl ∈ h.cs, cl.r.length ≤ 1048576 := by
  unfold sizeH at hz
  exact ⟨by omega, by omega, fun cl hcl => by have := refN_mem hcl; omega⟩
theorem OwnHx.apart_box {w : World} {base g : Nat} {vc vr : Value} {rvs : List Value} {h : Hp} {cs : Array Value} (o : OwnHx w base vc vr rvs h) (hr : Rw w g 26 cs) : Apart (some g) (vc :: vr :: rvs) := fun v hv => by
  right
  intro e
  simp only [List.mem_cons] at hv
  rcases hv with rfl | rfl | hv
  · exact row_type o.row hr (by decide) e.symm
  · exact row_type o.roots hr (by decide) e.symm
  · obtain ⟨i, hi⟩ := List.mem_iff_getElem?.1 hv
    have hlt := (List.getElem?_eq_some_iff.1 hi).1
    have hc := List.getElem?_eq_getElem (show i < h.cs.length by rw [← o.len]; exact hlt)
    exact row_type (o.refs i _ v hc hi) hr (by decide) e.symm
theorem OwnHx.put2 {w : World} {base g : Nat} {vc vr : Value} {rvs : List Value} {h : Hp} {cs : Array Value} (o : OwnHx w base vc vr rvs h) (hr : Rw w g 26 cs) (x y : Value) : OwnHx ((w.setCell ⟨g, 0, none⟩ x).setCell ⟨g, 1, none⟩ y) base vc vr rvs h :=
  (o.far (only_put (g := g) (World.grownBy.refl _ _) 0 x) (o.apart_box hr)).far (only_put (g := g) (World.grownBy.refl _ _) 1 y) (o.apart_box hr)
set_option maxHeartbeats 8000000 in
theorem exactCollectSweep_walk (A R : Option Addr) (n c m d : Nat) (h : Hp) (w : World) (hT : TzT w) (hs : HS w w.heap.size A n R m h) (hn : n ≤ 9223372036854775807) (hm : m ≤ 9223372036854775807) (hb : ∀ cl ∈ h.cs, cl.r.length ≤ 9223372036854775807) :
    Calls Tryd.prog 10 #[heapV A n c R m d] w fun e w' => e = .returned (.bool true) ∧ Below w.heap.size w w' := by
  have HTZ := Lib.hid hT
  clear hT
  have b0 : Below w.heap.size w (w.alloc (.cells #[.slice A n c, .slice R m d] 60)) := (Below.refl _ _).alloc (Nat.le_refl _) _
  have s0 := hs.up b0
  have q0 := Rw.new w 60 #[.slice A n c, .slice R m d]
  have hlc := hs.cells.1
  have hlr := hs.roots.1
  go_enter Tryd.func10, Tryd.ntmps10
  go_wp2_with fail
  refine (szHeap_any _ _ _ _ _ _ h _ _ s0 (by omega) (by omega) hn hm hb).mono ?_
  rintro e w1 ⟨rfl, b1⟩
  replace q0 := q0.keep b1 q0.lt
  have bbk := b0.trans (b1.mono b0.size)
  clear b1 s0 b0
  by_cases hz : sizeH h ≤ 1048576
  case neg =>
    have HL : leftOf 1048576 (sizeH h) = -1 := by rw [leftOf, if_neg (by omega)]
    rw [HL]
    go_wp2_with fail
    go_ret
    exact ⟨rfl, bbk⟩
  have HL : leftOf 1048576 (sizeH h) = 1048576 - (sizeH h : Int) := by rw [leftOf, if_pos (by omega)]
  rw [HL]
  obtain ⟨z1, z2, z3⟩ := size_small hz
  rw [hlc] at z1
  rw [hlr] at z2
  have Z3 := Lib.hid (fun cl (hcl : cl ∈ h.cs) => show cl.r.length ≤ 1099511627776 by have := z3 cl hcl; omega)
  obtain ⟨lz, hlz⟩ : ∃ lz : Int, (1048576 : Int) - (sizeH h : Int) = lz := ⟨_, rfl⟩
  have hlz0 : decide (lz < 0) = false := decide_eq_false (by omega)
  rw [hlz]
  obtain ⟨ga, hga⟩ : ∃ ga, w.heap.size = ga := ⟨_, rfl⟩
  rw [hga] at q0 ⊢
  have HGA := Lib.hid hga
  have hgl := q0.lt
  have xa0 : w1.cell? ⟨ga, 0, none⟩ = some (.slice A n c) := q0.cell 0
  have xa1 : w1.cell? ⟨ga, 1, none⟩ = some (.slice R m d) := q0.cell 1
  have HZX := Lib.hid (show sizeH h ≤ 1000000000 by omega)
  clear HL hlz hz z3 hb hlc hlr hga
  have T := tiny_cs h
  obtain ⟨hh, hhe⟩ : ∃ hh, (Hps.collectH h).1 = hh := ⟨_, rfl⟩
  obtain ⟨vb, hvb⟩ : ∃ vb, (Hps.collectH h).2 = vb := ⟨_, rfl⟩
  rw [hhe] at T
  have HH := Lib.hid hhe
  have HVB := Lib.hid hvb
  obtain ⟨nn, hnn⟩ : ∃ nn, hh.cs.length = nn := ⟨_, rfl⟩
  obtain ⟨mm, hmm⟩ : ∃ mm, hh.rt.length = mm := ⟨_, rfl⟩
  have hn40 : nn ≤ 40 := by have := T.1; omega
  have hm4 : mm ≤ 4 := by have := T.2.1; omega
  have H3 := Lib.hid (fun cl (hcl : cl ∈ hh.cs) => show cl.r.length ≤ 1099511627776 by have := T.2.2 cl hcl; omega)
  have HSZ := Lib.hid T.size
  have E0 := Lib.hid hnn
  have E4 := Lib.hid hmm
  have EA := Lib.hid hs.cells.1
  have EB := Lib.hid hs.roots.1
  have hvv : (vb != vb) = false := by simp
  obtain ⟨kv, hkv⟩ : ∃ kv, markKH 1 hh = kv := ⟨_, rfl⟩
  have hk0 : decide (kv < 0) = false := by
    rw [← hkv]
    refine decide_eq_false ?_
    simp only [markKH, mkK]
    omega
  have hkk : (kv != kv) = false := by simp
  obtain ⟨kx, hkx⟩ : ∃ kx, markKH 1 h = kx := ⟨_, rfl⟩
  have hx0 : decide (kx < 0) = false := by
    rw [← hkx]
    refine decide_eq_false ?_
    simp only [markKH, mkK]
    omega
  have HKV := Lib.hid hkv
  have HKX := Lib.hid hkx
  clear T hhe hvb hnn hmm hkv hkx
  have s1 := hs.up bbk
  go_wp2_with fail
  refine (toHeap_any _ _ _ _ _ _ h _ s1 (by omega) (by omega) Z3.out).mono ?_
  rintro e w2 ⟨u1, u2, rfl, ⟨rv2, ow2⟩, b2⟩
  have r2 := ow2.reads
  replace q0 := q0.keep b2 q0.lt
  replace bbk := bbk.trans (b2.mono bbk.size)
  clear b2 ow2 s1 xa0 xa1
  go_wp2_with fail
  refine (mCollectSweep_any _ _ _ _ _ _ h _ r2 (by omega) (by omega)).mono ?_
  rw [HH.out, HVB.out]
  rintro e w3 ⟨vc0, vr0, rfl, ⟨rvs0, own0⟩, b2⟩
  obtain ⟨A0, c0, R0, d0, rfl, rfl, -⟩ := own0.form
  rw [E0.out, E4.out] at own0 ⊢
  have bA : Below w3.heap.size w3 (w3.alloc (.cells #[.slice A0 nn c0, .slice R0 mm d0] 26)) := (Below.refl _ _).alloc (Nat.le_refl _) _
  have o0 := own0.below bA (Nat.le_refl _)
  have x0 := Rw.new w3 26 #[.slice A0 nn c0, .slice R0 mm d0]
  replace q0 := (q0.keep b2 q0.lt).alloc (.cells #[.slice A0 nn c0, .slice R0 mm d0] 26)
  have bb1 := (bbk.trans (b2.mono bbk.size)).trans (bA.mono (bbk.trans (b2.mono bbk.size)).size)
  clear own0 bA b2 r2 bbk
  go_upto_region 6 with fail
  generalize w3.alloc (.cells #[.slice A0 nn c0, .slice R0 mm d0] 26) = w5 at o0 x0 q0 bb1 ⊢
  generalize w3.heap.size = g5 at x0 ⊢
  have hga5 := q0.lt
  have hp5 := x0.lt
  have hs5 := bb1.size
  have s1 := hs.up bb1
  have SA := Lib.hid (fun u (hu : u ∈ (Value.slice A0 nn c0) :: (Value.slice R0 mm d0) :: rvs0) k (hk : u.ownBlock = some k) => (o0.blocks hu hk).2)
  have xa0 : w5.cell? ⟨ga, 0, none⟩ = some (.slice A n c) := q0.cell 0
  have xa1 : w5.cell? ⟨ga, 1, none⟩ = some (.slice R m d) := q0.cell 1
  go_wp2_with fail
  refine (toHeap_any _ _ _ _ _ _ h _ s1 (by omega) (by omega) Z3.out).mono ?_
  rintro e w6 ⟨g1, g2, rfl, ⟨rvsx, own⟩, b2⟩
  have bA : Below w6.heap.size w6 (w6.alloc (.cells #[.slice (some ⟨g1, 0, none⟩) n n, .slice (some ⟨g2, 0, none⟩) m m] 26)) := (Below.refl _ _).alloc (Nat.le_refl _) _
  have rx := own.reads.up bA
  have ox := own.below bA (Nat.le_refl _)
  have qx := Rw.new w6 26 #[.slice (some ⟨g1, 0, none⟩) n n, .slice (some ⟨g2, 0, none⟩) m m]
  replace q0 := (q0.keep b2 q0.lt).alloc (.cells #[.slice (some ⟨g1, 0, none⟩) n n, .slice (some ⟨g2, 0, none⟩) m m] 26)
  have bbk := (bb1.trans (b2.mono bb1.size)).trans (bA.mono (bb1.trans (b2.mono bb1.size)).size)
  have hwx := b2.size
  replace x0 := (x0.keep b2 x0.lt).alloc (.cells #[.slice (some ⟨g1, 0, none⟩) n n, .slice (some ⟨g2, 0, none⟩) m m] 26)
  replace o0 := (o0.below b2 (Nat.le_refl _)).below bA (Nat.le_refl _)
  have SX := Lib.hid (fun u (hu : u ∈ (Value.slice (some ⟨g1, 0, none⟩) n n) :: (Value.slice (some ⟨g2, 0, none⟩) m m) :: rvsx) k (hk : u.ownBlock = some k) => own.blocks hu hk)
  clear own bA b2 s1 xa0 xa1
  go_upto_region 7 with fail
  generalize w6.alloc (.cells #[.slice (some ⟨g1, 0, none⟩) n n, .slice (some ⟨g2, 0, none⟩) m m] 26) = w7 at rx ox qx q0 bbk x0 o0 ⊢
  obtain ⟨gx, hgxe⟩ : ∃ gx, w6.heap.size = gx := ⟨_, rfl⟩
  rw [hgxe] at qx hwx SX ⊢
  have hgx := qx.lt
  have hgl := q0.lt
  have xc0 : w7.cell? ⟨gx, 0, none⟩ = some (.slice (some ⟨g1, 0, none⟩) n n) := qx.cell 0
  have xc1 : w7.cell? ⟨gx, 1, none⟩ = some (.slice (some ⟨g2, 0, none⟩) m m) := qx.cell 1
  clear hgxe bb1
  go_wp2_with fail
  refine (collectSweep_any _ _ _ _ _ _ h _ (HTZ.out.below bbk) rx (by omega) (by omega) (Nat.le_refl _) (Nat.le_refl _)).mono ?_
  rw [HH.out, HVB.out]
  rintro e w20 ⟨vc1, vr1, rfl, ⟨rvs1, own1⟩, b2⟩
  obtain ⟨A1, c1, R1, d1, rfl, rfl, -⟩ := own1.form
  rw [E0.out, E4.out] at own1 ⊢
  have bA : Below w20.heap.size w20 (w20.alloc (.cells #[.slice A1 nn c1, .slice R1 mm d1] 26)) := (Below.refl _ _).alloc (Nat.le_refl _) _
  have o1 := own1.below bA (Nat.le_refl _)
  have x1 := Rw.new w20 26 #[.slice A1 nn c1, .slice R1 mm d1]
  have hg9 := b2.size
  have hw7 := hgx
  replace q0 := (q0.keep b2 q0.lt).alloc (.cells #[.slice A1 nn c1, .slice R1 mm d1] 26)
  replace qx := (qx.keep b2 qx.lt).alloc (.cells #[.slice A1 nn c1, .slice R1 mm d1] 26)
  replace x0 := (x0.keep b2 x0.lt).alloc (.cells #[.slice A1 nn c1, .slice R1 mm d1] 26)
  replace o0 := (o0.below b2 (Nat.le_refl _)).below bA (Nat.le_refl _)
  replace ox := (ox.below b2 (Nat.le_refl _)).below bA (Nat.le_refl _)
  replace bbk := (bbk.trans (b2.mono bbk.size)).trans (bA.mono (bbk.trans (b2.mono bbk.size)).size)
  clear own1 bA b2 rx xc0 xc1 hgl hgx
  go_upto_region 8 with fail
  generalize w20.alloc (.cells #[.slice A1 nn c1, .slice R1 mm d1] 26) = w8 at o0 o1 x0 x1 ox qx q0 bbk ⊢
  generalize w20.heap.size = g9 at x1 hg9 ⊢
  have SB := Lib.hid (fun u (hu : u ∈ (Value.slice A1 nn c1) :: (Value.slice R1 mm d1) :: rvs1) k (hk : u.ownBlock = some k) => o1.blocks hu hk)
  have S01 := Lib.hid (fun v (hv : v ∈ (Value.slice A0 nn c0) :: (Value.slice R0 mm d0) :: rvs0) u (hu : u ∈ (Value.slice A1 nn c1) :: (Value.slice R1 mm d1) :: rvs1) => show v.ownBlock = none ∨ v.ownBlock ≠ u.ownBlock by
    cases e : v.ownBlock with
    | none => exact .inl rfl
    | some k =>
      right
      intro e'
      have h1 := SA.out v hv k e
      have h2 := (SB.out u hu k e'.symm).1
      omega)
  have S0X := Lib.hid (fun v (hv : v ∈ (Value.slice A0 nn c0) :: (Value.slice R0 mm d0) :: rvs0) u (hu : u ∈ (Value.slice (some ⟨g1, 0, none⟩) n n) :: (Value.slice (some ⟨g2, 0, none⟩) m m) :: rvsx) => show v.ownBlock = none ∨ v.ownBlock ≠ u.ownBlock by
    cases e : v.ownBlock with
    | none => exact .inl rfl
    | some k =>
      right
      intro e'
      have h1 := SA.out v hv k e
      have h2 := (SX.out u hu k e'.symm).1
      omega)
  have S1X := Lib.hid (fun v (hv : v ∈ (Value.slice A1 nn c1) :: (Value.slice R1 mm d1) :: rvs1) u (hu : u ∈ (Value.slice (some ⟨g1, 0, none⟩) n n) :: (Value.slice (some ⟨g2, 0, none⟩) m m) :: rvsx) => show v.ownBlock = none ∨ v.ownBlock ≠ u.ownBlock by
    cases e : v.ownBlock with
    | none => exact .inl rfl
    | some k =>
      right
      intro e'
      have h1 := (SB.out v hv k e).1
      have h2 := (SX.out u hu k e'.symm).2
      omega)
  have y0 : w8.cell? ⟨g5, 0, none⟩ = some (.slice A0 nn c0) := x0.cell 0
  have y1 : w8.cell? ⟨g5, 1, none⟩ = some (.slice R0 mm d0) := x0.cell 1
  have y2 : w8.cell? ⟨g9, 0, none⟩ = some (.slice A1 nn c1) := x1.cell 0
  have y3 : w8.cell? ⟨g9, 1, none⟩ = some (.slice R1 mm d1) := x1.cell 1
  go_wp2_with fail
  refine (eqHeap_any _ _ _ _ _ _ _ _ _ _ _ _ hh hh _ o1.reads o0.reads (by omega) (by omega) (by omega) (by omega) H3.out H3.out).mono ?_
  rw [decide_eq_true rfl]
  rintro e w9 ⟨rfl, b9⟩
  replace o0 := o0.below b9 (Nat.le_refl _)
  replace o1 := o1.below b9 (Nat.le_refl _)
  replace ox := ox.below b9 (Nat.le_refl _)
  replace x0 := x0.keep b9 x0.lt
  replace x1 := x1.keep b9 x1.lt
  replace qx := qx.keep b9 qx.lt
  replace q0 := q0.keep b9 q0.lt
  replace bbk := bbk.trans (b9.mono bbk.size)
  clear b9 y0 y1 y2 y3
  have rx := ox.reads
  have hgx := qx.lt
  have hgl := q0.lt
  have xa0 : w9.cell? ⟨ga, 0, none⟩ = some (.slice A n c) := q0.cell 0
  have xa1 : w9.cell? ⟨ga, 1, none⟩ = some (.slice R m d) := q0.cell 1
  have xc0 : w9.cell? ⟨gx, 0, none⟩ = some (.slice (some ⟨g1, 0, none⟩) n n) := qx.cell 0
  have xc1 : w9.cell? ⟨gx, 1, none⟩ = some (.slice (some ⟨g2, 0, none⟩) m m) := qx.cell 1
  go_upto_region 10 with fail
  refine wp_region_inv (by kernel_rfl) (by kernel_rfl) (fun L ac ww => ∃ t41 t42 t43 t44 t45 : Value, ac = { tmps := #[heapV A n c R m d, Value.pointer (some { block := ga, off := 0 }), Value.bool false, Value.int IntKind.i64 lz, Value.pointer (some { block := g5, off := 0 }), Value.int IntKind.i64 vb, Value.pointer (some { block := gx, off := 0 }), Value.pointer (some { block := g9, off := 0 }), Value.int IntKind.i64 vb, undef, undef, undef, undef, undef, Value.agg #[Value.slice A n c, Value.slice R m d], Value.int IntKind.i64 1048576, Value.int IntKind.i64 lz, Value.int IntKind.i64 lz, Value.bool false, Value.tuple #[Value.agg #[Value.slice A0 nn c0, Value.slice R0 mm d0], Value.int IntKind.i64 vb], Value.agg #[Value.slice A n c, Value.slice R m d], heapV (some { block := u1, off := 0 }) n n (some { block := u2, off := 0 }) m m, Value.tuple #[Value.agg #[Value.slice A0 nn c0, Value.slice R0 mm d0], Value.int IntKind.i64 vb], Value.agg #[Value.slice A0 nn c0, Value.slice R0 mm d0], Value.int IntKind.i64 vb, Value.agg #[Value.slice A n c, Value.slice R m d], heapV (some { block := g1, off := 0 }) n n (some { block := g2, off := 0 }) m m, Value.tuple #[Value.agg #[Value.slice A1 nn c1, Value.slice R1 mm d1], Value.int IntKind.i64 vb], Value.agg #[Value.slice (some { block := g1, off := 0 }) n n, Value.slice (some { block := g2, off := 0 }) m m], Value.tuple #[Value.agg #[Value.slice A1 nn c1, Value.slice R1 mm d1], Value.int IntKind.i64 vb], Value.agg #[Value.slice A1 nn c1, Value.slice R1 mm d1], Value.int IntKind.i64 vb, Value.agg #[Value.slice A1 nn c1, Value.slice R1 mm d1], Value.agg #[Value.slice A0 nn c0, Value.slice R0 mm d0], Value.bool true, Value.bool false, Value.bool false, Value.int IntKind.i64 vb, Value.int IntKind.i64 vb, Value.bool false, Value.bool false, t41, t42, t43, t44, t45, undef, undef, undef, undef, undef, undef, undef, undef, undef, undef, undef, undef, undef, undef, undef, undef, undef, undef, undef, undef, undef, undef, undef, undef, undef, undef, undef, undef, undef, undef, undef, undef, undef, undef, undef, undef, undef, undef, undef, undef, undef, undef, undef, undef, undef, undef, undef, undef, undef, undef], defers := [] } ∧ (Below w9.heap.size w9 ww) ∧ (L 0 = true → t41 = .agg #[.slice (some ⟨g1, 0, none⟩) n n, .slice (some ⟨g2, 0, none⟩) m m]) ∧ (L 1 = true → t42 = .agg #[.slice A n c, .slice R m d]) ∧ (L 2 = true → ∃ u1 u2 : Nat, t43 = .agg #[.slice (some ⟨u1, 0, none⟩) n n, .slice (some ⟨u2, 0, none⟩) m m] ∧ HS ww ww.heap.size (some ⟨u1, 0, none⟩) n (some ⟨u2, 0, none⟩) m h) ∧ (L 3 = true → t44 = .bool true) ∧ (L 4 = true → t45 = .bool false)) ?h0 ?hstep ?hdone
  case h0 => exact ⟨_, _, _, _, _, rfl, (Below.refl _ _).drew, (fun h => absurd h Bool.false_ne_true), (fun h => absurd h Bool.false_ne_true), (fun h => absurd h Bool.false_ne_true), (fun h => absurd h Bool.false_ne_true), (fun h => absurd h Bool.false_ne_true)⟩
  case hstep =>
    rintro L ac ww i o ho hL hd ⟨t41, t42, t43, t44, t45, rfl, I0, f0, f1, f2, f3, f4⟩
    have hi : i < 5 := (Array.getElem?_eq_some_iff.1 ho).1
    obtain rfl | rfl | rfl | rfl | rfl : i = 0 ∨ i = 1 ∨ i = 2 ∨ i = 3 ∨ i = 4 := by omega
    · obtain rfl := Option.some.inj ho
      have y0 : ww.cell? ⟨gx, 0, none⟩ = some (.slice (some ⟨g1, 0, none⟩) n n) := (I0.cell (p := ⟨gx, 0, none⟩) hgx).trans xc0
      have y1 : ww.cell? ⟨gx, 1, none⟩ = some (.slice (some ⟨g2, 0, none⟩) m m) := (I0.cell (p := ⟨gx, 1, none⟩) hgx).trans xc1
      refine wpOp_step rfl (fun K' hK => ?_)
      go_simp
      refine hK _ _ ?_
      exact ⟨_, _, _, _, _, rfl, (I0), (fun _ => rfl), (kp f1), (kp f2), (kp f3), (kp f4)⟩
    · obtain rfl := Option.some.inj ho
      have y0 : ww.cell? ⟨ga, 0, none⟩ = some (.slice A n c) := (I0.cell (p := ⟨ga, 0, none⟩) hgl).trans xa0
      have y1 : ww.cell? ⟨ga, 1, none⟩ = some (.slice R m d) := (I0.cell (p := ⟨ga, 1, none⟩) hgl).trans xa1
      refine wpOp_step rfl (fun K' hK => ?_)
      go_simp
      refine hK _ _ ?_
      exact ⟨_, _, _, _, _, rfl, (I0), (kp f0), (fun _ => rfl), (kp f2), (kp f3), (kp f4)⟩
    · obtain rfl := Option.some.inj ho
      have g1 := f1 (hd ⟨1, .data⟩ (by simp) rfl)
      subst g1
      refine wpOp_step rfl (fun K' hK => ?_)
      go_simp
      refine (toHeap_any _ _ _ _ _ _ h ww (hs.up (bbk.trans (I0.mono bbk.size))) (by omega) (by omega) Z3.out).mono ?_
      rintro e w' ⟨u1, u2, rfl, ⟨rv, ow⟩, b5⟩
      have hr9 := ow.reads
      refine hK _ _ ?_
      exact ⟨_, _, _, _, _, rfl, (I0.trans (b5.mono I0.size)), (kp f0), (kp f1), (fun _ => ⟨u1, u2, rfl, hr9⟩), (kp f3), (kp f4)⟩
    · obtain rfl := Option.some.inj ho
      have g0 := f0 (hd ⟨0, .data⟩ (by simp) rfl)
      have g2 := f2 (hd ⟨2, .data⟩ (by simp) rfl)
      subst g0
      obtain ⟨u1, u2, rfl, hr9⟩ := g2
      refine wpOp_step rfl (fun K' hK => ?_)
      go_simp
      refine (eqHeap_any _ _ _ _ _ _ _ _ _ _ _ _ h h ww (rx.up I0) hr9 (by omega) (by omega) (by omega) (by omega) Z3.out Z3.out).mono ?_
      rw [decide_eq_true rfl]
      rintro e w' ⟨rfl, b5⟩
      refine hK _ _ ?_
      exact ⟨_, _, _, _, _, rfl, (I0.trans (b5.mono I0.size)), (kp f0), (kp f1), (fun _ => ⟨u1, u2, rfl, hr9.up b5⟩), (fun _ => rfl), (kp f4)⟩
    · obtain rfl := Option.some.inj ho
      have g3 := f3 (hd ⟨3, .data⟩ (by simp) rfl)
      subst g3
      refine wpOp_step rfl (fun K' hK => ?_)
      go_simp
      refine hK _ _ ?_
      exact ⟨_, _, _, _, _, rfl, (I0), (kp f0), (kp f1), (kp f2), (kp f3), (fun _ => rfl)⟩
  case hdone =>
    rintro L ac ww hall ⟨t41, t42, t43, t44, t45, rfl, I0, f0, f1, f2, f3, f4⟩
    have e0 := f0 (hall 0 (by decide))
    have e1 := f1 (hall 1 (by decide))
    have e2 := f2 (hall 2 (by decide))
    have e3 := f3 (hall 3 (by decide))
    have e4 := f4 (hall 4 (by decide))
    clear f0 f1 f2 f3 f4
    subst e3 e4
    clear e0 e1 e2 hall
    replace o0 := o0.below I0 (Nat.le_refl _)
    replace o1 := o1.below I0 (Nat.le_refl _)
    replace ox := ox.below I0 (Nat.le_refl _)
    replace x0 := x0.keep I0 x0.lt
    replace x1 := x1.keep I0 x1.lt
    replace qx := qx.keep I0 qx.lt
    replace q0 := q0.keep I0 q0.lt
    replace bbk := bbk.trans (I0.mono bbk.size)
    clear xa0 xa1 xc0 xc1 I0 rx hgx hgl
    generalize ww = w10 at *
    have xc0 : w10.cell? ⟨gx, 0, none⟩ = some (.slice (some ⟨g1, 0, none⟩) n n) := qx.cell 0
    have xc1 : w10.cell? ⟨gx, 1, none⟩ = some (.slice (some ⟨g2, 0, none⟩) m m) := qx.cell 1
    have APX := ox.apart_box qx
    go_wp2_with fail
    refine (markHeap_any _ _ rvsx h _ _ _ ox (by omega) (by omega) HZX.out).mono ?_
    rw [HKX.out]
    rintro e w11 ⟨rfl, -, tx⟩
    replace o0 := o0.touched' tx S0X.out
    replace o1 := o1.touched' tx S1X.out
    replace x0 := x0.touched tx (fun u hu e => by have := (SX.out u hu _ e).1; omega)
    replace x1 := x1.touched tx (fun u hu e => by have := (SX.out u hu _ e).2; omega)
    replace q0 := q0.touched tx (fun u hu e => by have := (SX.out u hu _ e).1; omega)
    replace bbk : Below w.heap.size w w11 := tx.below bbk bbk.size (fun u hu k hk => by have := (SX.out u hu k hk).1; omega)
    clear ox qx tx xc0 xc1 APX
    have y0 : w11.cell? ⟨g5, 0, none⟩ = some (.slice A0 nn c0) := x0.cell 0
    have y1 : w11.cell? ⟨g5, 1, none⟩ = some (.slice R0 mm d0) := x0.cell 1
    have y2 : w11.cell? ⟨g9, 0, none⟩ = some (.slice A1 nn c1) := x1.cell 0
    have y3 : w11.cell? ⟨g9, 1, none⟩ = some (.slice R1 mm d1) := x1.cell 1
    go_wp2_with fail
    refine (eqHeap_any _ _ _ _ _ _ _ _ _ _ _ _ hh hh _ o1.reads o0.reads (by omega) (by omega) (by omega) (by omega) H3.out H3.out).mono ?_
    rw [decide_eq_true rfl]
    rintro e w12 ⟨rfl, b12⟩
    replace o0 := o0.below b12 (Nat.le_refl _)
    replace o1 := o1.below b12 (Nat.le_refl _)
    replace x0 := x0.keep b12 x0.lt
    replace x1 := x1.keep b12 x1.lt
    replace q0 := q0.keep b12 q0.lt
    replace bbk := bbk.trans (b12.mono bbk.size)
    clear b12 y0 y1 y2 y3
    have y2 : w12.cell? ⟨g9, 0, none⟩ = some (.slice A1 nn c1) := x1.cell 0
    have y3 : w12.cell? ⟨g9, 1, none⟩ = some (.slice R1 mm d1) := x1.cell 1
    have AP1 := o1.apart_box x1
    go_wp2_with fail
    refine (markHeap_any _ _ rvs1 hh _ _ _ o1 (by omega) (by omega) HSZ.out).mono ?_
    rw [HKV.out]
    rintro e w13 ⟨rfl, m6, t6⟩
    replace o0 := o0.touched' t6 S01.out
    replace x0 := x0.touched t6 (fun u hu e => by have := (SB.out u hu _ e).1; omega)
    replace x1 := x1.touched t6 (fun u hu e => by rcases AP1 u hu with h1 | h1; rw [h1] at e; cases e; exact h1 e)
    replace q0 := q0.touched t6 (fun u hu e => by have := (SB.out u hu _ e).1; omega)
    replace bbk : Below w.heap.size w w13 := t6.below bbk bbk.size (fun u hu k hk => by have := (SB.out u hu k hk).1; omega)
    have r6 := m6.reads
    clear o1 t6 m6 y2 y3 AP1
    have y2 : w13.cell? ⟨g9, 0, none⟩ = some (.slice A1 nn c1) := x1.cell 0
    have y3 : w13.cell? ⟨g9, 1, none⟩ = some (.slice R1 mm d1) := x1.cell 1
    go_wp2_with fail
    refine (heldHeap_any _ _ _ _ _ _ hh _ _ r6 E0.out E4.out (by omega) (by omega) HSZ.out).mono ?_
    rw [HKV.out]
    rintro e w14 ⟨rfl, b14⟩
    replace o0 := o0.below b14 (Nat.le_refl _)
    replace x0 := x0.keep b14 x0.lt
    replace x1 := x1.keep b14 x1.lt
    replace q0 := q0.keep b14 q0.lt
    replace r6 := r6.up b14
    replace bbk := bbk.trans (b14.mono bbk.size)
    clear b14 y2 y3
    have hgl := q0.lt
    have xa0 : w14.cell? ⟨ga, 0, none⟩ = some (.slice A n c) := q0.cell 0
    have xa1 : w14.cell? ⟨ga, 1, none⟩ = some (.slice R m d) := q0.cell 1
    clear S0X S1X SX
    have s1 := hs.up bbk
    go_wp2_with fail
    refine (toHeap_any _ _ _ _ _ _ h _ s1 (by omega) (by omega) Z3.out).mono ?_
    rintro e w2 ⟨u1, u2, rfl, ⟨rv2, ow2⟩, b2⟩
    have r2 := ow2.reads
    replace o0 := o0.below b2 (Nat.le_refl _)
    replace x0 := x0.keep b2 x0.lt
    replace x1 := x1.keep b2 x1.lt
    replace r6 := r6.up b2
    replace bbk := bbk.trans (b2.mono bbk.size)
    clear b2 ow2 s1 xa0 xa1 q0
    go_wp2_with fail
    refine (collectSweep_any _ _ _ _ _ _ h _ (HTZ.out.below bbk) r2 (by omega) (by omega) (Nat.le_refl _) (Nat.le_refl _)).mono ?_
    rw [HH.out, HVB.out]
    rintro e w22 ⟨vc2, vr2, rfl, ⟨rvs2, own2⟩, b2⟩
    obtain ⟨A2, c2, R2, d2, rfl, rfl, -⟩ := own2.form
    rw [E0.out, E4.out] at own2 ⊢
    have bA : Below w22.heap.size w22 (w22.alloc (.cells #[.slice A2 nn c2, .slice R2 mm d2] 26)) := (Below.refl _ _).alloc (Nat.le_refl _) _
    have r9 := own2.reads.up bA
    have x2 := Rw.new w22 26 #[.slice A2 nn c2, .slice R2 mm d2]
    replace o0 := (o0.below b2 (Nat.le_refl _)).below bA (Nat.le_refl _)
    replace x0 := (x0.keep b2 x0.lt).alloc (.cells #[.slice A2 nn c2, .slice R2 mm d2] 26)
    replace x1 := (x1.keep b2 x1.lt).alloc (.cells #[.slice A2 nn c2, .slice R2 mm d2] 26)
    replace r6 := (r6.up b2).up bA
    replace bbk := (bbk.trans (b2.mono bbk.size)).trans (bA.mono (bbk.trans (b2.mono bbk.size)).size)
    clear own2 bA b2 r2
    go_upto_region 25 with fail
    generalize w22.alloc (.cells #[.slice A2 nn c2, .slice R2 mm d2] 26) = w15 at o0 x0 x1 x2 r6 r9 bbk ⊢
    generalize w22.heap.size = g14 at x2 ⊢
    have y0 : w15.cell? ⟨g5, 0, none⟩ = some (.slice A0 nn c0) := x0.cell 0
    have y1 : w15.cell? ⟨g5, 1, none⟩ = some (.slice R0 mm d0) := x0.cell 1
    have y4 : w15.cell? ⟨g14, 0, none⟩ = some (.slice A2 nn c2) := x2.cell 0
    have y5 : w15.cell? ⟨g14, 1, none⟩ = some (.slice R2 mm d2) := x2.cell 1
    go_wp2_with fail
    refine (eqHeap_any _ _ _ _ _ _ _ _ _ _ _ _ hh hh _ r9 o0.reads (by omega) (by omega) (by omega) (by omega) H3.out H3.out).mono ?_
    rw [decide_eq_true rfl]
    rintro e w16 ⟨rfl, b16⟩
    replace x1 := x1.keep b16 x1.lt
    replace r6 := r6.up b16
    replace bbk := bbk.trans (b16.mono bbk.size)
    clear b16 y0 y1 y4 y5 o0 x0 x2 r9
    have y2 : w16.cell? ⟨g9, 0, none⟩ = some (.slice A1 nn c1) := x1.cell 0
    have y3 : w16.cell? ⟨g9, 1, none⟩ = some (.slice R1 mm d1) := x1.cell 1
    go_wp2_with fail
    refine (heldHeap_any _ _ _ _ _ _ hh _ _ r6 E0.out E4.out (by omega) (by omega) HSZ.out).mono ?_
    rw [HKV.out]
    rintro e w17 ⟨rfl, b17⟩
    have bbf := bbk.trans (b17.mono bbk.size)
    go_wp2_with fail
    go_ret
    exact ⟨rfl, bbf⟩
end Go.Proofs.YthmddmddcdofaaaDoor

namespace Go.Proofs.YthmddmddcdofaaaDoor
open Go.ChangeShapes Go.WideShapes Go.ChangeAt Go.RowKit Go.Deep
section
variable {H : Type} {enc : TypeId × Value → H} {P : Program} {W : World}
/-- a slice of numbers -/
theorem nums_trod {t e : TypeId} {fuel : Nat} {v : Value} {x : DataW H × List MemPlace} (ht : P.underlying t = some (.slice e)) (he : P.underlying e = some (.int .i64)) (ce : P.cellsOf e = 1)
    (hf : DataW.trod enc P W 0 (fun _ => true) true fuel t [v] = some x) (hlt : ∀ y ∈ x.2, y.block < W.heap.size) :
    ∃ (A : Option Addr) (n c : Nat) (xs : List Int), v = .slice A n c ∧ n ≤ c ∧ n ≤ 9223372036854775807 ∧ IS W W.heap.size A n xs ∧ AllN xs := by
  rcases open_ints ht he ce hf with ⟨h0, _⟩ | ⟨a, len, cap, zs, hcs, hb, hl, hm, hz, hx, hi, hwf⟩
  · injection h0 with h0
    subst h0
    exact ⟨none, 0, 0, [], rfl, by omega, by omega, IS.none_ _ _ _, fun k v hv => by simp at hv⟩
  · injection hcs with hcs
    subst hcs
    simp only [if_true] at hz
    refine ⟨some a, len, cap, zs.take len, rfl, hl, by unfold maxLen at hm; omega, ⟨by rw [List.length_take]; omega, fun hn => ?_⟩, fun k v hv => i64_of_wf (hwf v (List.mem_of_mem_take (List.mem_of_getElem? hv)))⟩
    have h0 := hi 0 (by omega)
    simp [Addr.add] at h0
    have ha := addr_of_cell h0
    have hblt : a.block < W.heap.size := by
      apply hlt (.cell a.block a.off)
      rw [hx, hz, ha]
      simp [MemPlace.row]
      omega
    refine ⟨a.block, a.off, by rw [← ha], hblt, fun k y hk => ?_⟩
    have hkn := (List.getElem?_eq_some_iff.1 hk).1
    rw [List.length_take] at hkn
    rw [List.getElem?_take_of_lt (by omega)] at hk
    have hc := hi k (by omega)
    rw [ha, add_none, List.getD_eq_getElem?_getD, hk] at hc
    exact hc
/-- a slice of cells -/
theorem cells_trod {t e tb ti tr : TypeId} {f0 f1 f2 : Field} {fuel : Nat} {v : Value} {x : DataW H × List MemPlace} (ht : P.underlying t = some (.slice e)) (he : P.underlying e = some (.struct #[f0, f1, f2])) (ce : P.cellsOf e = 3)
    (t0 : f0.type = tb) (t1 : f1.type = ti) (t2 : f2.type = tr) (o0 : f0.offset = 0) (o1 : f1.offset = 1) (o2 : f2.offset = 2)
    (htb : P.underlying tb = some .bool) (hti : P.underlying ti = some (.int .i64)) (htr : P.underlying tr = some (.slice ti)) (cb : P.cellsOf tb = 1) (ci : P.cellsOf ti = 1) (cr : P.cellsOf tr = 1)
    (hf : DataW.trod enc P W 0 (fun _ => true) true fuel t [v] = some x) (hlt : ∀ y ∈ x.2, y.block < W.heap.size) :
    ∃ (A : Option Addr) (n c : Nat) (cs : List Cl), v = .slice A n c ∧ n ≤ c ∧ n ≤ 9223372036854775807 ∧ CS W W.heap.size A n cs ∧ ∀ cl ∈ cs, I64 cl.d ∧ AllN cl.r ∧ cl.r.length ≤ 9223372036854775807 := by
  rcases open_slice ht hf with ⟨h0, _⟩ | ⟨a, len, cap, m, n', D, Pl, hcs, hb, hl, hm, hmm, hx, hi⟩
  · injection h0 with h0
    subst h0
    exact ⟨none, 0, 0, [], rfl, by omega, by omega, CS.none_ _ _ _, fun cl hcl => by simp at hcl⟩
  · injection hcs with hcs
    subst hcs
    simp only [if_true] at hmm
    subst hmm
    have each : ∀ i, i < len → ∃ q : Cl × Option Addr × Nat × Nat, I64 q.1.d ∧ AllN q.1.r ∧ q.2.2.1 ≤ 9223372036854775807 ∧ W.cell? (a.add (i * 3)) = some (.bool q.1.u) ∧ W.cell? (a.add (i * 3 + 1)) = some (.int .i64 q.1.d) ∧ W.cell? (a.add (i * 3 + 2)) = some (.slice q.2.1 q.2.2.1 q.2.2.2) ∧ q.2.2.1 ≤ q.2.2.2 ∧ IS W W.heap.size q.2.1 q.2.2.1 q.1.r := by
      intro i hin
      obtain ⟨cs', h1, h2⟩ := hi i (by omega)
      rw [ce] at h1
      obtain ⟨_, hlen, hcell⟩ := World.cells?_some h1
      obtain ⟨ys, k, _, hys, _, hyl, hfd⟩ := DataW.trod_struct he h2
      match cs', hlen with
      | [v0, v1, v2], _ =>
        have g0 := hfd 0 f0 rfl
        have g1 := hfd 1 f1 rfl
        have g2 := hfd 2 f2 rfl
        rw [t0, o0, cb] at g0
        rw [t1, o1, ci] at g1
        rw [t2, o2, cr] at g2
        rw [List.getElem?_eq_getElem (by rw [hyl]; simp)] at g0 g1 g2
        obtain ⟨u, e0, _⟩ := DataW.trod_bool htb g0
        obtain ⟨n1, e1, _, w1⟩ := DataW.trod_int hti g1
        simp at e0 e1
        subst e0 e1
        have hlt2 : ∀ y ∈ (ys[2]'(by rw [hyl]; simp)).2, y.block < W.heap.size := fun y hy => by
          apply hlt
          rw [hx]
          apply List.mem_append_right
          rw [List.mem_flatMap]
          refine ⟨i, by simp; omega, ?_⟩
          have := congrArg Prod.snd hys
          simp only [] at this
          rw [this, List.mem_flatMap]
          exact ⟨_, List.getElem_mem _, hy⟩
        obtain ⟨A2, n2, c2, xs2, e2, hnc, hn2, hi2, ha2⟩ := nums_trod htr hti ci g2 hlt2
        subst e2
        have q0 := hcell 0 (by omega)
        have q1 := hcell 1 (by omega)
        have q2 := hcell 2 (by omega)
        rw [add_add] at q0 q1 q2
        exact ⟨(⟨u, n1, xs2⟩, A2, n2, c2), i64_of_wf w1, ha2, hn2, by simpa using q0, by simpa using q1, by simpa using q2, hnc, hi2⟩
    obtain ⟨F, hF⟩ := choose_lt each
    refine ⟨some a, len, _, (List.range len).map fun i => (F i).1, rfl, hl, by unfold maxLen at hm; omega, ⟨by simp, fun hn => ?_⟩, fun cl hcl => ?_⟩
    · have h0 := (hF 0 hn).2.2.2.1
      simp [Addr.add] at h0
      have ha := addr_of_cell h0
      have hblt : a.block < W.heap.size := by
        apply hlt (.cell a.block a.off)
        rw [hx, ce]
        apply List.mem_append_left
        rw [ha]
        simp [MemPlace.row]
        omega
      refine ⟨a.block, a.off, by rw [← ha], hblt, fun k c hk => ?_⟩
      have hkn : k < len := by
        have := (List.getElem?_eq_some_iff.1 hk).1
        simpa using this
      simp only [List.getElem?_map] at hk
      rw [List.getElem?_range hkn] at hk
      simp at hk
      subst hk
      obtain ⟨_, _, _, q1, q2, q3, q4, q5⟩ := hF k hkn
      rw [ha, add_none] at q1 q2 q3
      exact ⟨q1, by rw [Nat.add_assoc]; exact q2, _, _, _, by rw [Nat.add_assoc]; exact q3, q4, q5⟩
    · obtain ⟨i, hi', rfl⟩ := List.mem_map.1 hcl
      obtain ⟨q1, q2, q3, _, _, _, _, q5⟩ := hF i (by simpa using hi')
      exact ⟨q1, q2, by rw [q5.1]; exact q3⟩
/-- a heap -/
theorem open_heap {t tc tn e tb ti : TypeId} {h0 h1 f0 f1 f2 : Field} {r : Reach} {b0 : Nat} {v : Value} {d : DataW H} {ps : List MemPlace}
    (hh : P.underlying t = some (.struct #[h0, h1])) (ch : P.cellsOf t = 2) (s0 : h0.type = tc) (s1 : h1.type = tn) (p0 : h0.offset = 0) (p1 : h1.offset = 1) (ctc : P.cellsOf tc = 1) (ctn : P.cellsOf tn = 1)
    (htc : P.underlying tc = some (.slice e)) (htn : P.underlying tn = some (.slice ti)) (he : P.underlying e = some (.struct #[f0, f1, f2])) (ce : P.cellsOf e = 3)
    (t0 : f0.type = tb) (t1 : f1.type = ti) (t2 : f2.type = tn) (o0 : f0.offset = 0) (o1 : f1.offset = 1) (o2 : f2.offset = 2)
    (htb : P.underlying tb = some .bool) (hti : P.underlying ti = some (.int .i64)) (cb : P.cellsOf tb = 1) (ci : P.cellsOf ti = 1)
    (hval : Value.okWide P W r b0 t v) (h : DataW.Trod enc P W 0 (fun _ => true) true t v d ps) (hlt : ∀ x ∈ ps, x.block < W.heap.size) :
    ∃ (A R : Option Addr) (n c m dd : Nat) (hp : Hp), v = .agg #[.slice A n c, .slice R m dd] ∧ n ≤ 9223372036854775807 ∧ m ≤ 9223372036854775807 ∧ HS W W.heap.size A n R m hp ∧ AllN hp.rt ∧ ∀ cl ∈ hp.cs, I64 cl.d ∧ AllN cl.r ∧ cl.r.length ≤ 9223372036854775807 := by
  obtain ⟨cs, rfl, hsz⟩ := okWide_struct hh hval
  rw [ch] at hsz
  obtain ⟨fuel, hf⟩ := h
  obtain ⟨ys, k, _, hys, _, hyl, hfd⟩ := DataW.trod_struct hh hf
  obtain ⟨l⟩ := cs
  match l, hsz with
  | [v0, v1], _ =>
    have g0 := hfd 0 h0 rfl
    have g1 := hfd 1 h1 rfl
    rw [s0, p0, ctc] at g0
    rw [s1, p1, ctn] at g1
    rw [List.getElem?_eq_getElem (by rw [hyl]; simp)] at g0 g1
    simp [Value.cells] at g0 g1
    have hpl : ∀ (i : Nat) (hi : i < ys.length), ∀ y ∈ (ys[i]).2, y.block < W.heap.size := fun i hi y hy => by
      apply hlt
      have := congrArg Prod.snd hys
      simp only [] at this
      rw [this, List.mem_flatMap]
      exact ⟨_, List.getElem_mem _, hy⟩
    obtain ⟨A, n, c, cs, e0, _, hn, hC, ha⟩ := cells_trod htc he ce t0 t1 t2 o0 o1 o2 htb hti htn cb ci ctn g0 (hpl 0 _)
    obtain ⟨R, m, dd, xs, e1, _, hm, hI, hx⟩ := nums_trod htn hti ci g1 (hpl 1 _)
    subst e0 e1
    exact ⟨A, R, n, c, m, dd, ⟨cs, xs⟩, rfl, hn, hm, ⟨hC, hI⟩, hx, ha⟩
end
end Go.Proofs.YthmddmddcdofaaaDoor

namespace Go.Proofs.YthmddmddcdofaaaDoor
open Go.ChangeShapes Go.WideShapes Go.ChangeAt Go.RowKit Go.Deep
set_option maxRecDepth 100000
theorem open_lawsHeap {H : Type} {enc : TypeId × Value → H} {W : World} {r : Reach} {base : Nat} {v : Value} {d : DataW H} {ps : List MemPlace} (hval : Value.okWide Tryd.prog W r base 60 v) (h : DataW.Trod enc Tryd.prog W 0 (fun _ => true) true 60 v d ps) (hlt : ∀ x ∈ ps, x.block < W.heap.size) :
    ∃ (A R : Option Addr) (n c m dd : Nat) (hp : Hp), v = .agg #[.slice A n c, .slice R m dd] ∧ n ≤ 9223372036854775807 ∧ m ≤ 9223372036854775807 ∧ HS W W.heap.size A n R m hp ∧ AllN hp.rt ∧ ∀ cl ∈ hp.cs, I64 cl.d ∧ AllN cl.r ∧ cl.r.length ≤ 9223372036854775807 :=
  open_heap (tc := 58) (tn := 24) (e := 161) (tb := 4) (ti := 3) Tryd.underlying60 (by kernel_rfl) rfl rfl rfl rfl (by kernel_rfl) (by kernel_rfl) Tryd.underlying58 Tryd.underlying24 Tryd.underlying161 (by kernel_rfl) rfl rfl rfl rfl rfl rfl Tryd.underlying4 Tryd.underlying3 (by kernel_rfl) (by kernel_rfl) hval h hlt
end Go.Proofs.YthmddmddcdofaaaDoor

namespace Go.Proofs.YthmddmddcdofaaaDoor
open Go.ChangeShapes Go.WideShapes Go.ChangeAt Go.RowKit Go.Deep
theorem var_ltU {P : Program} {W : World} {n : String} {g : Nat} {cs : Array Value} (hg : P.globalNamed n = some g) (h : W.var? P n = some cs) : g < W.heap.size := by
  unfold World.var? at h
  simp only [hg, Option.bind_some] at h
  split at h
  · next h2 => exact (Array.getElem?_eq_some_iff.1 h2).1
  · cases h
theorem gTz : Tryd.prog.globalNamed "math/bits.deBruijn64tab" = some 0 := by kernel_rfl
theorem tab_cast : ∀ i : Nat, i < 64 → ([0, 1, 56, 2, 57, 49, 28, 3, 61, 58, 42, 50, 38, 29, 17, 4, 62, 47, 59, 36, 45, 43, 51, 22, 53, 39, 33, 30, 24, 18, 12, 5, 63, 55, 48, 27, 60, 41, 37, 16, 46, 35, 44, 21, 52, 32, 23, 11, 54, 26, 40, 15, 34, 20, 31, 10, 25, 14, 19, 9, 13, 8, 7, 6] : List Int).getD i 0 = (Lib.deBruijn64tab.getD i 0 : Nat) := by decide +kernel
theorem tzT_of_laid {W : World} (h : laidMetH Tryd.prog [("math/bits.deBruijn64tab", Rows.laid_math_bits_deBruijn64tab)] W) : TzT W := by
  rw [MakeChecks.laidMetH_plain _ _ _ (by kernel_rfl)] at h
  have hT : Lib.TabIs Tryd.prog W "math/bits.deBruijn64tab" .u8 [0, 1, 56, 2, 57, 49, 28, 3, 61, 58, 42, 50, 38, 29, 17, 4, 62, 47, 59, 36, 45, 43, 51, 22, 53, 39, 33, 30, 24, 18, 12, 5, 63, 55, 48, 27, 60, 41, 37, 16, 46, 35, 44, 21, 52, 32, 23, 11, 54, 26, 40, 15, 34, 20, 31, 10, 25, 14, 19, 9, 13, 8, 7, 6] :=
    Lib.tabIs_of_head (k := .u8) (zs := [0, 1, 56, 2, 57, 49, 28, 3, 61, 58, 42, 50, 38, 29, 17, 4, 62, 47, 59, 36, 45, 43, 51, 22, 53, 39, 33, 30, 24, 18, 12, 5, 63, 55, 48, 27, 60, 41, 37, 16, 46, 35, 44, 21, 52, 32, 23, 11, 54, 26, 40, 15, 34, 20, 31, 10, 25, 14, 19, 9, 13, 8, 7, 6]) (rest := []) (n := 64) (t := 169) (e := 5) gTz (by kernel_rfl) Tryd.underlying169 Tryd.underlying5 (by kernel_rfl) (by kernel_rfl) h
  exact ⟨var_ltU gTz hT, fun i hi => by
    rw [← tab_cast i hi]
    exact hT.cell gTz i (by simpa using hi)⟩
/-- the door's own heap meets the condition -/
theorem door_tz (os : Os) (args : Array Value) : laidMetH Tryd.prog [("math/bits.deBruijn64tab", Rows.laid_math_bits_deBruijn64tab)] ((World.doorLaid Tryd.prog 14 os).forCall (fun _ _ => 0) ⟨#[], args, []⟩).memory :=
  laidMetH_of_parts3 (fuel := 8) (laidMet_of_run' 8 (by kernel_rfl) (by kernel_rfl)) (by kernel_rfl) (by kernel_rfl)
end Go.Proofs.YthmddmddcdofaaaDoor

