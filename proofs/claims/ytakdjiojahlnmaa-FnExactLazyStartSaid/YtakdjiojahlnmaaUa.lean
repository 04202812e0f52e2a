/- Chapter 13 in plain mathematics: sweeping, steps with sweeping, and views of swept heaps (P4, P53, P58, P63, P64, P65, P124). No program, no conditions. -/
import Derived.Test.YtakdjiojahlnmaaRa
import Derived.Test.YtakdjiojahlnmaaGf
import Derived.Test.YtakdjiojahlnmaaGv
import Derived.Test.YtakdjiojahlnmaaGw
namespace Go.Proofs.Ytakdjiojahlnmaa
namespace Hps

theorem not_at {marks : List Bool} {k : Nat} : (marks.map (!·))[k]? = some true ↔ marks[k]? = some false := by
  rw [List.getElem?_map]
  cases marks[k]? with
  | none => simp
  | some b => cases b <;> simp
/-- marks with which a heap can be swept drop nothing to which something leads -/
theorem sweep_drp {h : Hp} {marks : List Bool} (_hv : validH h = true) (hx : validH (dropH h (marks.map (!·))) = true) : Drp h (marks.map (!·)) := by
  have hr : ∀ {n : Int} {k : Nat}, okRef (dropH h (marks.map (!·))).cs n = true → n = (k : Int) → (marks.map (!·))[k]? ≠ some true := by
    intro n k hn e hd
    rcases okRef_iff.1 hn with h1 | ⟨_, h1⟩
    · omega
    · rw [e, Int.toNat_natCast] at h1
      exact (drop_usedAt.1 h1).2 hd
  refine ⟨fun k hk => ?_, fun {j m c} hc hm hd => ?_⟩
  · obtain ⟨i, hi⟩ := List.mem_iff_getElem?.1 hk
    exact hr (valid_root hx (j := i) (by exact hi)) rfl
  · refine Classical.byContradiction fun hj => ?_
    have h1 : (dropH h (marks.map (!·))).cs[j]? = some c := (drop_stays hj).trans hc
    obtain ⟨i, hi⟩ := List.mem_iff_getElem?.1 hm
    exact hr (valid_ref hx h1 hi) rfl hd
theorem sweepH_cases (h : Hp) (marks : List Bool) : sweepH h marks = (zeroH, -1) ∨ (validH h = true ∧ marks.length = h.cs.length ∧ validH (dropH h (marks.map (!·))) = true ∧ sweepH h marks = (dropH h (marks.map (!·)), (freedTo h.cs marks h.cs.length : Int))) := by
  by_cases h1 : validH h = true ∧ marks.length = h.cs.length
  · by_cases h2 : validH (dropH h (marks.map (!·))) = true
    · exact .inr ⟨h1.1, h1.2, h2, sweepH_ok h1.1 h1.2 h2⟩
    · exact .inl (sweepH_bad h1.1 h1.2 (by simpa using h2))
  · left
    rw [sweepH, if_neg h1]
theorem dropL_twice (cs : List Cl) (D : List Bool) : dropL (dropL cs D) D = dropL cs D := by
  apply List.ext_getElem?
  intro k
  rcases Nat.lt_or_ge k cs.length with hk | hk
  · have hc := List.getElem?_eq_getElem hk
    have h1 := dropL_at cs D k _ hc
    rw [dropL_at _ _ _ _ h1, h1]
    by_cases e : D[k]? = some true
    · rw [if_pos e, if_pos e]
    · rw [if_neg e]
  · rw [List.getElem?_eq_none (by rw [dropL_len, dropL_len]; exact hk), List.getElem?_eq_none (by rw [dropL_len]; exact hk)]
theorem drop_twice (h : Hp) (D : List Bool) : dropH (dropH h D) D = dropH h D := by
  rw [dropH, dropH, dropL_twice]
theorem freed_none {cs : List Cl} {marks : List Bool} (h : ∀ k, usedAt cs k = true → marks[k]? ≠ some false) : ∀ n, freedTo cs marks n = 0
  | 0 => rfl
  | n + 1 => by
    rw [freedTo, freed_none h n, if_neg (fun e => h n e.2 e.1)]
/-- P63: what is used in a swept heap -/
theorem swept_used {h : Hp} {marks : List Bool} (hl : marks.length = h.cs.length) {k : Nat} : usedAt (dropH h (marks.map (!·))).cs k = true ↔ usedAt h.cs k = true ∧ marks[k]? = some true := drop_used hl
/-- P63: sweeping again frees nothing -/
theorem sweep_again {h : Hp} {marks : List Bool} (hl : marks.length = h.cs.length) (hx : validH (dropH h (marks.map (!·))) = true) : sweepH (dropH h (marks.map (!·))) marks = (dropH h (marks.map (!·)), 0) := by
  rw [sweepH_ok hx (by rw [drop_len]; exact hl) (by rw [drop_twice]; exact hx), drop_twice, freed_none fun k hk hm => ?_]
  · rfl
  · rw [((swept_used hl).1 hk).2] at hm
    cases hm
/-- P63: a program sees the same -/
theorem sweep_same {h : Hp} {marks : List Bool} (hv : validH h = true) (hx : validH (dropH h (marks.map (!·))) = true) : sameV (dropH h (marks.map (!·))) h = true := (sweep_drp hv hx).same hv

/-! collecting by sweeping -/
/-- the swept heap -/
noncomputable def sweptH (h : Hp) : Hp := dropH h ((reachH h).map (!·))
theorem swept_valid {h : Hp} (hv : validH h = true) : validH (sweptH h) = true := collect_drop_valid hv
theorem swept_drp {h : Hp} (hv : validH h = true) : Drp h ((reachH h).map (!·)) := sweep_drp hv (collect_drop_valid hv)
theorem swept_same {h : Hp} (hv : validH h = true) : sameV (sweptH h) h = true := (swept_drp hv).same hv
theorem swept_len (h : Hp) : (sweptH h).cs.length = h.cs.length := drop_len _ _
theorem swept_rt (h : Hp) : (sweptH h).rt = h.rt := rfl
theorem swept_rch {h : Hp} (hv : validH h = true) {k : Nat} : Rch (sweptH h).cs (sweptH h).rt k ↔ Rch h.cs h.rt k := (swept_drp hv).reach
theorem reachH_at {h : Hp} (hv : validH h = true) {k : Nat} (hk : k < h.cs.length) : (reachH h)[k]? = some true ↔ Rch h.cs h.rt k := by
  rw [reachH, if_pos hv, reachL_true hk]
theorem swept_tight {h : Hp} (hv : validH h = true) {k : Nat} (hu : usedAt (sweptH h).cs k = true) : Rch (sweptH h).cs (sweptH h).rt k := by
  obtain ⟨h1, h2⟩ := (swept_used (reachH_len hv)).1 hu
  exact (swept_rch hv).2 ((reachH_at hv (usedAt_lt h1)).1 h2)
theorem collect_eq {h : Hp} (hv : validH h = true) : collectH h = (sweptH h, ((leakL h).length : Int)) := by
  rw [collectH_eq hv, reachH_len hv]
  have hf : ∀ n, n ≤ h.cs.length → freedTo h.cs (reachH h) n = (leakTo h n).length := by
    intro n
    induction n with
    | zero => intro _; rfl
    | succ n ih =>
      intro hn
      rw [freedTo, ih (by omega)]
      by_cases hu : usedAt h.cs n = true
      · by_cases hr : Rch h.cs h.rt n
        · have := (reachH_at hv (show n < h.cs.length by omega)).2 hr
          rw [leakTo_no (.inr hr), if_neg (fun e => by rw [this] at e; cases e.1), Nat.add_zero]
        · have h1 : (reachH h)[n]? = some false := by
            have hl : n < (reachH h).length := by rw [reachH_len hv]; omega
            rw [List.getElem?_eq_getElem hl]
            cases e : (reachH h)[n] with
            | false => rfl
            | true => exact absurd ((reachH_at hv (show n < h.cs.length by omega)).1 (by rw [List.getElem?_eq_getElem hl, e])) hr
          rw [leakTo_yes hu hr, if_pos ⟨h1, hu⟩, List.length_append, List.length_singleton]
      · rw [leakTo_no (.inl (by simpa using hu)), if_neg (fun e => hu e.2), Nat.add_zero]
  rw [hf _ (Nat.le_refl _), leakTo_all]
  rfl
theorem collect_not {h : Hp} (hv : validH h = false) : collectH h = (zeroH, -1) := sweepH_no (.inl hv)
/-- P58: nothing has leaked -/
theorem swept_leak {h : Hp} (hv : validH h = true) : leakH (sweptH h) = [] := by
  rw [leakH, if_pos (swept_valid hv)]
  exact leak_none fun k hk => swept_tight hv hk
/-- P4: as many are used as can be reached -/
theorem swept_live {h : Hp} (hv : validH h = true) : (usedH (sweptH h)).1 = (usedH (sweptH h)).2 := by
  have hx := swept_valid hv
  have h2 := usedN_parts hx
  have h3 := swept_leak hv
  rw [leakH, if_pos hx] at h3
  have h6 := live_order hx
  rw [h3] at h2
  simp only [List.length_nil, Nat.add_zero] at h2
  rw [usedH, if_pos hx]
  simp only
  rw [show usedTo (sweptH h).cs (sweptH h).cs.length = usedN (sweptH h) from rfl, h6, h2]
/-- P4: what can be reached is where it was -/
theorem swept_reach {h : Hp} (hv : validH h = true) : reachH (sweptH h) = reachH h := by
  have hx := swept_valid hv
  rw [reachH, if_pos hx]
  refine (reachL_eq (by rw [reachH_len hv, swept_len]) fun k hk => ?_).symm
  rw [swept_len] at hk
  exact (reachH_at hv hk).trans (swept_rch hv).symm
/-- P124: a further sweep -/
theorem swept_twice {h : Hp} (hv : validH h = true) : collectH (sweptH h) = (sweptH h, 0) := by
  have hx := swept_valid hv
  have h1 := swept_leak hv
  rw [leakH, if_pos hx] at h1
  rw [collect_eq hx, h1]
  congr 1
  unfold sweptH
  rw [show reachH (dropH h ((reachH h).map (!·))) = reachH h from swept_reach hv]
  exact drop_twice _ _
/-- nothing is dead where all that is used can be reached -/
theorem tight_dead {x : Hp} (hv : validH x = true) (ht : ∀ k, usedAt x.cs k = true → Rch x.cs x.rt k) {n : Nat} (hn : usedAt x.cs n = true) (k : Nat) : (deadL x (n : Int))[k]? ≠ some true := fun hd =>
  dead_lost hv hd (ht k (dead_used hv hn hd))
theorem tight_cc {x : Hp} (hv : validH x = true) (ht : ∀ k, usedAt x.cs k = true → Rch x.cs x.rt k) : ∀ m, ccTo x m = (x, 0)
  | 0 => rfl
  | m + 1 => by
    rw [ccTo, tight_cc hv ht m, ccStep]
    split
    · next hu =>
      have hd := tight_dead hv ht hu
      have h1 : (deadL x (m : Int)).count true = 0 := by
        refine List.count_eq_zero.2 fun hm => ?_
        obtain ⟨k, hk⟩ := List.mem_iff_getElem?.1 hm
        exact hd k hk
      have h2 : dropH x (deadL x (m : Int)) = x := by
        have : dropL x.cs (deadL x (m : Int)) = x.cs := by
          apply List.ext_getElem?
          intro k
          exact drop_stays (x := x) (hd k)
        rw [dropH, this]
      simp only [h1, h2, Nat.add_zero]
    · rfl
/-- P124: and collecting cycles -/
theorem swept_cycles {h : Hp} (hv : validH h = true) : cyclesH (sweptH h) (countsL (sweptH h)) = ((sweptH h, countsL (sweptH h)), 0) := by
  have hx := swept_valid hv
  rw [cyclesH, if_pos (okCt_iff.2 ⟨hx, rfl⟩), tight_cc hx fun k hk => swept_tight hv hk]
  rfl

/-! free places -/
def placeF (h : Hp) : Int := if validH h = true then (gapH h : Int) else -1
theorem placeF_ok {h : Hp} (hv : validH h = true) : placeF h = (gapH h : Int) := if_pos hv
theorem placeF_no {h : Hp} (hv : validH h = false) : placeF h = -1 := if_neg (by rw [hv]; decide)

/-! steps with sweeping -/
/-- the heap in which there is room, if there can be -/
noncomputable def roomH (h : Hp) (limit : Int) (o : Cm) : Hp := if o.op = 1 ∧ limit ≤ (gapH h : Int) then sweptH h else h
noncomputable def stepSw (h : Hp) (limit : Int) (o : Cm) : Hp × Bool :=
  if validH h = true ∧ okCm o = true ∧ 1 ≤ limit ∧ limit ≤ 40 then
    (if canH h o = true then (if o.op = 1 ∧ limit ≤ (gapH (roomH h limit o) : Int) then (roomH h limit o, false) else (doH (roomH h limit o) o (gapH (roomH h limit o)), true)) else (h, false))
  else (zeroH, false)
theorem stepSw_no {h : Hp} {limit : Int} {o : Cm} (e : ¬ (validH h = true ∧ okCm o = true ∧ 1 ≤ limit ∧ limit ≤ 40)) : stepSw h limit o = (zeroH, false) := by rw [stepSw, if_neg e]
theorem stepSw_cannot {h : Hp} {limit : Int} {o : Cm} (e : validH h = true ∧ okCm o = true ∧ 1 ≤ limit ∧ limit ≤ 40) (hc : canH h o = false) : stepSw h limit o = (h, false) := by rw [stepSw, if_pos e, if_neg (by rw [hc]; decide)]
theorem stepSw_full {h : Hp} {limit : Int} {o : Cm} (e : validH h = true ∧ okCm o = true ∧ 1 ≤ limit ∧ limit ≤ 40) (hc : canH h o = true) (hf : o.op = 1 ∧ limit ≤ (gapH (roomH h limit o) : Int)) : stepSw h limit o = (roomH h limit o, false) := by rw [stepSw, if_pos e, if_pos hc, if_pos hf]
theorem stepSw_does {h : Hp} {limit : Int} {o : Cm} (e : validH h = true ∧ okCm o = true ∧ 1 ≤ limit ∧ limit ≤ 40) (hc : canH h o = true) (hf : ¬ (o.op = 1 ∧ limit ≤ (gapH (roomH h limit o) : Int))) : stepSw h limit o = (doH (roomH h limit o) o (gapH (roomH h limit o)), true) := by rw [stepSw, if_pos e, if_pos hc, if_neg hf]
theorem room_other {h : Hp} {limit : Int} {o : Cm} (h1 : o.op ≠ 1) : roomH h limit o = h := by rw [roomH, if_neg (fun e => h1 e.1)]
theorem room_free {h : Hp} {limit : Int} {o : Cm} (h1 : ¬ limit ≤ (gapH h : Int)) : roomH h limit o = h := by rw [roomH, if_neg (fun e => h1 e.2)]
theorem room_full {h : Hp} {limit : Int} {o : Cm} (h1 : o.op = 1) (h2 : limit ≤ (gapH h : Int)) : roomH h limit o = sweptH h := by rw [roomH, if_pos ⟨h1, h2⟩]
theorem room_valid {h : Hp} (hv : validH h = true) (limit : Int) (o : Cm) : validH (roomH h limit o) = true := by
  unfold roomH
  split
  · exact swept_valid hv
  · exact hv
theorem room_len (h : Hp) (limit : Int) (o : Cm) : (roomH h limit o).cs.length = h.cs.length := by
  unfold roomH
  split
  · exact swept_len h
  · rfl
theorem room_same {h : Hp} (hv : validH h = true) (limit : Int) (o : Cm) : sameV (roomH h limit o) h = true := by
  unfold roomH
  split
  · exact swept_same hv
  · exact sameV_refl hv
theorem room_sim {h : Hp} (hv : validH h = true) (limit : Int) (o : Cm) : ∃ R, Sim (roomH h limit o) h R := by
  obtain ⟨h1, h2, h3⟩ := sameV_iff.1 (room_same hv limit o)
  exact ⟨_, sim_of_view h1 h2 h3⟩
theorem room_can {h : Hp} (hv : validH h = true) (limit : Int) {o : Cm} (hc : canH h o = true) : canH (roomH h limit o) o = true := by
  obtain ⟨R, S⟩ := room_sim hv limit o
  rw [S.can (room_valid hv limit o) hv]
  exact hc
theorem does_valid {h : Hp} {limit : Int} {o : Cm} (e : validH h = true ∧ okCm o = true ∧ 1 ≤ limit ∧ limit ≤ 40) (hc : canH h o = true) (hf : ¬ (o.op = 1 ∧ limit ≤ (gapH (roomH h limit o) : Int))) : validH (doH (roomH h limit o) o (gapH (roomH h limit o))) = true :=
  doH_valid (room_can e.1 limit hc) fun h1 => by
    have := gapH_le (roomH h limit o)
    exact ⟨this, by omega⟩
theorem stepSw_valid {h : Hp} {limit : Int} {o : Cm} (e : validH h = true ∧ okCm o = true ∧ 1 ≤ limit ∧ limit ≤ 40) : validH (stepSw h limit o).1 = true := by
  by_cases hc : canH h o = true
  · by_cases hf : o.op = 1 ∧ limit ≤ (gapH (roomH h limit o) : Int)
    · rw [stepSw_full e hc hf]
      exact room_valid e.1 limit o
    · rw [stepSw_does e hc hf]
      exact does_valid e hc hf
  · rw [stepSw_cannot e (by simpa using hc)]
    exact e.1
/-- P65: what a program sees, if it did not succeed -/
theorem stepSw_stays {h : Hp} {limit : Int} {o : Cm} (hd : (stepSw h limit o).2 = false) : (stepSw h limit o).1.rt = [] ∨ sameV (stepSw h limit o).1 h = true := by
  by_cases e : validH h = true ∧ okCm o = true ∧ 1 ≤ limit ∧ limit ≤ 40
  · right
    by_cases hc : canH h o = true
    · by_cases hf : o.op = 1 ∧ limit ≤ (gapH (roomH h limit o) : Int)
      · rw [stepSw_full e hc hf]
        exact room_same e.1 limit o
      · rw [stepSw_does e hc hf] at hd
        cases hd
    · rw [stepSw_cannot e (by simpa using hc)]
      exact sameV_refl e.1
  · left
    rw [stepSw_no e]
    rfl
/-- what a success says -/
theorem stepSw_done {h : Hp} {limit : Int} {o : Cm} (hd : (stepSw h limit o).2 = true) : (validH h = true ∧ okCm o = true ∧ 1 ≤ limit ∧ limit ≤ 40) ∧ canH h o = true ∧ ¬ (o.op = 1 ∧ limit ≤ (gapH (roomH h limit o) : Int)) ∧ stepSw h limit o = (doH (roomH h limit o) o (gapH (roomH h limit o)), true) := by
  by_cases e : validH h = true ∧ okCm o = true ∧ 1 ≤ limit ∧ limit ≤ 40
  · by_cases hc : canH h o = true
    · by_cases hf : o.op = 1 ∧ limit ≤ (gapH (roomH h limit o) : Int)
      · rw [stepSw_full e hc hf] at hd
        cases hd
      · exact ⟨e, hc, hf, stepSw_does e hc hf⟩
    · rw [stepSw_cannot e (by simpa using hc)] at hd
      cases hd
  · rw [stepSw_no e] at hd
    cases hd
theorem stepH_room {h : Hp} {o : Cm} (hr : (stepH h o).2 = true) : canH h o = true ∧ (o.op = 1 → h.cs.length < 40) ∧ stepH h o = (doH h o h.cs.length, true) := by
  unfold stepH at hr ⊢
  by_cases h1 : (validH h && okCm o) = true
  · rw [if_pos h1] at hr ⊢
    by_cases h2 : (!canH h o || (decide (o.op = 1) && decide (h.cs.length = 40))) = true
    · rw [if_pos h2] at hr
      cases hr
    · rw [if_neg h2]
      rw [Bool.not_eq_true, Bool.or_eq_false_iff, Bool.not_eq_false', Bool.and_eq_false_iff, decide_eq_false_iff_not, decide_eq_false_iff_not] at h2
      have hv := (valid_iff.1 (Bool.and_eq_true_iff.1 h1).1).2.1
      refine ⟨h2.1, fun ho => ?_, rfl⟩
      rcases h2.2 with h3 | h3
      · exact absurd ho h3
      · omega
  · rw [if_neg h1] at hr
    cases hr
/-- P65: what a program sees, if it succeeded -/
theorem stepSw_same {h : Hp} {limit : Int} {o : Cm} (hd : (stepSw h limit o).2 = true) (hr : (stepH h o).2 = true) : sameV (stepSw h limit o).1 (stepH h o).1 = true := by
  obtain ⟨e, hc, hf, es⟩ := stepSw_done hd
  obtain ⟨_, hl, et⟩ := stepH_room hr
  have hx := room_valid e.1 limit o
  have hcx := room_can e.1 limit hc
  have hg := gapH_le (roomH h limit o)
  have h4 : ¬ (o.op = 1 ∧ gapH (roomH h limit o) = 40) := fun h1 => hf ⟨h1.1, by omega⟩
  have h5 := gap_same hx hcx h4 fun h1 => by rw [room_len]; exact hl h1
  obtain ⟨R, S⟩ := room_sim e.1 limit o
  obtain ⟨R', S'⟩ := S.does hcx
  rw [es, et]
  refine sameV_trans h5 ?_
  have v1 : validH (doH (roomH h limit o) o (roomH h limit o).cs.length) = true := doH_valid hcx fun h1 => ⟨Nat.le_refl _, by rw [room_len]; exact hl h1⟩
  have v2 : validH (doH h o h.cs.length) = true := doH_valid hc fun h1 => ⟨Nat.le_refl _, hl h1⟩
  exact sameV_iff.2 ⟨v1, v2, S'.view v1 v2⟩
theorem doH_few {h : Hp} {o : Cm} {p : Nat} (hp : o.op = 1 → p < h.cs.length) : (doH h o p).cs.length ≤ h.cs.length := by
  have h2 : ∀ k i x, (setRef h.cs k i x).length = h.cs.length := fun k i x => by unfold setRef; split <;> simp
  have h3 : ∀ k x, (setDat h.cs k x).length = h.cs.length := fun k x => by unfold setDat; split <;> simp
  unfold doH
  split
  · next h1 =>
    have := hp h1
    show (putCl h.cs p (newCl o)).length ≤ _
    rw [putCl, if_neg (by omega), List.length_set]
    exact Nat.le_refl _
  split
  · simp
  split
  · rw [h2]; omega
  split
  · simp
  split
  · simp
  split
  · rw [h3]; omega
  · omega
/-- P65: there are not more cells -/
theorem stepSw_len {h : Hp} {limit : Int} {o : Cm} (hd : (stepSw h limit o).2 = true) : ((stepSw h limit o).1.cs.length : Int) ≤ limit ∨ (stepSw h limit o).1.cs.length ≤ h.cs.length := by
  obtain ⟨e, hc, hf, es⟩ := stepSw_done hd
  rw [es]
  have h1 := doH_len (h := roomH h limit o) (o := o) (p := gapH (roomH h limit o))
  rw [room_len] at h1
  rcases gapH_cases (roomH h limit o) with ⟨hg, _⟩ | ⟨hg, _⟩
  · by_cases h2 : o.op = 1
    · left
      have : ¬ limit ≤ (gapH (roomH h limit o) : Int) := fun h3 => hf ⟨h2, h3⟩
      rw [hg, room_len] at this
      simp only
      omega
    · right
      have := doH_few (h := roomH h limit o) (o := o) (p := gapH (roomH h limit o)) fun h3 => absurd h3 h2
      rwa [room_len] at this
  · right
    have := doH_few (h := roomH h limit o) (o := o) (p := gapH (roomH h limit o)) fun _ => hg
    rwa [room_len] at this

/-! programs with sweeping -/
noncomputable def runSwFrom (h : Hp) (limit : Int) : List Cm → Hp × Bool
  | [] => (h, true)
  | o :: l => if (stepSw h limit o).2 = false ∧ o.op = 1 then ((stepSw h limit o).1, false) else runSwFrom (stepSw h limit o).1 limit l
noncomputable def runSw (l : List Cm) (limit : Int) : Hp × Bool := if okCms l = true ∧ 1 ≤ limit ∧ limit ≤ 40 then runSwFrom emptyH limit l else (zeroH, false)

/-! views of heaps -/
theorem parse_rawV : ∀ (cs : List Cl), (∀ c ∈ cs, c.u = true ∧ c.r.length ≤ 3) → parseV (cs.map rawV).flatten = some cs
  | [], _ => parseV_nil
  | c :: cs, h => by
    obtain ⟨h1, h2⟩ := h c (by simp)
    rw [List.map_cons, List.flatten_cons, rawV, List.cons_append, List.cons_append, parseV_cons, if_pos ⟨by omega, by omega, by simp⟩]
    rw [Int.toNat_natCast, List.drop_append_of_le_length (Nat.le_refl _), List.drop_length, List.nil_append, parse_rawV cs fun c hc => h c (by simp [hc]), List.take_append_of_le_length (Nat.le_refl _), List.take_length]
    cases c
    simp only at h1
    subst h1
    rfl
/-- P53: the view of a heap is the view of its copy, and that is the heap of the view -/
theorem heapOf_view {h : Hp} (hv : validH h = true) : heapOfV (viewH h) = (copyH h, true) := by
  have h4 := view_len hv
  have hx := copy_valid hv
  have he := copy_view hv
  have hr : (viewH h).take 4 = (copyH h).rt := by
    rw [view_valid hv, copyH, if_pos hv]
    show _ = h.rt.map (nameL (orderH h))
    rw [List.take_append_of_le_length (by rw [List.length_map, (valid_iff.1 hv).2.2.1]; exact Nat.le_refl _), List.take_of_length_le (by rw [List.length_map, (valid_iff.1 hv).2.2.1]; exact Nat.le_refl _)]
  have hd : (viewH h).drop 4 = ((copyH h).cs.map rawV).flatten := by
    rw [view_valid hv, copyH, if_pos hv]
    rw [List.drop_append_of_le_length (by rw [List.length_map, (valid_iff.1 hv).2.2.1]; exact Nat.le_refl _), List.drop_of_length_le (by rw [List.length_map, (valid_iff.1 hv).2.2.1]; exact Nat.le_refl _), List.nil_append]
    show _ = (((orderH h).map _).map rawV).flatten
    rw [List.map_map]
    congr 1
    apply List.map_congr_left
    intro n _
    simp [rawV, cellV]
  have hp : parseV ((viewH h).drop 4) = some (copyH h).cs := by
    rw [hd]
    refine parse_rawV _ fun c hc => ⟨?_, (okCell_iff.1 ((valid_iff.1 hx).1 c hc)).2.2.1⟩
    rw [copyH, if_pos hv] at hc
    obtain ⟨n, _, e⟩ := List.mem_map.1 hc
    rw [← e]
  rw [heapOf_some (by omega) hp, hr, if_pos (by rw [← he])]
end Hps
namespace Hps
theorem collect_no {h : Hp} (hv : validH h = false) : collectH h = (zeroH, -1) := by rw [collectH, sweepH_no (.inl hv)]
theorem collect_few (h : Hp) : (collectH h).1.cs.length ≤ 40 ∧ (collectH h).1.rt.length ≤ 4 ∧ ∀ cl ∈ (collectH h).1.cs, cl.r.length ≤ 3 := by
  cases hv : validH h
  · rw [collect_no hv]
    exact ⟨by decide, by decide, fun cl hcl => by simp [zeroH] at hcl⟩
  · obtain ⟨s1, s2, s3⟩ := valid_small (swept_valid hv)
    rw [collect_eq hv]
    exact ⟨s1, Nat.le_of_eq s2, s3⟩
end Hps
end Go.Proofs.Ytakdjiojahlnmaa
