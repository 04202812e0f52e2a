/- Sweeping with a list of free cells, in plain mathematics: the numbers of the cells that are not used, and what is lost as a word of bits. No program, no conditions. -/
import Derived.Test.YthmddmddcdofaaaUa
import Derived.Test.YthmddmddcdofaaaRg
import Derived.Test.YthmddmddcdofaaaPa
import Derived.Test.YthmddmddcdofaaaGg
namespace Go.Proofs.Ythmddmddcdofaaa
namespace Hps

/-- the numbers of the cells that are not used, among the first n -/
def gapsTo (cs : List Cl) : Nat → List Int
  | 0 => []
  | n + 1 => gapsTo cs n ++ (if usedAt cs n = true then [] else [(n : Int)])
def gapsL (cs : List Cl) : List Int := gapsTo cs cs.length
theorem gapsTo_len (cs : List Cl) : ∀ n, (gapsTo cs n).length ≤ n
  | 0 => Nat.le_refl _
  | n + 1 => by
    have := gapsTo_len cs n
    rw [gapsTo, List.length_append]
    split <;> simp <;> omega
theorem gapsTo_none {cs : List Cl} : ∀ n, (∀ k, k < n → usedAt cs k = true) → gapsTo cs n = []
  | 0, _ => rfl
  | n + 1, h => by rw [gapsTo, gapsTo_none n fun k hk => h k (by omega), if_pos (h n (by omega))]; rfl
theorem gapsTo_same {cs cs' : List Cl} : ∀ n, (∀ k, k < n → usedAt cs k = usedAt cs' k) → gapsTo cs n = gapsTo cs' n
  | 0, _ => rfl
  | n + 1, h => by rw [gapsTo, gapsTo, gapsTo_same n fun k hk => h k (by omega), h n (by omega)]
theorem gapsTo_head {cs : List Cl} {g : Nat} (hu : usedAt cs g = false) (hb : ∀ k, k < g → usedAt cs k = true) : ∀ n, g < n → ∃ l, gapsTo cs n = (g : Int) :: l
  | 0, h => by omega
  | n + 1, h => by
    rw [gapsTo]
    by_cases e : g = n
    · subst e
      rw [gapsTo_none g hb, hu]
      exact ⟨[], rfl⟩
    · obtain ⟨l, hl⟩ := gapsTo_head hu hb n (by omega)
      rw [hl]
      exact ⟨_, rfl⟩
/-- the place for a new cell is the first of the list, or behind the last cell -/
theorem gaps_gap (h : Hp) : (gapsL h.cs = [] ∧ gapH h = h.cs.length) ∨ ((∃ l, gapsL h.cs = (gapH h : Int) :: l) ∧ gapH h < h.cs.length) := by
  rcases gapH_cases h with ⟨e1, e2⟩ | ⟨e1, e2, e3⟩
  · exact .inl ⟨gapsTo_none _ e2, e1⟩
  · exact .inr ⟨gapsTo_head e2 e3 _ e1, e1⟩
theorem gapsTo_put {cs : List Cl} {g : Nat} {c : Cl} (hc : c.u = true) (hg : g < cs.length) (hu : usedAt cs g = false) (hb : ∀ k, k < g → usedAt cs k = true) : ∀ n, gapsTo (cs.set g c) n = (gapsTo cs n).tail
  | 0 => rfl
  | n + 1 => by
    have hs : ∀ k, k ≠ g → usedAt (cs.set g c) k = usedAt cs k := fun k hk => by
      unfold usedAt
      rw [List.getElem?_set_ne (by omega)]
    have hgu : usedAt (cs.set g c) g = true := by
      unfold usedAt
      rw [List.getElem?_set_self (by simpa using hg)]
      exact hc
    rw [gapsTo, gapsTo, gapsTo_put hc hg hu hb n]
    rcases Nat.lt_trichotomy n g with e | e | e
    · rw [gapsTo_none n fun k hk => hb k (by omega), hs n (by omega), hb n e]
      rfl
    · subst e
      rw [gapsTo_none n hb, hgu, hu]
      rfl
    · obtain ⟨l, hl⟩ := gapsTo_head hu hb n e
      rw [hl, hs n (by omega)]
      rfl
/-- a new cell takes the first place of the list -/
theorem gaps_new {h : Hp} {o : Cm} (h1 : o.op = 1) : gapsL (doH h o (gapH h)).cs = (gapsL h.cs).tail := by
  rw [doH, if_pos h1]
  show gapsL (putCl h.cs (gapH h) (newCl o)) = _
  rcases gapH_cases h with ⟨e1, e2⟩ | ⟨e1, e2, e3⟩
  · rw [putCl, if_pos e1]
    have h2 : gapsL h.cs = [] := gapsTo_none _ e2
    rw [h2]
    refine gapsTo_none _ fun k hk => ?_
    rw [List.length_append, List.length_singleton] at hk
    rcases Nat.lt_or_ge k h.cs.length with h3 | h3
    · exact used_append _ k (e2 k h3)
    · obtain rfl : k = h.cs.length := by omega
      unfold usedAt
      rw [List.getElem?_append_right (Nat.le_refl _), Nat.sub_self]
      rfl
  · rw [putCl, if_neg (by omega)]
    have := gapsTo_put (c := newCl o) rfl e1 e2 e3 h.cs.length
    rw [gapsL, List.length_set]
    exact this
theorem setRef_used (cs : List Cl) (k i : Nat) (x : Int) (j : Nat) : usedAt (setRef cs k i x) j = usedAt cs j := by
  unfold setRef
  cases hc : cs[k]? with
  | none => rfl
  | some c =>
    unfold usedAt
    by_cases e : k = j
    · subst e
      rw [List.getElem?_set_self (List.getElem?_eq_some_iff.1 hc).1, hc]
    · rw [List.getElem?_set_ne e]
theorem setDat_used (cs : List Cl) (k : Nat) (x : Int) (j : Nat) : usedAt (setDat cs k x) j = usedAt cs j := by
  unfold setDat
  cases hc : cs[k]? with
  | none => rfl
  | some c =>
    unfold usedAt
    by_cases e : k = j
    · subst e
      rw [List.getElem?_set_self (List.getElem?_eq_some_iff.1 hc).1, hc]
    · rw [List.getElem?_set_ne e]
theorem setRef_len (cs : List Cl) (k i : Nat) (x : Int) : (setRef cs k i x).length = cs.length := by unfold setRef; split <;> simp
theorem setDat_len (cs : List Cl) (k : Nat) (x : Int) : (setDat cs k x).length = cs.length := by unfold setDat; split <;> simp
theorem gaps_of {cs cs' : List Cl} (hl : cs.length = cs'.length) (h : ∀ k, usedAt cs k = usedAt cs' k) : gapsL cs = gapsL cs' := by
  rw [gapsL, gapsL, hl]
  exact gapsTo_same _ fun k _ => h k
/-- no other instruction uses or frees a cell -/
theorem gaps_other {h : Hp} {o : Cm} {p : Nat} (h1 : o.op ≠ 1) : gapsL (doH h o p).cs = gapsL h.cs := by
  rw [doH, if_neg h1]
  split
  · rfl
  split
  · exact gaps_of (setRef_len _ _ _ _) (setRef_used _ _ _ _)
  split
  · rfl
  split
  · rfl
  split
  · exact gaps_of (setDat_len _ _ _) (setDat_used _ _ _)
  · rfl

/-! what is lost, as a word of bits -/
def lostW (cs : List Cl) (marks : List Bool) : Nat := usedW cs &&& (18446744073709551615 - Bm.wordN marks true)
theorem lostW_lt {cs : List Cl} (marks : List Bool) (h : cs.length ≤ 64) : lostW cs marks < 18446744073709551616 := Nat.lt_of_le_of_lt Nat.and_le_left (usedW_lt h)
theorem lostW_bit {cs : List Cl} {marks : List Bool} (hl : marks.length = cs.length) (h64 : cs.length ≤ 64) (i : Nat) : (lostW cs marks).testBit i = (usedAt cs i && decide (marks[i]? = some false)) := by
  have hM : Bm.wordN marks true < 18446744073709551616 := Bm.wordN_lt _ _ (by omega)
  rw [lostW, Nat.testBit_and, usedW_bit, show 18446744073709551615 - Bm.wordN marks true = 2 ^ 64 - (Bm.wordN marks true + 1) by omega, Nat.testBit_two_pow_sub_succ (by omega), Bm.wordN_bit]
  rcases Nat.lt_or_ge i cs.length with hi | hi
  · have hm := List.getElem?_eq_getElem (show i < marks.length by omega)
    rw [hm, decide_eq_true (show i < 64 by omega)]
    cases marks[i] <;> simp
  · have : usedAt cs i = false := by
      unfold usedAt
      rw [List.getElem?_eq_none hi]
    rw [this, Bool.false_and, Bool.false_and]
theorem mem_nums {V : Nat} {x : Int} : x ∈ numsB V ↔ ∃ k : Nat, x = k ∧ k < 64 ∧ V.testBit k = true := by
  unfold numsB
  simp only [List.mem_map, List.mem_filter, List.mem_range]
  constructor
  · rintro ⟨k, ⟨h1, h2⟩, rfl⟩
    exact ⟨k, rfl, h1, h2⟩
  · rintro ⟨k, rfl, h1, h2⟩
    exact ⟨k, ⟨h1, h2⟩, rfl⟩
/-- freeing what is used and not marked frees what is not marked -/
theorem zap_lost {cs : List Cl} {marks : List Bool} (hl : marks.length = cs.length) (h64 : cs.length ≤ 64) (hz : ∀ c ∈ cs, c.u = false → c = zeroCl) : zapL cs (numsB (lostW cs marks)) = dropL cs (marks.map (!·)) := by
  apply List.ext_getElem?
  intro k
  rw [zapL_at _ _ fun x hx => by obtain ⟨j, h1, _⟩ := mem_nums.1 hx; omega]
  rcases Nat.lt_or_ge k cs.length with hk | hk
  · have hc := List.getElem?_eq_getElem hk
    rw [dropL_at _ _ _ _ hc, hc]
    by_cases q : marks[k]? = some false
    · rw [if_pos (not_at.2 q)]
      by_cases u : usedAt cs k = true
      · rw [if_pos (mem_nums.2 ⟨k, rfl, by omega, by rw [lostW_bit hl h64, u, decide_eq_true q]; rfl⟩)]
        rfl
      · rw [if_neg fun e => by
          obtain ⟨j, e1, _, e2⟩ := mem_nums.1 e
          obtain rfl : k = j := by omega
          rw [lostW_bit hl h64, Bool.and_eq_true] at e2
          exact u e2.1]
        rw [hz cs[k] (List.getElem_mem hk) (by
          rw [usedAt, hc] at u
          simpa using u)]
    · rw [if_neg (fun e => q (not_at.1 e)), if_neg fun e => by
        obtain ⟨j, e1, _, e2⟩ := mem_nums.1 e
        obtain rfl : k = j := by omega
        rw [lostW_bit hl h64, Bool.and_eq_true, decide_eq_true_eq] at e2
        exact q e2.2]
  · rw [List.getElem?_eq_none hk, List.getElem?_eq_none (by rw [dropL_len]; exact hk)]
    split <;> rfl
theorem pcN_succ (V k : Nat) : pcN V (k + 1) = pcN V k + (if V.testBit k = true then 1 else 0) := by
  unfold pcN
  rw [List.range_succ, List.countP_append, List.countP_singleton]
/-- how many are lost -/
theorem pc_lost {cs : List Cl} {marks : List Bool} (hl : marks.length = cs.length) (h64 : cs.length ≤ 64) : pcN (lostW cs marks) 64 = freedTo cs marks marks.length := by
  have h1 : ∀ n, pcN (lostW cs marks) n = freedTo cs marks n := by
    intro n
    induction n with
    | zero => rfl
    | succ n ih =>
      rw [pcN_succ, ih, freedTo, lostW_bit hl h64]
      congr 1
      by_cases a : usedAt cs n = true <;> by_cases b : marks[n]? = some false <;> simp [a, b]
  have h2 : ∀ d, freedTo cs marks (marks.length + d) = freedTo cs marks marks.length := by
    intro d
    induction d with
    | zero => rfl
    | succ d ih =>
      rw [← Nat.add_assoc, freedTo, ih, if_neg, Nat.add_zero]
      rw [List.getElem?_eq_none (by omega)]
      simp
  rw [h1, show 64 = marks.length + (64 - marks.length) by omega, h2]
theorem valid_zero {h : Hp} (hv : validH h = true) : ∀ c ∈ h.cs, c.u = false → c = zeroCl := fun c hc hu => by
  have h1 := (okCell_iff.1 ((valid_iff.1 hv).1 c hc)).1
  rw [hu] at h1
  obtain ⟨u, d, r⟩ := c
  rcases h1 with h1 | ⟨h1, h2⟩
  · cases h1
  · simp only at hu h1 h2
    rw [hu, h1, h2, zeroCl]

/-! marks that keep what is referred to -/
section
variable {h : Hp} {marks : List Bool}
theorem keep_ref (hl : marks.length = h.cs.length) {x : Int} (hx : okRef h.cs x = true) : okV (Bm.wordN marks true) x = okRef (dropL h.cs (marks.map (!·))) x := by
  rw [Bool.eq_iff_iff, okRef_iff]
  unfold okV hasB
  rw [Bool.or_eq_true, beq_iff_eq, Bool.and_eq_true, decide_eq_true_eq, Bm.wordN_bit, decide_eq_true_eq, drop_used hl]
  rcases okRef_iff.1 hx with e | ⟨e1, e2⟩
  · simp [e]
  · simp [e2]
theorem keep_refs (hl : marks.length = h.cs.length) {rs : List Int} (hx : okRefs h.cs rs = true) : okVs (Bm.wordN marks true) rs = okRefs (dropL h.cs (marks.map (!·))) rs := by
  rw [Bool.eq_iff_iff, okVs_iff, okRefs_iff]
  constructor
  · intro H n hn
    rw [← keep_ref hl (okRefs_iff.1 hx n hn)]
    exact H n hn
  · intro H n hn
    rw [keep_ref hl (okRefs_iff.1 hx n hn)]
    exact H n hn
theorem cell_refs (hv : validH h = true) {k : Nat} {c : Cl} (hc : h.cs[k]? = some c) : okRefs h.cs c.r = true := (okCell_iff.1 (valid_cell hv hc)).2.2.2
theorem keep_no_root (hv : validH h = true) (hl : marks.length = h.cs.length) (e : okVs (Bm.wordN marks true) h.rt = false) : validH (dropH h (marks.map (!·))) = false := by
  rw [keep_refs hl (valid_iff.1 hv).2.2.2] at e
  cases hx : validH (dropH h (marks.map (!·)))
  · rfl
  · have := (valid_iff.1 hx).2.2.2
    rw [show (dropH h (marks.map (!·))).cs = dropL h.cs (marks.map (!·)) from rfl, show (dropH h (marks.map (!·))).rt = h.rt from rfl, e] at this
    cases this
theorem keep_no_cell (hv : validH h = true) (hl : marks.length = h.cs.length) {k : Nat} {c : Cl} (hc : h.cs[k]? = some c) (hm : (Bm.wordN marks true).testBit k = true) (e : okVs (Bm.wordN marks true) c.r = false) : validH (dropH h (marks.map (!·))) = false := by
  rw [keep_refs hl (cell_refs hv hc)] at e
  rw [Bm.wordN_bit, decide_eq_true_eq] at hm
  cases hx : validH (dropH h (marks.map (!·)))
  · rfl
  · have h1 : (dropH h (marks.map (!·))).cs[k]? = some c := (drop_stays (fun q => by rw [not_at.1 q] at hm; cases hm)).trans hc
    have := cell_refs hx h1
    rw [show (dropH h (marks.map (!·))).cs = dropL h.cs (marks.map (!·)) from rfl, e] at this
    cases this
theorem keep_all (hv : validH h = true) (hl : marks.length = h.cs.length) (hr : okVs (Bm.wordN marks true) h.rt = true) (hc : ∀ (k : Nat) (c : Cl), h.cs[k]? = some c → (Bm.wordN marks true).testBit k = true → okVs (Bm.wordN marks true) c.r = true) : validH (dropH h (marks.map (!·))) = true := by
  obtain ⟨h1, h2, h3, h4⟩ := valid_iff.1 hv
  refine valid_iff.2 ⟨fun c hcm => ?_, by rw [drop_len]; exact h2, h3, ?_⟩
  · obtain ⟨k, hk⟩ := List.mem_iff_getElem?.1 hcm
    rcases drop_cases hk with ⟨d1, d2⟩ | ⟨_, rfl⟩
    · obtain ⟨c1, c2, c3, c4⟩ := okCell_iff.1 (valid_cell hv d2)
      have hkl := (List.getElem?_eq_some_iff.1 d2).1
      refine okCell_iff.2 ⟨c1, c2, c3, ?_⟩
      show okRefs (dropL h.cs (marks.map (!·))) c.r = true
      rw [← keep_refs hl c4]
      refine hc k c d2 ?_
      rw [Bm.wordN_bit, decide_eq_true_eq]
      have hm := List.getElem?_eq_getElem (show k < marks.length by omega)
      rw [hm]
      cases hb : marks[k]
      · exact absurd (not_at.2 (by rw [hm, hb])) d1
      · rfl
    · simp [okCell, zeroCl, okRefs]
  · show okRefs (dropL h.cs (marks.map (!·))) h.rt = true
    rw [← keep_refs hl h4]
    exact hr
end

/-! steps with a list of free cells -/
theorem stepSw_other {h : Hp} {limit : Int} {o : Cm} (e : validH h = true ∧ okCm o = true ∧ 1 ≤ limit ∧ limit ≤ 40) (h1 : o.op ≠ 1) : stepSw h limit o = if canH h o = true then (doH h o h.cs.length, true) else (h, false) := by
  by_cases hc : canH h o = true
  · rw [stepSw_does e hc (fun q => h1 q.1), room_other h1, if_pos hc]
    congr 1
    unfold doH
    rw [if_neg h1, if_neg h1]
  · rw [stepSw_cannot e (by simpa using hc), if_neg hc]
theorem can_new {h : Hp} {o : Cm} (hv : validH h = true) (ho : okCm o = true) (h1 : o.op = 1) : canH h o = true := by
  rw [canH, hv, ho, if_neg (by omega), if_neg (by omega), if_neg (by omega)]
  rfl
theorem stepSw_room {h : Hp} {limit : Int} {o : Cm} (e : validH h = true ∧ okCm o = true ∧ 1 ≤ limit ∧ limit ≤ 40) (h1 : o.op = 1) : stepSw h limit o = if (gapH h : Int) < limit then (doH h o (gapH h), true) else if (gapH (sweptH h) : Int) < limit then (doH (sweptH h) o (gapH (sweptH h)), true) else (sweptH h, false) := by
  have hc := can_new e.1 e.2.1 h1
  by_cases h2 : (gapH h : Int) < limit
  · rw [if_pos h2, stepSw_does e hc (by rw [room_free (by omega)]; exact fun q => by have := q.2; omega), room_free (by omega)]
  · have h3 := room_full (h := h) h1 (show limit ≤ (gapH h : Int) by omega)
    rw [if_neg h2]
    by_cases h4 : (gapH (sweptH h) : Int) < limit
    · rw [if_pos h4, stepSw_does e hc (by rw [h3]; exact fun q => by have := q.2; omega), h3]
    · rw [if_neg h4, stepSw_full e hc (by rw [h3]; exact ⟨h1, by omega⟩), h3]
end Hps
end Go.Proofs.Ythmddmddcdofaaa
