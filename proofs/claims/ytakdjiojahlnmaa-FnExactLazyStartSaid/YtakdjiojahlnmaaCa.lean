/- Heaps with counts in plain mathematics: freeing what nothing leads to, steps and runs with counts, and that a program sees the same. No program, no conditions. -/
import Derived.Test.YtakdjiojahlnmaaGv
import Derived.Test.YtakdjiojahlnmaaHg
namespace Go.Proofs.Ytakdjiojahlnmaa
namespace Hps

/-- nothing is left of a cell -/
def freeCl : Cl := ⟨false, 0, []⟩
def freeK (h : Hp) (k : Nat) : Hp := ⟨h.cs.set k freeCl, h.rt⟩
/-- used cells to each of which a root or one of them leads -/
def Sup (h : Hp) (K : Nat → Prop) : Prop := ∀ k, K k → usedAt h.cs k = true ∧ ((k : Int) ∈ h.rt ∨ ∃ (m : Nat) (c : Cl), K m ∧ h.cs[m]? = some c ∧ (k : Int) ∈ c.r)
/-- a cell that is never freed -/
def Kept (h : Hp) (k : Nat) : Prop := ∃ K : Nat → Prop, Sup h K ∧ K k
open Classical in
/-- what is left when everything is freed to which nothing leads -/
noncomputable def freeH (h : Hp) : Hp := ⟨(List.range h.cs.length).map fun k => if Kept h k then (h.cs[k]?).getD freeCl else freeCl, h.rt⟩

theorem mem_refsOf {h : Hp} {n : Int} : n ∈ refsOf h ↔ n ∈ h.rt ∨ ∃ (m : Nat) (c : Cl), h.cs[m]? = some c ∧ n ∈ c.r := by
  unfold refsOf
  rw [List.mem_append, List.mem_flatten]
  constructor
  · rintro (h1 | ⟨l, hl, hn⟩)
    · exact .inl h1
    · obtain ⟨c, hc, rfl⟩ := List.mem_map.1 hl
      obtain ⟨m, hm⟩ := List.mem_iff_getElem?.1 hc
      exact .inr ⟨m, c, hm, hn⟩
  · rintro (h1 | ⟨m, c, hm, hn⟩)
    · exact .inl h1
    · exact .inr ⟨c.r, List.mem_map.2 ⟨c, List.mem_of_getElem? hm, rfl⟩, hn⟩
theorem Kept.used {h : Hp} {k : Nat} (hk : Kept h k) : usedAt h.cs k = true := by
  obtain ⟨K, hs, hk⟩ := hk
  exact (hs k hk).1
theorem freeH_len (h : Hp) : (freeH h).cs.length = h.cs.length := by simp [freeH]
theorem freeH_rt (h : Hp) : (freeH h).rt = h.rt := rfl
theorem freeH_cell {h : Hp} {k : Nat} (hk : Kept h k) : (freeH h).cs[k]? = h.cs[k]? := by
  obtain ⟨c, hc, _⟩ := usedAt_iff.1 hk.used
  have hl := (List.getElem?_eq_some_iff.1 hc).1
  simp [freeH, hl, hk]
theorem freeH_gone {h : Hp} {k : Nat} (hk : ¬ Kept h k) (hl : k < h.cs.length) : (freeH h).cs[k]? = some freeCl := by simp [freeH, hl, hk]
/-- while cells are freed: x is what h has become -/
structure Frees (h x : Hp) : Prop where
  rt : x.rt = h.rt
  len : x.cs.length = h.cs.length
  cell : ∀ k, x.cs[k]? = h.cs[k]? ∨ (x.cs[k]? = some freeCl ∧ ¬ Kept h k)
theorem Frees.refl (h : Hp) : Frees h h := ⟨rfl, rfl, fun _ => .inl rfl⟩
theorem Frees.kept {h x : Hp} (F : Frees h x) {k : Nat} (hk : Kept h k) : x.cs[k]? = h.cs[k]? := by
  rcases F.cell k with e | ⟨_, e⟩
  · exact e
  · exact absurd hk e
theorem Frees.free {h x : Hp} (F : Frees h x) {k : Nat} (hlt : k < x.cs.length) (hn : (k : Int) ∉ refsOf x) : Frees h (freeK x k) := by
  refine ⟨F.rt, by simp [freeK, F.len], fun j => ?_⟩
  by_cases e : k = j
  · subst e
    refine .inr ⟨by simp [freeK, hlt], fun hk => ?_⟩
    obtain ⟨K, hs, hkk⟩ := hk
    obtain ⟨_, h1 | ⟨m, c, hm, hc, hr⟩⟩ := hs k hkk
    · exact hn (mem_refsOf.2 (.inl (by rw [F.rt]; exact h1)))
    · exact hn (mem_refsOf.2 (.inr ⟨m, c, by rw [F.kept ⟨K, hs, hm⟩]; exact hc, hr⟩))
  · rw [freeK, List.getElem?_set_ne e]
    exact F.cell j
theorem valid_unused {h : Hp} (hv : validH h = true) {k : Nat} {c : Cl} (hc : h.cs[k]? = some c) (hu : c.u = false) : c = freeCl := by
  have := okCell_iff.1 (valid_cell hv hc)
  obtain ⟨u, d, r⟩ := c
  simp only at hu this
  subst hu
  rcases this.1 with e | ⟨e1, e2⟩
  · cases e
  · rw [freeCl, e1, e2]
theorem Frees.used {h x : Hp} (F : Frees h x) (hv : validH h = true) {k : Nat} {c : Cl} (hc : x.cs[k]? = some c) (hr : c.r ≠ []) : h.cs[k]? = some c ∧ c.u = true := by
  rcases F.cell k with e | ⟨e, _⟩
  · rw [e] at hc
    refine ⟨hc, ?_⟩
    cases hu : c.u
    · rw [valid_unused hv hc hu] at hr
      exact absurd rfl hr
    · rfl
  · rw [hc] at e
    rw [Option.some.inj e] at hr
    exact absurd rfl hr
/-- when nothing is left that could be freed, it is what is kept -/
theorem Frees.fin {h x : Hp} (F : Frees h x) (hv : validH h = true) (hd : ∀ k, usedAt x.cs k = true → (k : Int) ∈ refsOf x) : x = freeH h := by
  have hs : Sup h (fun k => usedAt x.cs k = true) := fun k hk => by
    obtain ⟨c, hc, hu⟩ := usedAt_iff.1 hk
    refine ⟨?_, ?_⟩
    · rcases F.cell k with e | ⟨e, _⟩
      · exact usedAt_iff.2 ⟨c, by rw [← e]; exact hc, hu⟩
      · rw [hc] at e
        rw [Option.some.inj e] at hu
        cases hu
    · rcases mem_refsOf.1 (hd k hk) with h1 | ⟨m, c', hm, hn⟩
      · exact .inl (by rw [← F.rt]; exact h1)
      · obtain ⟨h1, h2⟩ := F.used hv hm (List.ne_nil_of_mem hn)
        exact .inr ⟨m, c', usedAt_iff.2 ⟨c', hm, h2⟩, h1, hn⟩
  have hcs : x.cs = (freeH h).cs := by
    apply List.ext_getElem?
    intro k
    rcases Nat.lt_or_ge k h.cs.length with hk | hk
    · obtain ⟨c, hc⟩ : ∃ c, h.cs[k]? = some c := ⟨_, List.getElem?_eq_getElem hk⟩
      by_cases q : Kept h k
      · rw [freeH_cell q, F.kept q]
      · rw [freeH_gone q hk]
        rcases F.cell k with e | ⟨e, _⟩
        · rw [e, hc]
          congr 1
          refine valid_unused hv hc ?_
          cases hu : c.u
          · rfl
          · exact absurd ⟨_, hs, usedAt_iff.2 ⟨c, by rw [e]; exact hc, hu⟩⟩ q
        · exact e
    · rw [List.getElem?_eq_none (by rw [F.len]; exact hk), List.getElem?_eq_none (by simp [freeH]; exact hk)]
  obtain ⟨xc, xr⟩ := x
  have := F.rt
  simp only at this hcs
  rw [this, hcs]
  rfl
theorem freeK_valid {x : Hp} (hv : validH x = true) {k : Nat} (hn : (k : Int) ∉ refsOf x) : validH (freeK x k) = true := by
  obtain ⟨v1, v2, v3, v4⟩ := valid_iff.1 hv
  have hu : ∀ n : Int, okRef x.cs n = true → n ≠ (k : Int) → okRef (x.cs.set k freeCl) n = true := fun n ho hne => by
    rcases okRef_iff.1 ho with e | ⟨e, hu⟩
    · exact okRef_iff.2 (.inl e)
    · refine okRef_iff.2 (.inr ⟨e, ?_⟩)
      obtain ⟨c, hc, hcu⟩ := usedAt_iff.1 hu
      exact usedAt_iff.2 ⟨c, by rw [List.getElem?_set_ne (by omega)]; exact hc, hcu⟩
  refine valid_iff.2 ⟨fun c hc => ?_, by simpa [freeK] using v2, v3, okRefs_iff.2 fun n h1 => hu n (okRefs_iff.1 v4 n h1) fun e => hn (mem_refsOf.2 (.inl (e ▸ h1)))⟩
  rcases List.mem_or_eq_of_mem_set hc with h1 | rfl
  · obtain ⟨m, hm⟩ := List.mem_iff_getElem?.1 h1
    obtain ⟨w1, w2, w3, w4⟩ := okCell_iff.1 (v1 c h1)
    exact okCell_iff.2 ⟨w1, w2, w3, okRefs_iff.2 fun n h2 => hu n (okRefs_iff.1 w4 n h2) fun e => hn (mem_refsOf.2 (.inr ⟨m, c, hm, e ▸ h2⟩))⟩
  · exact okCell_iff.2 ⟨.inr ⟨rfl, rfl⟩, by decide, by decide, rfl⟩
/-- a used cell to which nothing leads, the last one below n; -1 if there is none -/
def idleTo (h : Hp) : Nat → Int
  | 0 => -1
  | n + 1 => if usedAt h.cs n = true ∧ (n : Int) ∉ refsOf h then (n : Int) else idleTo h n
theorem idleTo_cases (h : Hp) : ∀ n, (idleTo h n = -1 ∧ ∀ k, k < n → usedAt h.cs k = true → (k : Int) ∈ refsOf h) ∨ ∃ k : Nat, idleTo h n = k ∧ k < n ∧ usedAt h.cs k = true ∧ (k : Int) ∉ refsOf h
  | 0 => .inl ⟨rfl, fun k hk => by omega⟩
  | n + 1 => by
    rw [idleTo]
    by_cases e : usedAt h.cs n = true ∧ (n : Int) ∉ refsOf h
    · rw [if_pos e]
      exact .inr ⟨n, rfl, by omega, e⟩
    · rw [if_neg e]
      rcases idleTo_cases h n with ⟨h1, h2⟩ | ⟨k, h1, h2, h3⟩
      · refine .inl ⟨h1, fun k hk hu => ?_⟩
        rcases Nat.lt_or_ge k n with h3 | h3
        · exact h2 k h3 hu
        · obtain rfl : k = n := by omega
          exact Classical.byContradiction fun q => e ⟨hu, q⟩
      · exact .inr ⟨k, h1, by omega, h3⟩
def usedN (h : Hp) : Nat := usedTo h.cs h.cs.length
theorem usedN_eq (h : Hp) : usedN h = h.cs.countP (·.u) := by simp [usedN, usedTo]
theorem usedN_free {x : Hp} {k : Nat} (hu : usedAt x.cs k = true) : usedN (freeK x k) + 1 = usedN x := by
  rw [usedN_eq, usedN_eq, freeK]
  obtain ⟨c, hc, hcu⟩ := usedAt_iff.1 hu
  have key : ∀ (cs : List Cl) (k : Nat), cs[k]? = some c → (cs.set k freeCl).countP (·.u) + 1 = cs.countP (·.u) := by
    intro cs
    induction cs with
    | nil => intro k h; simp at h
    | cons a l ih =>
      intro k h
      cases k with
      | zero =>
        simp only [List.getElem?_cons_zero, Option.some.injEq] at h
        subst h
        simp [hcu, freeCl]
      | succ k =>
        have := ih k (by simpa using h)
        rw [List.set_cons_succ, List.countP_cons, List.countP_cons]
        omega
  exact key x.cs k hc
def freeF : Nat → Hp → Hp
  | 0, x => x
  | f + 1, x => if idleTo x x.cs.length < 0 then x else freeF f (freeK x (idleTo x x.cs.length).toNat)
theorem freeF_frees {h : Hp} (hv : validH h = true) : ∀ (f : Nat) (x : Hp), Frees h x → validH x = true → usedN x < f → freeF f x = freeH h ∧ validH (freeH h) = true
  | 0, x, _, _, hu => by omega
  | f + 1, x, F, vx, hu => by
    rw [freeF]
    rcases idleTo_cases x x.cs.length with ⟨h1, h2⟩ | ⟨k, h1, h2, h3, h4⟩
    · rw [if_pos (by omega)]
      have := F.fin hv fun k hk => h2 k (usedAt_lt hk) hk
      exact ⟨this, this ▸ vx⟩
    · rw [if_neg (by omega), h1, Int.toNat_natCast]
      exact freeF_frees hv f _ (F.free h2 h4) (freeK_valid vx h4) (by have := usedN_free h3; omega)
theorem usedN_lt (h : Hp) : usedN h < h.cs.length + 1 := by have := usedTo_le h.cs h.cs.length; unfold usedN; omega
theorem freeH_valid {h : Hp} (hv : validH h = true) : validH (freeH h) = true := (freeF_frees hv _ h (Frees.refl h) hv (usedN_lt h)).2
/-- what is left is led to -/
theorem freeH_led {h : Hp} {k : Nat} (hu : usedAt (freeH h).cs k = true) : (k : Int) ∈ refsOf (freeH h) := by
  have hl := usedAt_lt hu
  rw [freeH_len] at hl
  have hk : Kept h k := by
    refine Classical.byContradiction fun q => ?_
    obtain ⟨c, hc, hcu⟩ := usedAt_iff.1 hu
    rw [freeH_gone q hl] at hc
    rw [← Option.some.inj hc] at hcu
    cases hcu
  obtain ⟨K, hs, hkk⟩ := hk
  obtain ⟨_, h1 | ⟨m, c, hm, hc, hr⟩⟩ := hs k hkk
  · exact mem_refsOf.2 (.inl h1)
  · exact mem_refsOf.2 (.inr ⟨m, c, by rw [freeH_cell ⟨K, hs, hm⟩]; exact hc, hr⟩)
theorem reached_kept {h : Hp} (hv : validH h = true) {k : Nat} (hr : Rch h.cs h.rt k) : Kept h k := by
  refine ⟨fun k => Rch h.cs h.rt k, fun k hk => ⟨hk.live hv, ?_⟩, hr⟩
  cases hk with
  | root h1 => exact .inl h1
  | step h1 h2 h3 => exact .inr ⟨_, _, h1, h2, h3⟩
/-- a program sees the same -/
theorem freeH_sim {h : Hp} (hv : validH h = true) : Sim h (freeH h) (fun k x => k = x ∧ Rch h.cs h.rt k) := by
  refine ⟨fun k x y h1 h2 => by omega, fun k m x h1 h2 => by omega, ⟨rfl, fun i n m h1 h2 => ?_⟩, ?_⟩
  · have e : n = m := by
      rw [show (freeH h).rt = h.rt from rfl, h1] at h2
      exact Option.some.inj h2
    subst e
    rcases okRef_iff.1 (valid_root hv h1) with e | ⟨e, _⟩
    · exact .inl ⟨e, e⟩
    · exact .inr ⟨n.toNat, n.toNat, by omega, by omega, rfl, .root (by rw [Int.toNat_of_nonneg e]; exact List.mem_of_getElem? h1)⟩
  · rintro k x ⟨rfl, hr⟩
    obtain ⟨c, hc, _⟩ := usedAt_iff.1 (hr.live hv)
    refine ⟨c, c, hc, by rw [freeH_cell (reached_kept hv hr)]; exact hc, rfl, rfl, fun i n m h1 h2 => ?_⟩
    have e : n = m := by
      rw [h1] at h2
      exact Option.some.inj h2
    subst e
    rcases okRef_iff.1 (valid_ref hv hc h1) with e | ⟨e, _⟩
    · exact .inl ⟨e, e⟩
    · exact .inr ⟨n.toNat, n.toNat, by omega, by omega, rfl, .step hr hc (by rw [Int.toNat_of_nonneg e]; exact List.mem_of_getElem? h1)⟩
theorem freeH_same {h : Hp} (hv : validH h = true) : sameV (freeH h) h = true := by
  rw [sameV_comm]
  exact sameV_iff.2 ⟨hv, freeH_valid hv, (freeH_sim hv).view hv (freeH_valid hv)⟩

/-- the first cell that is not used, or the place behind the last one -/
def gapTo (cs : List Cl) (n : Nat) : Nat := ((List.range n).find? fun k => !usedAt cs k).getD n
def gapH (h : Hp) : Nat := gapTo h.cs h.cs.length
theorem gapH_cases (h : Hp) : (gapH h = h.cs.length ∧ ∀ k, k < h.cs.length → usedAt h.cs k = true) ∨ (gapH h < h.cs.length ∧ usedAt h.cs (gapH h) = false ∧ ∀ k, k < gapH h → usedAt h.cs k = true) := by
  unfold gapH gapTo
  cases e : (List.range h.cs.length).find? fun k => !usedAt h.cs k with
  | none =>
    refine .inl ⟨rfl, fun k hk => ?_⟩
    have := List.find?_eq_none.1 e k (List.mem_range.2 hk)
    simpa using this
  | some k =>
    refine .inr ⟨?_, ?_, ?_⟩
    · exact List.mem_range.1 (List.mem_of_find?_eq_some e)
    · simpa using List.find?_some e
    · intro j hj
      simp only [Option.getD_some] at hj
      obtain ⟨_, l1, l2, e1, e2⟩ := List.find?_eq_some_iff_append.1 e
      have hk := List.mem_range.1 (List.mem_of_find?_eq_some e)
      have hm : j ∈ l1 := by
        have hj1 : j ∈ List.range h.cs.length := List.mem_range.2 (by omega)
        rw [e1, List.mem_append, List.mem_cons] at hj1
        rcases hj1 with h1 | h1 | h1
        · exact h1
        · omega
        · have hs : (l1 ++ k :: l2).Pairwise (· < ·) := by rw [← e1]; exact List.pairwise_lt_range
          rw [List.pairwise_append, List.pairwise_cons] at hs
          have := hs.2.1.1 j h1
          omega
      simpa using e2 j hm
theorem gapH_le (h : Hp) : gapH h ≤ h.cs.length := by rcases gapH_cases h with ⟨e, _⟩ | ⟨e, _⟩ <;> omega
/-- counts are those of RefCounts -/
def okCt (h : Hp) (l : List Int) : Bool := validH h && decide (l = countsL h)
theorem okCt_iff {h : Hp} {l : List Int} : okCt h l = true ↔ validH h = true ∧ l = countsL h := by simp [okCt]
/-- a step with counts -/
noncomputable def stepCt (h : Hp) (l : List Int) (o : Cm) : (Hp × List Int) × Bool :=
  if okCt h l && okCm o then
    (if !canH h o || (decide (o.op = 1) && decide (gapH h = 40)) then ((h, l), false) else ((freeH (doH h o (gapH h)), countsL (freeH (doH h o (gapH h)))), true))
  else ((zeroH, []), false)
noncomputable def runCtFrom (x : Hp × List Int) (l : List Cm) : Hp × List Int := l.foldl (fun x o => (stepCt x.1 x.2 o).1) x
noncomputable def runCt (l : List Cm) : Hp × List Int := if okCms l = true then runCtFrom (emptyH, []) l else (zeroH, [])
theorem stepCt_no {h : Hp} {l : List Int} {o : Cm} (e : okCt h l = false ∨ okCm o = false) : stepCt h l o = ((zeroH, []), false) := by
  rw [stepCt, if_neg]
  rw [Bool.and_eq_true]
  rintro ⟨h1, h2⟩
  rcases e with e | e
  · rw [e] at h1; cases h1
  · rw [e] at h2; cases h2
theorem stepCt_cannot {h : Hp} {l : List Int} {o : Cm} (h1 : okCt h l = true) (h2 : okCm o = true) (h3 : canH h o = false ∨ (o.op = 1 ∧ gapH h = 40)) : stepCt h l o = ((h, l), false) := by
  rw [stepCt, if_pos (by rw [h1, h2]; rfl), if_pos]
  rcases h3 with e | ⟨e1, e2⟩
  · simp [e]
  · simp [e1, e2]
theorem stepCt_does {h : Hp} {l : List Int} {o : Cm} (h1 : okCt h l = true) (h2 : okCm o = true) (h3 : canH h o = true) (h4 : ¬ (o.op = 1 ∧ gapH h = 40)) : stepCt h l o = ((freeH (doH h o (gapH h)), countsL (freeH (doH h o (gapH h)))), true) := by
  rw [stepCt, if_pos (by rw [h1, h2]; rfl), if_neg]
  simp only [h3, Bool.not_true, Bool.false_or, Bool.and_eq_true, decide_eq_true_eq]
  exact h4
theorem gap_room {h : Hp} (hv : validH h = true) {o : Cm} (h4 : ¬ (o.op = 1 ∧ gapH h = 40)) : o.op = 1 → gapH h ≤ h.cs.length ∧ gapH h < 40 := fun h1 => by
  have := gapH_le h
  have := (valid_iff.1 hv).2.1
  exact ⟨gapH_le h, by omega⟩
theorem stepCt_ok {h : Hp} {l : List Int} {o : Cm} (h1 : okCt h l = true) (h2 : okCm o = true) : okCt (stepCt h l o).1.1 (stepCt h l o).1.2 = true := by
  by_cases h3 : canH h o = false ∨ (o.op = 1 ∧ gapH h = 40)
  · rw [stepCt_cannot h1 h2 h3]
    exact h1
  · rw [not_or] at h3
    have h3' : canH h o = true := by simpa using h3.1
    rw [stepCt_does h1 h2 h3' h3.2]
    exact okCt_iff.2 ⟨freeH_valid (doH_valid h3' (gap_room (okCt_iff.1 h1).1 h3.2)), rfl⟩

/-! a new cell at a gap and a new cell behind the last one -/
theorem ok_gap {h : Hp} {p : Nat} (hp : usedAt h.cs p = false) {n : Int} (ho : okRef h.cs n = true) : n ≠ (p : Int) := by
  rintro rfl
  rcases okRef_iff.1 ho with e | ⟨_, e⟩
  · omega
  · rw [Int.toNat_natCast, hp] at e
    cases e
theorem new_sim {h : Hp} (hv : validH h = true) {p : Nat} (hp : p < h.cs.length) (hu : usedAt h.cs p = false) (c : Cl) (hc : ∀ n ∈ c.r, n = -1) (i : Nat) :
    Sim ⟨h.cs.set p c, h.rt.set i (p : Int)⟩ ⟨h.cs ++ [c], h.rt.set i (h.cs.length : Int)⟩ (fun k x => (k = x ∧ usedAt h.cs k = true) ∨ (k = p ∧ x = h.cs.length)) := by
  have hlt : ∀ k, usedAt h.cs k = true → k < h.cs.length := fun k hk => usedAt_lt hk
  have hne : ∀ k, usedAt h.cs k = true → k ≠ p := fun k hk e => by rw [e, hu] at hk; cases hk
  have hrr : ∀ n : Int, okRef h.cs n = true → RR (fun k x => (k = x ∧ usedAt h.cs k = true) ∨ (k = p ∧ x = h.cs.length)) n n := fun n ho => by
    rcases okRef_iff.1 ho with e | ⟨e, hu⟩
    · exact .inl ⟨e, e⟩
    · exact .inr ⟨n.toNat, n.toNat, by omega, by omega, .inl ⟨rfl, hu⟩⟩
  refine ⟨?_, ?_, ?_, ?_⟩
  · rintro k x y (⟨rfl, h1⟩ | ⟨rfl, rfl⟩) (⟨rfl, h2⟩ | ⟨e, rfl⟩)
    · rfl
    · exact absurd e (hne _ h1)
    · exact absurd rfl (hne _ h2)
    · rfl
  · rintro k m x (⟨rfl, h1⟩ | ⟨rfl, rfl⟩) (⟨rfl, h2⟩ | ⟨rfl, e⟩)
    · rfl
    · have := hlt _ h1; omega
    · have := hlt _ h2; omega
    · rfl
  · refine LR.set (R := fun k x => (k = x ∧ usedAt h.cs k = true) ∨ (k = p ∧ x = h.cs.length)) ⟨rfl, fun j n m h1 h2 => ?_⟩ i (.inr ⟨_, _, rfl, rfl, .inr ⟨rfl, rfl⟩⟩)
    rw [h1] at h2
    rw [← Option.some.inj h2]
    exact hrr n (valid_root hv h1)
  · rintro k x (⟨rfl, h1⟩ | ⟨rfl, rfl⟩)
    · obtain ⟨q, hq, _⟩ := usedAt_iff.1 h1
      refine ⟨q, q, by rw [List.getElem?_set_ne (fun e => hne k h1 e.symm)]; exact hq, by rw [List.getElem?_append_left (hlt k h1)]; exact hq, rfl, rfl, fun j n m h1 h2 => ?_⟩
      rw [h1] at h2
      rw [← Option.some.inj h2]
      exact hrr n (valid_ref hv hq h1)
    · refine ⟨c, c, by simp [hp], by simp, rfl, rfl, fun j n m h1 h2 => ?_⟩
      rw [h1] at h2
      have e := hc n (List.mem_of_getElem? h1)
      exact .inl ⟨e, by rw [← Option.some.inj h2]; exact e⟩
theorem gap_same {h : Hp} {o : Cm} (hv : validH h = true) (hc : canH h o = true) (h4 : ¬ (o.op = 1 ∧ gapH h = 40)) (hl : o.op = 1 → h.cs.length < 40) : sameV (doH h o (gapH h)) (doH h o h.cs.length) = true := by
  have v1 : validH (doH h o (gapH h)) = true := doH_valid hc (gap_room hv h4)
  have v2 : validH (doH h o h.cs.length) = true := doH_valid hc (fun h1 => ⟨Nat.le_refl _, hl h1⟩)
  by_cases h1 : o.op = 1
  · rcases gapH_cases h with ⟨e, _⟩ | ⟨e1, e2, _⟩
    · rw [e] at v1 ⊢
      exact sameV_iff.2 ⟨v1, v1, rfl⟩
    · have S := new_sim hv e1 e2 (newCl o) (fun n hn => by simp only [newCl, List.mem_replicate] at hn; exact hn.2) o.a.toNat
      have d1 : doH h o (gapH h) = ⟨h.cs.set (gapH h) (newCl o), h.rt.set o.a.toNat (gapH h : Int)⟩ := by rw [doH, if_pos h1, putCl, if_neg (by omega)]
      have d2 : doH h o h.cs.length = ⟨h.cs ++ [newCl o], h.rt.set o.a.toNat (h.cs.length : Int)⟩ := by rw [doH, if_pos h1, putCl, if_pos rfl]
      rw [← d1, ← d2] at S
      exact sameV_iff.2 ⟨v1, v2, S.view v1 v2⟩
  · have : doH h o (gapH h) = doH h o h.cs.length := by
      unfold doH
      rw [if_neg h1, if_neg h1]
    rw [this]
    exact sameV_iff.2 ⟨v2, v2, rfl⟩
theorem sameV_trans {a b c : Hp} (h1 : sameV a b = true) (h2 : sameV b c = true) : sameV a c = true := by
  obtain ⟨a1, _, a3⟩ := sameV_iff.1 h1
  obtain ⟨_, b2, b3⟩ := sameV_iff.1 h2
  exact sameV_iff.2 ⟨a1, b2, a3.trans b3⟩
/-- P56: with room, a program sees what StepHeap shows -/
theorem stepCt_same {h : Hp} {l : List Int} {o : Cm} (hd : (stepCt h l o).2 = true) (hr : (stepH h o).2 = true) : sameV (stepCt h l o).1.1 (stepH h o).1 = true := by
  have h1 : okCt h l = true := by
    cases e : okCt h l
    · rw [stepCt_no (.inl e)] at hd; cases hd
    · rfl
  have h2 : okCm o = true := by
    cases e : okCm o
    · rw [stepCt_no (.inr e)] at hd; cases hd
    · rfl
  have hv := (okCt_iff.1 h1).1
  by_cases h3 : canH h o = false ∨ (o.op = 1 ∧ gapH h = 40)
  · rw [stepCt_cannot h1 h2 h3] at hd
    cases hd
  rw [not_or] at h3
  have h3' : canH h o = true := by simpa using h3.1
  have h5 : ¬ (o.op = 1 ∧ h.cs.length = 40) := by
    rintro ⟨e1, e2⟩
    simp [stepH, hv, h2, e1, e2] at hr
  have e : stepH h o = (doH h o h.cs.length, true) := by
    unfold stepH
    rw [hv, h2, h3']
    simp only [Bool.and_self, if_true, Bool.not_true, Bool.false_or]
    rw [if_neg]
    simpa using h5
  rw [stepCt_does h1 h2 h3' h3.2, e]
  exact sameV_trans (freeH_same (doH_valid h3' (gap_room hv h3.2))) (gap_same hv h3' h3.2 (fun q => by have := (valid_iff.1 hv).2.1; omega))
/-- counts tell what is used, once everything is freed to which nothing leads -/
theorem counts_at {h : Hp} {k : Nat} (hk : k < h.cs.length) : (countsL h)[k]? = some (((refsOf h).count (k : Int) : Nat) : Int) := by simp [countsL, hk]
theorem counts_pos {h : Hp} {k : Nat} : (0 : Int) < (((refsOf h).count (k : Int) : Nat) : Int) ↔ (k : Int) ∈ refsOf h := by
  rw [← List.count_pos_iff]
  omega
theorem counts_used {h : Hp} (hv : validH h = true) {k : Nat} (hm : (k : Int) ∈ refsOf h) : usedAt h.cs k = true := by
  rcases mem_refsOf.1 hm with h1 | ⟨m, c, hc, h1⟩
  · rcases okRef_iff.1 (okRefs_iff.1 (valid_iff.1 hv).2.2.2 _ h1) with e | ⟨_, e⟩
    · omega
    · simpa using e
  · rcases okRef_iff.1 (okRefs_iff.1 (valid_refs hv c (List.mem_of_getElem? hc)) _ h1) with e | ⟨_, e⟩
    · omega
    · simpa using e
theorem freed_counts {h : Hp} (hv : validH h = true) {k : Nat} (_hk : k < (freeH h).cs.length) : decide ((0 : Int) < (((refsOf (freeH h)).count (k : Int) : Nat) : Int)) = usedAt (freeH h).cs k := by
  rw [Bool.eq_iff_iff, decide_eq_true_iff, counts_pos]
  exact ⟨counts_used (freeH_valid hv), freeH_led⟩

/-! runs -/
theorem empty_ok : okCt emptyH [] = true := by decide
/-- while a program runs with counts: at most as many cells as steps; a program sees what it sees without freeing; everything used has a count -/
structure RunsCt (x : Hp × List Int) (y : Hp) (n : Nat) : Prop where
  ok : okCt x.1 x.2 = true
  same : sameV x.1 y = true
  few : x.1.cs.length ≤ n ∧ y.cs.length ≤ n
  led : ∀ k, usedAt x.1.cs k = true → (k : Int) ∈ refsOf x.1
theorem RunsCt.start : RunsCt (emptyH, []) emptyH 0 := ⟨empty_ok, by rw [sameV_iff]; exact ⟨empty_valid, empty_valid, rfl⟩, by decide, fun k hk => by simp [emptyH, usedAt] at hk⟩
theorem doH_len {h : Hp} {o : Cm} {p : Nat} : (doH h o p).cs.length ≤ h.cs.length + 1 := by
  have h1 : ∀ c, (putCl h.cs p c).length ≤ h.cs.length + 1 := fun c => by unfold putCl; split <;> simp
  have h2 : ∀ k i x, (setRef h.cs k i x).length = h.cs.length := fun k i x => by unfold setRef; split <;> simp
  have h3 : ∀ k x, (setDat h.cs k x).length = h.cs.length := fun k x => by unfold setDat; split <;> simp
  unfold doH
  split
  · exact h1 _
  split
  · simp
  split
  · rw [h2]; omega
  split
  · simp
  split
  · simp
  split
  · rw [h3]; omega
  · omega
theorem stepH_len {h : Hp} {o : Cm} : (stepH h o).1.cs.length ≤ h.cs.length + 1 := by
  unfold stepH
  split
  · split
    · simp
    · exact doH_len
  · simp [zeroH]
theorem stepCt_len {h : Hp} {l : List Int} {o : Cm} : (stepCt h l o).1.1.cs.length ≤ h.cs.length + 1 := by
  unfold stepCt
  split
  · split
    · simp
    · simp only [freeH_len]; exact doH_len
  · simp [zeroH]
theorem RunsCt.step {x : Hp × List Int} {y : Hp} {n : Nat} (S : RunsCt x y n) {o : Cm} (ho : okCm o = true) (hn : n < 40) : RunsCt (stepCt x.1 x.2 o).1 (stepH y o).1 (n + 1) := by
  have hv := (okCt_iff.1 S.ok).1
  obtain ⟨_, hy, he⟩ := sameV_iff.1 S.same
  have hcan := (sim_of_view hv hy he).can hv hy o
  have hg := gapH_le x.1
  have hf := S.few
  refine ⟨stepCt_ok S.ok ho, ?_, ⟨Nat.le_trans stepCt_len (by omega), Nat.le_trans stepH_len (by omega)⟩, ?_⟩
  · cases hc : canH x.1 o
    · rw [stepCt_cannot S.ok ho (.inl hc)]
      have : stepH y o = (y, false) := by simp [stepH, hy, ho, ← hcan, hc]
      rw [this]
      exact S.same
    · have h4 : ¬ (o.op = 1 ∧ gapH x.1 = 40) := by omega
      refine sameV_trans (stepCt_same (by rw [stepCt_does S.ok ho hc h4]) ?_) (same_step S.same ho (by omega) (by omega))
      have h5 : ¬ (o.op = 1 ∧ x.1.cs.length = 40) := by omega
      unfold stepH
      rw [hv, ho, hc]
      simp only [Bool.and_self, if_true, Bool.not_true, Bool.false_or]
      rw [if_neg (by simpa using h5)]
  · by_cases h3 : canH x.1 o = false ∨ (o.op = 1 ∧ gapH x.1 = 40)
    · rw [stepCt_cannot S.ok ho h3]
      exact S.led
    · rw [not_or] at h3
      rw [stepCt_does S.ok ho (by simpa using h3.1) h3.2]
      exact fun k hk => freeH_led hk
theorem runs_from : ∀ (l : List Cm) (x : Hp × List Int) (y : Hp) (n : Nat), RunsCt x y n → (∀ o ∈ l, okCm o = true) → n + l.length ≤ 40 → RunsCt (runCtFrom x l) (runFrom y l) (n + l.length)
  | [], x, y, n, S, _, _ => S
  | o :: l, x, y, n, S, ho, hn => by
    have h1 := S.step (ho o (by simp)) (by simp at hn; omega)
    have := runs_from l _ _ _ h1 (fun o' h' => ho o' (by simp [h'])) (by simp at hn ⊢; omega)
    rw [show n + 1 + l.length = n + (o :: l).length by simp; omega] at this
    exact this
/-- P57: with counts a program sees what it sees without freeing -/
theorem run_same {l : List Cm} (hl : okCms l = true) : okCt (runCt l).1 (runCt l).2 = true ∧ sameV (runCt l).1 (runH l) = true ∧ ∀ k, usedAt (runCt l).1.cs k = true → (k : Int) ∈ refsOf (runCt l).1 := by
  obtain ⟨h1, h2⟩ := okCms_iff.1 hl
  have S := runs_from l _ _ _ RunsCt.start h1 (by omega)
  rw [runCt, if_pos hl, runH, if_pos hl]
  exact ⟨S.ok, S.same, S.led⟩

open Classical in
/-- the used cells that cannot be reached, ascending -/
noncomputable def leakL (h : Hp) : List Int := ((List.range h.cs.length).filter fun k => usedAt h.cs k && !decide (Rch h.cs h.rt k)).map fun (k : Nat) => (k : Int)
noncomputable def leakH (h : Hp) : List Int := if validH h = true then leakL h else []
open Classical in
noncomputable def leakTo (h : Hp) (n : Nat) : List Int := ((List.range n).filter fun k => usedAt h.cs k && !decide (Rch h.cs h.rt k)).map fun (k : Nat) => (k : Int)
theorem leakTo_all (h : Hp) : leakTo h h.cs.length = leakL h := rfl
theorem leakTo_yes {h : Hp} {k : Nat} (hu : usedAt h.cs k = true) (hr : ¬ Rch h.cs h.rt k) : leakTo h (k + 1) = leakTo h k ++ [(k : Int)] := by
  simp [leakTo, List.range_succ, List.filter_append, hu, hr]
theorem leakTo_no {h : Hp} {k : Nat} (hu : usedAt h.cs k = false ∨ Rch h.cs h.rt k) : leakTo h (k + 1) = leakTo h k := by
  rcases hu with e | e
  · simp [leakTo, List.range_succ, List.filter_append, e]
  · simp [leakTo, List.range_succ, List.filter_append, e]
theorem leakTo_len (h : Hp) (n : Nat) : (leakTo h n).length ≤ n := by
  simp only [leakTo, List.length_map]
  exact Nat.le_trans (List.length_filter_le _ _) (by simp)
theorem mem_leak {h : Hp} {x : Int} : x ∈ leakL h ↔ ∃ k : Nat, x = k ∧ usedAt h.cs k = true ∧ ¬ Rch h.cs h.rt k := by
  unfold leakL
  simp only [List.mem_map, List.mem_filter, List.mem_range, Bool.and_eq_true, Bool.not_eq_true', decide_eq_false_iff_not]
  constructor
  · rintro ⟨k, ⟨_, h2, h3⟩, rfl⟩
    exact ⟨k, rfl, h2, h3⟩
  · rintro ⟨k, rfl, h2, h3⟩
    exact ⟨k, ⟨usedAt_lt h2, h2, h3⟩, rfl⟩
open Classical in
theorem used_parts {h : Hp} (hv : validH h = true) : ∀ n, n ≤ h.cs.length → usedTo h.cs n = liveTo (reachL h.cs h.rt) n + (leakTo h n).length
  | 0, _ => by simp [usedTo, liveTo, leakTo]
  | n + 1, hn => by
    have ih := used_parts hv n (by omega)
    obtain ⟨c, hc⟩ : ∃ c, h.cs[n]? = some c := ⟨_, List.getElem?_eq_getElem (show n < h.cs.length by omega)⟩
    have hr := reachL_at (cs := h.cs) (a := h.rt) (show n < h.cs.length by omega)
    have hua : usedAt h.cs n = c.u := by rw [usedAt, hc]
    rw [usedTo_succ hc, liveTo_succ hr, ih]
    by_cases q : Rch h.cs h.rt n
    · have hu := q.live hv
      rw [leakTo_no (.inr q), if_pos (show c.u = true by rw [← hua]; exact hu), if_pos (decide_eq_true q)]
      omega
    · rw [if_neg (show ¬ decide (Rch h.cs h.rt n) = true by rw [decide_eq_true_eq]; exact q)]
      cases hu : c.u
      · rw [leakTo_no (.inl (hua.trans hu)), if_neg (by decide)]
        omega
      · rw [leakTo_yes (hua.trans hu) q, if_pos rfl, List.length_append, List.length_singleton]
        omega
theorem nodup_le : ∀ (l m : List Int), l.Nodup → (∀ x ∈ l, x ∈ m) → l.length ≤ m.length
  | [], _, _, _ => Nat.zero_le _
  | x :: l, m, hd, hm => by
    rw [List.nodup_cons] at hd
    have h1 := hm x (by simp)
    have h2 := nodup_le l (m.erase x) hd.2 (fun y hy => (List.mem_erase_of_ne (fun e => hd.1 (by rw [← e]; exact hy))).2 (hm y (by simp [hy])))
    rw [List.length_erase_of_mem h1] at h2
    have := List.length_pos_of_mem h1
    rw [List.length_cons]
    omega
open Classical in
theorem live_countC (cs : List Cl) (a : List Int) : ∀ n, n ≤ cs.length → liveTo (reachL cs a) n = (((List.range n).filter fun k => decide (Rch cs a k)).map fun (k : Nat) => (k : Int)).length
  | 0, _ => by simp [liveTo]
  | n + 1, hn => by
    have ih := live_countC cs a n (by omega)
    rw [liveTo_succ (reachL_at (show n < cs.length by omega)), ih]
    by_cases q : Rch cs a n <;> simp [List.range_succ, List.filter_append, q]
open Classical in
theorem live_order {h : Hp} (hv : validH h = true) : liveTo (reachL h.cs h.rt) h.cs.length = (orderH h).length := by
  rw [live_countC _ _ _ (Nat.le_refl _)]
  have hnd : (((List.range h.cs.length).filter fun k => decide (Rch h.cs h.rt k)).map fun (k : Nat) => (k : Int)).Nodup := by
    unfold List.Nodup
    rw [List.pairwise_map]
    exact (List.nodup_range.filter _).imp fun h1 e => h1 (by omega)
  have hm : ∀ x : Int, x ∈ (((List.range h.cs.length).filter fun k => decide (Rch h.cs h.rt k)).map fun (k : Nat) => (k : Int)) ↔ x ∈ orderH h := fun x => by
    simp only [List.mem_map, List.mem_filter, List.mem_range, decide_eq_true_eq]
    constructor
    · rintro ⟨k, ⟨_, h2⟩, rfl⟩
      exact (mem_order hv).2 h2
    · intro h1
      obtain ⟨k, rfl, hk⟩ := order_nat h1
      exact ⟨k, ⟨hk, (mem_order hv).1 h1⟩, rfl⟩
  exact Nat.le_antisymm (nodup_le _ _ hnd fun x hx => (hm x).1 hx) (nodup_le _ _ (order_nodup h) fun x hx => (hm x).2 hx)
/-- P45: what is used and cannot be reached has leaked -/
theorem used_leak {h : Hp} (hv : validH h = true) : (usedH h).2 ≤ (usedH h).1 ∧ (usedH h).1 ≤ h.cs.length ∧ (usedH h).2 = ((orderH h).length : Int) ∧ (usedH h).1 - (usedH h).2 = ((leakH h).length : Int) := by
  have h1 := used_parts hv _ (Nat.le_refl _)
  have h2 := live_order hv
  have h3 := usedTo_le h.cs h.cs.length
  rw [leakTo_all] at h1
  rw [usedH, if_pos hv, leakH, if_pos hv]
  simp only
  omega
/-- P55: with one count more the counts are wrong -/
theorem more_bad {h : Hp} {l : List Int} {x : Int} (h1 : l = countsL h) (hx : l[0]? = some x) : okCt h (l.set 0 (x + 1)) = false := by
  cases e : okCt h (l.set 0 (x + 1))
  · rfl
  · have h2 := (okCt_iff.1 e).2
    rw [← h1] at h2
    have hl := (List.getElem?_eq_some_iff.1 hx).1
    have : (l.set 0 (x + 1))[0]? = some (x + 1) := by simp [hl]
    rw [h2, hx] at this
    have := Option.some.inj this
    omega
end Hps
end Go.Proofs.Ytakdjiojahlnmaa
