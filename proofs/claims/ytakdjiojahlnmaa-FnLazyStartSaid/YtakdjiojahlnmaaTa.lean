/- Chapter 14 in plain mathematics: heaps that are swept when cells are needed (P66, P67, P68, P127). No program, no conditions. -/
import Derived.Test.YtakdjiojahlnmaaRa
import Derived.Test.YtakdjiojahlnmaaUa
namespace Go.Proofs.Ytakdjiojahlnmaa
/-- a lazy heap: the heap, the marks, the number of the cell at which sweeping goes on -/
structure Lz where
  s : Hp
  ms : List Bool
  i : Int
namespace Hps
theorem same_reach {a b : Hp} (ha : validH a = true) (hb : validH b = true) (hr : b.rt = a.rt) (hc : ∀ k, Rch a.cs a.rt k → b.cs[k]? = a.cs[k]?) : sameV b a = true := by
  have S : Sim a b (fun k y => k = y ∧ Rch a.cs a.rt k) := by
    refine ⟨fun k x y h1 h2 => by omega, fun k m x h1 h2 => by omega, ⟨by rw [hr], fun i n m h1 h2 => ?_⟩, ?_⟩
    · have e : n = m := by
        rw [hr, h1] at h2
        exact Option.some.inj h2
      subst e
      rcases okRef_iff.1 (valid_root ha h1) with e | ⟨e, _⟩
      · exact .inl ⟨e, e⟩
      · exact .inr ⟨n.toNat, n.toNat, by omega, by omega, rfl, .root (by rw [Int.toNat_of_nonneg e]; exact List.mem_of_getElem? h1)⟩
    · rintro k _ ⟨rfl, hk⟩
      obtain ⟨c, hcc, _⟩ := usedAt_iff.1 (hk.live ha)
      refine ⟨c, c, hcc, by rw [hc k hk]; exact hcc, rfl, rfl, fun i n m h1 h2 => ?_⟩
      have e : n = m := by
        rw [h1] at h2
        exact Option.some.inj h2
      subst e
      rcases okRef_iff.1 (valid_ref ha hcc h1) with e | ⟨e, _⟩
      · exact .inl ⟨e, e⟩
      · exact .inr ⟨n.toNat, n.toNat, by omega, by omega, rfl, .step hk hcc (by rw [Int.toNat_of_nonneg e]; exact List.mem_of_getElem? h1)⟩
  rw [sameV_comm]
  exact sameV_iff.2 ⟨ha, hb, S.view ha hb⟩

/-! the first mark that is not set -/
def unIn : List Bool → Nat
  | [] => 0
  | true :: l => unIn l + 1
  | false :: _ => 0
theorem unIn_le : ∀ l : List Bool, unIn l ≤ l.length
  | [] => Nat.le_refl _
  | true :: l => by
    have := unIn_le l
    rw [unIn, List.length_cons]
    omega
  | false :: _ => Nat.zero_le _
theorem unIn_at : ∀ l : List Bool, unIn l < l.length → l[unIn l]? = some false
  | [], h => by simp at h
  | true :: l, h => by
    rw [unIn, List.getElem?_cons_succ]
    refine unIn_at l ?_
    rw [unIn, List.length_cons] at h
    omega
  | false :: _, _ => rfl
theorem unIn_before : ∀ (l : List Bool) (j : Nat), j < unIn l → l[j]? = some true
  | [], j, h => by simp [unIn] at h
  | true :: l, 0, _ => rfl
  | true :: l, j + 1, h => by
    rw [List.getElem?_cons_succ]
    refine unIn_before l j ?_
    rw [unIn] at h
    omega
  | false :: _, j, h => by simp [unIn] at h
/-- the first mark from k on that is not set, or behind the last one -/
def unAt (ms : List Bool) (k : Nat) : Nat := k + unIn (ms.drop k)
theorem unAt_le {ms : List Bool} {k : Nat} (h : k ≤ ms.length) : k ≤ unAt ms k ∧ unAt ms k ≤ ms.length := by
  have := unIn_le (ms.drop k)
  rw [List.length_drop] at this
  unfold unAt
  omega
theorem unAt_at {ms : List Bool} {k : Nat} (h : unAt ms k < ms.length) : ms[unAt ms k]? = some false := by
  unfold unAt at h ⊢
  have := unIn_at (ms.drop k) (by rw [List.length_drop]; omega)
  rwa [List.getElem?_drop] at this
theorem unAt_before {ms : List Bool} {k j : Nat} (hj : k ≤ j) (h : j < unAt ms k) : ms[j]? = some true := by
  have := unIn_before (ms.drop k) (j - k) (by unfold unAt at h; omega)
  rwa [List.getElem?_drop, Nat.add_sub_cancel' hj] at this
theorem unAt_set {ms : List Bool} {k : Nat} (h : ms[k]? = some true) : unAt ms k = unAt ms (k + 1) := by
  have hl := (List.getElem?_eq_some_iff.1 h)
  unfold unAt
  rw [List.drop_eq_getElem_cons hl.1, hl.2, unIn]
  omega
theorem unAt_un {ms : List Bool} {k : Nat} (h : ms[k]? = some false) : unAt ms k = k := by
  have hl := (List.getElem?_eq_some_iff.1 h)
  unfold unAt
  rw [List.drop_eq_getElem_cons hl.1, hl.2, unIn, Nat.add_zero]
theorem unAt_end {ms : List Bool} {k : Nat} (h : ms.length ≤ k) : unAt ms k = k := by
  unfold unAt
  rw [List.drop_of_length_le h, unIn, Nat.add_zero]

/-! validity -/
/-- a mark that must not be so -/
def badAt (l : Lz) (k : Nat) : Prop := ((reachL l.s.cs l.s.rt)[k]? = some true ∧ l.ms[k]? = some false) ∨ (l.ms[k]? = some true ∧ usedAt l.s.cs k = false) ∨ ((k : Int) < l.i ∧ l.ms[k]? = some false ∧ usedAt l.s.cs k = true)
def okLz (l : Lz) : Prop := validH l.s = true ∧ l.ms.length = l.s.cs.length ∧ (0 ≤ l.i ∧ l.i ≤ l.ms.length) ∧ ∀ k : Nat, k < l.ms.length → ¬ badAt l k
theorem okLz.reach {l : Lz} (h : okLz l) {k : Nat} (hr : Rch l.s.cs l.s.rt k) : l.ms[k]? = some true := by
  have hk : k < l.ms.length := by rw [h.2.1]; exact usedAt_lt (hr.live h.1)
  have hm := List.getElem?_eq_getElem hk
  cases e : l.ms[k]
  · exact absurd (.inl ⟨(reachL_true (by rw [← h.2.1]; exact hk)).2 hr, by rw [hm, e]⟩) (h.2.2.2 k hk)
  · rw [hm, e]
theorem okLz.used {l : Lz} (h : okLz l) {k : Nat} (hm : l.ms[k]? = some true) : usedAt l.s.cs k = true := by
  cases e : usedAt l.s.cs k
  · exact absurd (.inr (.inl ⟨hm, e⟩)) (h.2.2.2 k (List.getElem?_eq_some_iff.1 hm).1)
  · rfl
theorem okLz.swept {l : Lz} (h : okLz l) {k : Nat} (hk : (k : Int) < l.i) (hm : l.ms[k]? = some false) : usedAt l.s.cs k = false := by
  cases e : usedAt l.s.cs k
  · rfl
  · exact absurd (.inr (.inr ⟨hk, hm, e⟩)) (h.2.2.2 k (List.getElem?_eq_some_iff.1 hm).1)
theorem okLz.of {l : Lz} (hv : validH l.s = true) (hl : l.ms.length = l.s.cs.length) (hi : 0 ≤ l.i ∧ l.i ≤ l.ms.length) (h1 : ∀ k, Rch l.s.cs l.s.rt k → l.ms[k]? = some true) (h2 : ∀ k : Nat, l.ms[k]? = some true → usedAt l.s.cs k = true) (h3 : ∀ k : Nat, (k : Int) < l.i → l.ms[k]? = some false → usedAt l.s.cs k = false) : okLz l := by
  refine ⟨hv, hl, hi, fun k hk => ?_⟩
  rintro (⟨a, b⟩ | ⟨a, b⟩ | ⟨a, b, c⟩)
  · rw [h1 k ((reachL_true (by rw [← hl]; exact hk)).1 a)] at b
    cases b
  · rw [h2 k a] at b
    cases b
  · rw [h3 k a b] at c
    cases c
def zeroLz : Lz := ⟨zeroH, [], 0⟩
noncomputable def startLz (h : Hp) : Lz := if validH h = true then ⟨h, reachH h, 0⟩ else zeroLz
/-- P66: lazy heaps begin valid -/
theorem start_ok {h : Hp} (hv : validH h = true) : okLz (startLz h) := by
  rw [startLz, if_pos hv]
  refine okLz.of hv (reachH_len hv) ⟨Int.le_refl _, Int.natCast_nonneg _⟩ (fun k hr => (reachH_at hv (usedAt_lt (hr.live hv))).2 hr) (fun k hm => ?_) (fun k hk => absurd hk (by show ¬ (k : Int) < 0; omega))
  have hk : k < h.cs.length := by rw [← reachH_len hv]; exact (List.getElem?_eq_some_iff.1 hm).1
  exact ((reachH_at hv hk).1 hm).live hv
/-- P67: with a mark more it is not valid -/
theorem long_bad {l : Lz} (h : okLz l) : ¬ okLz ⟨l.s, l.ms ++ [true], l.i⟩ := fun e => by
  have h1 := h.2.1
  have h2 := e.2.1
  simp only [List.length_append, List.length_singleton] at h2
  omega
/-- P67: without marks it is not valid where something can be reached -/
theorem none_bad {l : Lz} (_h : okLz l) {k : Nat} (hr : Rch l.s.cs l.s.rt k) : ¬ okLz ⟨l.s, List.replicate l.ms.length false, 0⟩ := fun e => by
  have h1 := e.reach hr
  rw [List.getElem?_replicate] at h1
  split at h1
  · cases h1
  · cases h1

/-! taking a cell -/
/-- a reference of a cell that is not marked, without what is not marked -/
def cutR (ms : List Bool) (n : Int) : Int := if 0 ≤ n ∧ ms[n.toNat]? = some false then -1 else n
/-- cells of which the first i are cut, and of the next one the first j references -/
def cutIJ (ms : List Bool) (cs : List Cl) (i j : Nat) : List Cl := cs.mapIdx fun k c => if ms[k]? = some false then (if k < i then ⟨c.u, c.d, c.r.map (cutR ms)⟩ else if k = i then ⟨c.u, c.d, (c.r.take j).map (cutR ms) ++ c.r.drop j⟩ else c) else c
def cutL (ms : List Bool) (cs : List Cl) : List Cl := cutIJ ms cs cs.length 0
theorem cut_len (ms : List Bool) (cs : List Cl) (i j : Nat) : (cutIJ ms cs i j).length = cs.length := by simp [cutIJ]
theorem cut_at {ms : List Bool} {cs : List Cl} {i j k : Nat} {c : Cl} (hc : cs[k]? = some c) : (cutIJ ms cs i j)[k]? = some (if ms[k]? = some false then (if k < i then ⟨c.u, c.d, c.r.map (cutR ms)⟩ else if k = i then ⟨c.u, c.d, (c.r.take j).map (cutR ms) ++ c.r.drop j⟩ else c) else c) := by
  rw [cutIJ, List.getElem?_mapIdx, hc]
  rfl
theorem cut_start (ms : List Bool) (cs : List Cl) : cutIJ ms cs 0 0 = cs := by
  apply List.ext_getElem?
  intro k
  rcases Nat.lt_or_ge k cs.length with hk | hk
  · have hc := List.getElem?_eq_getElem hk
    rw [cut_at hc, hc, if_neg (Nat.not_lt_zero k)]
    by_cases e : k = 0
    · rw [if_pos e, List.take_zero, List.map_nil, List.nil_append, List.drop_zero]
      split <;> rfl
    · rw [if_neg e]
      split <;> rfl
  · rw [List.getElem?_eq_none hk, List.getElem?_eq_none (by rw [cut_len]; exact hk)]
/-- a cell is done -/
theorem cut_next {ms : List Bool} {cs : List Cl} {i : Nat} {c : Cl} (hc : cs[i]? = some c) : cutIJ ms cs i c.r.length = cutIJ ms cs (i + 1) 0 := by
  apply List.ext_getElem?
  intro k
  rcases Nat.lt_or_ge k cs.length with hk | hk
  · have hck := List.getElem?_eq_getElem hk
    rw [cut_at hck, cut_at hck]
    by_cases hm : ms[k]? = some false
    · rw [if_pos hm, if_pos hm]
      rcases Nat.lt_trichotomy k i with e | e | e
      · rw [if_pos e, if_pos (by omega)]
      · subst e
        rw [hck] at hc
        obtain rfl := Option.some.inj hc
        rw [if_neg (Nat.lt_irrefl _), if_pos rfl, if_pos (Nat.lt_succ_self _), List.take_length, List.drop_length, List.append_nil]
      · rw [if_neg (by omega), if_neg (by omega)]
        by_cases e2 : k = i + 1
        · rw [if_neg (by omega), if_pos e2, List.take_zero, List.map_nil, List.nil_append, List.drop_zero]
        · rw [if_neg (by omega), if_neg e2]
    · rw [if_neg hm, if_neg hm]
  · rw [List.getElem?_eq_none (by rw [cut_len]; exact hk), List.getElem?_eq_none (by rw [cut_len]; exact hk)]
/-- a cell that is marked needs nothing -/
theorem cut_marked {ms : List Bool} {cs : List Cl} {i : Nat} (hm : ms[i]? ≠ some false) (j j' : Nat) : cutIJ ms cs i j = cutIJ ms cs i j' := by
  apply List.ext_getElem?
  intro k
  rcases Nat.lt_or_ge k cs.length with hk | hk
  · have hck := List.getElem?_eq_getElem hk
    rw [cut_at hck, cut_at hck]
    by_cases hk2 : ms[k]? = some false
    · rw [if_pos hk2, if_pos hk2]
      by_cases e : k = i
      · subst e
        exact absurd hk2 hm
      · rw [if_neg e, if_neg e]
    · rw [if_neg hk2, if_neg hk2]
  · rw [List.getElem?_eq_none (by rw [cut_len]; exact hk), List.getElem?_eq_none (by rw [cut_len]; exact hk)]
/-- a reference is done -/
theorem cut_ref {ms : List Bool} {cs : List Cl} {i j : Nat} {c : Cl} {n : Int} (hc : cs[i]? = some c) (hn : c.r[j]? = some n) (hm : ms[i]? = some false) : ∃ c', (cutIJ ms cs i j)[i]? = some c' ∧ c'.u = c.u ∧ c'.d = c.d ∧ c'.r.length = c.r.length ∧ c'.r[j]? = some n ∧ cutIJ ms cs i (j + 1) = (cutIJ ms cs i j).set i ⟨c'.u, c'.d, c'.r.set j (cutR ms n)⟩ := by
  have hj := (List.getElem?_eq_some_iff.1 hn).1
  have hl : ((c.r.take j).map (cutR ms)).length = j := by rw [List.length_map, List.length_take]; omega
  refine ⟨⟨c.u, c.d, (c.r.take j).map (cutR ms) ++ c.r.drop j⟩, ?_, rfl, rfl, ?_, ?_, ?_⟩
  · rw [cut_at hc, if_pos hm, if_neg (Nat.lt_irrefl _), if_pos rfl]
  · rw [List.length_append, hl, List.length_drop]
    omega
  · rw [List.getElem?_append_right (by rw [hl]; exact Nat.le_refl _), hl, Nat.sub_self, List.getElem?_drop, Nat.add_zero]
    exact hn
  · apply List.ext_getElem?
    intro k
    rw [List.getElem?_set]
    rcases Nat.lt_or_ge k cs.length with hk | hk
    · have hck := List.getElem?_eq_getElem hk
      by_cases e : i = k
      · subst e
        rw [hck] at hc
        obtain rfl := Option.some.inj hc
        rw [if_pos rfl, if_pos (by rw [cut_len]; exact hk), cut_at hck, if_pos hm, if_neg (Nat.lt_irrefl _), if_pos rfl]
        congr 2
        rw [List.take_add_one, hn, Option.toList, List.map_append, List.map_singleton]
        have hd : cs[i].r.drop j = n :: cs[i].r.drop (j + 1) := by rw [List.drop_eq_getElem_cons hj, (List.getElem?_eq_some_iff.1 hn).2]
        rw [List.set_append_right _ _ (by rw [hl]; exact Nat.le_refl _), hl, Nat.sub_self, hd, List.set_cons_zero, List.append_assoc]
        rfl
      · rw [if_neg e, cut_at hck, cut_at hck]
        by_cases hm2 : ms[k]? = some false
        · rw [if_pos hm2, if_pos hm2, if_neg (show ¬ k = i by omega), if_neg (show ¬ k = i by omega)]
        · rw [if_neg hm2, if_neg hm2]
    · rw [List.getElem?_eq_none (by rw [cut_len]; exact hk), if_neg (show ¬ i = k by have := (List.getElem?_eq_some_iff.1 hc).1; omega), List.getElem?_eq_none (by rw [cut_len]; exact hk)]
theorem cut_same {ms : List Bool} {cs : List Cl} {i j : Nat} {c : Cl} {n : Int} (hc : cs[i]? = some c) (hn : c.r[j]? = some n) (he : ms[i]? ≠ some false ∨ cutR ms n = n) : cutIJ ms cs i (j + 1) = cutIJ ms cs i j := by
  rcases he with he | he
  · exact cut_marked he _ _
  · by_cases hm : ms[i]? = some false
    · obtain ⟨c', h1, _, _, _, h5, h6⟩ := cut_ref hc hn hm
      rw [h6, he]
      apply List.ext_getElem?
      intro k
      rw [List.getElem?_set]
      split
      · next e =>
        subst e
        rw [h1]
        have : c'.r.set j n = c'.r := by
          apply List.ext_getElem?
          intro m
          rw [List.getElem?_set]
          split
          · next e2 =>
            subst e2
            rw [h5, if_pos (List.getElem?_eq_some_iff.1 h5).1]
          · rfl
        rw [this, if_pos (List.getElem?_eq_some_iff.1 h1).1]
      · rfl
    · exact cut_marked hm _ _
theorem cutL_at {ms : List Bool} {cs : List Cl} {k : Nat} {c : Cl} (hc : cs[k]? = some c) : (cutL ms cs)[k]? = some (if ms[k]? = some false then ⟨c.u, c.d, c.r.map (cutR ms)⟩ else c) := by
  rw [cutL, cut_at hc, if_pos (List.getElem?_eq_some_iff.1 hc).1]
/-- the cell that is taken -/
def tookCl : Cl := ⟨true, 0, []⟩
/-- the lazy heap after cell k has been taken -/
def tookLz (l : Lz) (k : Nat) : Lz := ⟨⟨(cutL l.ms l.s.cs).set k tookCl, l.s.rt⟩, l.ms.set k true, (k : Int) + 1⟩
open Classical in
noncomputable def takeLz (l : Lz) : Lz × Int := if okLz l then (if unAt l.ms l.i.toNat < l.ms.length then (tookLz l (unAt l.ms l.i.toNat), (unAt l.ms l.i.toNat : Int)) else (⟨l.s, l.ms, (l.ms.length : Int)⟩, -1)) else (zeroLz, -1)
theorem take_no {l : Lz} (h : ¬ okLz l) : takeLz l = (zeroLz, -1) := by rw [takeLz, if_neg h]
theorem take_end {l : Lz} (h : okLz l) (hu : ¬ unAt l.ms l.i.toNat < l.ms.length) : takeLz l = (⟨l.s, l.ms, (l.ms.length : Int)⟩, -1) := by rw [takeLz, if_pos h, if_neg hu]
theorem take_yes {l : Lz} (h : okLz l) (hu : unAt l.ms l.i.toNat < l.ms.length) : takeLz l = (tookLz l (unAt l.ms l.i.toNat), (unAt l.ms l.i.toNat : Int)) := by rw [takeLz, if_pos h, if_pos hu]
section
variable {l : Lz} {k : Nat}
theorem took_cell {j : Nat} (hk : k < l.s.cs.length) : ((cutL l.ms l.s.cs).set k tookCl)[j]? = if j = k then some tookCl else (cutL l.ms l.s.cs)[j]? := by
  rw [List.getElem?_set]
  by_cases e : k = j
  · rw [if_pos e, if_pos e.symm, if_pos (by rw [cutL, cut_len]; omega)]
  · rw [if_neg e, if_neg (fun q => e q.symm)]
theorem cutL_used (ms : List Bool) (cs : List Cl) (j : Nat) : usedAt (cutL ms cs) j = usedAt cs j := by
  unfold usedAt
  cases hc : cs[j]? with
  | none => rw [List.getElem?_eq_none (by rw [cutL, cut_len]; exact List.getElem?_eq_none_iff.1 hc)]
  | some c =>
    rw [cutL_at hc]
    by_cases hm : ms[j]? = some false
    · rw [if_pos hm]
    · rw [if_neg hm]
theorem took_used {j : Nat} (hk : k < l.s.cs.length) : usedAt (tookLz l k).s.cs j = (decide (j = k) || usedAt l.s.cs j) := by
  show usedAt ((cutL l.ms l.s.cs).set k tookCl) j = _
  by_cases e : j = k
  · rw [decide_eq_true e, Bool.true_or]
    exact usedAt_iff.2 ⟨tookCl, by rw [took_cell hk, if_pos e], rfl⟩
  · rw [decide_eq_false e, Bool.false_or, ← cutL_used l.ms l.s.cs j]
    unfold usedAt
    rw [took_cell hk, if_neg e]
theorem cutR_ok {ms : List Bool} {cs cs' : List Cl} (hu : ∀ j, usedAt cs j = true → usedAt cs' j = true) {n : Int} (hn : okRef cs n = true) : okRef cs' (cutR ms n) = true ∧ okRef cs' n = true := by
  have h2 : okRef cs' n = true := by
    rcases okRef_iff.1 hn with e | ⟨e, q⟩
    · exact okRef_iff.2 (.inl e)
    · exact okRef_iff.2 (.inr ⟨e, hu _ q⟩)
  refine ⟨?_, h2⟩
  unfold cutR
  split
  · exact okRef_iff.2 (.inl rfl)
  · exact h2
/-- the heap stays valid -/
theorem took_valid (h : okLz l) (hk : k < l.ms.length) : validH (tookLz l k).s = true := by
  have hkc : k < l.s.cs.length := by rw [← h.2.1]; exact hk
  obtain ⟨v1, v2, v3, v4⟩ := valid_iff.1 h.1
  have hu : ∀ j, usedAt l.s.cs j = true → usedAt (tookLz l k).s.cs j = true := fun j hj => by rw [took_used hkc, hj, Bool.or_true]
  refine valid_iff.2 ⟨fun c hc => ?_, ?_, v3, okRefs_iff.2 fun n hn => (cutR_ok (ms := []) hu (okRefs_iff.1 v4 n hn)).2⟩
  · obtain ⟨j, hj⟩ := List.mem_iff_getElem?.1 hc
    have hj' : ((cutL l.ms l.s.cs).set k tookCl)[j]? = some c := hj
    rw [took_cell hkc] at hj'
    split at hj'
    · obtain rfl := Option.some.inj hj'
      exact okCell_iff.2 ⟨.inl rfl, ⟨Int.le_refl _, by decide⟩, by decide, okRefs_iff.2 fun n hn => by simp [tookCl] at hn⟩
    · have hjl : j < l.s.cs.length := by
        have := (List.getElem?_eq_some_iff.1 hj').1
        rwa [cutL, cut_len] at this
      have hc0 := List.getElem?_eq_getElem hjl
      obtain ⟨w1, w2, w3, w4⟩ := okCell_iff.1 (valid_cell h.1 hc0)
      rw [cutL_at hc0] at hj'
      split at hj'
      · obtain rfl := Option.some.inj hj'
        refine okCell_iff.2 ⟨?_, w2, by rw [List.length_map]; exact w3, okRefs_iff.2 fun n hn => ?_⟩
        · rcases w1 with w1 | ⟨w1, w5⟩
          · exact .inl w1
          · exact .inr ⟨w1, by simp [w5]⟩
        · obtain ⟨m, hm, rfl⟩ := List.mem_map.1 hn
          exact (cutR_ok hu (okRefs_iff.1 w4 m hm)).1
      · obtain rfl := Option.some.inj hj'
        exact okCell_iff.2 ⟨w1, w2, w3, okRefs_iff.2 fun n hn => (cutR_ok (ms := []) hu (okRefs_iff.1 w4 n hn)).2⟩
  · show ((cutL l.ms l.s.cs).set k tookCl).length ≤ 40
    rw [List.length_set, cutL, cut_len]
    exact v2
/-- what can be reached stays as it was -/
theorem took_reach_cell (h : okLz l) (hk : k < l.ms.length) (hm : l.ms[k]? = some false) {j : Nat} (hj : Rch l.s.cs l.s.rt j) : (tookLz l k).s.cs[j]? = l.s.cs[j]? := by
  have hkc : k < l.s.cs.length := by rw [← h.2.1]; exact hk
  have hr := h.reach hj
  show ((cutL l.ms l.s.cs).set k tookCl)[j]? = _
  rw [took_cell hkc, if_neg (fun e => by subst e; rw [hr] at hm; cases hm)]
  have hc0 := List.getElem?_eq_getElem (usedAt_lt (hj.live h.1))
  rw [cutL_at hc0, hc0, if_neg (fun e => by rw [hr] at e; cases e)]
theorem took_rch (h : okLz l) (hk : k < l.ms.length) (hm : l.ms[k]? = some false) {j : Nat} : Rch (tookLz l k).s.cs (tookLz l k).s.rt j ↔ Rch l.s.cs l.s.rt j := by
  constructor
  · intro hj
    refine Rch.inside (S := Rch l.s.cs l.s.rt) (fun i hi => .root hi) (fun i m c hi hc hmc => ?_) hj
    rw [took_reach_cell h hk hm hi] at hc
    exact .step hi hc hmc
  · intro hj
    induction hj with
    | root hi => exact .root hi
    | step hi hc hmc ih => exact .step ih ((took_reach_cell h hk hm hi).trans hc) hmc
/-- P68: a program sees the same -/
theorem took_same (h : okLz l) (hk : k < l.ms.length) (hm : l.ms[k]? = some false) : sameV (tookLz l k).s l.s = true :=
  same_reach h.1 (took_valid h hk) rfl fun _ hj => took_reach_cell h hk hm hj
/-- P68: the lazy heap stays valid -/
theorem took_ok (h : okLz l) (hk : k < l.ms.length) (hm : l.ms[k]? = some false) (hb : ∀ j : Nat, l.i ≤ (j : Int) → j < k → l.ms[j]? = some true) : okLz (tookLz l k) := by
  have hkc : k < l.s.cs.length := by rw [← h.2.1]; exact hk
  have hms : ∀ j, (l.ms.set k true)[j]? = if j = k then some true else l.ms[j]? := fun j => by
    rw [List.getElem?_set]
    by_cases e : k = j
    · rw [if_pos e, if_pos e.symm, if_pos hk]
    · rw [if_neg e, if_neg (fun q => e q.symm)]
  refine okLz.of (took_valid h hk) ?_ ?_ (fun j hj => ?_) (fun j hj => ?_) (fun j hj hj2 => ?_)
  · show (l.ms.set k true).length = ((cutL l.ms l.s.cs).set k tookCl).length
    rw [List.length_set, List.length_set, cutL, cut_len]
    exact h.2.1
  · show (0 : Int) ≤ (k : Int) + 1 ∧ (k : Int) + 1 ≤ ((l.ms.set k true).length : Nat)
    rw [List.length_set]
    omega
  · show (l.ms.set k true)[j]? = some true
    rw [hms]
    split
    · rfl
    · exact h.reach ((took_rch h hk hm).1 hj)
  · have hj' : (l.ms.set k true)[j]? = some true := hj
    rw [hms] at hj'
    rw [took_used hkc]
    split at hj'
    · next e => rw [decide_eq_true e]; rfl
    · rw [h.used hj', Bool.or_true]
  · have hj' : (l.ms.set k true)[j]? = some false := hj2
    have hj3 : (j : Int) < (k : Int) + 1 := hj
    rw [hms] at hj'
    split at hj'
    · cases hj'
    · next e =>
      rw [took_used hkc, decide_eq_false e, Bool.false_or]
      refine h.swept (Classical.byContradiction fun q => ?_) hj'
      rw [hb j (by omega) (by omega)] at hj'
      cases hj'
end
/-- P68 in full -/
theorem take_cases {l : Lz} (h : okLz l) : (takeLz l = (⟨l.s, l.ms, (l.ms.length : Int)⟩, -1) ∧ okLz (takeLz l).1 ∧ ∀ j : Nat, l.i ≤ (j : Int) → j < l.ms.length → l.ms[j]? = some true) ∨ ∃ k : Nat, takeLz l = (tookLz l k, (k : Int)) ∧ l.i ≤ (k : Int) ∧ k < l.ms.length ∧ l.ms[k]? = some false ∧ okLz (tookLz l k) ∧ sameV (tookLz l k).s l.s = true := by
  have hi := h.2.2.1
  have hle := unAt_le (ms := l.ms) (k := l.i.toNat) (by omega)
  have hb : ∀ j : Nat, l.i ≤ (j : Int) → j < unAt l.ms l.i.toNat → l.ms[j]? = some true := fun j h1 h2 => unAt_before (by omega) h2
  by_cases hu : unAt l.ms l.i.toNat < l.ms.length
  · right
    have hm := unAt_at hu
    exact ⟨_, take_yes h hu, by omega, hu, hm, took_ok h hu hm hb, took_same h hu hm⟩
  · left
    refine ⟨take_end h hu, ?_, fun j h1 h2 => hb j h1 (by omega)⟩
    rw [take_end h hu]
    refine okLz.of h.1 h.2.1 ⟨Int.natCast_nonneg _, Int.le_refl _⟩ (fun k hr => h.reach hr) (fun k hm => h.used hm) fun k _ hm => ?_
    have hm' : l.ms[k]? = some false := hm
    refine h.swept (Classical.byContradiction fun q => ?_) hm'
    have hkl := (List.getElem?_eq_some_iff.1 hm').1
    rw [hb k (by omega) (by omega)] at hm'
    cases hm'
/-- P68: the next cell has a greater number -/
theorem take_next {l : Lz} {k : Nat} (_h : okLz (tookLz l k)) : (takeLz (tookLz l k)).2 = -1 ∨ (k : Int) < (takeLz (tookLz l k)).2 := by
  rcases take_cases _h with ⟨e, _⟩ | ⟨m, e, h1, _⟩
  · rw [e]; exact .inl rfl
  · rw [e]
    right
    have : (k : Int) + 1 ≤ (m : Int) := h1
    show (k : Int) < (m : Int)
    omega

/-! all of them -/
/-- what lies before the place is marked -/
def Front (l : Lz) : Prop := ∀ j : Nat, (j : Int) < l.i → l.ms[j]? = some true
theorem start_front {h : Hp} (hv : validH h = true) : Front (startLz h) := fun j hj => by
  rw [startLz, if_pos hv] at hj
  exact absurd hj (by show ¬ (j : Int) < 0; omega)
theorem start_count {h : Hp} (hv : validH h = true) : ((startLz h).ms.count true : Int) = (usedH h).2 := by
  rw [startLz, if_pos hv, usedH, if_pos hv]
  show ((reachH h).count true : Int) = _
  simp only [reachH, if_pos hv, liveTo]
  rw [List.take_of_length_le (by rw [reachL_len]; exact Nat.le_refl _)]
theorem count_set {ms : List Bool} {k : Nat} (h : ms[k]? = some false) : (ms.set k true).count true = ms.count true + 1 := by
  have hl := List.getElem?_eq_some_iff.1 h
  rw [List.count_set hl.1, hl.2]
  simp
theorem count_all {ms : List Bool} : ms.count true = ms.length ↔ ∀ j : Nat, j < ms.length → ms[j]? = some true := by
  rw [List.count_eq_length]
  constructor
  · intro h j hj
    rw [List.getElem?_eq_getElem hj, h _ (List.getElem_mem hj)]
  · intro h b hb
    obtain ⟨j, hj⟩ := List.mem_iff_getElem?.1 hb
    rw [h j (List.getElem?_eq_some_iff.1 hj).1] at hj
    exact Option.some.inj hj
/-- P127: as long as not all are marked a cell can be taken, and one more is marked then -/
theorem take_more {l : Lz} (h : okLz l) (hf : Front l) (hc : l.ms.count true < l.ms.length) : ∃ k : Nat, takeLz l = (tookLz l k, (k : Int)) ∧ okLz (tookLz l k) ∧ Front (tookLz l k) ∧ (tookLz l k).ms.count true = l.ms.count true + 1 ∧ (tookLz l k).ms.length = l.ms.length ∧ sameV (tookLz l k).s l.s = true := by
  rcases take_cases h with ⟨_, _, h3⟩ | ⟨k, e, h1, h2, hm, h4, h5⟩
  · refine absurd (count_all.2 fun j hj => ?_) (Nat.ne_of_lt hc)
    by_cases q : (j : Int) < l.i
    · exact hf j q
    · exact h3 j (by omega) hj
  · refine ⟨k, e, h4, fun j hj => ?_, count_set hm, List.length_set, h5⟩
    have hj2 : (j : Int) < (k : Int) + 1 := hj
    show (l.ms.set k true)[j]? = some true
    rw [List.getElem?_set]
    by_cases q : k = j
    · rw [if_pos q, if_pos (by omega)]
    · rw [if_neg q]
      by_cases q2 : (j : Int) < l.i
      · exact hf j q2
      · have hle := unAt_le (ms := l.ms) (k := l.i.toNat) (by have := h.2.2.1; omega)
        by_cases hu : unAt l.ms l.i.toNat < l.ms.length
        · have hkk : (k : Int) = (unAt l.ms l.i.toNat : Int) := by
            have e2 := take_yes h hu
            rw [e] at e2
            exact (congrArg Prod.snd e2)
          exact unAt_before (k := l.i.toNat) (by have := h.2.2.1; omega) (by omega)
        · have e2 := take_end h hu
          rw [e] at e2
          have : (k : Int) = -1 := congrArg Prod.snd e2
          omega
/-- P127: when all are marked there is no cell -/
theorem take_none {l : Lz} (h : okLz l) (hc : l.ms.count true = l.ms.length) : (takeLz l).2 = -1 := by
  rcases take_cases h with ⟨e, _⟩ | ⟨k, _, _, h2, hm, _⟩
  · rw [e]
  · rw [count_all.1 hc k h2] at hm
    cases hm
end Hps
end Go.Proofs.Ytakdjiojahlnmaa
