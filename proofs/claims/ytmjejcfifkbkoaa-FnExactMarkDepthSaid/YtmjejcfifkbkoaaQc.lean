/- Chapter 12, MarkBounded in plain mathematics: its marks are those of what can be reached, its passes are few, and with as many places as cells one is enough (P3). No program, no conditions. -/
import Derived.Test.YtmjejcfifkbkoaaQb
namespace Go.Proofs.Ytmjejcfifkbkoaa
namespace Hps

open Classical in
noncomputable def boundedL (cs : List Cl) (pl : Nat) (rt : List Int) : List Bool × Nat := if h : ∃ p : List Bool × Nat, Passes cs pl (firstTo cs pl rt rt.length) 1 p.1 p.2 then Classical.choose h else ([], 0)
theorem bounded_spec (cs : List Cl) (pl : Nat) (rt : List Int) : Passes cs pl (firstTo cs pl rt rt.length) 1 (boundedL cs pl rt).1 (boundedL cs pl rt).2 := by
  obtain ⟨r, x, h⟩ := Passes.ex cs pl _ (firstTo cs pl rt rt.length) 1 (Nat.le_refl _)
  have hx : ∃ p : List Bool × Nat, Passes cs pl (firstTo cs pl rt rt.length) 1 p.1 p.2 := ⟨(r, x), h⟩
  rw [boundedL, dif_pos hx]
  exact Classical.choose_spec hx
theorem bounded_eq {cs : List Cl} {pl : Nat} {rt : List Int} {r : List Bool} {x : Nat} (h : Passes cs pl (firstTo cs pl rt rt.length) 1 r x) : (boundedL cs pl rt).1 = r ∧ (boundedL cs pl rt).2 = x := (bounded_spec cs pl rt).one h
/-- what MarkBounded answers -/
noncomputable def boundH (h : Hp) (pl : Int) : List Bool × Int := if validH h = true ∧ 1 ≤ pl ∧ pl ≤ 40 then ((boundedL h.cs pl.toNat h.rt).1, ((boundedL h.cs pl.toNat h.rt).2 : Int)) else ([], -1)
theorem bound_yes {h : Hp} {pl : Nat} (hv : validH h = true) (h1 : 1 ≤ pl) (h2 : pl ≤ 40) : boundH h pl = ((boundedL h.cs pl h.rt).1, ((boundedL h.cs pl h.rt).2 : Int)) := by
  rw [boundH, if_pos ⟨hv, by omega, by omega⟩, Int.toNat_natCast]
theorem bound_no {h : Hp} {pl : Int} (h1 : ¬(validH h = true ∧ 1 ≤ pl ∧ pl ≤ 40)) : boundH h pl = ([], -1) := by rw [boundH, if_neg h1]
theorem drainL_len (cs : List Cl) (pl : Nat) (mk : List Bool) (s : List Int) : (drainL cs pl mk s).length = mk.length := (drain_spec cs pl mk s).len
theorem bounded_len (cs : List Cl) (pl : Nat) (rt : List Int) : (boundedL cs pl rt).1.length = cs.length :=
  (bounded_spec cs pl rt).keep (P := fun m => m.length = cs.length) (fun mk k _ h => by rw [drainL_len, h]) (first_len cs pl rt _)
theorem refs_reach {cs : List Cl} {rt : List Int} {k : Nat} (hk : Rch cs rt k) {m : Int} (hm : m ∈ refsAt cs (k : Int)) (h0 : 0 ≤ m) : Rch cs rt m.toNat := by
  unfold refsAt at hm
  rw [Int.toNat_natCast] at hm
  cases e : cs[k]? with
  | none => rw [e] at hm; simp at hm
  | some c =>
    rw [e] at hm
    exact .step hk e (by rwa [Int.toNat_of_nonneg h0])
theorem bounded_sound (cs : List Cl) (pl : Nat) (rt : List Int) : Sound (Rch cs rt) (boundedL cs pl rt).1 := by
  have hS : ∀ k, Rch cs rt k → ∀ m ∈ refsAt cs (k : Int), 0 ≤ m → Rch cs rt m.toNat := fun k hk m hm h0 => refs_reach hk hm h0
  refine (bounded_spec cs pl rt).keep (P := Sound (Rch cs rt)) (fun mk k ho h => ?_) ?_
  · refine (drain_spec cs pl mk _).sound hS h fun n hn => ?_
    simp at hn
    subst hn
    exact ⟨by omega, by rw [Int.toNat_natCast]; exact h k (openAt_iff.1 ho).1⟩
  · refine first_keep (P := Sound (Rch cs rt)) ?_ (fun mk n hn h => ?_) _
    · intro k hk
      rw [List.getElem?_replicate] at hk
      split at hk <;> simp at hk
    · refine root_keep (P := Sound (Rch cs rt)) h fun h0 _ => ?_
      have hr : Rch cs rt n.toNat := .root (by rwa [Int.toNat_of_nonneg h0])
      refine (drain_spec cs pl _ _).sound hS (mark_sound h hr) fun x hx => ?_
      simp at hx
      subst hx
      exact ⟨h0, hr⟩
/-- P3: the marks -/
theorem bounded_marks {h : Hp} (hv : validH h = true) (pl : Nat) : (boundedL h.cs pl h.rt).1 = reachL h.cs h.rt := by
  have B := bounded_spec h.cs pl h.rt
  refine reachL_eq (bounded_len _ _ _) fun k _ => ⟨fun hk => bounded_sound _ _ _ k hk, fun hr => ?_⟩
  refine Rch.inside (S := fun k => (boundedL h.cs pl h.rt).1[k]? = some true) (fun k hk => ?_) (fun k m c hk hc hm => ?_) hr
  · refine B.keep (P := fun mk => mk[k]? = some true) (fun mk _ _ h => (drain_spec _ _ _ _).mono h) ?_
    obtain ⟨j, hj⟩ := List.mem_iff_getElem?.1 hk
    obtain ⟨k', e, hl, _⟩ := okRef_nat (valid_root hv hj) (by omega)
    obtain rfl : k = k' := by omega
    exact first_roots _ _ _ _ j k (List.getElem?_eq_some_iff.1 hj).1 hj hl
  · obtain ⟨j, hj⟩ := List.mem_iff_getElem?.1 hm
    obtain ⟨m', e, hl, _⟩ := okRef_nat (valid_ref hv hc hj) (by omega)
    obtain rfl : m = m' := by omega
    have hlr : m < (boundedL h.cs pl h.rt).1.length := by rw [bounded_len]; exact hl
    cases em : (boundedL h.cs pl h.rt).1[m] with
    | true => rw [List.getElem?_eq_getElem hlr, em]
    | false =>
      exfalso
      have ho : openAt h.cs (boundedL h.cs pl h.rt).1 k = true := openAt_iff.2 ⟨hk, m, by unfold refsAt; rw [Int.toNat_natCast, hc]; exact hm, by omega, by rw [Int.toNat_natCast, List.getElem?_eq_getElem hlr, em]⟩
      have ha : anyOpen h.cs (boundedL h.cs pl h.rt).1 = true := anyOpen_iff.2 ⟨k, (List.getElem?_eq_some_iff.1 hk).1, ho⟩
      rw [B.shut] at ha
      cases ha
/-- P3: the passes -/
theorem bounded_passes (cs : List Cl) (pl : Nat) (rt : List Int) : 1 ≤ (boundedL cs pl rt).2 ∧ (boundedL cs pl rt).2 ≤ cs.length + 1 := by
  obtain ⟨h1, h2⟩ := (bounded_spec cs pl rt).bound
  have h3 : (firstTo cs pl rt rt.length).count false ≤ cs.length := by
    rw [← first_len cs pl rt rt.length]
    exact List.count_le_length
  omega

/-- all to which a marked cell refers is marked, but for the cells s -/
def Shut (cs : List Cl) (mk : List Bool) (s : List Int) : Prop := ∀ k : Nat, mk[k]? = some true → (k : Int) ∉ s → ∀ m ∈ refsAt cs (k : Int), 0 ≤ m → mk[m.toNat]? = some true
structure Room (cs : List Cl) (mk : List Bool) (s : List Int) : Prop where
  len : mk.length = cs.length
  nodup : s.Nodup
  marked : ∀ x ∈ s, 0 ≤ x ∧ mk[x.toNat]? = some true
  shut : Shut cs mk s
theorem Room.push {cs : List Cl} {pl : Nat} (hp : cs.length ≤ pl) {S : List Bool × List Int} {n m : Int} (h : Room cs S.1 (n :: S.2)) (hm : okRef cs m = true) : Room cs (pushP pl S m).1 (n :: (pushP pl S m).2) ∧ (0 ≤ m → (pushP pl S m).1[m.toNat]? = some true) := by
  by_cases e : 0 ≤ m ∧ S.1[m.toNat]? = some false
  · obtain ⟨h0, h1⟩ := e
    have hml := (List.getElem?_eq_some_iff.1 h1).1
    have hnm : m ∉ n :: S.2 := fun hx => by
      have := (h.marked m hx).2
      rw [h1] at this
      cases this
    have hroom : S.2.length < pl := by
      have := few_numbers cs.length (m :: n :: S.2) (List.nodup_cons.2 ⟨hnm, h.nodup⟩) (fun x hx => by
        rcases List.mem_cons.1 hx with hx | hx
        · subst hx
          exact ⟨x.toNat, by omega, by rw [← h.len]; exact hml⟩
        · obtain ⟨g0, g1⟩ := h.marked x hx
          exact ⟨x.toNat, by omega, by rw [← h.len]; exact (List.getElem?_eq_some_iff.1 g1).1⟩)
      simp only [List.length_cons] at this
      omega
    have E : pushP pl S m = (S.1.set m.toNat true, S.2 ++ [m]) := by rw [pushP, if_pos ⟨h0, h1⟩, if_pos hroom]
    rw [E]
    have keep : ∀ {k : Nat}, S.1[k]? = some true → (S.1.set m.toNat true)[k]? = some true := fun {k} hk => by
      by_cases ek : m.toNat = k
      · rw [← ek, h1] at hk
        cases hk
      · rw [List.getElem?_set_ne ek]
        exact hk
    refine ⟨⟨by simp only [List.length_set]; exact h.len, ?_, fun x hx => ?_, fun k hk hks x hx x0 => ?_⟩, fun _ => by simp [hml]⟩
    · show ((n :: S.2) ++ [m]).Nodup
      refine List.nodup_append.2 ⟨h.nodup, by simp, fun a ha b hb e => ?_⟩
      simp at hb
      subst hb e
      exact hnm ha
    · rcases List.mem_append.1 (show x ∈ (n :: S.2) ++ [m] from hx) with hx | hx
      · exact ⟨(h.marked x hx).1, keep (h.marked x hx).2⟩
      · simp at hx
        subst hx
        exact ⟨h0, by simp [hml]⟩
    · have hks' : (k : Int) ∉ (n :: S.2) ++ [m] := hks
      rw [List.mem_append, not_or] at hks'
      have hkm : m.toNat ≠ k := fun e => hks'.2 (by simp; omega)
      simp only [List.getElem?_set_ne hkm] at hk
      exact keep (h.shut k hk hks'.1 x hx x0)
  · have E : pushP pl S m = S := by rw [pushP, if_neg e]
    rw [E]
    refine ⟨h, fun h0 => ?_⟩
    obtain ⟨k, e1, hk, _⟩ := okRef_nat hm h0
    have hl : m.toNat < S.1.length := by rw [h.len]; omega
    cases em : S.1[m.toNat] with
    | true => rw [List.getElem?_eq_getElem hl, em]
    | false => exact absurd ⟨h0, by rw [List.getElem?_eq_getElem hl, em]⟩ e
theorem fold_mono {pl : Nat} (l : List Int) (S : List Bool × List Int) {k : Nat} (h : S.1[k]? = some true) : (l.foldl (pushP pl) S).1[k]? = some true :=
  fold_keep (P := fun T => T.1[k]? = some true) l S (fun T m _ h => push_mono pl T m h) h
theorem Room.fold {cs : List Cl} {pl : Nat} (hp : cs.length ≤ pl) {n : Int} : ∀ (l : List Int) (S : List Bool × List Int), okRefs cs l = true → Room cs S.1 (n :: S.2) → Room cs (l.foldl (pushP pl) S).1 (n :: (l.foldl (pushP pl) S).2) ∧ ∀ m ∈ l, 0 ≤ m → (l.foldl (pushP pl) S).1[m.toNat]? = some true
  | [], _, _, h => ⟨h, fun m hm => by simp at hm⟩
  | x :: l, S, hl, h => by
    obtain ⟨h1, h2⟩ := h.push hp (okRefs_iff.1 hl x (by simp))
    obtain ⟨h3, h4⟩ := Room.fold hp l _ (okRefs_iff.2 fun y hy => okRefs_iff.1 hl y (by simp [hy])) h1
    refine ⟨h3, fun m hm h0 => ?_⟩
    rcases List.mem_cons.1 hm with e | hm
    · subst e
      exact fold_mono l _ (h2 h0)
    · exact h4 m hm h0
theorem Room.perm {cs : List Cl} {mk : List Bool} {s s' : List Int} (h : Room cs mk s) (e : s.Perm s') : Room cs mk s' :=
  ⟨h.len, e.nodup_iff.1 h.nodup, fun x hx => h.marked x (e.mem_iff.2 hx), fun k hk hs => h.shut k hk fun hx => hs (e.mem_iff.1 hx)⟩
theorem Room.drain {cs : List Cl} (hc : ∀ c ∈ cs, okRefs cs c.r = true) {pl : Nat} (hp : cs.length ≤ pl) {mk r : List Bool} {s : List Int} (h : Drain cs pl mk s r) (hr : Room cs mk s) : Room cs r [] := by
  refine h.keep (P := fun m st => Room cs m st) (fun m st n h => ?_) hr
  have h' : Room cs m (n :: st) := h.perm (List.perm_append_singleton n st)
  obtain ⟨h1, h2⟩ := Room.fold (pl := pl) hp (refsAt cs n) (m, st) (refsAt_ok hc n) h'
  have n0 := (h.marked n (by simp)).1
  refine ⟨h1.len, (List.nodup_cons.1 h1.nodup).2, fun x hx => h1.marked x (List.mem_cons_of_mem _ hx), fun k hk hs x hx x0 => ?_⟩
  by_cases e : (k : Int) = n
  · rw [e] at hx
    exact h2 x hx x0
  · exact h1.shut k hk (fun hx => by
      rcases List.mem_cons.1 hx with hx | hx
      · exact e hx
      · exact hs hx) x hx x0
theorem Room.root {cs : List Cl} (hc : ∀ c ∈ cs, okRefs cs c.r = true) {pl : Nat} (hp : cs.length ≤ pl) {mk : List Bool} (h : Room cs mk []) (n : Int) : Room cs (rootP cs pl mk n) [] := by
  refine root_keep (P := fun m => Room cs m []) h fun h0 h1 => ?_
  have hl := (List.getElem?_eq_some_iff.1 h1).1
  refine Room.drain hc hp (drain_spec cs pl _ _) ⟨by rw [List.length_set]; exact h.len, by simp, fun x hx => ?_, fun k hk hs x hx x0 => ?_⟩
  · simp at hx
    subst hx
    exact ⟨h0, by simp [hl]⟩
  · have hkn : n.toNat ≠ k := fun e => hs (by simp; omega)
    rw [List.getElem?_set_ne hkn] at hk
    have := h.shut k hk (by simp) x hx x0
    by_cases e : n.toNat = x.toNat
    · rw [← e, h1] at this
      cases this
    · rw [List.getElem?_set_ne e]
      exact this
theorem Room.first {cs : List Cl} (hc : ∀ c ∈ cs, okRefs cs c.r = true) {pl : Nat} (hp : cs.length ≤ pl) (rt : List Int) (k : Nat) : Room cs (firstTo cs pl rt k) [] := by
  refine first_keep (P := fun m => Room cs m []) ⟨by simp, by simp, fun x hx => by simp at hx, fun k hk => ?_⟩ (fun mk n _ h => h.root hc hp n) k
  rw [List.getElem?_replicate] at hk
  split at hk <;> simp at hk
/-- P3: with as many places as cells one pass is enough -/
theorem bounded_one {h : Hp} (hv : validH h = true) {pl : Nat} (hp : h.cs.length ≤ pl) : (boundedL h.cs pl h.rt).2 = 1 := by
  have R := Room.first (valid_refs hv) hp h.rt h.rt.length
  have ha : anyOpen h.cs (firstTo h.cs pl h.rt h.rt.length) = false := by
    cases e : anyOpen h.cs (firstTo h.cs pl h.rt h.rt.length)
    · rfl
    · obtain ⟨k, hk, ho⟩ := anyOpen_iff.1 e
      obtain ⟨h1, m, hm, h0, h2⟩ := openAt_iff.1 ho
      have := R.shut k h1 (by simp) m hm h0
      rw [h2] at this
      cases this
  exact (bounded_eq (.done ha)).2
theorem bound_marks {h : Hp} (hv : validH h = true) {pl : Int} (h1 : 1 ≤ pl) (h2 : pl ≤ 40) : (boundH h pl).1 = reachH h ∧ 1 ≤ (boundH h pl).2 ∧ (boundH h pl).2 ≤ h.cs.length + 1 := by
  obtain ⟨k, rfl⟩ : ∃ k : Nat, pl = k := ⟨pl.toNat, by omega⟩
  have := bounded_passes h.cs k h.rt
  rw [bound_yes hv (by omega) (by omega)]
  refine ⟨?_, ?_, ?_⟩
  · rw [bounded_marks hv, reachH, if_pos hv]
  · simp only; omega
  · simp only; omega
theorem bound_one {h : Hp} (hv : validH h = true) : (boundH h 40).2 = 1 := by
  have := bounded_one hv (pl := 40) (valid_iff.1 hv).2.1
  rw [show (40 : Int) = ((40 : Nat) : Int) from rfl, bound_yes hv (by omega) (by omega), this]
  rfl
end Hps
end Go.Proofs.Ytmjejcfifkbkoaa
