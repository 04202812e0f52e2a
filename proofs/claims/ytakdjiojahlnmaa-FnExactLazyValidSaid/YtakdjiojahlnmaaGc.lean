/- Instructions and sweeping in plain mathematics: validity, what is possible, what they lead to. No program, no conditions. Which instructions and programs the model calls valid, and which are possible. No conditions. Rows of instructions: how they lie in memory, rows of a call's own, appending. No conditions. What the helpers of the exact laws do with instructions: toCommand, toCommandS, szCommandS, eqCommandS, markCommandS. No conditions. -/
import Derived.Test.YtakdjiojahlnmaaGb
import Derived.Test.YtakdjiojahlnmaaHc
import Derived.Test.YtakdjiojahlnmaaGa
import Derived.Maps.AppendAt
namespace Go.Proofs.Ytakdjiojahlnmaa
/-- an instruction -/
structure Cm where
  op : Int
  a : Int
  b : Int
  c : Int
  deriving DecidableEq, Inhabited
namespace Hps
def inR (n lo hi : Int) : Bool := decide (lo ≤ n) && decide (n ≤ hi)
theorem inR_iff {n lo hi : Int} : inR n lo hi = true ↔ lo ≤ n ∧ n ≤ hi := by simp [inR]
def okCm (o : Cm) : Bool :=
  if o.op = 1 then inR o.a 0 3 && inR o.b 0 3 && inR o.c 0 99
  else if o.op = 2 ∨ o.op = 3 then inR o.a 0 3 && inR o.b 0 3 && inR o.c 0 2
  else if o.op = 4 then inR o.a 0 3 && inR o.b 0 3 && decide (o.c = 0)
  else if o.op = 5 then inR o.a 0 3 && decide (o.b = 0) && decide (o.c = 0)
  else if o.op = 6 then inR o.a 0 3 && inR o.b 0 99 && decide (o.c = 0)
  else false
theorem okCm_op {o : Cm} (h : okCm o = true) : o.op = 1 ∨ o.op = 2 ∨ o.op = 3 ∨ o.op = 4 ∨ o.op = 5 ∨ o.op = 6 := by
  unfold okCm at h
  by_cases h1 : o.op = 1
  · omega
  rw [if_neg h1] at h
  by_cases h2 : o.op = 2 ∨ o.op = 3
  · omega
  rw [if_neg h2] at h
  by_cases h4 : o.op = 4
  · omega
  rw [if_neg h4] at h
  by_cases h5 : o.op = 5
  · omega
  rw [if_neg h5] at h
  by_cases h6 : o.op = 6
  · omega
  rw [if_neg h6] at h
  cases h
theorem okCm_new {o : Cm} (ho : o.op = 1) : okCm o = true ↔ (0 ≤ o.a ∧ o.a ≤ 3) ∧ (0 ≤ o.b ∧ o.b ≤ 3) ∧ (0 ≤ o.c ∧ o.c ≤ 99) := by
  simp [okCm, ho, inR_iff, and_assoc]
theorem okCm_get {o : Cm} (ho : o.op = 2 ∨ o.op = 3) : okCm o = true ↔ (0 ≤ o.a ∧ o.a ≤ 3) ∧ (0 ≤ o.b ∧ o.b ≤ 3) ∧ (0 ≤ o.c ∧ o.c ≤ 2) := by
  have h1 : ¬ o.op = 1 := by omega
  simp [okCm, ho, h1, inR_iff, and_assoc]
theorem okCm_copy {o : Cm} (ho : o.op = 4) : okCm o = true ↔ (0 ≤ o.a ∧ o.a ≤ 3) ∧ (0 ≤ o.b ∧ o.b ≤ 3) ∧ o.c = 0 := by
  simp [okCm, ho, inR_iff, and_assoc]
theorem okCm_drop {o : Cm} (ho : o.op = 5) : okCm o = true ↔ (0 ≤ o.a ∧ o.a ≤ 3) ∧ o.b = 0 ∧ o.c = 0 := by
  simp [okCm, ho, inR_iff, and_assoc]
theorem okCm_data {o : Cm} (ho : o.op = 6) : okCm o = true ↔ (0 ≤ o.a ∧ o.a ≤ 3) ∧ (0 ≤ o.b ∧ o.b ≤ 99) ∧ o.c = 0 := by
  simp [okCm, ho, inR_iff, and_assoc]
theorem okCm_a {o : Cm} (h : okCm o = true) : 0 ≤ o.a ∧ o.a ≤ 3 := by
  rcases okCm_op h with e | e | e | e | e | e
  · exact ((okCm_new e).1 h).1
  · exact ((okCm_get (.inl e)).1 h).1
  · exact ((okCm_get (.inr e)).1 h).1
  · exact ((okCm_copy e).1 h).1
  · exact ((okCm_drop e).1 h).1
  · exact ((okCm_data e).1 h).1
def okCms (l : List Cm) : Bool := l.all okCm && decide (l.length ≤ 40)
theorem okCms_iff {l : List Cm} : okCms l = true ↔ (∀ o ∈ l, okCm o = true) ∧ l.length ≤ 40 := by simp [okCms]

/-- the root with a number -/
def rootAt (h : Hp) (i : Int) : Int := (h.rt[i.toNat]?).getD (-1)
/-- the reference at a place of a cell -/
def refAt (cs : List Cl) (n p : Int) : Int := match cs[n.toNat]? with
  | some c => (c.r[p.toNat]?).getD (-1)
  | none => -1
/-- a cell with a reference at the place -/
def placeH (cs : List Cl) (n p : Int) : Bool := decide (0 ≤ n) && (match cs[n.toNat]? with
  | some c => decide (p < c.r.length)
  | none => false)
theorem placeH_iff {cs : List Cl} {n p : Int} : placeH cs n p = true ↔ ∃ (k : Nat) (c : Cl), n = k ∧ cs[k]? = some c ∧ p < c.r.length := by
  unfold placeH
  constructor
  · intro h
    rw [Bool.and_eq_true] at h
    obtain ⟨h1, h2⟩ := h
    have h1 := of_decide_eq_true h1
    cases e : cs[n.toNat]? with
    | none => rw [e] at h2; cases h2
    | some c => rw [e] at h2; exact ⟨n.toNat, c, by omega, e, of_decide_eq_true h2⟩
  · rintro ⟨k, c, rfl, hc, hp⟩
    simp [hc, hp]
def canH (h : Hp) (o : Cm) : Bool := validH h && okCm o && (if o.op = 2 then placeH h.cs (rootAt h o.b) o.c else if o.op = 3 then placeH h.cs (rootAt h o.a) o.c else if o.op = 6 then decide (0 ≤ rootAt h o.a) else true)
/-- the cell of OpNew -/
def newCl (o : Cm) : Cl := ⟨true, o.c, List.replicate o.b.toNat (-1)⟩
def putCl (cs : List Cl) (p : Nat) (c : Cl) : List Cl := if p = cs.length then cs ++ [c] else cs.set p c
def setRef (cs : List Cl) (k i : Nat) (x : Int) : List Cl := match cs[k]? with
  | some c => cs.set k ⟨c.u, c.d, c.r.set i x⟩
  | none => cs
def setDat (cs : List Cl) (k : Nat) (x : Int) : List Cl := match cs[k]? with
  | some c => cs.set k ⟨c.u, x, c.r⟩
  | none => cs
def doH (h : Hp) (o : Cm) (p : Nat) : Hp :=
  if o.op = 1 then ⟨putCl h.cs p (newCl o), h.rt.set o.a.toNat p⟩
  else if o.op = 2 then ⟨h.cs, h.rt.set o.a.toNat (refAt h.cs (rootAt h o.b) o.c)⟩
  else if o.op = 3 then ⟨setRef h.cs (rootAt h o.a).toNat o.c.toNat (rootAt h o.b), h.rt⟩
  else if o.op = 4 then ⟨h.cs, h.rt.set o.a.toNat (rootAt h o.b)⟩
  else if o.op = 5 then ⟨h.cs, h.rt.set o.a.toNat (-1)⟩
  else if o.op = 6 then ⟨setDat h.cs (rootAt h o.a).toNat o.b, h.rt⟩
  else h
def zeroH : Hp := ⟨[], []⟩
def stepH (h : Hp) (o : Cm) : Hp × Bool :=
  if validH h && okCm o then
    (if !canH h o || (decide (o.op = 1) && decide (h.cs.length = 40)) then (h, false) else (doH h o h.cs.length, true))
  else (zeroH, false)
def runFrom (h : Hp) (l : List Cm) : Hp := l.foldl (fun h o => (stepH h o).1) h
def runH (l : List Cm) : Hp := if okCms l = true then runFrom emptyH l else zeroH

/-- what is used stays used -/
theorem okRefs_mono {cs cs' : List Cl} (h : ∀ k, usedAt cs k = true → usedAt cs' k = true) {rs : List Int} (hr : okRefs cs rs = true) : okRefs cs' rs = true := by
  rw [okRefs_iff] at hr ⊢
  intro n hn
  have := hr n hn
  rw [okRef_iff] at this ⊢
  rcases this with e | ⟨e1, e2⟩
  · exact .inl e
  · exact .inr ⟨e1, h _ e2⟩
theorem okCell_mono {cs cs' : List Cl} (h : ∀ k, usedAt cs k = true → usedAt cs' k = true) {c : Cl} (hc : okCell cs c = true) : okCell cs' c = true := by
  rw [okCell_iff] at hc ⊢
  exact ⟨hc.1, hc.2.1, hc.2.2.1, okRefs_mono h hc.2.2.2⟩
theorem okRef_none (cs : List Cl) : okRef cs (-1) = true := by simp [okRef]
theorem okRefs_set {cs : List Cl} {rs : List Int} {i : Nat} {x : Int} (h : okRefs cs rs = true) (hx : okRef cs x = true) : okRefs cs (rs.set i x) = true := by
  rw [okRefs_iff] at h ⊢
  intro n hn
  rcases List.mem_or_eq_of_mem_set hn with h1 | rfl
  · exact h n h1
  · exact hx
theorem root_ok {h : Hp} (hv : validH h = true) (i : Int) : okRef h.cs (rootAt h i) = true := by
  unfold rootAt
  cases e : h.rt[i.toNat]? with
  | none => exact okRef_none _
  | some n => exact valid_root hv e
theorem ref_ok {h : Hp} (hv : validH h = true) (n p : Int) : okRef h.cs (refAt h.cs n p) = true := by
  unfold refAt
  cases e : h.cs[n.toNat]? with
  | none => exact okRef_none _
  | some c =>
    simp only
    cases e2 : c.r[p.toNat]? with
    | none => exact okRef_none _
    | some x => exact valid_ref hv e e2
theorem set_root_valid {h : Hp} (hv : validH h = true) (i : Nat) {x : Int} (hx : okRef h.cs x = true) : validH ⟨h.cs, h.rt.set i x⟩ = true := by
  obtain ⟨h1, h2, h3, h4⟩ := valid_iff.1 hv
  exact valid_iff.2 ⟨h1, h2, by simp [h3], okRefs_set h4 hx⟩
theorem used_set {cs : List Cl} {k : Nat} {c c' : Cl} (hc : cs[k]? = some c) (hu : c.u = true → c'.u = true) (j : Nat) (h : usedAt cs j = true) : usedAt (cs.set k c') j = true := by
  obtain ⟨x, h1, h2⟩ := usedAt_iff.1 h
  rw [usedAt_iff, List.getElem?_set]
  by_cases e : k = j
  · subst e
    rw [hc] at h1
    injection h1 with h1
    subst h1
    exact ⟨c', by simp [(List.getElem?_eq_some_iff.1 hc).1], hu h2⟩
  · exact ⟨x, by simp [e, h1], h2⟩
/-- a cell is put in the place of one that is used no more than it -/
theorem set_cell_valid {h : Hp} (hv : validH h = true) {k : Nat} {c c' : Cl} (hc : h.cs[k]? = some c) (hu : c.u = true → c'.u = true) (ho : okCell (h.cs.set k c') c' = true) : validH ⟨h.cs.set k c', h.rt⟩ = true := by
  obtain ⟨h1, h2, h3, h4⟩ := valid_iff.1 hv
  have hm := used_set hc hu
  refine valid_iff.2 ⟨fun x hx => ?_, by simp [h2], h3, okRefs_mono hm h4⟩
  rcases List.mem_or_eq_of_mem_set hx with hx | rfl
  · exact okCell_mono hm (h1 x hx)
  · exact ho
theorem used_append {cs : List Cl} (c : Cl) (j : Nat) (h : usedAt cs j = true) : usedAt (cs ++ [c]) j = true := by
  obtain ⟨x, h1, h2⟩ := usedAt_iff.1 h
  exact usedAt_iff.2 ⟨x, by rw [List.getElem?_append_left (List.getElem?_eq_some_iff.1 h1).1]; exact h1, h2⟩
theorem append_cell_valid {h : Hp} (hv : validH h = true) {c : Cl} (hl : h.cs.length < 40) (ho : okCell (h.cs ++ [c]) c = true) : validH ⟨h.cs ++ [c], h.rt⟩ = true := by
  obtain ⟨h1, h2, h3, h4⟩ := valid_iff.1 hv
  have hm := used_append (cs := h.cs) c
  refine valid_iff.2 ⟨fun x hx => ?_, by simp; omega, h3, okRefs_mono hm h4⟩
  rcases List.mem_append.1 hx with hx | hx
  · exact okCell_mono hm (h1 x hx)
  · rw [List.mem_singleton] at hx
    subst hx
    exact ho
theorem new_ok {o : Cm} (h1 : o.op = 1) (h : okCm o = true) (cs : List Cl) : okCell cs (newCl o) = true := by
  obtain ⟨_, hb, hc⟩ := (okCm_new h1).1 h
  refine okCell_iff.2 ⟨.inl rfl, hc, by simp [newCl]; omega, okRefs_iff.2 fun n hn => ?_⟩
  simp only [newCl, List.mem_replicate] at hn
  rw [hn.2]
  exact okRef_none _
theorem put_valid {h : Hp} (hv : validH h = true) {p : Nat} (hp : p ≤ h.cs.length) (h4 : p < 40) {c : Cl} (hu : c.u = true) (ho : ∀ cs, okCell cs c = true) : validH ⟨putCl h.cs p c, h.rt⟩ = true := by
  unfold putCl
  by_cases e : p = h.cs.length
  · rw [if_pos e]
    exact append_cell_valid hv (by omega) (ho _)
  · rw [if_neg e]
    exact set_cell_valid hv (List.getElem?_eq_getElem (show p < h.cs.length by omega)) (fun _ => hu) (ho _)
theorem put_used {cs : List Cl} {p : Nat} (hp : p ≤ cs.length) {c : Cl} (hu : c.u = true) : usedAt (putCl cs p c) p = true := by
  unfold putCl
  by_cases e : p = cs.length
  · rw [if_pos e, usedAt_iff]
    exact ⟨c, by simp [e], hu⟩
  · rw [if_neg e, usedAt_iff]
    exact ⟨c, by rw [List.getElem?_set]; simp; omega, hu⟩
theorem doH_valid {h : Hp} {o : Cm} {p : Nat} (hc : canH h o = true) (hp : o.op = 1 → p ≤ h.cs.length ∧ p < 40) : validH (doH h o p) = true := by
  unfold canH at hc
  rw [Bool.and_eq_true, Bool.and_eq_true] at hc
  obtain ⟨⟨hv, ho⟩, hc⟩ := hc
  unfold doH
  by_cases h1 : o.op = 1
  · rw [if_pos h1]
    obtain ⟨q1, q2⟩ := hp h1
    have v1 := put_valid hv q1 q2 (c := newCl o) rfl (new_ok h1 ho)
    exact set_root_valid v1 _ (okRef_iff.2 (.inr ⟨by omega, by simpa using put_used q1 (c := newCl o) rfl⟩))
  rw [if_neg h1]
  by_cases h2 : o.op = 2
  · rw [if_pos h2]
    exact set_root_valid hv _ (ref_ok hv _ _)
  rw [if_neg h2]
  by_cases h3 : o.op = 3
  · rw [if_pos h3]
    rw [if_neg h2, if_pos h3] at hc
    obtain ⟨k, c, e, hk, _⟩ := placeH_iff.1 hc
    rw [e, Int.toNat_natCast, setRef, hk]
    have ok := okCell_iff.1 (valid_cell hv hk)
    have hm := used_set (c' := ⟨c.u, c.d, c.r.set o.c.toNat (rootAt h o.b)⟩) hk (fun h => h)
    have hcu : c.u = true := by
      have := root_ok hv o.a
      rw [e, okRef_iff] at this
      rcases this with e' | ⟨_, e'⟩
      · omega
      · obtain ⟨x, hx, hxu⟩ := usedAt_iff.1 e'
        rw [Int.toNat_natCast, hk] at hx
        injection hx with hx
        rw [hx]
        exact hxu
    refine set_cell_valid hv hk (fun h => h) (okCell_iff.2 ⟨.inl hcu, ok.2.1, by simpa using ok.2.2.1, okRefs_mono hm (okRefs_set ok.2.2.2 (root_ok hv _))⟩)
  rw [if_neg h3]
  by_cases h4 : o.op = 4
  · rw [if_pos h4]
    exact set_root_valid hv _ (root_ok hv _)
  rw [if_neg h4]
  by_cases h5 : o.op = 5
  · rw [if_pos h5]
    exact set_root_valid hv _ (okRef_none _)
  rw [if_neg h5]
  by_cases h6 : o.op = 6
  · rw [if_pos h6]
    rw [if_neg h2, if_neg h3, if_pos h6] at hc
    have hc := of_decide_eq_true hc
    obtain ⟨k, e, hk, hku⟩ := okRef_nat (root_ok hv o.a) hc
    obtain ⟨c, hkc, hcu⟩ := usedAt_iff.1 hku
    rw [e, Int.toNat_natCast, setDat, hkc]
    have ok := okCell_iff.1 (valid_cell hv hkc)
    have hm := used_set (c' := ⟨c.u, o.b, c.r⟩) hkc (fun h => h)
    exact set_cell_valid hv hkc (fun h => h) (okCell_iff.2 ⟨.inl hcu, ((okCm_data h6).1 ho).2.1, ok.2.2.1, okRefs_mono hm ok.2.2.2⟩)
  rw [if_neg h6]
  exact hv
theorem stepH_valid {h : Hp} {o : Cm} (hv : validH h = true) (ho : okCm o = true) : validH (stepH h o).1 = true := by
  unfold stepH
  rw [hv, ho]
  simp only [Bool.and_self, if_true]
  split
  · exact hv
  · next hn =>
    simp only [Bool.or_eq_true, Bool.not_eq_true', Bool.and_eq_true, decide_eq_true_eq, not_or, Bool.not_eq_false, not_and] at hn
    exact doH_valid hn.1 fun h1 => ⟨Nat.le_refl _, by have := hn.2 h1; have := (valid_iff.1 hv).2.1; omega⟩
theorem runFrom_valid {l : List Cm} : ∀ {h : Hp}, validH h = true → (∀ o ∈ l, okCm o = true) → validH (runFrom h l) = true := by
  induction l with
  | nil => intro h hv _; exact hv
  | cons o l ih => intro h hv hl; exact ih (stepH_valid hv (hl o (by simp))) fun x hx => hl x (by simp [hx])
theorem runH_valid {l : List Cm} (h : okCms l = true) : validH (runH l) = true := by
  rw [runH, if_pos h]
  exact runFrom_valid empty_valid (okCms_iff.1 h).1
theorem runFrom_snoc (h : Hp) (l : List Cm) (o : Cm) : runFrom h (l ++ [o]) = (stepH (runFrom h l) o).1 := by simp [runFrom, List.foldl_append]

/-- cells that are dropped are empty -/
def zeroCl : Cl := ⟨false, 0, []⟩
def dropL : List Cl → List Bool → List Cl
  | c :: cs, b :: bs => (if b = true then zeroCl else c) :: dropL cs bs
  | cs, _ => cs
theorem dropL_nil (cs : List Cl) : dropL cs [] = cs := by cases cs <;> rfl
theorem dropL_len : ∀ (cs : List Cl) (bs : List Bool), (dropL cs bs).length = cs.length
  | [], [] => rfl
  | [], _ :: _ => rfl
  | _ :: _, [] => rfl
  | c :: cs, b :: bs => by simp [dropL, dropL_len cs bs]
theorem dropL_at : ∀ (cs : List Cl) (bs : List Bool) (k : Nat) (c : Cl), cs[k]? = some c → (dropL cs bs)[k]? = some (if bs[k]? = some true then zeroCl else c)
  | [], _, k, c, h => by simp at h
  | x :: cs, [], k, c, h => by simpa [dropL] using h
  | x :: cs, b :: bs, 0, c, h => by
    simp at h
    subst h
    simp [dropL]
  | x :: cs, b :: bs, k + 1, c, h => by
    have := dropL_at cs bs k c (by simpa using h)
    simpa [dropL] using this
theorem dropL_take {cs : List Cl} (bs : List Bool) (k : Nat) {j : Nat} {c : Cl} (h : cs[j]? = some c) : (dropL cs (bs.take k))[j]? = some (if j < k ∧ bs[j]? = some true then zeroCl else c) := by
  rw [dropL_at _ _ _ _ h, List.getElem?_take]
  by_cases e : j < k
  · simp [e]
  · simp [e]
theorem dropL_succ {cs : List Cl} {bs : List Bool} {k : Nat} {b : Bool} (hb : bs[k]? = some b) (hk : k < cs.length) : dropL cs (bs.take (k + 1)) = if b = true then (dropL cs (bs.take k)).set k zeroCl else dropL cs (bs.take k) := by
  apply List.ext_getElem?
  intro j
  rcases Nat.lt_or_ge j cs.length with hj | hj
  · have hc := List.getElem?_eq_getElem hj
    rw [dropL_take _ _ hc]
    by_cases e : j = k
    · subst e
      cases b
      · simp only [Bool.false_eq_true, if_false]
        rw [dropL_take _ _ hc, hb]
        simp
      · simp only [if_true]
        have hjl : j < (dropL cs (bs.take j)).length := by rw [dropL_len]; exact hj
        rw [if_pos ⟨by omega, hb⟩, List.getElem?_set, if_pos rfl, if_pos hjl]
    · have hR : (if b = true then (dropL cs (bs.take k)).set k zeroCl else dropL cs (bs.take k))[j]? = (dropL cs (bs.take k))[j]? := by
        cases b
        · rw [if_neg (by simp)]
        · rw [if_pos rfl, List.getElem?_set, if_neg (by omega)]
      rw [hR, dropL_take _ _ hc]
      have : j < k + 1 ↔ j < k := by omega
      simp only [this]
  · have hR : (if b = true then (dropL cs (bs.take k)).set k zeroCl else dropL cs (bs.take k)).length = cs.length := by
      cases b
      · rw [if_neg (by simp), dropL_len]
      · rw [if_pos rfl, List.length_set, dropL_len]
    rw [List.getElem?_eq_none (by rw [dropL_len]; omega), List.getElem?_eq_none (by omega)]
def dropH (h : Hp) (dead : List Bool) : Hp := ⟨dropL h.cs dead, h.rt⟩
/-- how many of the first k are used and not marked -/
def freedTo (cs : List Cl) (marks : List Bool) : Nat → Nat
  | 0 => 0
  | k + 1 => freedTo cs marks k + (if marks[k]? = some false ∧ usedAt cs k = true then 1 else 0)
theorem freedTo_le (cs : List Cl) (marks : List Bool) : ∀ k, freedTo cs marks k ≤ k
  | 0 => Nat.le_refl _
  | k + 1 => by
    have := freedTo_le cs marks k
    simp only [freedTo]
    split <;> omega
def sweepH (h : Hp) (marks : List Bool) : Hp × Int :=
  if validH h = true ∧ marks.length = h.cs.length then
    (if validH (dropH h (marks.map (!·))) = true then (dropH h (marks.map (!·)), (freedTo h.cs marks marks.length : Int)) else (zeroH, -1))
  else (zeroH, -1)
noncomputable def collectH (h : Hp) : Hp × Int := sweepH h (reachH h)
theorem reachH_len {h : Hp} (hv : validH h = true) : (reachH h).length = h.cs.length := by rw [reachH, if_pos hv, reachL_len]
/-- a used cell that is marked stays -/
theorem drop_used {cs : List Cl} {marks : List Bool} (hl : marks.length = cs.length) {k : Nat} : usedAt (dropL cs (marks.map (!·))) k = true ↔ usedAt cs k = true ∧ marks[k]? = some true := by
  rcases Nat.lt_or_ge k cs.length with hk | hk
  · have hc := List.getElem?_eq_getElem hk
    have hm := List.getElem?_eq_getElem (show k < marks.length by omega)
    rw [usedAt_iff, dropL_at _ _ _ _ hc, List.getElem?_map, hm, usedAt_iff, hc]
    cases marks[k] <;> simp [zeroCl]
  · constructor
    · intro h
      have := usedAt_lt h
      rw [dropL_len] at this
      omega
    · rintro ⟨h, _⟩
      have := usedAt_lt h
      omega
theorem collect_drop_valid {h : Hp} (hv : validH h = true) : validH (dropH h ((reachH h).map (!·))) = true := by
  obtain ⟨h1, h2, h3, h4⟩ := valid_iff.1 hv
  have hl := reachH_len hv
  have hr : ∀ {n : Int}, okRef h.cs n = true → (0 ≤ n → Rch h.cs h.rt n.toNat) → okRef (dropL h.cs ((reachH h).map (!·))) n = true := by
    intro n hn hR
    rw [okRef_iff] at hn ⊢
    rcases hn with e | ⟨e1, e2⟩
    · exact .inl e
    · refine .inr ⟨e1, (drop_used hl).2 ⟨e2, ?_⟩⟩
      rw [reachH, if_pos hv, reachL_true (usedAt_lt e2)]
      exact hR e1
  refine valid_iff.2 ⟨fun c hc => ?_, by simp [dropH, dropL_len, h2], h3, okRefs_iff.2 fun n hn => hr (okRefs_iff.1 h4 n hn) fun h0 => .root (by rw [Int.toNat_of_nonneg h0]; exact hn)⟩
  obtain ⟨k, hk⟩ := List.mem_iff_getElem?.1 hc
  have hkl := (List.getElem?_eq_some_iff.1 hk).1
  simp only [dropH] at hk hkl
  rw [dropL_len] at hkl
  have hkc := List.getElem?_eq_getElem hkl
  rw [dropL_at _ _ _ _ hkc] at hk
  injection hk with hk
  have hm := List.getElem?_eq_getElem (show k < (reachH h).length by omega)
  rw [List.getElem?_map, hm] at hk
  have ok := okCell_iff.1 (valid_cell hv hkc)
  cases e : (reachH h)[k]'(by omega) with
  | false =>
    rw [e] at hk
    simp at hk
    subst hk
    simp [okCell, zeroCl, okRefs]
  | true =>
    rw [e] at hk hm
    simp at hk
    subst hk
    refine okCell_iff.2 ⟨ok.1, ok.2.1, ok.2.2.1, okRefs_iff.2 fun n hn => hr (okRefs_iff.1 ok.2.2.2 n hn) fun h0 => ?_⟩
    rw [reachH, if_pos hv, reachL_true hkl] at hm
    exact .step hm hkc (by rw [Int.toNat_of_nonneg h0]; exact hn)
theorem collectH_eq {h : Hp} (hv : validH h = true) : collectH h = (dropH h ((reachH h).map (!·)), (freedTo h.cs (reachH h) (reachH h).length : Int)) := by
  rw [collectH, sweepH, if_pos ⟨hv, reachH_len hv⟩, if_pos (collect_drop_valid hv)]
theorem collectH_valid {h : Hp} (hv : validH h = true) : validH (collectH h).1 = true := by
  rw [collectH_eq hv]
  exact collect_drop_valid hv
end Hps
end Go.Proofs.Ytakdjiojahlnmaa

namespace Go.Proofs.Ytakdjiojahlnmaa
open Go.RowKit

/-- an instruction as a value -/
abbrev cmV (o : Cm) : Value := .agg #[.int .i64 o.op, .int .i64 o.a, .int .i64 o.b, .int .i64 o.c]

theorem l1In_is (n lo hi : Int) (x : Bool) (w : World) (h : Hps.inR n lo hi = x) : Calls Try.prog 45 #[.int .i64 n, .int .i64 lo, .int .i64 hi] w fun e w' => e = .returned (.bool x) ∧ w = w' :=
  (l1In_any n lo hi _).mono fun _ _ ⟨he, hw⟩ => ⟨by rw [he, ← h]; rfl, hw⟩

set_option maxHeartbeats 1000000 in
theorem mCV_new (a b c : Int) (w : World) (xa xb : Bool) (HA : Hid (Hps.inR a 0 3 = xa)) (HB : Hid (Hps.inR b 0 3 = xb)) (xc : Bool) (HC : Hid (Hps.inR c 0 99 = xc)) : Calls Try.prog 106 #[cmV ⟨1, a, b, c⟩] w fun e w' => e = .returned (.bool (xa && xb && xc)) ∧ Below w.heap.size w w' := by
  have bb : Below w.heap.size w (w.alloc (.cells #[.int .i64 1, .int .i64 a, .int .i64 b, .int .i64 c] 128)) := (Below.refl _ _).alloc (Nat.le_refl _) _
  go_enter Try.func106, Try.ntmps106
  go_wp2_with fail
  refine (l1In_is _ _ _ _ _ HA.out).mono ?_
  rintro e w1 ⟨rfl, rfl⟩
  go_wp2_with fail
  refine (l1In_is _ _ _ _ _ HB.out).mono ?_
  rintro e w1 ⟨rfl, rfl⟩
  cases xa
  · go_wp2_with fail
    go_ret
    exact ⟨rfl, bb⟩
  go_wp2_with fail
  refine (l1In_is _ _ _ _ _ HB.out).mono ?_
  rintro e w1 ⟨rfl, rfl⟩
  cases xb
  · go_wp2_with fail
    go_ret
    exact ⟨rfl, bb⟩
  go_wp2_with fail
  refine (l1In_is _ _ _ _ _ HC.out).mono ?_
  rintro e w1 ⟨rfl, rfl⟩
  go_wp2_with fail
  go_ret
  exact ⟨rfl, bb⟩
set_option maxHeartbeats 1000000 in
theorem mCV_get (a b c : Int) (w : World) (xa xb : Bool) (HA : Hid (Hps.inR a 0 3 = xa)) (HB : Hid (Hps.inR b 0 3 = xb)) (xc : Bool) (HC : Hid (Hps.inR c 0 2 = xc)) : Calls Try.prog 106 #[cmV ⟨2, a, b, c⟩] w fun e w' => e = .returned (.bool (xa && xb && xc)) ∧ Below w.heap.size w w' := by
  have bb : Below w.heap.size w (w.alloc (.cells #[.int .i64 2, .int .i64 a, .int .i64 b, .int .i64 c] 128)) := (Below.refl _ _).alloc (Nat.le_refl _) _
  go_enter Try.func106, Try.ntmps106
  go_wp2_with fail
  refine (l1In_is _ _ _ _ _ HA.out).mono ?_
  rintro e w1 ⟨rfl, rfl⟩
  go_wp2_with fail
  refine (l1In_is _ _ _ _ _ HB.out).mono ?_
  rintro e w1 ⟨rfl, rfl⟩
  cases xa
  · go_wp2_with fail
    go_ret
    exact ⟨rfl, bb⟩
  cases xb
  · go_wp2_with fail
    go_ret
    exact ⟨rfl, bb⟩
  go_wp2_with fail
  refine (l1In_is _ _ _ _ _ HC.out).mono ?_
  rintro e w1 ⟨rfl, rfl⟩
  go_wp2_with fail
  go_ret
  exact ⟨rfl, bb⟩
set_option maxHeartbeats 1000000 in
theorem mCV_set (a b c : Int) (w : World) (xa xb : Bool) (HA : Hid (Hps.inR a 0 3 = xa)) (HB : Hid (Hps.inR b 0 3 = xb)) (xc : Bool) (HC : Hid (Hps.inR c 0 2 = xc)) : Calls Try.prog 106 #[cmV ⟨3, a, b, c⟩] w fun e w' => e = .returned (.bool (xa && xb && xc)) ∧ Below w.heap.size w w' := by
  have bb : Below w.heap.size w (w.alloc (.cells #[.int .i64 3, .int .i64 a, .int .i64 b, .int .i64 c] 128)) := (Below.refl _ _).alloc (Nat.le_refl _) _
  go_enter Try.func106, Try.ntmps106
  go_wp2_with fail
  refine (l1In_is _ _ _ _ _ HA.out).mono ?_
  rintro e w1 ⟨rfl, rfl⟩
  go_wp2_with fail
  refine (l1In_is _ _ _ _ _ HB.out).mono ?_
  rintro e w1 ⟨rfl, rfl⟩
  cases xa
  · go_wp2_with fail
    go_ret
    exact ⟨rfl, bb⟩
  cases xb
  · go_wp2_with fail
    go_ret
    exact ⟨rfl, bb⟩
  go_wp2_with fail
  refine (l1In_is _ _ _ _ _ HC.out).mono ?_
  rintro e w1 ⟨rfl, rfl⟩
  go_wp2_with fail
  go_ret
  exact ⟨rfl, bb⟩
set_option maxHeartbeats 1000000 in
theorem mCV_copy (a b c : Int) (w : World) (xa xb : Bool) (HA : Hid (Hps.inR a 0 3 = xa)) (HB : Hid (Hps.inR b 0 3 = xb)) (xc : Bool) (hc : (c == 0) = xc) : Calls Try.prog 106 #[cmV ⟨4, a, b, c⟩] w fun e w' => e = .returned (.bool (xa && xb && xc)) ∧ Below w.heap.size w w' := by
  have bb : Below w.heap.size w (w.alloc (.cells #[.int .i64 4, .int .i64 a, .int .i64 b, .int .i64 c] 128)) := (Below.refl _ _).alloc (Nat.le_refl _) _
  go_enter Try.func106, Try.ntmps106
  go_wp2_with fail
  refine (l1In_is _ _ _ _ _ HA.out).mono ?_
  rintro e w1 ⟨rfl, rfl⟩
  go_wp2_with fail
  refine (l1In_is _ _ _ _ _ HB.out).mono ?_
  rintro e w1 ⟨rfl, rfl⟩
  cases xa
  · go_wp2_with fail
    go_ret
    exact ⟨rfl, bb⟩
  cases xb
  · go_wp2_with fail
    go_ret
    exact ⟨rfl, bb⟩
  go_wp2_with fail
  go_ret
  exact ⟨rfl, bb⟩
set_option maxHeartbeats 1000000 in
theorem mCV_drop (a b c : Int) (w : World) (xa xb : Bool) (HA : Hid (Hps.inR a 0 3 = xa)) (HB : Hid (Hps.inR b 0 3 = xb)) (xy xc : Bool) (hy : (b == 0) = xy) (hc : (c == 0) = xc) : Calls Try.prog 106 #[cmV ⟨5, a, b, c⟩] w fun e w' => e = .returned (.bool (xa && xy && xc)) ∧ Below w.heap.size w w' := by
  have bb : Below w.heap.size w (w.alloc (.cells #[.int .i64 5, .int .i64 a, .int .i64 b, .int .i64 c] 128)) := (Below.refl _ _).alloc (Nat.le_refl _) _
  go_enter Try.func106, Try.ntmps106
  go_wp2_with fail
  refine (l1In_is _ _ _ _ _ HA.out).mono ?_
  rintro e w1 ⟨rfl, rfl⟩
  go_wp2_with fail
  refine (l1In_is _ _ _ _ _ HB.out).mono ?_
  rintro e w1 ⟨rfl, rfl⟩
  cases xa
  · go_wp2_with fail
    go_ret
    exact ⟨rfl, bb⟩
  cases xy
  · go_wp2_with fail
    go_ret
    exact ⟨rfl, bb⟩
  go_wp2_with fail
  go_ret
  exact ⟨rfl, bb⟩
set_option maxHeartbeats 1000000 in
theorem mCV_data (a b c : Int) (w : World) (xa xb : Bool) (HA : Hid (Hps.inR a 0 3 = xa)) (HB : Hid (Hps.inR b 0 3 = xb)) (xy xc : Bool) (HY : Hid (Hps.inR b 0 99 = xy)) (hc : (c == 0) = xc) : Calls Try.prog 106 #[cmV ⟨6, a, b, c⟩] w fun e w' => e = .returned (.bool (xa && xy && xc)) ∧ Below w.heap.size w w' := by
  have bb : Below w.heap.size w (w.alloc (.cells #[.int .i64 6, .int .i64 a, .int .i64 b, .int .i64 c] 128)) := (Below.refl _ _).alloc (Nat.le_refl _) _
  go_enter Try.func106, Try.ntmps106
  go_wp2_with fail
  refine (l1In_is _ _ _ _ _ HA.out).mono ?_
  rintro e w1 ⟨rfl, rfl⟩
  go_wp2_with fail
  refine (l1In_is _ _ _ _ _ HB.out).mono ?_
  rintro e w1 ⟨rfl, rfl⟩
  cases xa
  · go_wp2_with fail
    go_ret
    exact ⟨rfl, bb⟩
  go_wp2_with fail
  refine (l1In_is _ _ _ _ _ HY.out).mono ?_
  rintro e w1 ⟨rfl, rfl⟩
  cases xy
  · go_wp2_with fail
    go_ret
    exact ⟨rfl, bb⟩
  go_wp2_with fail
  go_ret
  exact ⟨rfl, bb⟩
set_option maxHeartbeats 1000000 in
theorem mCV_none (op a b c : Int) (w : World) (xa xb : Bool) (HA : Hid (Hps.inR a 0 3 = xa)) (HB : Hid (Hps.inR b 0 3 = xb)) (h1 : ¬ op = 1) (h2 : ¬ op = 2) (h3 : ¬ op = 3) (h4 : ¬ op = 4) (h5 : ¬ op = 5) (h6 : ¬ op = 6) : Calls Try.prog 106 #[cmV ⟨op, a, b, c⟩] w fun e w' => e = .returned (.bool (false)) ∧ Below w.heap.size w w' := by
  have bb : Below w.heap.size w (w.alloc (.cells #[.int .i64 op, .int .i64 a, .int .i64 b, .int .i64 c] 128)) := (Below.refl _ _).alloc (Nat.le_refl _) _
  go_enter Try.func106, Try.ntmps106
  go_wp2_with fail
  refine (l1In_is _ _ _ _ _ HA.out).mono ?_
  rintro e w1 ⟨rfl, rfl⟩
  go_wp2_with fail
  refine (l1In_is _ _ _ _ _ HB.out).mono ?_
  rintro e w1 ⟨rfl, rfl⟩
  go_wp2_with fail
  go_ret
  exact ⟨rfl, bb⟩

theorem mCommandValid_any (o : Cm) (w : World) : Calls Try.prog 106 #[cmV o] w fun e w' => e = .returned (.bool (Hps.okCm o)) ∧ Below w.heap.size w w' := by
  obtain ⟨op, a, b, c⟩ := o
  have HA : Hid (Hps.inR a 0 3 = Hps.inR a 0 3) := Lib.hid rfl
  have HB : Hid (Hps.inR b 0 3 = Hps.inR b 0 3) := Lib.hid rfl
  have d0 : ∀ n : Int, (n == 0) = decide (n = 0) := fun _ => rfl
  by_cases h1 : op = 1
  · subst h1
    rw [show Hps.okCm ⟨1, a, b, c⟩ = (Hps.inR a 0 3 && Hps.inR b 0 3 && Hps.inR c 0 99) by simp [Hps.okCm]]
    exact mCV_new a b c w _ _ HA HB _ (Lib.hid rfl)
  by_cases h2 : op = 2
  · subst h2
    rw [show Hps.okCm ⟨2, a, b, c⟩ = (Hps.inR a 0 3 && Hps.inR b 0 3 && Hps.inR c 0 2) by simp [Hps.okCm]]
    exact mCV_get a b c w _ _ HA HB _ (Lib.hid rfl)
  by_cases h3 : op = 3
  · subst h3
    rw [show Hps.okCm ⟨3, a, b, c⟩ = (Hps.inR a 0 3 && Hps.inR b 0 3 && Hps.inR c 0 2) by simp [Hps.okCm]]
    exact mCV_set a b c w _ _ HA HB _ (Lib.hid rfl)
  by_cases h4 : op = 4
  · subst h4
    rw [show Hps.okCm ⟨4, a, b, c⟩ = (Hps.inR a 0 3 && Hps.inR b 0 3 && decide (c = 0)) by simp [Hps.okCm]]
    exact mCV_copy a b c w _ _ HA HB _ (d0 c)
  by_cases h5 : op = 5
  · subst h5
    rw [show Hps.okCm ⟨5, a, b, c⟩ = (Hps.inR a 0 3 && decide (b = 0) && decide (c = 0)) by simp [Hps.okCm]]
    exact mCV_drop a b c w _ _ HA HB _ _ (d0 b) (d0 c)
  by_cases h6 : op = 6
  · subst h6
    rw [show Hps.okCm ⟨6, a, b, c⟩ = (Hps.inR a 0 3 && Hps.inR b 0 99 && decide (c = 0)) by simp [Hps.okCm]]
    exact mCV_data a b c w _ _ HA HB _ _ (Lib.hid rfl) (d0 c)
  rw [show Hps.okCm ⟨op, a, b, c⟩ = false by simp [Hps.okCm, h1, h2, h3, h4, h5, h6]]
  exact mCV_none op a b c w _ _ HA HB h1 h2 h3 h4 h5 h6
end Go.Proofs.Ytakdjiojahlnmaa

namespace Go.Proofs.Ytakdjiojahlnmaa
open Go.RowKit

/-- the values of instructions in a row -/
def flatM : List Cm → List Value
  | [] => []
  | o :: l => .int .i64 o.op :: .int .i64 o.a :: .int .i64 o.b :: .int .i64 o.c :: flatM l
theorem flatM_length : ∀ l : List Cm, (flatM l).length = l.length * 4
  | [] => rfl
  | _ :: l => by simp [flatM, flatM_length l]; omega
theorem flatM_at : ∀ (l : List Cm) (k : Nat) (o : Cm), l[k]? = some o → (flatM l)[k * 4]? = some (.int .i64 o.op) ∧ (flatM l)[k * 4 + 1]? = some (.int .i64 o.a) ∧ (flatM l)[k * 4 + 2]? = some (.int .i64 o.b) ∧ (flatM l)[k * 4 + 3]? = some (.int .i64 o.c)
  | [], k, o, h => by simp at h
  | x :: l, 0, o, h => by
    simp at h
    subst h
    simp [flatM]
  | x :: l, k + 1, o, h => by
    have := flatM_at l k o (by simpa using h)
    rw [show (k + 1) * 4 = k * 4 + 4 by omega]
    simpa [flatM] using this
theorem flatM_append : ∀ (l m : List Cm), flatM (l ++ m) = flatM l ++ flatM m
  | [], m => rfl
  | x :: l, m => by simp [flatM, flatM_append l m]
theorem flatM_oneCell : ∀ (l : List Cm), ∀ u ∈ flatM l, u.oneCell' = true
  | [], u, h => by simp [flatM] at h
  | x :: l, u, h => by
    simp only [flatM, List.mem_cons] at h
    rcases h with rfl | rfl | rfl | rfl | h
    · rfl
    · rfl
    · rfl
    · rfl
    · exact flatM_oneCell l u h
/-- a slice of instructions that a call can read -/
def MS (w : World) (B : Nat) (A : Option Addr) (n : Nat) (l : List Cm) : Prop :=
  l.length = n ∧ (0 < n → ∃ g o, A = some ⟨g, o, none⟩ ∧ g < B ∧ ∀ (j : Nat) (u : Value), (flatM l)[j]? = some u → w.cell? ⟨g, o + j, none⟩ = some u)
section
variable {w w' : World} {B B' n : Nat} {A : Option Addr} {l : List Cm}
theorem MS.keep (h : MS w B A n l) (hk : ∀ p : Addr, p.block < B → w'.cell? p = w.cell? p) : MS w' B A n l :=
  ⟨h.1, fun hn => by
    obtain ⟨g, o, e, hb, hc⟩ := h.2 hn
    exact ⟨g, o, e, hb, fun k x hx => (hk _ hb).trans (hc k x hx)⟩⟩
theorem MS.more (h : MS w B A n l) (hB : B ≤ B') : MS w B' A n l :=
  ⟨h.1, fun hn => by
    obtain ⟨g, o, e, hb, hc⟩ := h.2 hn
    exact ⟨g, o, e, by omega, hc⟩⟩
theorem MS.below (h : MS w B A n l) (hb : Below B w w') : MS w' B A n l := h.keep fun _ hp => hb.cell hp
theorem MS.up {w w' : World} {n : Nat} {A : Option Addr} {l : List Cm} (h : MS w w.heap.size A n l) (hb : Below w.heap.size w w') : MS w' w'.heap.size A n l := (h.below hb).more hb.size
theorem MS.at_ {k : Nat} (h : MS w B A n l) (hk : k < n) : ∃ g o c, A = some ⟨g, o, none⟩ ∧ g < B ∧ l[k]? = some c ∧ w.cell? ⟨g, o + k * 4, none⟩ = some (.int .i64 c.op) ∧ w.cell? ⟨g, o + k * 4 + 1, none⟩ = some (.int .i64 c.a) ∧ w.cell? ⟨g, o + k * 4 + 2, none⟩ = some (.int .i64 c.b) ∧ w.cell? ⟨g, o + k * 4 + 3, none⟩ = some (.int .i64 c.c) := by
  obtain ⟨g, o, e, hb, hc⟩ := h.2 (by omega)
  have hl : k < l.length := by have := h.1; omega
  have hx := List.getElem?_eq_getElem hl
  obtain ⟨f1, f2, f3, f4⟩ := flatM_at l k _ hx
  exact ⟨g, o, _, e, hb, hx, hc _ _ f1, by rw [Nat.add_assoc]; exact hc _ _ f2, by rw [Nat.add_assoc]; exact hc _ _ f3, by rw [Nat.add_assoc]; exact hc _ _ f4⟩
theorem MS.none_ (w : World) (B : Nat) (A : Option Addr) : MS w B A 0 [] := ⟨rfl, fun h => by omega⟩
theorem flatM_take : ∀ (l : List Cm) (k : Nat), flatM (l.take k) = (flatM l).take (k * 4)
  | [], k => by simp [flatM]
  | x :: l, 0 => by simp [flatM]
  | x :: l, k + 1 => by
    rw [show (k + 1) * 4 = k * 4 + 4 by omega]
    simp [flatM, flatM_take l k]
theorem MS.take {k : Nat} (h : MS w B A n l) (hk : k ≤ n) : MS w B A k (l.take k) := by
  refine ⟨by rw [List.length_take, h.1]; omega, fun h0 => ?_⟩
  obtain ⟨g, o, e, hb, hc⟩ := h.2 (by omega)
  refine ⟨g, o, e, hb, fun j u hj => ?_⟩
  rw [flatM_take, List.getElem?_take] at hj
  split at hj
  · exact hc j u hj
  · cases hj
end

/-- the value v owns the instructions l, in a row from block 'base' on -/
def OwnM (w : World) (base : Nat) (v : Value) (l : List Cm) : Prop := w.ownsRow base 128 4 v l.length (flatM l)
theorem OwnM.form {w : World} {base : Nat} {v : Value} {l : List Cm} (h : OwnM w base v l) : ∃ A c, v = .slice A l.length c ∧ (0 < l.length → ∃ g, A = some ⟨g, 0, none⟩ ∧ base ≤ g ∧ g < w.heap.size) := by
  rcases h.2 with ⟨rfl, h0⟩ | ⟨g, cap, cur, rfl, hb, hh, _⟩
  · exact ⟨none, 0, by rw [h0], fun h => by omega⟩
  · exact ⟨some ⟨g, 0, none⟩, cap, rfl, fun _ => ⟨g, rfl, hb, (Array.getElem?_eq_some_iff.1 hh).1⟩⟩
theorem OwnM.reads {w : World} {base n c : Nat} {A : Option Addr} {l : List Cm} (h : OwnM w base (.slice A n c) l) : MS w w.heap.size A n l := by
  rcases h.2 with ⟨e, h0⟩ | ⟨g, cap, cur, e, hb, hh, _⟩
  · injection e with e1 e2 e3
    subst e2
    have : l = [] := List.eq_nil_of_length_eq_zero h0
    subst this
    exact ⟨rfl, fun h => by omega⟩
  · injection e with e1 e2 e3
    subst e1 e2 e3
    refine ⟨rfl, fun hn => ⟨g, 0, rfl, (Array.getElem?_eq_some_iff.1 hh).1, fun k x hx => ?_⟩⟩
    have hk : k < (flatM l).length := (List.getElem?_eq_some_iff.1 hx).1
    rw [flatM_length] at hk
    rw [Nat.zero_add]
    exact (World.ownsRow.cellAt h k (by omega)).trans hx
theorem OwnM.below {w w' : World} {base B : Nat} {v : Value} {l : List Cm} (h : OwnM w base v l) (hb : Below B w w') (hB : w.heap.size ≤ B) : OwnM w' base v l := by
  refine ⟨h.1, ?_⟩
  rcases h.2 with h0 | ⟨g, cap, cur, e, hb', hh, hr⟩
  · exact .inl h0
  · exact .inr ⟨g, cap, cur, e, hb', (hb.block g (Nat.lt_of_lt_of_le (Array.getElem?_eq_some_iff.1 hh).1 hB)).trans hh, hr⟩
theorem OwnM.base {w : World} {base base' : Nat} {v : Value} {l : List Cm} (h : OwnM w base v l) (hb : base' ≤ base) : OwnM w base' v l := by
  refine ⟨h.1, ?_⟩
  rcases h.2 with h0 | ⟨g, cap, cur, e, hb', hh, hr⟩
  · exact .inl h0
  · exact .inr ⟨g, cap, cur, e, by omega, hh, hr⟩
theorem OwnM.far {w w' : World} {base : Nat} {v : Value} {l : List Cm} {row : Option Nat} (h : OwnM w base v l) (hg : w.grownBy w' row) (hne : v.ownBlock = none ∨ v.ownBlock ≠ row) : OwnM w' base v l := World.ownsRow.kept h hg hne
theorem OwnM.cast {w : World} {base : Nat} {v : Value} {l m : List Cm} (e : l = m) (h : OwnM w base v l) : OwnM w base v m := e ▸ h
theorem OwnM.cap {w : World} {base n c : Nat} {A : Option Addr} {l : List Cm} (h : OwnM w base (.slice A n c) l) : n = l.length ∧ n ≤ c := by
  rcases h.2 with ⟨e, h0⟩ | ⟨g, cap, cur, e, _, _, hc, _⟩
  · injection e with e1 e2 e3
    omega
  · injection e with e1 e2 e3
    omega
theorem own_noneM (w : World) (base : Nat) (hb : base ≤ w.heap.size) : OwnM (w.alloc (.cells #[] 128)) base (.slice (some ⟨w.heap.size, 0, none⟩) 0 0) [] :=
  World.ownsRow_lit (base := base) (e := 128) (size := 4) w #[] 0 hb (by unfold maxLen; omega) rfl
theorem own_oneM (w : World) (o : Cm) (base : Nat) (hb : base ≤ w.heap.size) : OwnM (w.alloc (.cells #[.int .i64 o.op, .int .i64 o.a, .int .i64 o.b, .int .i64 o.c] 128)) base (.slice (some ⟨w.heap.size, 0, none⟩) 1 1) [o] :=
  World.ownsRow_lit (base := base) (e := 128) (size := 4) w #[.int .i64 o.op, .int .i64 o.a, .int .i64 o.b, .int .i64 o.c] 1 hb (by unfold maxLen; omega) rfl

theorem info_command : (Try.prog.info? 128).map (fun i => (i.zero, i.size, i.bytes)) = some (some (.agg #[.int .i64 0, .int .i64 0, .int .i64 0, .int .i64 0]), 4, 32) := by kernel_rfl

theorem run_appendM (w : World) (base : Nat) (v : Value) (xs : List Cm) (hown : OwnM w base v xs) (A : Option Addr) (m c B : Nat) (ys : List Cm) (hr : MS w B A m ys) (hn : xs.length + m ≤ 1099511627776) (hbase : base ≤ w.heap.size) (ty : TypeId) :
    ∃ v' w', (Builtin.append_ #[101, 101] ty #[v, .slice A m c]).run Try.prog w = .ok v' w' ∧ OwnM w' base v' (xs ++ ys) ∧ w.grownBy w' v.ownBlock ∧ (v'.ownBlock = v.ownBlock ∨ v'.ownBlock = some w.heap.size) := by
  obtain ⟨i0, hi0, hz0, hz1, hz2⟩ := info_parts info_command
  have hm := hr.1
  rcases A with _ | ad
  · have h0 : m = 0 := by
      rcases Nat.eq_zero_or_pos m with h0 | h0
      · exact h0
      · obtain ⟨g, o, e, _⟩ := hr.2 h0
        cases e
    subst h0
    have : ys = [] := List.eq_nil_of_length_eq_zero hm
    subst this
    refine ⟨v, w, ?_, by simpa using hown, World.grownBy.refl _ _, .inl rfl⟩
    rcases hown.2 with ⟨rfl, _⟩ | ⟨g, cap, cur, rfl, _, _, hnc, _⟩
    · simp [Builtin.append_, run_underlying Try.underlying101, sizeOf, typeInfo, hi0, Builtin.lenOf, Builtin.firstCells]
    · simp [Builtin.append_, run_underlying Try.underlying101, sizeOf, typeInfo, hi0, Builtin.lenOf, Builtin.firstCells, hnc, storeCells]
  · have hcells : ∀ j u, (flatM ys)[j]? = some u → w.cell? (ad.add j) = some u := by
      intro j u hj
      rcases Nat.eq_zero_or_pos m with h0 | h0
      · subst h0
        have : ys = [] := List.eq_nil_of_length_eq_zero hm
        subst this
        simp [flatM] at hj
      · obtain ⟨g, o, e, _, hc⟩ := hr.2 h0
        replace e := Option.some.inj e
        subst e
        rw [add_lit]
        exact hc j u hj
    obtain ⟨v', w', hrun, h2, h3, _, h5⟩ := run_append_own_at (P := Try.prog) w base 101 ty 128 i0 _ 4 32 Try.underlying101 hi0 hz0 hz1 hz2 rfl (by omega) v xs.length (flatM xs) hown ad m c (flatM ys)
      (by rw [flatM_length, hm]) hcells (flatM_oneCell ys) (by unfold maxLen; omega) (by omega) hbase
    refine ⟨v', w', hrun, ?_, h3, h5⟩
    unfold OwnM
    rw [flatM_append, List.length_append, hm]
    exact h2

theorem wpList_appendM {w : World} {ops : Array Oper} {rest : List Oper} {o : Oper} {a : Act} {Q : Exit → Act → World → Prop} (hgd : o.guard = none) (s x : Operand)
    (ho : o.op = .call { callee := .builtin .append, args := #[s, x], argTypes := #[101, 101] })
    (base : Nat) (v : Value) (xs : List Cm) (hs : a.eval s = v) (hown : OwnM w base v xs) (A : Option Addr) (m c B : Nat) (ys : List Cm) (hx : a.eval x = .slice A m c) (hr : MS w B A m ys)
    (hn : xs.length + m ≤ 1099511627776) (hbase : base ≤ w.heap.size)
    (h : ∀ v' w', OwnM w' base v' (xs ++ ys) → w.grownBy w' v.ownBlock → (v'.ownBlock = v.ownBlock ∨ v'.ownBlock = some w.heap.size) → wpList Try.prog ops Q rest (a.put o.dst v') w') : wpList Try.prog ops Q (o :: rest) a w :=
  wpList_plain hgd fun _ hK => by
    obtain ⟨v', w', hrun, h2, h3, h4⟩ := run_appendM w base v xs hown A m c B ys hr hn hbase o.type
    unfold Oper.wp execOp
    simp only [ho, resolve, invoke, builtin, Sem.run_bind, Sem.run_pure, Result.andThen_ok, List.map_toArray, List.map_cons, List.map_nil, hs, hx, hrun]
    exact hK _ _ (h v' w' h2 h3 h4)

set_option maxHeartbeats 1000000 in
theorem mCommandsValid_any (A : Option Addr) (n c : Nat) (l : List Cm) (w : World) (h : MS w w.heap.size A n l) (hn : n ≤ 1099511627776) :
    Calls Try.prog 98 #[.slice A n c] w fun e w' => e = .returned (.bool (Hps.okCms l)) ∧ Below w.heap.size w w' := by
  have HL := Lib.hid h.1
  go_enter Try.func98, Try.ntmps98
  go_wp2_with fail
  go_loopw [3] (fun i wr => ∃ k : Nat, k ≤ n ∧ i = .int .i64 k ∧ Hid (∀ j o, j < k → l[j]? = some o → Hps.okCm o = true) ∧ Below w.heap.size w wr) (fun i _ => n - (intOf i).toNat)
  case atStart => exact ⟨0, Nat.zero_le _, rfl, Lib.hid (fun j x hj => by omega), Below.refl _ _⟩
  case round =>
    obtain ⟨k, hk, rfl, HP, bb⟩ := hrel
    by_cases hlt : k < n
    · obtain ⟨g, o, x, rfl, hg, hx, c0, c1, c2, c3⟩ := (h.below bb).at_ hlt
      have hlt' : (k : Int) < n := by omega
      have HX := Lib.hid hx
      clear hx
      go_wp2_with fail
      refine (mCommandValid_any x _).mono ?_
      cases he : Hps.okCm x
      · have R := Lib.hid (show Hps.okCms l = false by
          cases hh : Hps.okCms l
          · rfl
          · rw [(Hps.okCms_iff.1 hh).1 x (List.mem_of_getElem? HX.out)] at he
            cases he)
        rintro e w1 ⟨rfl, b1⟩
        have b2 := bb.trans (b1.mono bb.size)
        clear he
        go_wp2_with fail
        go_ret
        exact ⟨by rw [R.out]; rfl, b2⟩
      · have HN : Hid (∀ j y, j < k + 1 → l[j]? = some y → Hps.okCm y = true) := Lib.hid fun j y hj hy => by
          rcases Nat.lt_or_ge j k with h1 | h1
          · exact HP.out j y h1 hy
          · obtain rfl : j = k := by omega
            rw [HX.out] at hy
            injection hy with hy
            rw [← hy]
            exact he
        rintro e w1 ⟨rfl, b1⟩
        have b2 := bb.trans (b1.mono bb.size)
        clear he
        go_wp2_with fail
        go_roundw
        case rel => exact ⟨k + 1, by omega, by go_num, HN, b2⟩
        case measure => simp [intOf]; omega
    · obtain rfl : k = n := by omega
      have R := Lib.hid (show Hps.okCms l = decide (k ≤ 40) by
        have ha : l.all Hps.okCm = true := by
          rw [List.all_eq_true]
          intro x hx
          obtain ⟨j, hj⟩ := List.mem_iff_getElem?.1 hx
          exact HP.out j x (by rw [← HL.out]; exact (List.getElem?_eq_some_iff.1 hj).1) hj
        rw [Hps.okCms, ha, Bool.true_and, HL.out])
      go_wp2_with fail
      go_ret
      exact ⟨ret_bool (by rw [R.out, decide_eq_decide]; omega), bb⟩
end Go.Proofs.Ytakdjiojahlnmaa

namespace Go.Proofs.Ytakdjiojahlnmaa
open Go.RowKit
set_option maxRecDepth 100000

theorem flatM_set : ∀ (l : List Cm) (k : Nat) (o : Cm), k < l.length → ((((flatM l).set (k * 4) (.int .i64 o.op)).set (k * 4 + 1) (.int .i64 o.a)).set (k * 4 + 2) (.int .i64 o.b)).set (k * 4 + 3) (.int .i64 o.c) = flatM (l.set k o)
  | [], k, o, h => by simp at h
  | x :: l, 0, o, _ => by simp [flatM]
  | x :: l, k + 1, o, h => by
    have := flatM_set l k o (by simpa using h)
    rw [show (k + 1) * 4 = k * 4 + 4 by omega]
    simp [flatM, this]
/-- one instruction of an owned row is written -/
theorem OwnM.put {w : World} {base g c j n : Nat} {l : List Cm} (h : OwnM w base (.slice (some ⟨g, 0, none⟩) n c) l) (hn : l.length = n) (hj : j < n) (o : Cm) :
    OwnM ((((w.setCell ⟨g, j * 4, none⟩ (.int .i64 o.op)).setCell ⟨g, j * 4 + 1, none⟩ (.int .i64 o.a)).setCell ⟨g, j * 4 + 2, none⟩ (.int .i64 o.b)).setCell ⟨g, j * 4 + 3, none⟩ (.int .i64 o.c)) base (.slice (some ⟨g, 0, none⟩) n c) (l.set j o) := by
  subst hn
  have q := ((((World.ownsRow.stored h (j * 4) (.int .i64 o.op)).1.stored (j * 4 + 1) (.int .i64 o.a)).1.stored (j * 4 + 2) (.int .i64 o.b)).1.stored (j * 4 + 3) (.int .i64 o.c)).1
  unfold OwnM
  rw [List.length_set, ← flatM_set l j o hj]
  exact q
theorem OwnM.frozen {w : World} {base g c n : Nat} {l : List Cm} (h : OwnM w base (.slice (some ⟨g, 0, none⟩) n c) l) (hn : l.length = n) (i : Nat) : w.frozen? ⟨g, i, none⟩ = false := by
  subst hn
  exact World.ownsRow.frozenAt h i

theorem flatM_zero : ∀ n, flatM (List.replicate n ⟨0, 0, 0, 0⟩) = List.replicate (n * 4) (.int .i64 0)
  | 0 => rfl
  | n + 1 => by
    rw [List.replicate_succ, flatM, flatM_zero n, show (n + 1) * 4 = n * 4 + 1 + 1 + 1 + 1 by omega]
    simp [List.replicate_succ]
theorem madeM_eq (n : Nat) : madeCells (Value.agg #[.int .i64 0, .int .i64 0, .int .i64 0, .int .i64 0]).cells (n * 4) = Array.replicate (n * 4) (.int .i64 0) := by
  apply Array.ext
  · simp [madeCells, Value.cells]
  · intro i h1 h2
    have : i % 4 = 0 ∨ i % 4 = 1 ∨ i % 4 = 2 ∨ i % 4 = 3 := by omega
    rcases this with e | e | e | e <;> simp [madeCells, Value.cells, e]
theorem makeM (W : World) (n : Nat) (hn : n ≤ 1099511627776) : (Instr.makeSlice 101 (.int .i64 n) (.int .i64 n)).run Try.prog W = .ok (.slice (some ⟨W.heap.size, 0, none⟩) n n) (W.alloc (.cells (Array.replicate (n * 4) (.int .i64 0)) 128)) := by
  obtain ⟨i0, hi0, hz0, hz1, hz2⟩ := info_parts info_command
  have := run_make (P := Try.prog) W 101 128 i0 _ Try.underlying101 hi0 hz0 .i64 .i64 n n (by omega) (by omega) (by rw [hz2]; omega) (by omega)
  rw [hz1] at this
  rw [← madeM_eq]
  simpa using this
theorem own_madeM (w : World) (n : Nat) (hn : n ≤ 1099511627776) : OwnM (w.alloc (.cells (Array.replicate (n * 4) (.int .i64 0)) 128)) w.heap.size (.slice (some ⟨w.heap.size, 0, none⟩) n n) (List.replicate n ⟨0, 0, 0, 0⟩) := by
  have := World.ownsRow_lit (base := w.heap.size) (e := 128) (size := 4) w (Array.replicate (n * 4) (.int .i64 0)) n (Nat.le_refl _) (by unfold maxLen; omega) (by simp)
  unfold OwnM
  rw [flatM_zero, List.length_replicate]
  simpa using this

/-- the first k are written, the rest is as it was made -/
def partM (l : List Cm) (n k : Nat) : List Cm := l.take k ++ List.replicate (n - k) ⟨0, 0, 0, 0⟩
theorem partM_len {l : List Cm} {n k : Nat} (hl : l.length = n) (h : k ≤ n) : (partM l n k).length = n := by simp [partM]; omega
theorem partM_zero (l : List Cm) (n : Nat) : partM l n 0 = List.replicate n ⟨0, 0, 0, 0⟩ := by simp [partM]
theorem partM_all {l : List Cm} {n : Nat} (hl : l.length = n) : partM l n n = l := by simp [partM, ← hl]
theorem partM_succ {l : List Cm} {n k : Nat} {o : Cm} (hl : l.length = n) (h : l[k]? = some o) : (partM l n k).set k o = partM l n (k + 1) := by
  have hk := (List.getElem?_eq_some_iff.1 h).1
  unfold partM
  rw [List.set_append_right _ _ (by simp; omega), List.take_add_one, h]
  have e : k - (l.take k).length = 0 := by simp; omega
  rw [e, show n - k = (n - (k + 1)) + 1 by omega, List.replicate_succ, List.set_cons_zero]
  simp

theorem take_eq_succM {xs ys : List Cm} {k : Nat} {x : Cm} (h : xs.take k = ys.take k) (hx : xs[k]? = some x) (hy : ys[k]? = some x) : xs.take (k + 1) = ys.take (k + 1) := by
  rw [List.take_add_one, List.take_add_one, h, hx, hy]

/-- the k-th mark and all of them -/
def markM (k : Int) (i : Nat) : Cm := ⟨k + 4 * i, k + 4 * i + 1, k + 4 * i + 2, k + 4 * i + 3⟩
def marksM (k : Int) (n : Nat) : List Cm := (List.range n).map (markM k)
theorem set_marksM (k : Int) (xs : List Cm) (i : Nat) (h : i < xs.length) : (marksM k i ++ xs.drop i).set i (markM k i) = marksM k (i + 1) ++ xs.drop (i + 1) := by
  have e1 : xs.drop i = xs[i] :: xs.drop (i + 1) := List.drop_eq_getElem_cons h
  rw [e1, List.set_append_right _ _ (by simp [marksM])]
  have e2 : i - (marksM k i).length = 0 := by simp [marksM]
  rw [e2, List.set_cons_zero]
  simp [marksM, List.range_succ]

end Go.Proofs.Ytakdjiojahlnmaa
