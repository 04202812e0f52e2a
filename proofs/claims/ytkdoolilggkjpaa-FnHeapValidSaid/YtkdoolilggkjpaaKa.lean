/- Instructions and sweeping in plain mathematics: validity, what is possible, what they lead to. No program, no conditions. -/
import Derived.Test.YtkdoolilggkjpaaHa
namespace Go.Proofs.Ytkdoolilggkjpaa
/-- an instruction -/
structure Cm where
  op : Int
  a : Int
  b : Int
  c : Int
  deriving DecidableEq, Inhabited
namespace Hps
def inR (n lo hi : Int) : Bool := decide (lo ≤ n) && decide (n ≤ hi)
theorem inR_iff {n lo hi : Int} : inR n lo hi = true ↔ lo ≤ n ∧ n ≤ hi := by simp [inR]
def okCm (o : Cm) : Bool :=
  if o.op = 1 then inR o.a 0 3 && inR o.b 0 3 && inR o.c 0 99
  else if o.op = 2 ∨ o.op = 3 then inR o.a 0 3 && inR o.b 0 3 && inR o.c 0 2
  else if o.op = 4 then inR o.a 0 3 && inR o.b 0 3 && decide (o.c = 0)
  else if o.op = 5 then inR o.a 0 3 && decide (o.b = 0) && decide (o.c = 0)
  else if o.op = 6 then inR o.a 0 3 && inR o.b 0 99 && decide (o.c = 0)
  else false
theorem okCm_op {o : Cm} (h : okCm o = true) : o.op = 1 ∨ o.op = 2 ∨ o.op = 3 ∨ o.op = 4 ∨ o.op = 5 ∨ o.op = 6 := by
  unfold okCm at h
  by_cases h1 : o.op = 1
  · omega
  rw [if_neg h1] at h
  by_cases h2 : o.op = 2 ∨ o.op = 3
  · omega
  rw [if_neg h2] at h
  by_cases h4 : o.op = 4
  · omega
  rw [if_neg h4] at h
  by_cases h5 : o.op = 5
  · omega
  rw [if_neg h5] at h
  by_cases h6 : o.op = 6
  · omega
  rw [if_neg h6] at h
  cases h
theorem okCm_new {o : Cm} (ho : o.op = 1) : okCm o = true ↔ (0 ≤ o.a ∧ o.a ≤ 3) ∧ (0 ≤ o.b ∧ o.b ≤ 3) ∧ (0 ≤ o.c ∧ o.c ≤ 99) := by
  simp [okCm, ho, inR_iff, and_assoc]
theorem okCm_get {o : Cm} (ho : o.op = 2 ∨ o.op = 3) : okCm o = true ↔ (0 ≤ o.a ∧ o.a ≤ 3) ∧ (0 ≤ o.b ∧ o.b ≤ 3) ∧ (0 ≤ o.c ∧ o.c ≤ 2) := by
  have h1 : ¬ o.op = 1 := by omega
  simp [okCm, ho, h1, inR_iff, and_assoc]
theorem okCm_copy {o : Cm} (ho : o.op = 4) : okCm o = true ↔ (0 ≤ o.a ∧ o.a ≤ 3) ∧ (0 ≤ o.b ∧ o.b ≤ 3) ∧ o.c = 0 := by
  simp [okCm, ho, inR_iff, and_assoc]
theorem okCm_drop {o : Cm} (ho : o.op = 5) : okCm o = true ↔ (0 ≤ o.a ∧ o.a ≤ 3) ∧ o.b = 0 ∧ o.c = 0 := by
  simp [okCm, ho, inR_iff, and_assoc]
theorem okCm_data {o : Cm} (ho : o.op = 6) : okCm o = true ↔ (0 ≤ o.a ∧ o.a ≤ 3) ∧ (0 ≤ o.b ∧ o.b ≤ 99) ∧ o.c = 0 := by
  simp [okCm, ho, inR_iff, and_assoc]
theorem okCm_a {o : Cm} (h : okCm o = true) : 0 ≤ o.a ∧ o.a ≤ 3 := by
  rcases okCm_op h with e | e | e | e | e | e
  · exact ((okCm_new e).1 h).1
  · exact ((okCm_get (.inl e)).1 h).1
  · exact ((okCm_get (.inr e)).1 h).1
  · exact ((okCm_copy e).1 h).1
  · exact ((okCm_drop e).1 h).1
  · exact ((okCm_data e).1 h).1
def okCms (l : List Cm) : Bool := l.all okCm && decide (l.length ≤ 40)
theorem okCms_iff {l : List Cm} : okCms l = true ↔ (∀ o ∈ l, okCm o = true) ∧ l.length ≤ 40 := by simp [okCms]

/-- the root with a number -/
def rootAt (h : Hp) (i : Int) : Int := (h.rt[i.toNat]?).getD (-1)
/-- the reference at a place of a cell -/
def refAt (cs : List Cl) (n p : Int) : Int := match cs[n.toNat]? with
  | some c => (c.r[p.toNat]?).getD (-1)
  | none => -1
/-- a cell with a reference at the place -/
def placeH (cs : List Cl) (n p : Int) : Bool := decide (0 ≤ n) && (match cs[n.toNat]? with
  | some c => decide (p < c.r.length)
  | none => false)
theorem placeH_iff {cs : List Cl} {n p : Int} : placeH cs n p = true ↔ ∃ (k : Nat) (c : Cl), n = k ∧ cs[k]? = some c ∧ p < c.r.length := by
  unfold placeH
  constructor
  · intro h
    rw [Bool.and_eq_true] at h
    obtain ⟨h1, h2⟩ := h
    have h1 := of_decide_eq_true h1
    cases e : cs[n.toNat]? with
    | none => rw [e] at h2; cases h2
    | some c => rw [e] at h2; exact ⟨n.toNat, c, by omega, e, of_decide_eq_true h2⟩
  · rintro ⟨k, c, rfl, hc, hp⟩
    simp [hc, hp]
def canH (h : Hp) (o : Cm) : Bool := validH h && okCm o && (if o.op = 2 then placeH h.cs (rootAt h o.b) o.c else if o.op = 3 then placeH h.cs (rootAt h o.a) o.c else if o.op = 6 then decide (0 ≤ rootAt h o.a) else true)
/-- the cell of OpNew -/
def newCl (o : Cm) : Cl := ⟨true, o.c, List.replicate o.b.toNat (-1)⟩
def putCl (cs : List Cl) (p : Nat) (c : Cl) : List Cl := if p = cs.length then cs ++ [c] else cs.set p c
def setRef (cs : List Cl) (k i : Nat) (x : Int) : List Cl := match cs[k]? with
  | some c => cs.set k ⟨c.u, c.d, c.r.set i x⟩
  | none => cs
def setDat (cs : List Cl) (k : Nat) (x : Int) : List Cl := match cs[k]? with
  | some c => cs.set k ⟨c.u, x, c.r⟩
  | none => cs
def doH (h : Hp) (o : Cm) (p : Nat) : Hp :=
  if o.op = 1 then ⟨putCl h.cs p (newCl o), h.rt.set o.a.toNat p⟩
  else if o.op = 2 then ⟨h.cs, h.rt.set o.a.toNat (refAt h.cs (rootAt h o.b) o.c)⟩
  else if o.op = 3 then ⟨setRef h.cs (rootAt h o.a).toNat o.c.toNat (rootAt h o.b), h.rt⟩
  else if o.op = 4 then ⟨h.cs, h.rt.set o.a.toNat (rootAt h o.b)⟩
  else if o.op = 5 then ⟨h.cs, h.rt.set o.a.toNat (-1)⟩
  else if o.op = 6 then ⟨setDat h.cs (rootAt h o.a).toNat o.b, h.rt⟩
  else h
def zeroH : Hp := ⟨[], []⟩
def stepH (h : Hp) (o : Cm) : Hp × Bool :=
  if validH h && okCm o then
    (if !canH h o || (decide (o.op = 1) && decide (h.cs.length = 40)) then (h, false) else (doH h o h.cs.length, true))
  else (zeroH, false)
def runFrom (h : Hp) (l : List Cm) : Hp := l.foldl (fun h o => (stepH h o).1) h
def runH (l : List Cm) : Hp := if okCms l = true then runFrom emptyH l else zeroH

/-- what is used stays used -/
theorem okRefs_mono {cs cs' : List Cl} (h : ∀ k, usedAt cs k = true → usedAt cs' k = true) {rs : List Int} (hr : okRefs cs rs = true) : okRefs cs' rs = true := by
  rw [okRefs_iff] at hr ⊢
  intro n hn
  have := hr n hn
  rw [okRef_iff] at this ⊢
  rcases this with e | ⟨e1, e2⟩
  · exact .inl e
  · exact .inr ⟨e1, h _ e2⟩
theorem okCell_mono {cs cs' : List Cl} (h : ∀ k, usedAt cs k = true → usedAt cs' k = true) {c : Cl} (hc : okCell cs c = true) : okCell cs' c = true := by
  rw [okCell_iff] at hc ⊢
  exact ⟨hc.1, hc.2.1, hc.2.2.1, okRefs_mono h hc.2.2.2⟩
theorem okRef_none (cs : List Cl) : okRef cs (-1) = true := by simp [okRef]
theorem okRefs_set {cs : List Cl} {rs : List Int} {i : Nat} {x : Int} (h : okRefs cs rs = true) (hx : okRef cs x = true) : okRefs cs (rs.set i x) = true := by
  rw [okRefs_iff] at h ⊢
  intro n hn
  rcases List.mem_or_eq_of_mem_set hn with h1 | rfl
  · exact h n h1
  · exact hx
theorem root_ok {h : Hp} (hv : validH h = true) (i : Int) : okRef h.cs (rootAt h i) = true := by
  unfold rootAt
  cases e : h.rt[i.toNat]? with
  | none => exact okRef_none _
  | some n => exact valid_root hv e
theorem ref_ok {h : Hp} (hv : validH h = true) (n p : Int) : okRef h.cs (refAt h.cs n p) = true := by
  unfold refAt
  cases e : h.cs[n.toNat]? with
  | none => exact okRef_none _
  | some c =>
    simp only
    cases e2 : c.r[p.toNat]? with
    | none => exact okRef_none _
    | some x => exact valid_ref hv e e2
theorem set_root_valid {h : Hp} (hv : validH h = true) (i : Nat) {x : Int} (hx : okRef h.cs x = true) : validH ⟨h.cs, h.rt.set i x⟩ = true := by
  obtain ⟨h1, h2, h3, h4⟩ := valid_iff.1 hv
  exact valid_iff.2 ⟨h1, h2, by simp [h3], okRefs_set h4 hx⟩
theorem used_set {cs : List Cl} {k : Nat} {c c' : Cl} (hc : cs[k]? = some c) (hu : c.u = true → c'.u = true) (j : Nat) (h : usedAt cs j = true) : usedAt (cs.set k c') j = true := by
  obtain ⟨x, h1, h2⟩ := usedAt_iff.1 h
  rw [usedAt_iff, List.getElem?_set]
  by_cases e : k = j
  · subst e
    rw [hc] at h1
    injection h1 with h1
    subst h1
    exact ⟨c', by simp [(List.getElem?_eq_some_iff.1 hc).1], hu h2⟩
  · exact ⟨x, by simp [e, h1], h2⟩
/-- a cell is put in the place of one that is used no more than it -/
theorem set_cell_valid {h : Hp} (hv : validH h = true) {k : Nat} {c c' : Cl} (hc : h.cs[k]? = some c) (hu : c.u = true → c'.u = true) (ho : okCell (h.cs.set k c') c' = true) : validH ⟨h.cs.set k c', h.rt⟩ = true := by
  obtain ⟨h1, h2, h3, h4⟩ := valid_iff.1 hv
  have hm := used_set hc hu
  refine valid_iff.2 ⟨fun x hx => ?_, by simp [h2], h3, okRefs_mono hm h4⟩
  rcases List.mem_or_eq_of_mem_set hx with hx | rfl
  · exact okCell_mono hm (h1 x hx)
  · exact ho
theorem used_append {cs : List Cl} (c : Cl) (j : Nat) (h : usedAt cs j = true) : usedAt (cs ++ [c]) j = true := by
  obtain ⟨x, h1, h2⟩ := usedAt_iff.1 h
  exact usedAt_iff.2 ⟨x, by rw [List.getElem?_append_left (List.getElem?_eq_some_iff.1 h1).1]; exact h1, h2⟩
theorem append_cell_valid {h : Hp} (hv : validH h = true) {c : Cl} (hl : h.cs.length < 40) (ho : okCell (h.cs ++ [c]) c = true) : validH ⟨h.cs ++ [c], h.rt⟩ = true := by
  obtain ⟨h1, h2, h3, h4⟩ := valid_iff.1 hv
  have hm := used_append (cs := h.cs) c
  refine valid_iff.2 ⟨fun x hx => ?_, by simp; omega, h3, okRefs_mono hm h4⟩
  rcases List.mem_append.1 hx with hx | hx
  · exact okCell_mono hm (h1 x hx)
  · rw [List.mem_singleton] at hx
    subst hx
    exact ho
theorem new_ok {o : Cm} (h1 : o.op = 1) (h : okCm o = true) (cs : List Cl) : okCell cs (newCl o) = true := by
  obtain ⟨_, hb, hc⟩ := (okCm_new h1).1 h
  refine okCell_iff.2 ⟨.inl rfl, hc, by simp [newCl]; omega, okRefs_iff.2 fun n hn => ?_⟩
  simp only [newCl, List.mem_replicate] at hn
  rw [hn.2]
  exact okRef_none _
theorem put_valid {h : Hp} (hv : validH h = true) {p : Nat} (hp : p ≤ h.cs.length) (h4 : p < 40) {c : Cl} (hu : c.u = true) (ho : ∀ cs, okCell cs c = true) : validH ⟨putCl h.cs p c, h.rt⟩ = true := by
  unfold putCl
  by_cases e : p = h.cs.length
  · rw [if_pos e]
    exact append_cell_valid hv (by omega) (ho _)
  · rw [if_neg e]
    exact set_cell_valid hv (List.getElem?_eq_getElem (show p < h.cs.length by omega)) (fun _ => hu) (ho _)
theorem put_used {cs : List Cl} {p : Nat} (hp : p ≤ cs.length) {c : Cl} (hu : c.u = true) : usedAt (putCl cs p c) p = true := by
  unfold putCl
  by_cases e : p = cs.length
  · rw [if_pos e, usedAt_iff]
    exact ⟨c, by simp [e], hu⟩
  · rw [if_neg e, usedAt_iff]
    exact ⟨c, by rw [List.getElem?_set]; simp; omega, hu⟩
theorem doH_valid {h : Hp} {o : Cm} {p : Nat} (hc : canH h o = true) (hp : o.op = 1 → p ≤ h.cs.length ∧ p < 40) : validH (doH h o p) = true := by
  unfold canH at hc
  rw [Bool.and_eq_true, Bool.and_eq_true] at hc
  obtain ⟨⟨hv, ho⟩, hc⟩ := hc
  unfold doH
  by_cases h1 : o.op = 1
  · rw [if_pos h1]
    obtain ⟨q1, q2⟩ := hp h1
    have v1 := put_valid hv q1 q2 (c := newCl o) rfl (new_ok h1 ho)
    exact set_root_valid v1 _ (okRef_iff.2 (.inr ⟨by omega, by simpa using put_used q1 (c := newCl o) rfl⟩))
  rw [if_neg h1]
  by_cases h2 : o.op = 2
  · rw [if_pos h2]
    exact set_root_valid hv _ (ref_ok hv _ _)
  rw [if_neg h2]
  by_cases h3 : o.op = 3
  · rw [if_pos h3]
    rw [if_neg h2, if_pos h3] at hc
    obtain ⟨k, c, e, hk, _⟩ := placeH_iff.1 hc
    rw [e, Int.toNat_natCast, setRef, hk]
    have ok := okCell_iff.1 (valid_cell hv hk)
    have hm := used_set (c' := ⟨c.u, c.d, c.r.set o.c.toNat (rootAt h o.b)⟩) hk (fun h => h)
    have hcu : c.u = true := by
      have := root_ok hv o.a
      rw [e, okRef_iff] at this
      rcases this with e' | ⟨_, e'⟩
      · omega
      · obtain ⟨x, hx, hxu⟩ := usedAt_iff.1 e'
        rw [Int.toNat_natCast, hk] at hx
        injection hx with hx
        rw [hx]
        exact hxu
    refine set_cell_valid hv hk (fun h => h) (okCell_iff.2 ⟨.inl hcu, ok.2.1, by simpa using ok.2.2.1, okRefs_mono hm (okRefs_set ok.2.2.2 (root_ok hv _))⟩)
  rw [if_neg h3]
  by_cases h4 : o.op = 4
  · rw [if_pos h4]
    exact set_root_valid hv _ (root_ok hv _)
  rw [if_neg h4]
  by_cases h5 : o.op = 5
  · rw [if_pos h5]
    exact set_root_valid hv _ (okRef_none _)
  rw [if_neg h5]
  by_cases h6 : o.op = 6
  · rw [if_pos h6]
    rw [if_neg h2, if_neg h3, if_pos h6] at hc
    have hc := of_decide_eq_true hc
    obtain ⟨k, e, hk, hku⟩ := okRef_nat (root_ok hv o.a) hc
    obtain ⟨c, hkc, hcu⟩ := usedAt_iff.1 hku
    rw [e, Int.toNat_natCast, setDat, hkc]
    have ok := okCell_iff.1 (valid_cell hv hkc)
    have hm := used_set (c' := ⟨c.u, o.b, c.r⟩) hkc (fun h => h)
    exact set_cell_valid hv hkc (fun h => h) (okCell_iff.2 ⟨.inl hcu, ((okCm_data h6).1 ho).2.1, ok.2.2.1, okRefs_mono hm ok.2.2.2⟩)
  rw [if_neg h6]
  exact hv
theorem stepH_valid {h : Hp} {o : Cm} (hv : validH h = true) (ho : okCm o = true) : validH (stepH h o).1 = true := by
  unfold stepH
  rw [hv, ho]
  simp only [Bool.and_self, if_true]
  split
  · exact hv
  · next hn =>
    simp only [Bool.or_eq_true, Bool.not_eq_true', Bool.and_eq_true, decide_eq_true_eq, not_or, Bool.not_eq_false, not_and] at hn
    exact doH_valid hn.1 fun h1 => ⟨Nat.le_refl _, by have := hn.2 h1; have := (valid_iff.1 hv).2.1; omega⟩
theorem runFrom_valid {l : List Cm} : ∀ {h : Hp}, validH h = true → (∀ o ∈ l, okCm o = true) → validH (runFrom h l) = true := by
  induction l with
  | nil => intro h hv _; exact hv
  | cons o l ih => intro h hv hl; exact ih (stepH_valid hv (hl o (by simp))) fun x hx => hl x (by simp [hx])
theorem runH_valid {l : List Cm} (h : okCms l = true) : validH (runH l) = true := by
  rw [runH, if_pos h]
  exact runFrom_valid empty_valid (okCms_iff.1 h).1
theorem runFrom_snoc (h : Hp) (l : List Cm) (o : Cm) : runFrom h (l ++ [o]) = (stepH (runFrom h l) o).1 := by simp [runFrom, List.foldl_append]

/-- cells that are dropped are empty -/
def zeroCl : Cl := ⟨false, 0, []⟩
def dropL : List Cl → List Bool → List Cl
  | c :: cs, b :: bs => (if b = true then zeroCl else c) :: dropL cs bs
  | cs, _ => cs
theorem dropL_nil (cs : List Cl) : dropL cs [] = cs := by cases cs <;> rfl
theorem dropL_len : ∀ (cs : List Cl) (bs : List Bool), (dropL cs bs).length = cs.length
  | [], [] => rfl
  | [], _ :: _ => rfl
  | _ :: _, [] => rfl
  | c :: cs, b :: bs => by simp [dropL, dropL_len cs bs]
theorem dropL_at : ∀ (cs : List Cl) (bs : List Bool) (k : Nat) (c : Cl), cs[k]? = some c → (dropL cs bs)[k]? = some (if bs[k]? = some true then zeroCl else c)
  | [], _, k, c, h => by simp at h
  | x :: cs, [], k, c, h => by simpa [dropL] using h
  | x :: cs, b :: bs, 0, c, h => by
    simp at h
    subst h
    simp [dropL]
  | x :: cs, b :: bs, k + 1, c, h => by
    have := dropL_at cs bs k c (by simpa using h)
    simpa [dropL] using this
theorem dropL_take {cs : List Cl} (bs : List Bool) (k : Nat) {j : Nat} {c : Cl} (h : cs[j]? = some c) : (dropL cs (bs.take k))[j]? = some (if j < k ∧ bs[j]? = some true then zeroCl else c) := by
  rw [dropL_at _ _ _ _ h, List.getElem?_take]
  by_cases e : j < k
  · simp [e]
  · simp [e]
theorem dropL_succ {cs : List Cl} {bs : List Bool} {k : Nat} {b : Bool} (hb : bs[k]? = some b) (hk : k < cs.length) : dropL cs (bs.take (k + 1)) = if b = true then (dropL cs (bs.take k)).set k zeroCl else dropL cs (bs.take k) := by
  apply List.ext_getElem?
  intro j
  rcases Nat.lt_or_ge j cs.length with hj | hj
  · have hc := List.getElem?_eq_getElem hj
    rw [dropL_take _ _ hc]
    by_cases e : j = k
    · subst e
      cases b
      · simp only [Bool.false_eq_true, if_false]
        rw [dropL_take _ _ hc, hb]
        simp
      · simp only [if_true]
        have hjl : j < (dropL cs (bs.take j)).length := by rw [dropL_len]; exact hj
        rw [if_pos ⟨by omega, hb⟩, List.getElem?_set, if_pos rfl, if_pos hjl]
    · have hR : (if b = true then (dropL cs (bs.take k)).set k zeroCl else dropL cs (bs.take k))[j]? = (dropL cs (bs.take k))[j]? := by
        cases b
        · rw [if_neg (by simp)]
        · rw [if_pos rfl, List.getElem?_set, if_neg (by omega)]
      rw [hR, dropL_take _ _ hc]
      have : j < k + 1 ↔ j < k := by omega
      simp only [this]
  · have hR : (if b = true then (dropL cs (bs.take k)).set k zeroCl else dropL cs (bs.take k)).length = cs.length := by
      cases b
      · rw [if_neg (by simp), dropL_len]
      · rw [if_pos rfl, List.length_set, dropL_len]
    rw [List.getElem?_eq_none (by rw [dropL_len]; omega), List.getElem?_eq_none (by omega)]
def dropH (h : Hp) (dead : List Bool) : Hp := ⟨dropL h.cs dead, h.rt⟩
/-- how many of the first k are used and not marked -/
def freedTo (cs : List Cl) (marks : List Bool) : Nat → Nat
  | 0 => 0
  | k + 1 => freedTo cs marks k + (if marks[k]? = some false ∧ usedAt cs k = true then 1 else 0)
theorem freedTo_le (cs : List Cl) (marks : List Bool) : ∀ k, freedTo cs marks k ≤ k
  | 0 => Nat.le_refl _
  | k + 1 => by
    have := freedTo_le cs marks k
    simp only [freedTo]
    split <;> omega
def sweepH (h : Hp) (marks : List Bool) : Hp × Int :=
  if validH h = true ∧ marks.length = h.cs.length then
    (if validH (dropH h (marks.map (!·))) = true then (dropH h (marks.map (!·)), (freedTo h.cs marks marks.length : Int)) else (zeroH, -1))
  else (zeroH, -1)
noncomputable def collectH (h : Hp) : Hp × Int := sweepH h (reachH h)
theorem reachH_len {h : Hp} (hv : validH h = true) : (reachH h).length = h.cs.length := by rw [reachH, if_pos hv, reachL_len]
/-- a used cell that is marked stays -/
theorem drop_used {cs : List Cl} {marks : List Bool} (hl : marks.length = cs.length) {k : Nat} : usedAt (dropL cs (marks.map (!·))) k = true ↔ usedAt cs k = true ∧ marks[k]? = some true := by
  rcases Nat.lt_or_ge k cs.length with hk | hk
  · have hc := List.getElem?_eq_getElem hk
    have hm := List.getElem?_eq_getElem (show k < marks.length by omega)
    rw [usedAt_iff, dropL_at _ _ _ _ hc, List.getElem?_map, hm, usedAt_iff, hc]
    cases marks[k] <;> simp [zeroCl]
  · constructor
    · intro h
      have := usedAt_lt h
      rw [dropL_len] at this
      omega
    · rintro ⟨h, _⟩
      have := usedAt_lt h
      omega
theorem collect_drop_valid {h : Hp} (hv : validH h = true) : validH (dropH h ((reachH h).map (!·))) = true := by
  obtain ⟨h1, h2, h3, h4⟩ := valid_iff.1 hv
  have hl := reachH_len hv
  have hr : ∀ {n : Int}, okRef h.cs n = true → (0 ≤ n → Rch h.cs h.rt n.toNat) → okRef (dropL h.cs ((reachH h).map (!·))) n = true := by
    intro n hn hR
    rw [okRef_iff] at hn ⊢
    rcases hn with e | ⟨e1, e2⟩
    · exact .inl e
    · refine .inr ⟨e1, (drop_used hl).2 ⟨e2, ?_⟩⟩
      rw [reachH, if_pos hv, reachL_true (usedAt_lt e2)]
      exact hR e1
  refine valid_iff.2 ⟨fun c hc => ?_, by simp [dropH, dropL_len, h2], h3, okRefs_iff.2 fun n hn => hr (okRefs_iff.1 h4 n hn) fun h0 => .root (by rw [Int.toNat_of_nonneg h0]; exact hn)⟩
  obtain ⟨k, hk⟩ := List.mem_iff_getElem?.1 hc
  have hkl := (List.getElem?_eq_some_iff.1 hk).1
  simp only [dropH] at hk hkl
  rw [dropL_len] at hkl
  have hkc := List.getElem?_eq_getElem hkl
  rw [dropL_at _ _ _ _ hkc] at hk
  injection hk with hk
  have hm := List.getElem?_eq_getElem (show k < (reachH h).length by omega)
  rw [List.getElem?_map, hm] at hk
  have ok := okCell_iff.1 (valid_cell hv hkc)
  cases e : (reachH h)[k]'(by omega) with
  | false =>
    rw [e] at hk
    simp at hk
    subst hk
    simp [okCell, zeroCl, okRefs]
  | true =>
    rw [e] at hk hm
    simp at hk
    subst hk
    refine okCell_iff.2 ⟨ok.1, ok.2.1, ok.2.2.1, okRefs_iff.2 fun n hn => hr (okRefs_iff.1 ok.2.2.2 n hn) fun h0 => ?_⟩
    rw [reachH, if_pos hv, reachL_true hkl] at hm
    exact .step hm hkc (by rw [Int.toNat_of_nonneg h0]; exact hn)
theorem collectH_eq {h : Hp} (hv : validH h = true) : collectH h = (dropH h ((reachH h).map (!·)), (freedTo h.cs (reachH h) (reachH h).length : Int)) := by
  rw [collectH, sweepH, if_pos ⟨hv, reachH_len hv⟩, if_pos (collect_drop_valid hv)]
theorem collectH_valid {h : Hp} (hv : validH h = true) : validH (collectH h).1 = true := by
  rw [collectH_eq hv]
  exact collect_drop_valid hv
end Hps
end Go.Proofs.Ytkdoolilggkjpaa
