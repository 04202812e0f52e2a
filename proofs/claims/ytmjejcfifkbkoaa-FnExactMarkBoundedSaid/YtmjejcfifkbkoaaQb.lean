/- Chapter 12, marking with a stack of few places in plain mathematics: what MarkBounded answers, and that it marks what can be reached (P3). No program, no conditions. -/
import Derived.Test.YtmjejcfifkbkoaaGv
namespace Go.Proofs.Ytmjejcfifkbkoaa
namespace Hps

/-- a reference m is met: the marks, and the stack (its top is last) -/
def pushP (pl : Nat) (S : List Bool × List Int) (m : Int) : List Bool × List Int :=
  if 0 ≤ m ∧ S.1[m.toNat]? = some false then (S.1.set m.toNat true, if S.2.length < pl then S.2 ++ [m] else S.2) else S
/-- the top cell n is taken away: st is what stays -/
def popP (cs : List Cl) (pl : Nat) (mk : List Bool) (st : List Int) (n : Int) : List Bool × List Int := (refsAt cs n).foldl (pushP pl) (mk, st)
inductive Drain (cs : List Cl) (pl : Nat) : List Bool → List Int → List Bool → Prop
  | done {mk : List Bool} : Drain cs pl mk [] mk
  | pop {mk r : List Bool} {s st : List Int} {n : Int} : s = st ++ [n] → Drain cs pl (popP cs pl mk st n).1 (popP cs pl mk st n).2 r → Drain cs pl mk s r
theorem Drain.next {cs : List Cl} {pl : Nat} {mk r : List Bool} {s st : List Int} {n : Int} (h : Drain cs pl mk s r) (e : s = st ++ [n]) : Drain cs pl (popP cs pl mk st n).1 (popP cs pl mk st n).2 r := by
  cases h with
  | done => simp at e
  | pop e1 h1 =>
    rw [e] at e1
    obtain ⟨rfl, e2⟩ := List.append_inj' e1 rfl
    injection e2 with e2
    subst e2
    exact h1
theorem Drain.fin {cs : List Cl} {pl : Nat} {mk r : List Bool} {s : List Int} (h : Drain cs pl mk s r) (e : s = []) : r = mk := by
  cases h with
  | done => rfl
  | pop e1 _ => rw [e] at e1; simp at e1
theorem Drain.one {cs : List Cl} {pl : Nat} {mk r r' : List Bool} {s : List Int} (h : Drain cs pl mk s r) (h' : Drain cs pl mk s r') : r = r' := by
  induction h with
  | done => exact (h'.fin rfl).symm
  | pop e _ ih => exact ih (h'.next e)
theorem count_mark : ∀ {mk : List Bool} {i : Nat}, mk[i]? = some false → (mk.set i true).count false + 1 = mk.count false
  | [], _, h => by simp at h
  | b :: mk, 0, h => by
    simp at h
    subst h
    simp
  | b :: mk, i + 1, h => by
    have := count_mark (mk := mk) (i := i) (by simpa using h)
    simp only [List.set_cons_succ, List.count_cons]
    omega
theorem push_len (pl : Nat) (S : List Bool × List Int) (m : Int) : (pushP pl S m).1.length = S.1.length := by
  unfold pushP
  split
  · simp
  · rfl
theorem push_mono (pl : Nat) (S : List Bool × List Int) (m : Int) {k : Nat} (h : S.1[k]? = some true) : (pushP pl S m).1[k]? = some true := by
  unfold pushP
  split
  · have hk := (List.getElem?_eq_some_iff.1 h).1
    by_cases e : m.toNat = k
    · simp [e, hk]
    · simp only [List.getElem?_set_ne e]
      exact h
  · exact h
theorem push_weight (pl : Nat) (S : List Bool × List Int) (m : Int) : (pushP pl S m).1.count false + (pushP pl S m).2.length ≤ S.1.count false + S.2.length := by
  unfold pushP
  split
  · rename_i h
    have := count_mark h.2
    split
    · simp; omega
    · simp; omega
  · exact Nat.le_refl _
theorem push_count (pl : Nat) (S : List Bool × List Int) (m : Int) : (pushP pl S m).1.count false ≤ S.1.count false := by
  unfold pushP
  split
  · rename_i h
    have := count_mark h.2
    simp only
    omega
  · exact Nat.le_refl _
theorem fold_keep {P : List Bool × List Int → Prop} {pl : Nat} : ∀ (l : List Int) (S : List Bool × List Int), (∀ (S : List Bool × List Int) (m : Int), m ∈ l → P S → P (pushP pl S m)) → P S → P (l.foldl (pushP pl) S)
  | [], _, _, h => h
  | x :: l, S, hs, h => fold_keep l _ (fun S m hm => hs S m (by simp [hm])) (hs S x (by simp) h)
theorem pop_weight (cs : List Cl) (pl : Nat) (mk : List Bool) (st : List Int) (n : Int) : (popP cs pl mk st n).1.count false + (popP cs pl mk st n).2.length ≤ mk.count false + st.length :=
  fold_keep (P := fun S => S.1.count false + S.2.length ≤ mk.count false + st.length) _ (mk, st) (fun S m _ h => Nat.le_trans (push_weight pl S m) h) (Nat.le_refl _)
theorem snoc_of {s : List Int} (h : s ≠ []) : ∃ st n, s = st ++ [n] := ⟨s.dropLast, s.getLast h, (List.dropLast_concat_getLast h).symm⟩
theorem Drain.ex (cs : List Cl) (pl : Nat) : ∀ (u : Nat) (mk : List Bool) (s : List Int), mk.count false + s.length ≤ u → ∃ r, Drain cs pl mk s r
  | 0, mk, s, h => by
    obtain rfl : s = [] := List.eq_nil_of_length_eq_zero (by omega)
    exact ⟨mk, .done⟩
  | u + 1, mk, s, h => by
    by_cases e : s = []
    · subst e
      exact ⟨mk, .done⟩
    · obtain ⟨st, n, rfl⟩ := snoc_of e
      rw [List.length_append, List.length_singleton] at h
      obtain ⟨r, hr⟩ := Drain.ex cs pl u (popP cs pl mk st n).1 (popP cs pl mk st n).2 (Nat.le_trans (pop_weight cs pl mk st n) (by omega))
      exact ⟨r, .pop rfl hr⟩
theorem Drain.keep {cs : List Cl} {pl : Nat} {P : List Bool → List Int → Prop} (hs : ∀ mk st n, P mk (st ++ [n]) → P (popP cs pl mk st n).1 (popP cs pl mk st n).2) {mk r : List Bool} {s : List Int} (h : Drain cs pl mk s r) : P mk s → P r [] := by
  induction h with
  | done => exact id
  | pop e _ ih =>
    intro h
    rw [e] at h
    exact ih (hs _ _ _ h)
theorem Drain.len {cs : List Cl} {pl : Nat} {mk r : List Bool} {s : List Int} (h : Drain cs pl mk s r) : r.length = mk.length :=
  h.keep (P := fun m _ => m.length = mk.length) (fun m st _ h => fold_keep (P := fun S => S.1.length = mk.length) _ (m, st) (fun S x _ h => (push_len pl S x).trans h) h) rfl
theorem Drain.mono {cs : List Cl} {pl : Nat} {mk r : List Bool} {s : List Int} (h : Drain cs pl mk s r) {k : Nat} (hk : mk[k]? = some true) : r[k]? = some true :=
  h.keep (P := fun m _ => m[k]? = some true) (fun m st _ h => fold_keep (P := fun S => S.1[k]? = some true) _ (m, st) (fun S x _ h => push_mono pl S x h) h) hk
theorem pop_count (cs : List Cl) (pl : Nat) (mk : List Bool) (st : List Int) (n : Int) : (popP cs pl mk st n).1.count false ≤ mk.count false :=
  fold_keep (P := fun S => S.1.count false ≤ mk.count false) _ (mk, st) (fun S m _ h => Nat.le_trans (push_count pl S m) h) (Nat.le_refl _)
theorem Drain.count {cs : List Cl} {pl : Nat} {mk r : List Bool} {s : List Int} (h : Drain cs pl mk s r) : r.count false ≤ mk.count false :=
  h.keep (P := fun m _ => m.count false ≤ mk.count false) (fun m st n h => Nat.le_trans (pop_count cs pl m st n) h) (Nat.le_refl _)
theorem fold_lt {pl : Nat} : ∀ (l : List Int) (S : List Bool × List Int), (∃ m ∈ l, 0 ≤ m ∧ S.1[m.toNat]? = some false) → (l.foldl (pushP pl) S).1.count false < S.1.count false
  | [], _, ⟨m, hm, _⟩ => by simp at hm
  | x :: l, S, ⟨m, hm, h0, h1⟩ => by
    rw [List.foldl_cons]
    have hc := fold_keep (P := fun T => T.1.count false ≤ (pushP pl S x).1.count false) (pl := pl) l (pushP pl S x) (fun T y _ h => Nat.le_trans (push_count pl T y) h) (Nat.le_refl _)
    by_cases hx : 0 ≤ x ∧ S.1[x.toNat]? = some false
    · have e : (pushP pl S x).1 = S.1.set x.toNat true := by rw [pushP, if_pos hx]
      have := count_mark hx.2
      rw [e] at hc
      omega
    · have e : pushP pl S x = S := by rw [pushP, if_neg hx]
      rw [e]
      rcases List.mem_cons.1 hm with e1 | hm
      · subst e1
        exact absurd ⟨h0, h1⟩ hx
      · exact fold_lt l S ⟨m, hm, h0, h1⟩

/-- a cell that is marked refers to one that is not -/
def openAt (cs : List Cl) (mk : List Bool) (k : Nat) : Bool := (mk[k]? == some true) && (refsAt cs k).any fun m => decide (0 ≤ m) && (mk[m.toNat]? == some false)
theorem openAt_iff {cs : List Cl} {mk : List Bool} {k : Nat} : openAt cs mk k = true ↔ mk[k]? = some true ∧ ∃ m ∈ refsAt cs k, 0 ≤ m ∧ mk[m.toNat]? = some false := by
  simp [openAt, List.any_eq_true]
def anyOpen (cs : List Cl) (mk : List Bool) : Bool := (List.range mk.length).any (openAt cs mk)
theorem anyOpen_iff {cs : List Cl} {mk : List Bool} : anyOpen cs mk = true ↔ ∃ k, k < mk.length ∧ openAt cs mk k = true := by
  simp [anyOpen, List.any_eq_true]
open Classical in
noncomputable def drainL (cs : List Cl) (pl : Nat) (mk : List Bool) (s : List Int) : List Bool := if h : ∃ r, Drain cs pl mk s r then Classical.choose h else []
theorem drain_spec (cs : List Cl) (pl : Nat) (mk : List Bool) (s : List Int) : Drain cs pl mk s (drainL cs pl mk s) := by
  have hx : ∃ r, Drain cs pl mk s r := Drain.ex cs pl _ mk s (Nat.le_refl _)
  rw [drainL, dif_pos hx]
  exact Classical.choose_spec hx
theorem drain_eq {cs : List Cl} {pl : Nat} {mk r : List Bool} {s : List Int} (h : Drain cs pl mk s r) : drainL cs pl mk s = r := (drain_spec cs pl mk s).one h
/-- a root is looked at -/
noncomputable def rootP (cs : List Cl) (pl : Nat) (mk : List Bool) (n : Int) : List Bool := if 0 ≤ n ∧ mk[n.toNat]? = some false then drainL cs pl (mk.set n.toNat true) [n] else mk
/-- the first pass over the first k roots -/
noncomputable def firstTo (cs : List Cl) (pl : Nat) (rt : List Int) (k : Nat) : List Bool := (rt.take k).foldl (rootP cs pl) (List.replicate cs.length false)
/-- a further pass over the first k cells -/
noncomputable def passTo (cs : List Cl) (pl : Nat) (mk : List Bool) : Nat → List Bool
  | 0 => mk
  | k + 1 => if openAt cs (passTo cs pl mk k) k = true then drainL cs pl (passTo cs pl mk k) [(k : Int)] else passTo cs pl mk k
theorem pass_open {cs : List Cl} {pl : Nat} {mk : List Bool} {k : Nat} (h : openAt cs (passTo cs pl mk k) k = true) : passTo cs pl mk (k + 1) = drainL cs pl (passTo cs pl mk k) [(k : Int)] := by rw [passTo, if_pos h]
theorem pass_shut {cs : List Cl} {pl : Nat} {mk : List Bool} {k : Nat} (h : openAt cs (passTo cs pl mk k) k = false) : passTo cs pl mk (k + 1) = passTo cs pl mk k := by rw [passTo, if_neg (by rw [h]; decide)]
theorem drain_lt {cs : List Cl} {pl : Nat} {mk : List Bool} {k : Nat} (h : openAt cs mk k = true) : (drainL cs pl mk [(k : Int)]).count false < mk.count false := by
  have D := (drain_spec cs pl mk [(k : Int)]).next (st := []) rfl
  exact Nat.lt_of_le_of_lt D.count (fold_lt _ _ (openAt_iff.1 h).2)
theorem pass_lt (cs : List Cl) (pl : Nat) (mk : List Bool) : ∀ k : Nat, (passTo cs pl mk k = mk ∧ ∀ j, j < k → openAt cs mk j = false) ∨ (passTo cs pl mk k).count false < mk.count false
  | 0 => .inl ⟨rfl, fun j hj => by omega⟩
  | k + 1 => by
    cases ho : openAt cs (passTo cs pl mk k) k
    · rw [pass_shut ho]
      rcases pass_lt cs pl mk k with ⟨e, h⟩ | h
      · refine .inl ⟨e, fun j hj => ?_⟩
        rcases Nat.lt_or_ge j k with h1 | h1
        · exact h j h1
        · obtain rfl : j = k := by omega
          rw [e] at ho
          exact ho
      · exact .inr h
    · rw [pass_open ho]
      have h1 := drain_lt (pl := pl) ho
      rcases pass_lt cs pl mk k with ⟨e, h⟩ | h
      · rw [e] at h1 ⊢
        exact .inr h1
      · exact .inr (by omega)
/-- the further passes: marks and number of passes -/
inductive Passes (cs : List Cl) (pl : Nat) : List Bool → Nat → List Bool → Nat → Prop
  | done {mk : List Bool} {n : Nat} : anyOpen cs mk = false → Passes cs pl mk n mk n
  | more {mk r : List Bool} {n x : Nat} : anyOpen cs mk = true → Passes cs pl (passTo cs pl mk mk.length) (n + 1) r x → Passes cs pl mk n r x
theorem Passes.one {cs : List Cl} {pl : Nat} {mk r r' : List Bool} {n x x' : Nat} (h : Passes cs pl mk n r x) (h' : Passes cs pl mk n r' x') : r = r' ∧ x = x' := by
  induction h with
  | done h1 =>
    cases h' with
    | done _ => exact ⟨rfl, rfl⟩
    | more h2 _ => rw [h1] at h2; cases h2
  | more h1 _ ih =>
    cases h' with
    | done h2 => rw [h1] at h2; cases h2
    | more _ h3 => exact ih h3
theorem Passes.fork {cs : List Cl} {pl : Nat} {mk r : List Bool} {n x : Nat} (h : Passes cs pl mk n r x) : anyOpen cs mk = false ∨ Passes cs pl (passTo cs pl mk mk.length) (n + 1) r x := by
  cases h with
  | done h1 => exact .inl h1
  | more _ h2 => exact .inr h2
theorem pass_any {cs : List Cl} {pl : Nat} {mk : List Bool} (h : anyOpen cs mk = true) : (passTo cs pl mk mk.length).count false < mk.count false := by
  obtain ⟨k, hk, ho⟩ := anyOpen_iff.1 h
  rcases pass_lt cs pl mk mk.length with ⟨_, h1⟩ | h1
  · rw [h1 k hk] at ho
    cases ho
  · exact h1
theorem Passes.ex (cs : List Cl) (pl : Nat) : ∀ (u : Nat) (mk : List Bool) (n : Nat), mk.count false ≤ u → ∃ r x, Passes cs pl mk n r x
  | 0, mk, n, h => by
    cases e : anyOpen cs mk
    · exact ⟨mk, n, .done e⟩
    · have := pass_any (pl := pl) e
      omega
  | u + 1, mk, n, h => by
    cases e : anyOpen cs mk
    · exact ⟨mk, n, .done e⟩
    · have := pass_any (pl := pl) e
      obtain ⟨r, x, hr⟩ := Passes.ex cs pl u (passTo cs pl mk mk.length) (n + 1) (by omega)
      exact ⟨r, x, .more e hr⟩
theorem Passes.shut {cs : List Cl} {pl : Nat} {mk r : List Bool} {n x : Nat} (h : Passes cs pl mk n r x) : anyOpen cs r = false := by
  induction h with
  | done h1 => exact h1
  | more _ _ ih => exact ih
theorem Passes.bound {cs : List Cl} {pl : Nat} {mk r : List Bool} {n x : Nat} (h : Passes cs pl mk n r x) : n ≤ x ∧ x + r.count false ≤ n + mk.count false := by
  induction h with
  | done _ => exact ⟨Nat.le_refl _, Nat.le_refl _⟩
  | more h1 _ ih =>
    have := pass_any (pl := pl) h1
    omega
/-- what a drain keeps, a root, a pass and all passes keep -/
theorem root_keep {cs : List Cl} {pl : Nat} {P : List Bool → Prop} {mk : List Bool} {n : Int} (h : P mk) (hd : 0 ≤ n → mk[n.toNat]? = some false → P (drainL cs pl (mk.set n.toNat true) [n])) : P (rootP cs pl mk n) := by
  unfold rootP
  split
  · rename_i e
    exact hd e.1 e.2
  · exact h
theorem pass_keep {cs : List Cl} {pl : Nat} {P : List Bool → Prop} (hd : ∀ (mk : List Bool) (k : Nat), openAt cs mk k = true → P mk → P (drainL cs pl mk [(k : Int)])) {mk : List Bool} (h : P mk) : ∀ k, P (passTo cs pl mk k)
  | 0 => h
  | k + 1 => by
    have ih := pass_keep hd h k
    cases ho : openAt cs (passTo cs pl mk k) k
    · rw [pass_shut ho]; exact ih
    · rw [pass_open ho]; exact hd _ _ ho ih
theorem pass_len (cs : List Cl) (pl : Nat) (mk : List Bool) (k : Nat) : (passTo cs pl mk k).length = mk.length :=
  pass_keep (P := fun m => m.length = mk.length) (fun m _ _ h => (drain_spec cs pl m _).len.trans h) rfl k
theorem Passes.keep {cs : List Cl} {pl : Nat} {P : List Bool → Prop} (hd : ∀ (mk : List Bool) (k : Nat), openAt cs mk k = true → P mk → P (drainL cs pl mk [(k : Int)])) {mk r : List Bool} {n x : Nat} (h : Passes cs pl mk n r x) : P mk → P r := by
  induction h with
  | done _ => exact id
  | more _ _ ih => exact fun h => ih (pass_keep hd h _)

/-- marks that say no more than S -/
def Sound (S : Nat → Prop) (mk : List Bool) : Prop := ∀ k, mk[k]? = some true → S k
theorem Drain.sound {cs : List Cl} {S : Nat → Prop} (hS : ∀ k, S k → ∀ m ∈ refsAt cs k, 0 ≤ m → S m.toNat) {pl : Nat} {mk r : List Bool} {s : List Int} (h : Drain cs pl mk s r) (hm : Sound S mk) (hs : ∀ n ∈ s, 0 ≤ n ∧ S n.toNat) : Sound S r := by
  refine (h.keep (P := fun m st => Sound S m ∧ ∀ n ∈ st, 0 ≤ n ∧ S n.toNat) (fun m st n ⟨h1, h2⟩ => ?_) ⟨hm, hs⟩).1
  obtain ⟨n0, n1⟩ := h2 n (by simp)
  refine fold_keep (P := fun T => Sound S T.1 ∧ ∀ n ∈ T.2, 0 ≤ n ∧ S n.toNat) _ (m, st) (fun T x hx ⟨t1, t2⟩ => ?_) ⟨h1, fun y hy => h2 y (by simp [hy])⟩
  unfold pushP
  split
  · rename_i e
    have sx : S x.toNat := by
      refine hS n.toNat n1 x ?_ e.1
      rw [Int.toNat_of_nonneg n0]
      exact hx
    refine ⟨fun k hk => ?_, fun y hy => ?_⟩
    · by_cases ek : x.toNat = k
      · rw [← ek]; exact sx
      · simp only [List.getElem?_set_ne ek] at hk
        exact t1 k hk
    · simp only at hy
      split at hy
      · rcases List.mem_append.1 hy with hy | hy
        · exact t2 y hy
        · simp at hy
          subst hy
          exact ⟨e.1, sx⟩
      · exact t2 y hy
  · exact ⟨t1, t2⟩
theorem mark_sound {S : Nat → Prop} {mk : List Bool} (h : Sound S mk) {n : Nat} (hn : S n) : Sound S (mk.set n true) := by
  intro k hk
  by_cases ek : n = k
  · rw [← ek]; exact hn
  · rw [List.getElem?_set_ne ek] at hk
    exact h k hk
theorem first_keep {cs : List Cl} {pl : Nat} {P : List Bool → Prop} {rt : List Int} (h0 : P (List.replicate cs.length false)) (hd : ∀ (mk : List Bool) (n : Int), n ∈ rt → P mk → P (rootP cs pl mk n)) (k : Nat) : P (firstTo cs pl rt k) := by
  unfold firstTo
  have : ∀ (l : List Int) (mk : List Bool), (∀ n ∈ l, n ∈ rt) → P mk → P (l.foldl (rootP cs pl) mk) := by
    intro l
    induction l with
    | nil => intro mk _ h; exact h
    | cons n l ih => intro mk hl h; exact ih _ (fun x hx => hl x (by simp [hx])) (hd mk n (hl n (by simp)) h)
  exact this _ _ (fun n hn => List.mem_of_mem_take hn) h0
theorem first_succ {cs : List Cl} {pl : Nat} {rt : List Int} {k : Nat} {n : Int} (h : rt[k]? = some n) : firstTo cs pl rt (k + 1) = rootP cs pl (firstTo cs pl rt k) n := by
  have : rt.take (k + 1) = rt.take k ++ [n] := by
    rw [List.take_add_one, h]
    rfl
  rw [firstTo, this, List.foldl_append]
  rfl
theorem root_len (cs : List Cl) (pl : Nat) (mk : List Bool) (n : Int) : (rootP cs pl mk n).length = mk.length :=
  root_keep (P := fun m => m.length = mk.length) rfl fun _ _ => by rw [(drain_spec cs pl _ _).len, List.length_set]
theorem root_mono (cs : List Cl) (pl : Nat) {mk : List Bool} (n : Int) {k : Nat} (h : mk[k]? = some true) : (rootP cs pl mk n)[k]? = some true :=
  root_keep (P := fun m => m[k]? = some true) h fun _ h1 => (drain_spec cs pl _ _).mono (by
    by_cases e : n.toNat = k
    · rw [e, h] at h1; cases h1
    · rw [List.getElem?_set_ne e]; exact h)
theorem root_marks (cs : List Cl) (pl : Nat) {mk : List Bool} {n : Nat} (h : n < mk.length) : (rootP cs pl mk n)[n]? = some true := by
  unfold rootP
  split
  · refine (drain_spec cs pl _ _).mono ?_
    simp [h]
  · rename_i e
    cases em : mk[n] with
    | true => rw [List.getElem?_eq_getElem h, em]
    | false =>
      exact absurd ⟨by omega, by rw [Int.toNat_natCast, List.getElem?_eq_getElem h, em]⟩ e
theorem first_len (cs : List Cl) (pl : Nat) (rt : List Int) (k : Nat) : (firstTo cs pl rt k).length = cs.length :=
  first_keep (P := fun m => m.length = cs.length) (by simp) (fun mk n _ h => (root_len cs pl mk n).trans h) k
theorem first_roots (cs : List Cl) (pl : Nat) (rt : List Int) : ∀ (k : Nat) (j : Nat) (n : Nat), j < k → rt[j]? = some (n : Int) → n < cs.length → (firstTo cs pl rt k)[n]? = some true
  | 0, _, _, h, _, _ => by omega
  | k + 1, j, n, hj, hn, hl => by
    cases e : rt[k]? with
    | none =>
      have h1 := (List.getElem?_eq_some_iff.1 hn).1
      have h2 : rt.length ≤ k := by simpa using e
      have : firstTo cs pl rt (k + 1) = firstTo cs pl rt k := by rw [firstTo, firstTo, List.take_of_length_le (by omega), List.take_of_length_le h2]
      rw [this]
      exact first_roots cs pl rt k j n (by omega) hn hl
    | some x =>
      rw [first_succ e]
      rcases Nat.lt_or_ge j k with h1 | h1
      · exact root_mono cs pl x (first_roots cs pl rt k j n h1 hn hl)
      · obtain rfl : j = k := by omega
        rw [hn] at e
        obtain rfl := Option.some.inj e
        exact root_marks cs pl (by rw [first_len]; exact hl)
end Hps
end Go.Proofs.Ytmjejcfifkbkoaa
