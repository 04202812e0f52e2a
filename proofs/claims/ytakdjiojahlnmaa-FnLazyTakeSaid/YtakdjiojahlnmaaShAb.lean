/- What the claim LLazyTake stands on, part 2 of 6: texts of one seat put together, with what the claim needs of them. No conditions. -/
import Derived.Test.YtakdjiojahlnmaaShAa
namespace Go.Proofs.Ytakdjiojahlnmaa
namespace Hps
/-- the numbers ns are met, in order: those that are none, or are there, are passed over -/
def meet1 (l : List Int) (n : Int) : List Int := if 0 ≤ n ∧ n ∉ l then l ++ [n] else l
def meet (l : List Int) (ns : List Int) : List Int := ns.foldl meet1 l
theorem meet_nil (l : List Int) : meet l [] = l := rfl
theorem meet_cons (l : List Int) (n : Int) (ns : List Int) : meet l (n :: ns) = meet (meet1 l n) ns := rfl
theorem meet_snoc (l : List Int) (ns : List Int) (n : Int) : meet l (ns ++ [n]) = meet1 (meet l ns) n := by simp [meet, List.foldl_append]
theorem meet1_prefix (l : List Int) (n : Int) : l <+: meet1 l n := by
  unfold meet1
  split
  · exact List.prefix_append _ _
  · exact List.prefix_refl _
theorem meet_prefix (ns : List Int) : ∀ l : List Int, l <+: meet l ns := by
  induction ns with
  | nil => intro l; exact List.prefix_refl _
  | cons n ns ih => intro l; rw [meet_cons]; exact (meet1_prefix l n).trans (ih _)
theorem mem_meet1 {l : List Int} {n m : Int} : m ∈ meet1 l n ↔ m ∈ l ∨ (0 ≤ n ∧ m = n) := by
  unfold meet1
  split
  · next h => simp; constructor
              · rintro (h1 | rfl)
                · exact .inl h1
                · exact .inr ⟨h.1, rfl⟩
              · rintro (h1 | ⟨_, h1⟩)
                · exact .inl h1
                · exact .inr h1
  · next h =>
    constructor
    · exact .inl
    · rintro (h1 | ⟨h0, rfl⟩)
      · exact h1
      · by_cases hm : m ∈ l
        · exact hm
        · exact absurd ⟨h0, hm⟩ h
theorem mem_meet {m : Int} (ns : List Int) : ∀ {l : List Int}, m ∈ meet l ns ↔ m ∈ l ∨ (0 ≤ m ∧ m ∈ ns) := by
  induction ns with
  | nil => intro l; simp [meet]
  | cons n ns ih =>
    intro l
    rw [meet_cons, ih, mem_meet1]
    constructor
    · rintro ((h | ⟨h0, rfl⟩) | ⟨h0, h⟩)
      · exact .inl h
      · exact .inr ⟨h0, by simp⟩
      · exact .inr ⟨h0, by simp [h]⟩
    · rintro (h | ⟨h0, h⟩)
      · exact .inl (.inl h)
      · rcases List.mem_cons.1 h with rfl | h
        · exact .inl (.inr ⟨h0, rfl⟩)
        · exact .inr ⟨h0, h⟩
theorem meet1_nodup {l : List Int} (h : l.Nodup) (n : Int) : (meet1 l n).Nodup := by
  unfold meet1
  split
  · next hn =>
    rw [List.nodup_append]
    refine ⟨h, by simp, fun a ha b hb => ?_⟩
    rw [List.mem_singleton] at hb
    rintro rfl
    exact hn.2 (hb ▸ ha)
  · exact h
theorem meet_nodup (ns : List Int) : ∀ {l : List Int}, l.Nodup → (meet l ns).Nodup := by
  induction ns with
  | nil => intro l h; exact h
  | cons n ns ih => intro l h; exact ih (meet1_nodup h n)
/-- the references of the cell with a number -/
def refsAt (cs : List Cl) (n : Int) : List Int := match cs[n.toNat]? with
  | some c => c.r
  | none => []
/-- the list from its place k on is worked off -/
def bfs (cs : List Cl) : Nat → Nat → List Int → List Int
  | 0, _, l => l
  | f + 1, k, l => match l[k]? with
    | none => l
    | some n => bfs cs f (k + 1) (meet l (refsAt cs n))
def orderL (cs : List Cl) (rt : List Int) : List Int := bfs cs (cs.length + 1) 0 (meet [] rt)
def orderH (h : Hp) : List Int := if validH h = true then orderL h.cs h.rt else []
/-- all that is on the list are numbers of cells -/
def InB (cs : List Cl) (l : List Int) : Prop := ∀ n ∈ l, ∃ k : Nat, n = k ∧ k < cs.length
theorem few_numbers : ∀ (n : Nat) (l : List Int), l.Nodup → (∀ x ∈ l, ∃ k : Nat, x = k ∧ k < n) → l.length ≤ n
  | 0, l, _, h => by
    cases l with
    | nil => exact Nat.le_refl _
    | cons x l =>
      obtain ⟨k, _, hk⟩ := h x (by simp)
      omega
  | n + 1, l, hd, h => by
    have h1 := few_numbers n (l.erase (n : Int)) (hd.erase _) (fun x hx => by
      rw [hd.mem_erase_iff] at hx
      obtain ⟨k, e, hk⟩ := h x hx.2
      exact ⟨k, e, by have := hx.1; omega⟩)
    by_cases hm : (n : Int) ∈ l
    · rw [List.length_erase_of_mem hm] at h1
      omega
    · rw [List.erase_of_not_mem hm] at h1
      omega
theorem InB.le {cs : List Cl} {l : List Int} (h : InB cs l) (hd : l.Nodup) : l.length ≤ cs.length := few_numbers _ l hd h
theorem prefix_back {l l' : List Int} (h : l <+: l') {i : Nat} {x : Int} (hi : i < l.length) (hx : l'[i]? = some x) : l[i]? = some x := by
  have := List.prefix_iff_getElem?.1 h i hi
  rw [this] at hx
  rw [List.getElem?_eq_getElem hi]
  exact hx
theorem InB.meet {cs : List Cl} {l ns : List Int} (h : InB cs l) (hn : okRefs cs ns = true) : InB cs (meet l ns) := by
  intro m hm
  rcases (mem_meet ns).1 hm with h1 | ⟨h0, h1⟩
  · exact h m h1
  · obtain ⟨k, e, hk, _⟩ := okRef_nat (okRefs_iff.1 hn m h1) h0
    exact ⟨k, e, hk⟩
theorem refsAt_ok {cs : List Cl} (hc : ∀ c ∈ cs, okRefs cs c.r = true) (n : Int) : okRefs cs (refsAt cs n) = true := by
  unfold refsAt
  cases e : cs[n.toNat]? with
  | none => simp [okRefs]
  | some c => exact hc c (List.mem_of_getElem? e)
/-- what holds while the list is worked off -/
structure Bf (cs : List Cl) (rt : List Int) (k : Nat) (l : List Int) : Prop where
  nodup : l.Nodup
  inb : InB cs l
  rch : ∀ n ∈ l, Rch cs rt n.toNat
  roots : ∀ n ∈ rt, 0 ≤ n → n ∈ l
  done : ∀ (i : Nat) (n : Int), i < k → l[i]? = some n → ∀ m ∈ refsAt cs n, 0 ≤ m → m ∈ l
theorem Bf.start {cs : List Cl} {rt : List Int} (hr : okRefs cs rt = true) : Bf cs rt 0 (meet [] rt) := by
  refine ⟨meet_nodup rt (by simp), InB.meet (fun n hn => by simp at hn) hr, fun n hn => ?_, fun n hn h0 => (mem_meet rt).2 (.inr ⟨h0, hn⟩), fun i n hi => by omega⟩
  rcases (mem_meet rt).1 hn with h1 | ⟨h0, h1⟩
  · simp at h1
  · exact .root (by rwa [Int.toNat_of_nonneg h0])
theorem Bf.next {cs : List Cl} {rt : List Int} {k : Nat} {l : List Int} (h : Bf cs rt k l) (hc : ∀ c ∈ cs, okRefs cs c.r = true) {n : Int} (hn : l[k]? = some n) : Bf cs rt (k + 1) (meet l (refsAt cs n)) := by
  have hp := meet_prefix (refsAt cs n) l
  have hlk := (List.getElem?_eq_some_iff.1 hn).1
  refine ⟨meet_nodup _ h.nodup, h.inb.meet (refsAt_ok hc n), fun m hm => ?_, fun m hm h0 => hp.subset (h.roots m hm h0), fun i m hi hm x hx h0 => ?_⟩
  · rcases (mem_meet _).1 hm with h1 | ⟨h0, h1⟩
    · exact h.rch m h1
    · unfold refsAt at h1
      cases e : cs[n.toNat]? with
      | none => rw [e] at h1; simp at h1
      | some c =>
        rw [e] at h1
        exact .step (h.rch n (List.mem_of_getElem? hn)) e (by rwa [Int.toNat_of_nonneg h0])
  · rcases Nat.lt_or_ge i k with h1 | h1
    · have hm' : l[i]? = some m := prefix_back hp (by omega) hm
      exact hp.subset (h.done i m h1 hm' x hx h0)
    · have hik : i = k := by omega
      subst hik
      have hm' : l[i]? = some m := prefix_back hp hlk hm
      rw [hn] at hm'
      obtain rfl := Option.some.inj hm'
      exact (mem_meet _).2 (.inr ⟨h0, hx⟩)
theorem bfs_fin {cs : List Cl} {rt : List Int} (hc : ∀ c ∈ cs, okRefs cs c.r = true) : ∀ (f k : Nat) (l : List Int), Bf cs rt k l → k ≤ l.length → cs.length + 1 ≤ f + k → ∃ k', Bf cs rt k' (bfs cs f k l) ∧ k' = (bfs cs f k l).length
  | 0, k, l, h, hk, hf => by
    have := h.inb.le h.nodup
    omega
  | f + 1, k, l, h, hk, hf => by
    unfold bfs
    cases e : l[k]? with
    | none =>
      have : l.length ≤ k := by simpa using e
      exact ⟨k, h, by simp; omega⟩
    | some n =>
      have hlk := (List.getElem?_eq_some_iff.1 e).1
      have hp := (meet_prefix (refsAt cs n) l).length_le
      exact bfs_fin hc f (k + 1) _ (h.next hc e) (by omega) (by omega)
theorem orderL_fin {cs : List Cl} {rt : List Int} (hc : ∀ c ∈ cs, okRefs cs c.r = true) (hr : okRefs cs rt = true) : Bf cs rt (orderL cs rt).length (orderL cs rt) := by
  obtain ⟨k, h, e⟩ := bfs_fin hc (cs.length + 1) 0 (meet [] rt) (.start hr) (Nat.zero_le _) (by omega)
  rw [← orderL] at h e
  rw [← e]
  exact h
theorem order_valid {h : Hp} (hv : validH h = true) : orderH h = orderL h.cs h.rt := by rw [orderH, if_pos hv]
theorem orderH_fin {h : Hp} (hv : validH h = true) : Bf h.cs h.rt (orderH h).length (orderH h) := by
  rw [order_valid hv]
  exact orderL_fin (valid_refs hv) (valid_iff.1 hv).2.2.2
theorem order_nodup (h : Hp) : (orderH h).Nodup := by
  cases hv : validH h
  · rw [orderH, if_neg (by rw [hv]; decide)]
    simp
  · exact (orderH_fin hv).nodup
theorem mem_order {h : Hp} (hv : validH h = true) {k : Nat} : (k : Int) ∈ orderH h ↔ Rch h.cs h.rt k := by
  have B := orderH_fin hv
  constructor
  · intro hk
    exact B.rch _ hk
  · intro hr
    refine Rch.inside (S := fun k : Nat => (k : Int) ∈ orderH h) (fun k hk => B.roots _ hk (by omega)) (fun k m c hk hc hm => ?_) hr
    obtain ⟨i, hi⟩ := List.mem_iff_getElem?.1 hk
    exact B.done i _ (List.getElem?_eq_some_iff.1 hi).1 hi m (by unfold refsAt; rw [Int.toNat_natCast, hc]; exact hm) (by omega)
theorem order_nat {h : Hp} {n : Int} (hn : n ∈ orderH h) : ∃ k : Nat, n = k ∧ k < h.cs.length := by
  cases hv : validH h
  · rw [orderH, if_neg (by rw [hv]; decide)] at hn
    simp at hn
  · exact (orderH_fin hv).inb n hn
theorem order_len (h : Hp) : (orderH h).length ≤ h.cs.length := InB.le (fun _ hn => order_nat hn) (order_nodup h)
/-- the place of a number on a list, or -1 -/
def nameL (l : List Int) (n : Int) : Int := if n ∈ l then (l.idxOf n : Int) else -1
theorem nameL_at {l : List Int} {n : Int} {i : Nat} (hd : l.Nodup) (h : l[i]? = some n) : nameL l n = i := by
  obtain ⟨h1, h2⟩ := List.getElem?_eq_some_iff.1 h
  rw [nameL, if_pos (List.mem_of_getElem? h), ← h2, hd.idxOf_getElem i h1]
theorem nameL_none {l : List Int} {n : Int} (h : n ∉ l) : nameL l n = -1 := by rw [nameL, if_neg h]
theorem nameL_neg {l : List Int} {n : Int} (h : nameL l n = -1) : n ∉ l := by
  intro hm
  rw [nameL, if_pos hm] at h
  omega
theorem nameL_get {l : List Int} {n : Int} {i : Nat} (h : nameL l n = i) : l[i]? = some n := by
  by_cases hm : n ∈ l
  · rw [nameL, if_pos hm] at h
    have e : l.idxOf n = i := by omega
    have hlt := List.idxOf_lt_length_of_mem hm
    rw [List.getElem?_eq_some_iff]
    refine ⟨by omega, ?_⟩
    subst e
    exact List.getElem_idxOf hlt
  · rw [nameL_none hm] at h
    omega
/-- what is seen of one cell -/
def cellV (l : List Int) (c : Cl) : List Int := c.d :: (c.r.length : Int) :: c.r.map (nameL l)
def cellAt (cs : List Cl) (n : Int) : Cl := (cs[n.toNat]?).getD ⟨false, 0, []⟩
def viewH (h : Hp) : List Int := if validH h = true then h.rt.map (nameL (orderH h)) ++ ((orderH h).map fun n => cellV (orderH h) (cellAt h.cs n)).flatten else []
theorem view_valid {h : Hp} (hv : validH h = true) : viewH h = h.rt.map (nameL (orderH h)) ++ ((orderH h).map fun n => cellV (orderH h) (cellAt h.cs n)).flatten := by rw [viewH, if_pos hv]
theorem view_not {h : Hp} (hv : validH h = false) : viewH h = [] := by rw [viewH, if_neg (by rw [hv]; decide)]
theorem view_len {h : Hp} (hv : validH h = true) : 4 ≤ (viewH h).length := by
  rw [view_valid hv, List.length_append, List.length_map, (valid_iff.1 hv).2.2.1]
  omega
theorem view_nil {h : Hp} : viewH h = [] ↔ validH h = false := by
  constructor
  · intro e
    cases hv : validH h
    · rfl
    · have := view_len hv
      rw [e] at this
      simp at this
  · exact view_not
def sameV (a b : Hp) : Bool := validH a && decide (viewH a = viewH b)
theorem sameV_iff {a b : Hp} : sameV a b = true ↔ validH a = true ∧ validH b = true ∧ viewH a = viewH b := by
  unfold sameV
  rw [Bool.and_eq_true, decide_eq_true_eq]
  constructor
  · rintro ⟨h1, h2⟩
    refine ⟨h1, ?_, h2⟩
    cases hv : validH b
    · rw [view_not hv, view_nil] at h2
      rw [h1] at h2
      cases h2
    · rfl
  · rintro ⟨h1, _, h2⟩
    exact ⟨h1, h2⟩
theorem sameV_comm (a b : Hp) : sameV a b = sameV b a := by
  rw [Bool.eq_iff_iff, sameV_iff, sameV_iff]
  constructor <;> (rintro ⟨h1, h2, h3⟩; exact ⟨h2, h1, h3.symm⟩)
end Hps
end Go.Proofs.Ytakdjiojahlnmaa
namespace Go.Proofs.Ytakdjiojahlnmaa
namespace Hps
/-- references that are related: none of both, or related cells -/
def RR (R : Nat → Nat → Prop) (n m : Int) : Prop := (n = -1 ∧ m = -1) ∨ ∃ k x : Nat, n = k ∧ m = x ∧ R k x
theorem RR.mono {R R' : Nat → Nat → Prop} (h : ∀ k x, R k x → R' k x) {n m : Int} (hr : RR R n m) : RR R' n m := by
  rcases hr with h1 | ⟨k, x, e1, e2, h1⟩
  · exact .inl h1
  · exact .inr ⟨k, x, e1, e2, h _ _ h1⟩
/-- lists of related references -/
def LR (R : Nat → Nat → Prop) (la lb : List Int) : Prop := la.length = lb.length ∧ ∀ (i : Nat) (n m : Int), la[i]? = some n → lb[i]? = some m → RR R n m
theorem LR.nil (R : Nat → Nat → Prop) : LR R [] [] := ⟨rfl, fun i n m h => by simp at h⟩
theorem LR.mono {R R' : Nat → Nat → Prop} (h : ∀ k x, R k x → R' k x) {la lb : List Int} (hr : LR R la lb) : LR R' la lb := ⟨hr.1, fun i n m h1 h2 => (hr.2 i n m h1 h2).mono h⟩
theorem LR.set {R : Nat → Nat → Prop} {la lb : List Int} (h : LR R la lb) (i : Nat) {n m : Int} (hr : RR R n m) : LR R (la.set i n) (lb.set i m) := by
  refine ⟨by simp [h.1], fun j x y h1 h2 => ?_⟩
  rw [List.getElem?_set] at h1 h2
  by_cases e : i = j
  · subst e
    rw [if_pos rfl] at h1 h2
    split at h1
    · split at h2
      · rw [← Option.some.inj h1, ← Option.some.inj h2]
        exact hr
      · cases h2
    · cases h1
  · rw [if_neg e] at h1 h2
    exact h.2 j x y h1 h2
theorem LR.cons {R : Nat → Nat → Prop} {n m : Int} {la lb : List Int} (h : LR R (n :: la) (m :: lb)) : RR R n m ∧ LR R la lb := by
  refine ⟨h.2 0 n m rfl rfl, by simpa using h.1, fun i x y h1 h2 => h.2 (i + 1) x y (by simpa using h1) (by simpa using h2)⟩
theorem LR.get {R : Nat → Nat → Prop} {la lb : List Int} (h : LR R la lb) (i : Nat) : RR R ((la[i]?).getD (-1)) ((lb[i]?).getD (-1)) := by
  rcases Nat.lt_or_ge i la.length with h1 | h1
  · have a1 := List.getElem?_eq_getElem h1
    have a2 := List.getElem?_eq_getElem (show i < lb.length by rw [← h.1]; exact h1)
    rw [a1, a2]
    exact h.2 i _ _ a1 a2
  · rw [List.getElem?_eq_none h1, List.getElem?_eq_none (by rw [← h.1]; exact h1)]
    exact .inl ⟨rfl, rfl⟩
/-- cells of two heaps that are related by turns: what a program sees of them is the same -/
structure Sim (a b : Hp) (R : Nat → Nat → Prop) : Prop where
  one : ∀ k x y : Nat, R k x → R k y → x = y
  back : ∀ k m x : Nat, R k x → R m x → k = m
  roots : LR R a.rt b.rt
  cell : ∀ {k x : Nat}, R k x → ∃ c c', a.cs[k]? = some c ∧ b.cs[x]? = some c' ∧ c.d = c'.d ∧ LR R c.r c'.r
section
variable {a b : Hp} {R : Nat → Nat → Prop}
/-- lists of related cells -/
def CR (R : Nat → Nat → Prop) (la lb : List Int) : Prop := la.length = lb.length ∧ ∀ (i : Nat) (n m : Int), la[i]? = some n → lb[i]? = some m → ∃ k x : Nat, n = k ∧ m = x ∧ R k x
theorem CR.mem (one : ∀ k x y : Nat, R k x → R k y → x = y) {la lb : List Int} (h : CR R la lb) {k x : Nat} (hr : R k x) (hm : (k : Int) ∈ la) : (x : Int) ∈ lb := by
  obtain ⟨i, hi⟩ := List.mem_iff_getElem?.1 hm
  have hl := (List.getElem?_eq_some_iff.1 hi).1
  have hb := List.getElem?_eq_getElem (show i < lb.length by rw [← h.1]; exact hl)
  obtain ⟨k', x', e1, e2, hr'⟩ := h.2 i _ _ hi hb
  have e1 : k = k' := by omega
  subst e1
  have := one _ _ _ hr hr'
  subst this
  rw [← e2]
  exact List.getElem_mem _
theorem CR.mem' (back : ∀ k m x : Nat, R k x → R m x → k = m) {la lb : List Int} (h : CR R la lb) {k x : Nat} (hr : R k x) (hm : (x : Int) ∈ lb) : (k : Int) ∈ la := by
  obtain ⟨i, hi⟩ := List.mem_iff_getElem?.1 hm
  have hl := (List.getElem?_eq_some_iff.1 hi).1
  have hb := List.getElem?_eq_getElem (show i < la.length by rw [h.1]; exact hl)
  obtain ⟨k', x', e1, e2, hr'⟩ := h.2 i _ _ hb hi
  have e2 : x = x' := by omega
  subst e2
  have := back _ _ _ hr hr'
  subst this
  rw [← e1]
  exact List.getElem_mem _
theorem CR.snoc {la lb : List Int} (h : CR R la lb) {k x : Nat} (hr : R k x) : CR R (la ++ [(k : Int)]) (lb ++ [(x : Int)]) := by
  refine ⟨by simp [h.1], fun i n m h1 h2 => ?_⟩
  rcases Nat.lt_or_ge i la.length with hi | hi
  · rw [List.getElem?_append_left hi] at h1
    rw [List.getElem?_append_left (by rw [← h.1]; exact hi)] at h2
    exact h.2 i n m h1 h2
  · rw [List.getElem?_append_right hi] at h1
    rw [List.getElem?_append_right (by rw [← h.1]; exact hi), ← h.1] at h2
    have hz : i - la.length = 0 := by
      have := (List.getElem?_eq_some_iff.1 h1).1
      simp at this
      omega
    rw [hz] at h1 h2
    exact ⟨k, x, by simpa using h1.symm, by simpa using h2.symm, hr⟩
theorem Sim.meet1 (S : Sim a b R) {la lb : List Int} (h : CR R la lb) {n m : Int} (hr : RR R n m) : CR R (meet1 la n) (meet1 lb m) := by
  unfold Hps.meet1
  rcases hr with ⟨rfl, rfl⟩ | ⟨k, x, rfl, rfl, hr⟩
  · rw [if_neg (by omega), if_neg (by omega)]
    exact h
  · by_cases hm : (k : Int) ∈ la
    · have hm' := h.mem S.one hr hm
      rw [if_neg (fun q => q.2 hm), if_neg (fun q => q.2 hm')]
      exact h
    · have hm' : (x : Int) ∉ lb := fun q => hm (h.mem' S.back hr q)
      rw [if_pos ⟨by omega, hm⟩, if_pos ⟨by omega, hm'⟩]
      exact h.snoc hr
theorem Sim.meet (S : Sim a b R) : ∀ (ns ms : List Int) {la lb : List Int}, CR R la lb → LR R ns ms → CR R (meet la ns) (meet lb ms)
  | [], [], la, lb, h, _ => h
  | [], _ :: _, _, _, _, h => by have := h.1; simp at this
  | _ :: _, [], _, _, _, h => by have := h.1; simp at this
  | n :: ns, m :: ms, la, lb, h, hl => by
    obtain ⟨h1, h2⟩ := hl.cons
    rw [meet_cons, meet_cons]
    exact S.meet ns ms (S.meet1 h h1) h2
theorem Sim.bfs (S : Sim a b R) : ∀ (f k : Nat) {la lb : List Int}, CR R la lb → CR R (bfs a.cs f k la) (bfs b.cs f k lb)
  | 0, _, _, _, h => h
  | f + 1, k, la, lb, h => by
    unfold Hps.bfs
    rcases Nat.lt_or_ge k la.length with h1 | h1
    · have a1 := List.getElem?_eq_getElem h1
      have a2 := List.getElem?_eq_getElem (show k < lb.length by rw [← h.1]; exact h1)
      obtain ⟨q, x, e1, e2, hr⟩ := h.2 k _ _ a1 a2
      rw [a1, a2]
      simp only
      obtain ⟨c, c', hc, hc', _, hl⟩ := S.cell hr
      have r1 : refsAt a.cs la[k] = c.r := by rw [e1, refsAt, Int.toNat_natCast, hc]
      have r2 : refsAt b.cs (lb[k]'(by rw [← h.1]; exact h1)) = c'.r := by rw [e2, refsAt, Int.toNat_natCast, hc']
      rw [r1, r2]
      exact S.bfs f (k + 1) (S.meet _ _ h hl)
    · rw [List.getElem?_eq_none h1, List.getElem?_eq_none (by rw [← h.1]; exact h1)]
      exact h
end
/-- more fuel than enough changes nothing -/
theorem bfs_more {cs : List Cl} {rt : List Int} (hc : ∀ c ∈ cs, okRefs cs c.r = true) : ∀ (f k : Nat) (l : List Int), Bf cs rt k l → cs.length + 1 ≤ f + k → bfs cs (f + 1) k l = bfs cs f k l
  | 0, k, l, h, hf => by
    have hl := h.inb.le h.nodup
    unfold bfs
    rw [List.getElem?_eq_none (by omega)]
  | f + 1, k, l, h, hf => by
    rw [bfs, bfs]
    cases e : l[k]? with
    | none => rfl
    | some n => exact bfs_more hc f (k + 1) _ (h.next hc e) (by omega)
theorem bfs_enough {cs : List Cl} {rt : List Int} (hc : ∀ c ∈ cs, okRefs cs c.r = true) (hr : okRefs cs rt = true) : ∀ g, bfs cs (cs.length + 1 + g) 0 (meet [] rt) = orderL cs rt
  | 0 => rfl
  | g + 1 => by
    rw [← Nat.add_assoc, bfs_more hc _ 0 _ (.start hr) (by omega)]
    exact bfs_enough hc hr g
theorem order_fuel {h : Hp} (hv : validH h = true) : orderH h = bfs h.cs 41 0 (meet [] h.rt) := by
  have hl := (valid_iff.1 hv).2.1
  rw [order_valid hv, ← bfs_enough (valid_refs hv) (valid_iff.1 hv).2.2.2 (40 - h.cs.length)]
  congr 1
  omega
theorem Sim.order {a b : Hp} {R : Nat → Nat → Prop} (S : Sim a b R) (ha : validH a = true) (hb : validH b = true) : CR R (orderH a) (orderH b) := by
  rw [order_fuel ha, order_fuel hb]
  exact S.bfs 41 0 (S.meet _ _ ⟨rfl, fun i n m h => by simp at h⟩ S.roots)
theorem Sim.name {a b : Hp} {R : Nat → Nat → Prop} (S : Sim a b R) (ha : validH a = true) (hb : validH b = true) {n m : Int} (hr : RR R n m) : nameL (orderH a) n = nameL (orderH b) m := by
  have C := S.order ha hb
  have neg : ∀ h : Hp, (-1 : Int) ∉ orderH h := fun h hm => by
    obtain ⟨k, e, _⟩ := order_nat hm
    omega
  rcases hr with ⟨rfl, rfl⟩ | ⟨k, x, rfl, rfl, hr⟩
  · rw [nameL_none (neg a), nameL_none (neg b)]
  · by_cases hm : (k : Int) ∈ orderH a
    · obtain ⟨i, hi⟩ := List.mem_iff_getElem?.1 hm
      have hl := (List.getElem?_eq_some_iff.1 hi).1
      have hb' := List.getElem?_eq_getElem (show i < (orderH b).length by rw [← C.1]; exact hl)
      obtain ⟨k', x', e1, e2, hr'⟩ := C.2 i _ _ hi hb'
      have e1 : k = k' := by omega
      subst e1
      have := S.one _ _ _ hr hr'
      subst this
      rw [nameL_at (order_nodup a) hi, nameL_at (order_nodup b) (hb'.trans (by rw [e2]))]
    · rw [nameL_none hm, nameL_none (fun q => hm (C.mem' S.back hr q))]
theorem Sim.names {a b : Hp} {R : Nat → Nat → Prop} (S : Sim a b R) (ha : validH a = true) (hb : validH b = true) {ns ms : List Int} (h : LR R ns ms) : ns.map (nameL (orderH a)) = ms.map (nameL (orderH b)) := by
  apply List.ext_getElem?
  intro i
  rw [List.getElem?_map, List.getElem?_map]
  rcases Nat.lt_or_ge i ns.length with h1 | h1
  · have a1 := List.getElem?_eq_getElem h1
    have a2 := List.getElem?_eq_getElem (show i < ms.length by rw [← h.1]; exact h1)
    rw [a1, a2, Option.map_some, Option.map_some, S.name ha hb (h.2 i _ _ a1 a2)]
  · rw [List.getElem?_eq_none h1, List.getElem?_eq_none (by rw [← h.1]; exact h1)]
    rfl
/-- related heaps: a program sees the same -/
theorem Sim.view {a b : Hp} {R : Nat → Nat → Prop} (S : Sim a b R) (ha : validH a = true) (hb : validH b = true) : viewH a = viewH b := by
  rw [view_valid ha, view_valid hb, S.names ha hb S.roots]
  congr 2
  have C := S.order ha hb
  apply List.ext_getElem?
  intro i
  rw [List.getElem?_map, List.getElem?_map]
  rcases Nat.lt_or_ge i (orderH a).length with h1 | h1
  · have a1 := List.getElem?_eq_getElem h1
    have a2 := List.getElem?_eq_getElem (show i < (orderH b).length by rw [← C.1]; exact h1)
    obtain ⟨k, x, e1, e2, hr⟩ := C.2 i _ _ a1 a2
    obtain ⟨c, c', hc, hc', hd, hl⟩ := S.cell hr
    rw [a1, a2, Option.map_some, Option.map_some, e1, e2, cellAt, cellAt, Int.toNat_natCast, Int.toNat_natCast, hc, hc', Option.getD_some, Option.getD_some, cellV, cellV, hd, hl.1, S.names ha hb hl]
  · rw [List.getElem?_eq_none h1, List.getElem?_eq_none (by rw [← C.1]; exact h1)]
    rfl
/-- a part of a view: it tells its length -/
def SegOK (s : List Int) : Prop := ∃ (d : Int) (xs : List Int), s = d :: (xs.length : Int) :: xs
theorem segs_eq : ∀ (ss ts : List (List Int)), (∀ s ∈ ss, SegOK s) → (∀ t ∈ ts, SegOK t) → ss.flatten = ts.flatten → ss = ts
  | [], [], _, _, _ => rfl
  | [], t :: ts, _, h2, h => by
    obtain ⟨d, xs, rfl⟩ := h2 t (by simp)
    simp at h
  | s :: ss, [], h1, _, h => by
    obtain ⟨d, xs, rfl⟩ := h1 s (by simp)
    simp at h
  | s :: ss, t :: ts, h1, h2, h => by
    obtain ⟨d, xs, rfl⟩ := h1 s (by simp)
    obtain ⟨e, ys, rfl⟩ := h2 t (by simp)
    simp only [List.flatten_cons, List.cons_append, List.cons.injEq] at h
    obtain ⟨q1, q2, q3⟩ := h
    have q2 : xs.length = ys.length := by omega
    obtain ⟨q4, q5⟩ := List.append_inj q3 q2
    rw [q1, q4, segs_eq ss ts (fun x hx => h1 x (by simp [hx])) (fun x hx => h2 x (by simp [hx])) q5]
theorem seg_cell (l : List Int) (c : Cl) : SegOK (cellV l c) := ⟨c.d, c.r.map (nameL l), by simp [cellV]⟩
theorem segs_cells (l : List Int) (f : Int → Cl) (o : List Int) : ∀ s ∈ o.map (fun n => cellV l (f n)), SegOK s := by
  intro s hs
  obtain ⟨n, _, rfl⟩ := List.mem_map.1 hs
  exact seg_cell _ _
/-- cells at the same place of the orders -/
def SameAt (a b : Hp) (k x : Nat) : Prop := ∃ i : Nat, (orderH a)[i]? = some (k : Int) ∧ (orderH b)[i]? = some (x : Int)
/-- references with the same name lead to cells at the same place -/
theorem same_name {a b : Hp} {n m : Int} (ho : nameL (orderH a) n = nameL (orderH b) m) (hn : n = -1 ∨ (0 ≤ n ∧ n ∈ orderH a)) (hm : m = -1 ∨ (0 ≤ m ∧ m ∈ orderH b)) : RR (SameAt a b) n m := by
  have neg : ∀ h : Hp, (-1 : Int) ∉ orderH h := fun h hm => by
    obtain ⟨k, e, _⟩ := order_nat hm
    omega
  rcases hn with rfl | ⟨n0, hn⟩
  · rcases hm with rfl | ⟨m0, hm⟩
    · exact .inl ⟨rfl, rfl⟩
    · rw [nameL_none (neg a)] at ho
      exact absurd hm (nameL_neg ho.symm)
  · obtain ⟨i, hi⟩ := List.mem_iff_getElem?.1 hn
    rw [nameL_at (order_nodup a) hi] at ho
    have hj := nameL_get ho.symm
    obtain ⟨k, rfl, _⟩ := order_nat (List.mem_of_getElem? hi)
    obtain ⟨x, rfl, _⟩ := order_nat (List.mem_of_getElem? hj)
    exact .inr ⟨k, x, rfl, rfl, i, hi, hj⟩
theorem ref_met {h : Hp} (hv : validH h = true) {k : Nat} {c : Cl} (hk : (k : Int) ∈ orderH h) (hc : h.cs[k]? = some c) {n : Int} (hn : n ∈ c.r) : n = -1 ∨ (0 ≤ n ∧ n ∈ orderH h) := by
  have ok := okRefs_iff.1 (valid_refs hv c (List.mem_of_getElem? hc)) n hn
  by_cases h0 : 0 ≤ n
  · obtain ⟨m, rfl, _⟩ := okRef_nat ok h0
    exact .inr ⟨h0, (mem_order hv).2 (.step ((mem_order hv).1 hk) hc hn)⟩
  · rcases okRef_iff.1 ok with e | ⟨e, _⟩
    · exact .inl e
    · omega
theorem root_met {h : Hp} (hv : validH h = true) {n : Int} (hn : n ∈ h.rt) : n = -1 ∨ (0 ≤ n ∧ n ∈ orderH h) := by
  have ok := okRefs_iff.1 (valid_iff.1 hv).2.2.2 n hn
  by_cases h0 : 0 ≤ n
  · obtain ⟨m, rfl, _⟩ := okRef_nat ok h0
    exact .inr ⟨h0, (mem_order hv).2 (.root hn)⟩
  · rcases okRef_iff.1 ok with e | ⟨e, _⟩
    · exact .inl e
    · omega
theorem names_same {a b : Hp} {ns ms : List Int} (he : ns.map (nameL (orderH a)) = ms.map (nameL (orderH b))) (hn : ∀ n ∈ ns, n = -1 ∨ (0 ≤ n ∧ n ∈ orderH a)) (hm : ∀ m ∈ ms, m = -1 ∨ (0 ≤ m ∧ m ∈ orderH b)) : LR (SameAt a b) ns ms := by
  have hl : ns.length = ms.length := by simpa using congrArg List.length he
  refine ⟨hl, fun i n m h1 h2 => same_name ?_ (hn n (List.mem_of_getElem? h1)) (hm m (List.mem_of_getElem? h2))⟩
  have := congrArg (fun l => l[i]?) he
  simp only [List.getElem?_map, h1, h2, Option.map_some, Option.some.injEq] at this
  exact this
/-- heaps of which a program sees the same are related -/
theorem sim_of_view {a b : Hp} (ha : validH a = true) (hb : validH b = true) (he : viewH a = viewH b) : Sim a b (SameAt a b) := by
  rw [view_valid ha, view_valid hb] at he
  obtain ⟨e1, e2⟩ := List.append_inj he (by simp [(valid_iff.1 ha).2.2.1, (valid_iff.1 hb).2.2.1])
  have e3 := segs_eq _ _ (segs_cells _ _ _) (segs_cells _ _ _) e2
  refine ⟨?_, ?_, names_same e1 (fun n hn => root_met ha hn) (fun n hn => root_met hb hn), ?_⟩
  · rintro k x y ⟨i, h1, h2⟩ ⟨j, h3, h4⟩
    have e := nameL_at (order_nodup a) h1
    rw [nameL_at (order_nodup a) h3] at e
    have e : j = i := by omega
    subst e
    rw [h2] at h4
    have := Option.some.inj h4
    omega
  · rintro k m x ⟨i, h1, h2⟩ ⟨j, h3, h4⟩
    have e := nameL_at (order_nodup b) h2
    rw [nameL_at (order_nodup b) h4] at e
    have e : j = i := by omega
    subst e
    rw [h1] at h3
    have := Option.some.inj h3
    omega
  · rintro k x ⟨i, h1, h2⟩
    obtain ⟨k', ek, hk⟩ := order_nat (List.mem_of_getElem? h1)
    obtain ⟨x', ex, hx⟩ := order_nat (List.mem_of_getElem? h2)
    have ek : k = k' := by omega
    have ex : x = x' := by omega
    subst ek ex
    have hc := List.getElem?_eq_getElem hk
    have hc' := List.getElem?_eq_getElem hx
    have := congrArg (fun l => l[i]?) e3
    simp only [List.getElem?_map, h1, h2, Option.map_some, Option.some.injEq, cellAt, Int.toNat_natCast, hc, hc', Option.getD_some, cellV, List.cons.injEq] at this
    exact ⟨_, _, hc, hc', this.1, names_same this.2.2 (fun n hn => ref_met ha (List.mem_of_getElem? h1) hc hn) (fun n hn => ref_met hb (List.mem_of_getElem? h2) hc' hn)⟩
theorem Sim.lt {a b : Hp} {R : Nat → Nat → Prop} (S : Sim a b R) {k x : Nat} (h : R k x) : k < a.cs.length ∧ x < b.cs.length := by
  obtain ⟨c, c', h1, h2, _⟩ := S.cell h
  exact ⟨(List.getElem?_eq_some_iff.1 h1).1, (List.getElem?_eq_some_iff.1 h2).1⟩
/-! what an instruction does to related heaps -/
section
variable {a b : Hp} {R : Nat → Nat → Prop}
theorem Sim.setRoot (S : Sim a b R) (i : Nat) {n m : Int} (hr : RR R n m) : Sim ⟨a.cs, a.rt.set i n⟩ ⟨b.cs, b.rt.set i m⟩ R := ⟨S.one, S.back, S.roots.set i hr, S.cell⟩
theorem Sim.setCell (S : Sim a b R) {k x : Nat} (hr : R k x) {c c' : Cl} (hd : c.d = c'.d) (hl : LR R c.r c'.r) : Sim ⟨a.cs.set k c, a.rt⟩ ⟨b.cs.set x c', b.rt⟩ R := by
  refine ⟨S.one, S.back, S.roots, fun {m y} hm => ?_⟩
  obtain ⟨h1, h2⟩ := S.lt hr
  by_cases e : k = m
  · subst e
    have := S.one _ _ _ hr hm
    subst this
    exact ⟨c, c', by simp [h1], by simp [h2], hd, hl⟩
  · have e' : x ≠ y := fun q => e (S.back _ _ _ hr (q ▸ hm))
    obtain ⟨q, q', g1, g2, g3⟩ := S.cell hm
    exact ⟨q, q', by simp [e, g1], by simp [e', g2], g3⟩
theorem Sim.snoc (S : Sim a b R) {c c' : Cl} (hd : c.d = c'.d) (hl : LR (fun _ _ => False) c.r c'.r) (i : Nat) :
    Sim ⟨a.cs ++ [c], a.rt.set i (a.cs.length : Int)⟩ ⟨b.cs ++ [c'], b.rt.set i (b.cs.length : Int)⟩ (fun k x => R k x ∨ (k = a.cs.length ∧ x = b.cs.length)) := by
  refine ⟨?_, ?_, ?_, ?_⟩
  · rintro k x y (h1 | ⟨rfl, rfl⟩) (h2 | ⟨e, e2⟩)
    · exact S.one _ _ _ h1 h2
    · have := (S.lt h1).1; omega
    · have := (S.lt h2).1; omega
    · omega
  · rintro k m x (h1 | ⟨rfl, rfl⟩) (h2 | ⟨e, e2⟩)
    · exact S.back _ _ _ h1 h2
    · have := (S.lt h1).2; omega
    · have := (S.lt h2).2; omega
    · omega
  · exact (S.roots.mono (fun _ _ h => .inl h)).set i (.inr ⟨_, _, rfl, rfl, .inr ⟨rfl, rfl⟩⟩)
  · rintro k x (h1 | ⟨rfl, rfl⟩)
    · obtain ⟨q, q', g1, g2, g3, g4⟩ := S.cell h1
      obtain ⟨l1, l2⟩ := S.lt h1
      exact ⟨q, q', by rw [List.getElem?_append_left l1]; exact g1, by rw [List.getElem?_append_left l2]; exact g2, g3, g4.mono (fun _ _ h => .inl h)⟩
    · exact ⟨c, c', by simp, by simp, hd, hl.mono (fun _ _ h => h.elim)⟩
theorem Sim.rootAt (S : Sim a b R) (i : Int) : RR R (rootAt a i) (rootAt b i) := S.roots.get i.toNat
theorem Sim.place (S : Sim a b R) {n m : Int} (hr : RR R n m) (p : Int) : placeH a.cs n p = placeH b.cs m p := by
  rcases hr with ⟨rfl, rfl⟩ | ⟨k, x, rfl, rfl, hr⟩
  · rfl
  · obtain ⟨c, c', h1, h2, _, hl⟩ := S.cell hr
    simp [placeH, h1, h2, hl.1]
theorem Sim.refAt (S : Sim a b R) {n m : Int} (hr : RR R n m) (hn : 0 ≤ n) (p : Int) : RR R (refAt a.cs n p) (refAt b.cs m p) := by
  rcases hr with ⟨rfl, rfl⟩ | ⟨k, x, rfl, rfl, hr⟩
  · omega
  · obtain ⟨c, c', h1, h2, _, hl⟩ := S.cell hr
    simp only [Hps.refAt, Int.toNat_natCast, h1, h2]
    exact hl.get _
theorem Sim.can (S : Sim a b R) (ha : validH a = true) (hb : validH b = true) (o : Cm) : canH a o = canH b o := by
  unfold canH
  rw [ha, hb, S.place (S.rootAt o.b), S.place (S.rootAt o.a)]
  have : decide (0 ≤ Hps.rootAt a o.a) = decide (0 ≤ Hps.rootAt b o.a) := by
    rw [decide_eq_decide]
    rcases S.rootAt o.a with ⟨e1, e2⟩ | ⟨k, x, e1, e2, _⟩ <;> omega
  rw [this]
theorem Sim.does (S : Sim a b R) {o : Cm} (hc : canH a o = true) : ∃ R', Sim (doH a o a.cs.length) (doH b o b.cs.length) R' := by
  obtain ⟨⟨hv, ho⟩, hc⟩ : (validH a = true ∧ okCm o = true) ∧ _ := by
    unfold canH at hc
    rw [Bool.and_eq_true, Bool.and_eq_true] at hc
    exact hc
  unfold doH
  by_cases h1 : o.op = 1
  · rw [if_pos h1, if_pos h1, putCl, if_pos rfl, putCl, if_pos rfl]
    refine ⟨_, S.snoc (c := newCl o) (c' := newCl o) rfl ⟨rfl, fun i n m h1 h2 => .inl ?_⟩ _⟩
    have e1 := List.mem_of_getElem? h1
    have e2 := List.mem_of_getElem? h2
    simp only [newCl, List.mem_replicate] at e1 e2
    exact ⟨e1.2, e2.2⟩
  rw [if_neg h1, if_neg h1]
  by_cases h2 : o.op = 2
  · rw [if_pos h2, if_pos h2]
    rw [if_pos h2] at hc
    obtain ⟨k, c, e, _⟩ := placeH_iff.1 hc
    exact ⟨R, S.setRoot _ (S.refAt (S.rootAt o.b) (by omega) _)⟩
  rw [if_neg h2, if_neg h2]
  by_cases h3 : o.op = 3
  · rw [if_pos h3, if_pos h3]
    rw [if_neg h2, if_pos h3] at hc
    obtain ⟨k, c, e, hk, _⟩ := placeH_iff.1 hc
    rcases S.rootAt o.a with ⟨e1, e2⟩ | ⟨k', x, e1, e2, hr⟩
    · omega
    · obtain ⟨c1, c2, g1, g2, g3, g4⟩ := S.cell hr
      rw [e1, e2, Int.toNat_natCast, Int.toNat_natCast, setRef, setRef, g1, g2]
      exact ⟨R, S.setCell hr (c := ⟨c1.u, c1.d, _⟩) (c' := ⟨c2.u, c2.d, _⟩) g3 (g4.set _ (S.rootAt o.b))⟩
  rw [if_neg h3, if_neg h3]
  by_cases h4 : o.op = 4
  · rw [if_pos h4, if_pos h4]
    exact ⟨R, S.setRoot _ (S.rootAt o.b)⟩
  rw [if_neg h4, if_neg h4]
  by_cases h5 : o.op = 5
  · rw [if_pos h5, if_pos h5]
    exact ⟨R, S.setRoot _ (.inl ⟨rfl, rfl⟩)⟩
  rw [if_neg h5, if_neg h5]
  by_cases h6 : o.op = 6
  · rw [if_pos h6, if_pos h6]
    rw [if_neg h2, if_neg h3, if_pos h6] at hc
    have hc := of_decide_eq_true hc
    rcases S.rootAt o.a with ⟨e1, e2⟩ | ⟨k', x, e1, e2, hr⟩
    · omega
    · obtain ⟨c1, c2, g1, g2, g3, g4⟩ := S.cell hr
      rw [e1, e2, Int.toNat_natCast, Int.toNat_natCast, setDat, setDat, g1, g2]
      exact ⟨R, S.setCell hr (c := ⟨c1.u, o.b, _⟩) (c' := ⟨c2.u, o.b, _⟩) rfl g4⟩
  rw [if_neg h6, if_neg h6]
  exact ⟨R, S⟩
theorem Sim.step (S : Sim a b R) (ha : validH a = true) (hb : validH b = true) {o : Cm} (ho : okCm o = true) (la : a.cs.length ≠ 40) (lb : b.cs.length ≠ 40) : ∃ R', Sim (stepH a o).1 (stepH b o).1 R' := by
  have hcan := S.can ha hb o
  cases hc : canH a o
  · rw [hc] at hcan
    have e1 : stepH a o = (a, false) := by simp [stepH, ha, ho, hc]
    have e2 : stepH b o = (b, false) := by simp [stepH, hb, ho, ← hcan]
    rw [e1, e2]
    exact ⟨R, S⟩
  · rw [hc] at hcan
    have e1 : stepH a o = (doH a o a.cs.length, true) := by simp [stepH, ha, ho, hc, la]
    have e2 : stepH b o = (doH b o b.cs.length, true) := by simp [stepH, hb, ho, ← hcan, lb]
    rw [e1, e2]
    exact S.does hc
end
/-- equal views go on equally -/
theorem same_step {a b : Hp} {o : Cm} (h : sameV a b = true) (ho : okCm o = true) (la : a.cs.length ≠ 40) (lb : b.cs.length ≠ 40) : sameV (stepH a o).1 (stepH b o).1 = true := by
  obtain ⟨ha, hb, he⟩ := sameV_iff.1 h
  obtain ⟨R, S⟩ := (sim_of_view ha hb he).step ha hb ho la lb
  have va := stepH_valid ha ho
  have vb := stepH_valid hb ho
  exact sameV_iff.2 ⟨va, vb, S.view va vb⟩
end Hps
end Go.Proofs.Ytakdjiojahlnmaa
namespace Go.Proofs.Ytakdjiojahlnmaa
namespace Hps
end Hps
end Go.Proofs.Ytakdjiojahlnmaa
namespace Go.Proofs.Ytakdjiojahlnmaa
open Go.RowKit
set_option maxRecDepth 100000
/-- the list of the cells that were met, the marks in a block of their own, the heap's box -/
structure RO (w wr : World) (box : Array Value) (n : Nat) (lv : Value) (cs : List Cl) (outs : List Bool) (l : List Int) : Prop where
  own : OwnO wr w.heap.size (.slice (some ⟨w.heap.size + 2, 0, none⟩) n n) outs
  lst : OwnI wr (w.heap.size + 1) lv l
  ne : lv.ownBlock = none ∨ lv.ownBlock ≠ some (w.heap.size + 2)
  box : Rw wr w.heap.size 26 box
  bel : Below w.heap.size w wr
  len : outs.length = n
  mem : ∀ k : Nat, outs[k]? = some true ↔ (k : Int) ∈ l
  nodup : l.Nodup
  inb : Hps.InB cs l
  cells : cs.length = n
  big : w.heap.size + 3 ≤ wr.heap.size
section
variable {w wr w5 : World} {box : Array Value} {n y : Nat} {lv v5 : Value} {cs : List Cl} {outs : List Bool} {l : List Int}
theorem RO.draws (h : RO w wr box n lv cs outs l) (k : Nat) : RO w (wr.drewN k) box n lv cs outs l :=
  ⟨h.own, h.lst, h.ne, h.box, below_drewN h.bel k, h.len, h.mem, h.nodup, h.inb, h.cells, h.big⟩
theorem RO.le (h : RO w wr box n lv cs outs l) : l.length ≤ n := by
  rw [← h.cells]
  exact h.inb.le h.nodup
theorem RO.pre (h : RO w wr box n lv cs outs l) (y : Nat) : OwnI ((wr.setCell ⟨w.heap.size + 2, y, none⟩ (.bool true)).alloc (.cells #[.int .i64 y] 3)) (w.heap.size + 1) lv l :=
  World.ownsRow.alloc (h.lst.far (only_put (World.grownBy.refl _ _) y (.bool true)) h.ne) _
/-- one more is met -/
theorem RO.mark (h : RO w wr box n lv cs outs l) (hy : outs[y]? = some false) (ho : OwnI w5 (w.heap.size + 1) v5 (l ++ [(y : Int)])) (hg : ((wr.setCell ⟨w.heap.size + 2, y, none⟩ (.bool true)).alloc (.cells #[.int .i64 y] 3)).grownBy w5 lv.ownBlock)
    (hs : v5.ownBlock = lv.ownBlock ∨ v5.ownBlock = some ((wr.setCell ⟨w.heap.size + 2, y, none⟩ (.bool true)).alloc (.cells #[.int .i64 y] 3)).heap.size) : RO w w5 box n v5 cs (outs.set y true) (Hps.meet1 l (y : Int)) := by
  have hlv : ∀ k, lv.ownBlock = some k → w.heap.size + 1 ≤ k := fun k hk => (World.ownsRow.lt h.lst k hk).1
  obtain ⟨hyl, hye⟩ := List.getElem?_eq_some_iff.1 hy
  have hyn : (y : Int) ∉ l := fun hm => by
    have := (h.mem y).2 hm
    rw [hy] at this
    cases this
  have hm1 : Hps.meet1 l (y : Int) = l ++ [(y : Int)] := by rw [Hps.meet1, if_pos ⟨by omega, hyn⟩]
  have o1 := h.own.put' (j := y) h.len true
  have o2 := World.ownsRow.alloc o1 (.cells #[.int .i64 y] 3)
  have o3 : OwnO w5 w.heap.size (.slice (some ⟨w.heap.size + 2, 0, none⟩) n n) (outs.set y true) := World.ownsRow.kept o2 hg (by
    right
    intro e
    rcases h.ne with e' | e'
    · rw [e'] at e; cases e
    · exact e' e.symm)
  have b1 := (h.bel.setCell (p := ⟨w.heap.size + 2, y, none⟩) (by simp) (.bool true)).alloc (by simp; have := h.bel.size; omega) (.cells #[.int .i64 y] 3)
  have hbig := h.big
  refine ⟨o3, by rw [hm1]; exact ho, ?_, ?_, b1.grown hg (by simp; have := h.bel.size; omega) (fun k hk => by have := hlv k hk; omega), by simp [h.len], fun k => ?_, Hps.meet1_nodup h.nodup _, fun x hx => ?_, h.cells, ?_⟩
  · rcases hs with e | e
    · rw [e]; exact h.ne
    · right
      rw [e]
      intro e'
      have := Option.some.inj e'
      simp at this
      omega
  · exact Rw.far ((Rw.other (w := wr) h.box (by omega) _).alloc _) hg (fun e => by have := hlv w.heap.size e.symm; omega)
  · rw [Hps.mem_meet1, ← h.mem, List.getElem?_set]
    by_cases e : y = k
    · subst e
      simp [hyl]
    · rw [if_neg e]
      constructor
      · exact .inl
      · rintro (h1 | ⟨_, h1⟩)
        · exact h1
        · omega
  · rcases Hps.mem_meet1.1 hx with h1 | ⟨_, rfl⟩
    · exact h.inb x h1
    · exact ⟨y, rfl, by rw [h.cells, ← h.len]; exact hyl⟩
  · have := hg.size
    simp at *
    omega
/-- a number that is none, or has been met -/
theorem RO.same (_h : RO w wr box n lv cs outs l) {x : Int} (hx : ¬ 0 ≤ x ∨ x ∈ l) : Hps.meet1 l x = l := by
  rw [Hps.meet1, if_neg]
  rintro ⟨h0, h1⟩
  rcases hx with h2 | h2
  · exact h2 h0
  · exact h1 h2
end
namespace Hps
end Hps
end Go.Proofs.Ytakdjiojahlnmaa
namespace Go.Proofs.Ytakdjiojahlnmaa
open Go.RowKit
set_option maxRecDepth 100000
theorem own_twoI (w : World) (a b : Int) (base : Nat) (hb : base ≤ w.heap.size) : OwnI (w.alloc (.cells #[.int .i64 a, .int .i64 b] 3)) base (.slice (some ⟨w.heap.size, 0, none⟩) 2 2) [a, b] :=
  World.ownsRow_lit (base := base) (e := 3) (size := 1) w #[.int .i64 a, .int .i64 b] 2 hb (by unfold maxLen; omega) rfl
/-- the view so far, the order, the heap's box -/
structure VS (w wr : World) (box : Array Value) (ov : Value) (o : List Int) (lv : Value) (l : List Int) : Prop where
  lst : OwnI wr (w.heap.size + 1) lv l
  ord : OwnI wr (w.heap.size + 1) ov o
  sep : lv.ownBlock = none ∨ lv.ownBlock ≠ ov.ownBlock
  box : Rw wr w.heap.size 26 box
  bel : Below w.heap.size w wr
section
variable {w wr w1 : World} {box : Array Value} {ov lv v5 : Value} {o l xs : List Int}
theorem VS.up (S : VS w wr box ov o lv l) (hb : Below wr.heap.size wr w1) : VS w w1 box ov o lv l :=
  ⟨S.lst.below hb (Nat.le_refl _), S.ord.below hb (Nat.le_refl _), S.sep, S.box.keep hb S.box.lt, S.bel.trans (hb.mono S.bel.size)⟩
theorem VS.app (S : VS w wr box ov o lv l) (h : OwnI w1 (w.heap.size + 1) v5 (l ++ xs)) (hg : wr.grownBy w1 lv.ownBlock) (hs : v5.ownBlock = lv.ownBlock ∨ v5.ownBlock = some wr.heap.size) : VS w w1 box ov o v5 (l ++ xs) := by
  have hlo : ∀ k, lv.ownBlock = some k → w.heap.size + 1 ≤ k := fun k hk => (World.ownsRow.lt S.lst k hk).1
  refine ⟨h, S.ord.far hg (sep_back S.sep), ?_, Rw.far S.box hg (fun e => by have := hlo _ e.symm; omega), S.bel.grown hg S.bel.size (fun k hk => by have := hlo k hk; omega)⟩
  rcases hs with e | e
  · rw [e]; exact S.sep
  · right
    rw [e]
    intro e'
    have := (World.ownsRow.lt S.ord _ e'.symm).2
    omega
end
namespace Hps
theorem flat_small {b : Nat} : ∀ ss : List (List Int), (∀ s ∈ ss, s.length ≤ b) → ss.flatten.length ≤ b * ss.length
  | [], _ => by simp
  | s :: ss, h => by
    have h1 := flat_small ss (fun t ht => h t (by simp [ht]))
    have h2 := h s (by simp)
    rw [List.flatten_cons, List.length_append, List.length_cons, Nat.mul_succ]
    omega
theorem view_small (h : Hp) : (viewH h).length ≤ 1000 := by
  cases hv : validH h
  · rw [view_not hv]
    simp
  · obtain ⟨s1, s2, s3⟩ := valid_small hv
    have hl := order_len h
    have := flat_small (b := 5) ((orderH h).map fun n => cellV (orderH h) (cellAt h.cs n)) (fun s hs => by
      obtain ⟨n, _, rfl⟩ := List.mem_map.1 hs
      have : (cellAt h.cs n).r.length ≤ 3 := by
        unfold cellAt
        cases e : h.cs[n.toNat]? with
        | none => simp
        | some c => exact s3 c (List.mem_of_getElem? e)
      simp [cellV]
      omega)
    rw [List.length_map] at this
    rw [view_valid hv, List.length_append, List.length_map, s2]
    omega
end Hps
namespace Hps
end Hps
end Go.Proofs.Ytakdjiojahlnmaa

namespace Go.Proofs.Ytakdjiojahlnmaa
namespace Hps
/-- nothing is left of a cell -/
def freeCl : Cl := ⟨false, 0, []⟩
def freeK (h : Hp) (k : Nat) : Hp := ⟨h.cs.set k freeCl, h.rt⟩
/-- used cells to each of which a root or one of them leads -/
def Sup (h : Hp) (K : Nat → Prop) : Prop := ∀ k, K k → usedAt h.cs k = true ∧ ((k : Int) ∈ h.rt ∨ ∃ (m : Nat) (c : Cl), K m ∧ h.cs[m]? = some c ∧ (k : Int) ∈ c.r)
/-- a cell that is never freed -/
def Kept (h : Hp) (k : Nat) : Prop := ∃ K : Nat → Prop, Sup h K ∧ K k
open Classical in
/-- what is left when everything is freed to which nothing leads -/
noncomputable def freeH (h : Hp) : Hp := ⟨(List.range h.cs.length).map fun k => if Kept h k then (h.cs[k]?).getD freeCl else freeCl, h.rt⟩
theorem mem_refsOf {h : Hp} {n : Int} : n ∈ refsOf h ↔ n ∈ h.rt ∨ ∃ (m : Nat) (c : Cl), h.cs[m]? = some c ∧ n ∈ c.r := by
  unfold refsOf
  rw [List.mem_append, List.mem_flatten]
  constructor
  · rintro (h1 | ⟨l, hl, hn⟩)
    · exact .inl h1
    · obtain ⟨c, hc, rfl⟩ := List.mem_map.1 hl
      obtain ⟨m, hm⟩ := List.mem_iff_getElem?.1 hc
      exact .inr ⟨m, c, hm, hn⟩
  · rintro (h1 | ⟨m, c, hm, hn⟩)
    · exact .inl h1
    · exact .inr ⟨c.r, List.mem_map.2 ⟨c, List.mem_of_getElem? hm, rfl⟩, hn⟩
theorem Kept.used {h : Hp} {k : Nat} (hk : Kept h k) : usedAt h.cs k = true := by
  obtain ⟨K, hs, hk⟩ := hk
  exact (hs k hk).1
theorem freeH_len (h : Hp) : (freeH h).cs.length = h.cs.length := by simp [freeH]
theorem freeH_cell {h : Hp} {k : Nat} (hk : Kept h k) : (freeH h).cs[k]? = h.cs[k]? := by
  obtain ⟨c, hc, _⟩ := usedAt_iff.1 hk.used
  have hl := (List.getElem?_eq_some_iff.1 hc).1
  simp [freeH, hl, hk]
theorem freeH_gone {h : Hp} {k : Nat} (hk : ¬ Kept h k) (hl : k < h.cs.length) : (freeH h).cs[k]? = some freeCl := by simp [freeH, hl, hk]
/-- while cells are freed: x is what h has become -/
structure Frees (h x : Hp) : Prop where
  rt : x.rt = h.rt
  len : x.cs.length = h.cs.length
  cell : ∀ k, x.cs[k]? = h.cs[k]? ∨ (x.cs[k]? = some freeCl ∧ ¬ Kept h k)
theorem Frees.refl (h : Hp) : Frees h h := ⟨rfl, rfl, fun _ => .inl rfl⟩
theorem Frees.kept {h x : Hp} (F : Frees h x) {k : Nat} (hk : Kept h k) : x.cs[k]? = h.cs[k]? := by
  rcases F.cell k with e | ⟨_, e⟩
  · exact e
  · exact absurd hk e
theorem Frees.free {h x : Hp} (F : Frees h x) {k : Nat} (hlt : k < x.cs.length) (hn : (k : Int) ∉ refsOf x) : Frees h (freeK x k) := by
  refine ⟨F.rt, by simp [freeK, F.len], fun j => ?_⟩
  by_cases e : k = j
  · subst e
    refine .inr ⟨by simp [freeK, hlt], fun hk => ?_⟩
    obtain ⟨K, hs, hkk⟩ := hk
    obtain ⟨_, h1 | ⟨m, c, hm, hc, hr⟩⟩ := hs k hkk
    · exact hn (mem_refsOf.2 (.inl (by rw [F.rt]; exact h1)))
    · exact hn (mem_refsOf.2 (.inr ⟨m, c, by rw [F.kept ⟨K, hs, hm⟩]; exact hc, hr⟩))
  · rw [freeK, List.getElem?_set_ne e]
    exact F.cell j
theorem valid_unused {h : Hp} (hv : validH h = true) {k : Nat} {c : Cl} (hc : h.cs[k]? = some c) (hu : c.u = false) : c = freeCl := by
  have := okCell_iff.1 (valid_cell hv hc)
  obtain ⟨u, d, r⟩ := c
  simp only at hu this
  subst hu
  rcases this.1 with e | ⟨e1, e2⟩
  · cases e
  · rw [freeCl, e1, e2]
theorem Frees.used {h x : Hp} (F : Frees h x) (hv : validH h = true) {k : Nat} {c : Cl} (hc : x.cs[k]? = some c) (hr : c.r ≠ []) : h.cs[k]? = some c ∧ c.u = true := by
  rcases F.cell k with e | ⟨e, _⟩
  · rw [e] at hc
    refine ⟨hc, ?_⟩
    cases hu : c.u
    · rw [valid_unused hv hc hu] at hr
      exact absurd rfl hr
    · rfl
  · rw [hc] at e
    rw [Option.some.inj e] at hr
    exact absurd rfl hr
/-- when nothing is left that could be freed, it is what is kept -/
theorem Frees.fin {h x : Hp} (F : Frees h x) (hv : validH h = true) (hd : ∀ k, usedAt x.cs k = true → (k : Int) ∈ refsOf x) : x = freeH h := by
  have hs : Sup h (fun k => usedAt x.cs k = true) := fun k hk => by
    obtain ⟨c, hc, hu⟩ := usedAt_iff.1 hk
    refine ⟨?_, ?_⟩
    · rcases F.cell k with e | ⟨e, _⟩
      · exact usedAt_iff.2 ⟨c, by rw [← e]; exact hc, hu⟩
      · rw [hc] at e
        rw [Option.some.inj e] at hu
        cases hu
    · rcases mem_refsOf.1 (hd k hk) with h1 | ⟨m, c', hm, hn⟩
      · exact .inl (by rw [← F.rt]; exact h1)
      · obtain ⟨h1, h2⟩ := F.used hv hm (List.ne_nil_of_mem hn)
        exact .inr ⟨m, c', usedAt_iff.2 ⟨c', hm, h2⟩, h1, hn⟩
  have hcs : x.cs = (freeH h).cs := by
    apply List.ext_getElem?
    intro k
    rcases Nat.lt_or_ge k h.cs.length with hk | hk
    · obtain ⟨c, hc⟩ : ∃ c, h.cs[k]? = some c := ⟨_, List.getElem?_eq_getElem hk⟩
      by_cases q : Kept h k
      · rw [freeH_cell q, F.kept q]
      · rw [freeH_gone q hk]
        rcases F.cell k with e | ⟨e, _⟩
        · rw [e, hc]
          congr 1
          refine valid_unused hv hc ?_
          cases hu : c.u
          · rfl
          · exact absurd ⟨_, hs, usedAt_iff.2 ⟨c, by rw [e]; exact hc, hu⟩⟩ q
        · exact e
    · rw [List.getElem?_eq_none (by rw [F.len]; exact hk), List.getElem?_eq_none (by simp [freeH]; exact hk)]
  obtain ⟨xc, xr⟩ := x
  have := F.rt
  simp only at this hcs
  rw [this, hcs]
  rfl
theorem freeK_valid {x : Hp} (hv : validH x = true) {k : Nat} (hn : (k : Int) ∉ refsOf x) : validH (freeK x k) = true := by
  obtain ⟨v1, v2, v3, v4⟩ := valid_iff.1 hv
  have hu : ∀ n : Int, okRef x.cs n = true → n ≠ (k : Int) → okRef (x.cs.set k freeCl) n = true := fun n ho hne => by
    rcases okRef_iff.1 ho with e | ⟨e, hu⟩
    · exact okRef_iff.2 (.inl e)
    · refine okRef_iff.2 (.inr ⟨e, ?_⟩)
      obtain ⟨c, hc, hcu⟩ := usedAt_iff.1 hu
      exact usedAt_iff.2 ⟨c, by rw [List.getElem?_set_ne (by omega)]; exact hc, hcu⟩
  refine valid_iff.2 ⟨fun c hc => ?_, by simpa [freeK] using v2, v3, okRefs_iff.2 fun n h1 => hu n (okRefs_iff.1 v4 n h1) fun e => hn (mem_refsOf.2 (.inl (e ▸ h1)))⟩
  rcases List.mem_or_eq_of_mem_set hc with h1 | rfl
  · obtain ⟨m, hm⟩ := List.mem_iff_getElem?.1 h1
    obtain ⟨w1, w2, w3, w4⟩ := okCell_iff.1 (v1 c h1)
    exact okCell_iff.2 ⟨w1, w2, w3, okRefs_iff.2 fun n h2 => hu n (okRefs_iff.1 w4 n h2) fun e => hn (mem_refsOf.2 (.inr ⟨m, c, hm, e ▸ h2⟩))⟩
  · exact okCell_iff.2 ⟨.inr ⟨rfl, rfl⟩, by decide, by decide, rfl⟩
/-- a used cell to which nothing leads, the last one below n; -1 if there is none -/
def idleTo (h : Hp) : Nat → Int
  | 0 => -1
  | n + 1 => if usedAt h.cs n = true ∧ (n : Int) ∉ refsOf h then (n : Int) else idleTo h n
theorem idleTo_cases (h : Hp) : ∀ n, (idleTo h n = -1 ∧ ∀ k, k < n → usedAt h.cs k = true → (k : Int) ∈ refsOf h) ∨ ∃ k : Nat, idleTo h n = k ∧ k < n ∧ usedAt h.cs k = true ∧ (k : Int) ∉ refsOf h
  | 0 => .inl ⟨rfl, fun k hk => by omega⟩
  | n + 1 => by
    rw [idleTo]
    by_cases e : usedAt h.cs n = true ∧ (n : Int) ∉ refsOf h
    · rw [if_pos e]
      exact .inr ⟨n, rfl, by omega, e⟩
    · rw [if_neg e]
      rcases idleTo_cases h n with ⟨h1, h2⟩ | ⟨k, h1, h2, h3⟩
      · refine .inl ⟨h1, fun k hk hu => ?_⟩
        rcases Nat.lt_or_ge k n with h3 | h3
        · exact h2 k h3 hu
        · obtain rfl : k = n := by omega
          exact Classical.byContradiction fun q => e ⟨hu, q⟩
      · exact .inr ⟨k, h1, by omega, h3⟩
def usedN (h : Hp) : Nat := usedTo h.cs h.cs.length
theorem usedN_eq (h : Hp) : usedN h = h.cs.countP (·.u) := by simp [usedN, usedTo]
theorem usedN_free {x : Hp} {k : Nat} (hu : usedAt x.cs k = true) : usedN (freeK x k) + 1 = usedN x := by
  rw [usedN_eq, usedN_eq, freeK]
  obtain ⟨c, hc, hcu⟩ := usedAt_iff.1 hu
  have key : ∀ (cs : List Cl) (k : Nat), cs[k]? = some c → (cs.set k freeCl).countP (·.u) + 1 = cs.countP (·.u) := by
    intro cs
    induction cs with
    | nil => intro k h; simp at h
    | cons a l ih =>
      intro k h
      cases k with
      | zero =>
        simp only [List.getElem?_cons_zero, Option.some.injEq] at h
        subst h
        simp [hcu, freeCl]
      | succ k =>
        have := ih k (by simpa using h)
        rw [List.set_cons_succ, List.countP_cons, List.countP_cons]
        omega
  exact key x.cs k hc
def freeF : Nat → Hp → Hp
  | 0, x => x
  | f + 1, x => if idleTo x x.cs.length < 0 then x else freeF f (freeK x (idleTo x x.cs.length).toNat)
theorem freeF_frees {h : Hp} (hv : validH h = true) : ∀ (f : Nat) (x : Hp), Frees h x → validH x = true → usedN x < f → freeF f x = freeH h ∧ validH (freeH h) = true
  | 0, x, _, _, hu => by omega
  | f + 1, x, F, vx, hu => by
    rw [freeF]
    rcases idleTo_cases x x.cs.length with ⟨h1, h2⟩ | ⟨k, h1, h2, h3, h4⟩
    · rw [if_pos (by omega)]
      have := F.fin hv fun k hk => h2 k (usedAt_lt hk) hk
      exact ⟨this, this ▸ vx⟩
    · rw [if_neg (by omega), h1, Int.toNat_natCast]
      exact freeF_frees hv f _ (F.free h2 h4) (freeK_valid vx h4) (by have := usedN_free h3; omega)
theorem usedN_lt (h : Hp) : usedN h < h.cs.length + 1 := by have := usedTo_le h.cs h.cs.length; unfold usedN; omega
theorem freeH_valid {h : Hp} (hv : validH h = true) : validH (freeH h) = true := (freeF_frees hv _ h (Frees.refl h) hv (usedN_lt h)).2
/-- what is left is led to -/
theorem freeH_led {h : Hp} {k : Nat} (hu : usedAt (freeH h).cs k = true) : (k : Int) ∈ refsOf (freeH h) := by
  have hl := usedAt_lt hu
  rw [freeH_len] at hl
  have hk : Kept h k := by
    refine Classical.byContradiction fun q => ?_
    obtain ⟨c, hc, hcu⟩ := usedAt_iff.1 hu
    rw [freeH_gone q hl] at hc
    rw [← Option.some.inj hc] at hcu
    cases hcu
  obtain ⟨K, hs, hkk⟩ := hk
  obtain ⟨_, h1 | ⟨m, c, hm, hc, hr⟩⟩ := hs k hkk
  · exact mem_refsOf.2 (.inl h1)
  · exact mem_refsOf.2 (.inr ⟨m, c, by rw [freeH_cell ⟨K, hs, hm⟩]; exact hc, hr⟩)
theorem reached_kept {h : Hp} (hv : validH h = true) {k : Nat} (hr : Rch h.cs h.rt k) : Kept h k := by
  refine ⟨fun k => Rch h.cs h.rt k, fun k hk => ⟨hk.live hv, ?_⟩, hr⟩
  cases hk with
  | root h1 => exact .inl h1
  | step h1 h2 h3 => exact .inr ⟨_, _, h1, h2, h3⟩
/-- a program sees the same -/
theorem freeH_sim {h : Hp} (hv : validH h = true) : Sim h (freeH h) (fun k x => k = x ∧ Rch h.cs h.rt k) := by
  refine ⟨fun k x y h1 h2 => by omega, fun k m x h1 h2 => by omega, ⟨rfl, fun i n m h1 h2 => ?_⟩, ?_⟩
  · have e : n = m := by
      rw [show (freeH h).rt = h.rt from rfl, h1] at h2
      exact Option.some.inj h2
    subst e
    rcases okRef_iff.1 (valid_root hv h1) with e | ⟨e, _⟩
    · exact .inl ⟨e, e⟩
    · exact .inr ⟨n.toNat, n.toNat, by omega, by omega, rfl, .root (by rw [Int.toNat_of_nonneg e]; exact List.mem_of_getElem? h1)⟩
  · rintro k x ⟨rfl, hr⟩
    obtain ⟨c, hc, _⟩ := usedAt_iff.1 (hr.live hv)
    refine ⟨c, c, hc, by rw [freeH_cell (reached_kept hv hr)]; exact hc, rfl, rfl, fun i n m h1 h2 => ?_⟩
    have e : n = m := by
      rw [h1] at h2
      exact Option.some.inj h2
    subst e
    rcases okRef_iff.1 (valid_ref hv hc h1) with e | ⟨e, _⟩
    · exact .inl ⟨e, e⟩
    · exact .inr ⟨n.toNat, n.toNat, by omega, by omega, rfl, .step hr hc (by rw [Int.toNat_of_nonneg e]; exact List.mem_of_getElem? h1)⟩
theorem freeH_same {h : Hp} (hv : validH h = true) : sameV (freeH h) h = true := by
  rw [sameV_comm]
  exact sameV_iff.2 ⟨hv, freeH_valid hv, (freeH_sim hv).view hv (freeH_valid hv)⟩
/-- the first cell that is not used, or the place behind the last one -/
def gapTo (cs : List Cl) (n : Nat) : Nat := ((List.range n).find? fun k => !usedAt cs k).getD n
def gapH (h : Hp) : Nat := gapTo h.cs h.cs.length
theorem gapH_cases (h : Hp) : (gapH h = h.cs.length ∧ ∀ k, k < h.cs.length → usedAt h.cs k = true) ∨ (gapH h < h.cs.length ∧ usedAt h.cs (gapH h) = false ∧ ∀ k, k < gapH h → usedAt h.cs k = true) := by
  unfold gapH gapTo
  cases e : (List.range h.cs.length).find? fun k => !usedAt h.cs k with
  | none =>
    refine .inl ⟨rfl, fun k hk => ?_⟩
    have := List.find?_eq_none.1 e k (List.mem_range.2 hk)
    simpa using this
  | some k =>
    refine .inr ⟨?_, ?_, ?_⟩
    · exact List.mem_range.1 (List.mem_of_find?_eq_some e)
    · simpa using List.find?_some e
    · intro j hj
      simp only [Option.getD_some] at hj
      obtain ⟨_, l1, l2, e1, e2⟩ := List.find?_eq_some_iff_append.1 e
      have hk := List.mem_range.1 (List.mem_of_find?_eq_some e)
      have hm : j ∈ l1 := by
        have hj1 : j ∈ List.range h.cs.length := List.mem_range.2 (by omega)
        rw [e1, List.mem_append, List.mem_cons] at hj1
        rcases hj1 with h1 | h1 | h1
        · exact h1
        · omega
        · have hs : (l1 ++ k :: l2).Pairwise (· < ·) := by rw [← e1]; exact List.pairwise_lt_range
          rw [List.pairwise_append, List.pairwise_cons] at hs
          have := hs.2.1.1 j h1
          omega
      simpa using e2 j hm
theorem gapH_le (h : Hp) : gapH h ≤ h.cs.length := by rcases gapH_cases h with ⟨e, _⟩ | ⟨e, _⟩ <;> omega
/-- counts are those of RefCounts -/
def okCt (h : Hp) (l : List Int) : Bool := validH h && decide (l = countsL h)
theorem okCt_iff {h : Hp} {l : List Int} : okCt h l = true ↔ validH h = true ∧ l = countsL h := by simp [okCt]
/-- a step with counts -/
noncomputable def stepCt (h : Hp) (l : List Int) (o : Cm) : (Hp × List Int) × Bool :=
  if okCt h l && okCm o then
    (if !canH h o || (decide (o.op = 1) && decide (gapH h = 40)) then ((h, l), false) else ((freeH (doH h o (gapH h)), countsL (freeH (doH h o (gapH h)))), true))
  else ((zeroH, []), false)
theorem stepCt_no {h : Hp} {l : List Int} {o : Cm} (e : okCt h l = false ∨ okCm o = false) : stepCt h l o = ((zeroH, []), false) := by
  rw [stepCt, if_neg]
  rw [Bool.and_eq_true]
  rintro ⟨h1, h2⟩
  rcases e with e | e
  · rw [e] at h1; cases h1
  · rw [e] at h2; cases h2
theorem stepCt_cannot {h : Hp} {l : List Int} {o : Cm} (h1 : okCt h l = true) (h2 : okCm o = true) (h3 : canH h o = false ∨ (o.op = 1 ∧ gapH h = 40)) : stepCt h l o = ((h, l), false) := by
  rw [stepCt, if_pos (by rw [h1, h2]; rfl), if_pos]
  rcases h3 with e | ⟨e1, e2⟩
  · simp [e]
  · simp [e1, e2]
theorem stepCt_does {h : Hp} {l : List Int} {o : Cm} (h1 : okCt h l = true) (h2 : okCm o = true) (h3 : canH h o = true) (h4 : ¬ (o.op = 1 ∧ gapH h = 40)) : stepCt h l o = ((freeH (doH h o (gapH h)), countsL (freeH (doH h o (gapH h)))), true) := by
  rw [stepCt, if_pos (by rw [h1, h2]; rfl), if_neg]
  simp only [h3, Bool.not_true, Bool.false_or, Bool.and_eq_true, decide_eq_true_eq]
  exact h4
theorem gap_room {h : Hp} (hv : validH h = true) {o : Cm} (h4 : ¬ (o.op = 1 ∧ gapH h = 40)) : o.op = 1 → gapH h ≤ h.cs.length ∧ gapH h < 40 := fun h1 => by
  have := gapH_le h
  have := (valid_iff.1 hv).2.1
  exact ⟨gapH_le h, by omega⟩
theorem stepCt_ok {h : Hp} {l : List Int} {o : Cm} (h1 : okCt h l = true) (h2 : okCm o = true) : okCt (stepCt h l o).1.1 (stepCt h l o).1.2 = true := by
  by_cases h3 : canH h o = false ∨ (o.op = 1 ∧ gapH h = 40)
  · rw [stepCt_cannot h1 h2 h3]
    exact h1
  · rw [not_or] at h3
    have h3' : canH h o = true := by simpa using h3.1
    rw [stepCt_does h1 h2 h3' h3.2]
    exact okCt_iff.2 ⟨freeH_valid (doH_valid h3' (gap_room (okCt_iff.1 h1).1 h3.2)), rfl⟩
/-! a new cell at a gap and a new cell behind the last one -/
theorem new_sim {h : Hp} (hv : validH h = true) {p : Nat} (hp : p < h.cs.length) (hu : usedAt h.cs p = false) (c : Cl) (hc : ∀ n ∈ c.r, n = -1) (i : Nat) :
    Sim ⟨h.cs.set p c, h.rt.set i (p : Int)⟩ ⟨h.cs ++ [c], h.rt.set i (h.cs.length : Int)⟩ (fun k x => (k = x ∧ usedAt h.cs k = true) ∨ (k = p ∧ x = h.cs.length)) := by
  have hlt : ∀ k, usedAt h.cs k = true → k < h.cs.length := fun k hk => usedAt_lt hk
  have hne : ∀ k, usedAt h.cs k = true → k ≠ p := fun k hk e => by rw [e, hu] at hk; cases hk
  have hrr : ∀ n : Int, okRef h.cs n = true → RR (fun k x => (k = x ∧ usedAt h.cs k = true) ∨ (k = p ∧ x = h.cs.length)) n n := fun n ho => by
    rcases okRef_iff.1 ho with e | ⟨e, hu⟩
    · exact .inl ⟨e, e⟩
    · exact .inr ⟨n.toNat, n.toNat, by omega, by omega, .inl ⟨rfl, hu⟩⟩
  refine ⟨?_, ?_, ?_, ?_⟩
  · rintro k x y (⟨rfl, h1⟩ | ⟨rfl, rfl⟩) (⟨rfl, h2⟩ | ⟨e, rfl⟩)
    · rfl
    · exact absurd e (hne _ h1)
    · exact absurd rfl (hne _ h2)
    · rfl
  · rintro k m x (⟨rfl, h1⟩ | ⟨rfl, rfl⟩) (⟨rfl, h2⟩ | ⟨rfl, e⟩)
    · rfl
    · have := hlt _ h1; omega
    · have := hlt _ h2; omega
    · rfl
  · refine LR.set (R := fun k x => (k = x ∧ usedAt h.cs k = true) ∨ (k = p ∧ x = h.cs.length)) ⟨rfl, fun j n m h1 h2 => ?_⟩ i (.inr ⟨_, _, rfl, rfl, .inr ⟨rfl, rfl⟩⟩)
    rw [h1] at h2
    rw [← Option.some.inj h2]
    exact hrr n (valid_root hv h1)
  · rintro k x (⟨rfl, h1⟩ | ⟨rfl, rfl⟩)
    · obtain ⟨q, hq, _⟩ := usedAt_iff.1 h1
      refine ⟨q, q, by rw [List.getElem?_set_ne (fun e => hne k h1 e.symm)]; exact hq, by rw [List.getElem?_append_left (hlt k h1)]; exact hq, rfl, rfl, fun j n m h1 h2 => ?_⟩
      rw [h1] at h2
      rw [← Option.some.inj h2]
      exact hrr n (valid_ref hv hq h1)
    · refine ⟨c, c, by simp [hp], by simp, rfl, rfl, fun j n m h1 h2 => ?_⟩
      rw [h1] at h2
      have e := hc n (List.mem_of_getElem? h1)
      exact .inl ⟨e, by rw [← Option.some.inj h2]; exact e⟩
theorem gap_same {h : Hp} {o : Cm} (hv : validH h = true) (hc : canH h o = true) (h4 : ¬ (o.op = 1 ∧ gapH h = 40)) (hl : o.op = 1 → h.cs.length < 40) : sameV (doH h o (gapH h)) (doH h o h.cs.length) = true := by
  have v1 : validH (doH h o (gapH h)) = true := doH_valid hc (gap_room hv h4)
  have v2 : validH (doH h o h.cs.length) = true := doH_valid hc (fun h1 => ⟨Nat.le_refl _, hl h1⟩)
  by_cases h1 : o.op = 1
  · rcases gapH_cases h with ⟨e, _⟩ | ⟨e1, e2, _⟩
    · rw [e] at v1 ⊢
      exact sameV_iff.2 ⟨v1, v1, rfl⟩
    · have S := new_sim hv e1 e2 (newCl o) (fun n hn => by simp only [newCl, List.mem_replicate] at hn; exact hn.2) o.a.toNat
      have d1 : doH h o (gapH h) = ⟨h.cs.set (gapH h) (newCl o), h.rt.set o.a.toNat (gapH h : Int)⟩ := by rw [doH, if_pos h1, putCl, if_neg (by omega)]
      have d2 : doH h o h.cs.length = ⟨h.cs ++ [newCl o], h.rt.set o.a.toNat (h.cs.length : Int)⟩ := by rw [doH, if_pos h1, putCl, if_pos rfl]
      rw [← d1, ← d2] at S
      exact sameV_iff.2 ⟨v1, v2, S.view v1 v2⟩
  · have : doH h o (gapH h) = doH h o h.cs.length := by
      unfold doH
      rw [if_neg h1, if_neg h1]
    rw [this]
    exact sameV_iff.2 ⟨v2, v2, rfl⟩
theorem sameV_trans {a b c : Hp} (h1 : sameV a b = true) (h2 : sameV b c = true) : sameV a c = true := by
  obtain ⟨a1, _, a3⟩ := sameV_iff.1 h1
  obtain ⟨_, b2, b3⟩ := sameV_iff.1 h2
  exact sameV_iff.2 ⟨a1, b2, a3.trans b3⟩
/-- P56: with room, a program sees what StepHeap shows -/
theorem stepCt_same {h : Hp} {l : List Int} {o : Cm} (hd : (stepCt h l o).2 = true) (hr : (stepH h o).2 = true) : sameV (stepCt h l o).1.1 (stepH h o).1 = true := by
  have h1 : okCt h l = true := by
    cases e : okCt h l
    · rw [stepCt_no (.inl e)] at hd; cases hd
    · rfl
  have h2 : okCm o = true := by
    cases e : okCm o
    · rw [stepCt_no (.inr e)] at hd; cases hd
    · rfl
  have hv := (okCt_iff.1 h1).1
  by_cases h3 : canH h o = false ∨ (o.op = 1 ∧ gapH h = 40)
  · rw [stepCt_cannot h1 h2 h3] at hd
    cases hd
  rw [not_or] at h3
  have h3' : canH h o = true := by simpa using h3.1
  have h5 : ¬ (o.op = 1 ∧ h.cs.length = 40) := by
    rintro ⟨e1, e2⟩
    simp [stepH, hv, h2, e1, e2] at hr
  have e : stepH h o = (doH h o h.cs.length, true) := by
    unfold stepH
    rw [hv, h2, h3']
    simp only [Bool.and_self, if_true, Bool.not_true, Bool.false_or]
    rw [if_neg]
    simpa using h5
  rw [stepCt_does h1 h2 h3' h3.2, e]
  exact sameV_trans (freeH_same (doH_valid h3' (gap_room hv h3.2))) (gap_same hv h3' h3.2 (fun q => by have := (valid_iff.1 hv).2.1; omega))
theorem empty_ok : okCt emptyH [] = true := by decide
/-- while a program runs with counts: at most as many cells as steps; a program sees what it sees without freeing; everything used has a count -/
structure RunsCt (x : Hp × List Int) (y : Hp) (n : Nat) : Prop where
  ok : okCt x.1 x.2 = true
  same : sameV x.1 y = true
  few : x.1.cs.length ≤ n ∧ y.cs.length ≤ n
  led : ∀ k, usedAt x.1.cs k = true → (k : Int) ∈ refsOf x.1
theorem RunsCt.start : RunsCt (emptyH, []) emptyH 0 := ⟨empty_ok, by rw [sameV_iff]; exact ⟨empty_valid, empty_valid, rfl⟩, by decide, fun k hk => by simp [emptyH, usedAt] at hk⟩
theorem doH_len {h : Hp} {o : Cm} {p : Nat} : (doH h o p).cs.length ≤ h.cs.length + 1 := by
  have h1 : ∀ c, (putCl h.cs p c).length ≤ h.cs.length + 1 := fun c => by unfold putCl; split <;> simp
  have h2 : ∀ k i x, (setRef h.cs k i x).length = h.cs.length := fun k i x => by unfold setRef; split <;> simp
  have h3 : ∀ k x, (setDat h.cs k x).length = h.cs.length := fun k x => by unfold setDat; split <;> simp
  unfold doH
  split
  · exact h1 _
  split
  · simp
  split
  · rw [h2]; omega
  split
  · simp
  split
  · simp
  split
  · rw [h3]; omega
  · omega
theorem stepH_len {h : Hp} {o : Cm} : (stepH h o).1.cs.length ≤ h.cs.length + 1 := by
  unfold stepH
  split
  · split
    · simp
    · exact doH_len
  · simp [zeroH]
theorem stepCt_len {h : Hp} {l : List Int} {o : Cm} : (stepCt h l o).1.1.cs.length ≤ h.cs.length + 1 := by
  unfold stepCt
  split
  · split
    · simp
    · simp only [freeH_len]; exact doH_len
  · simp [zeroH]
theorem RunsCt.step {x : Hp × List Int} {y : Hp} {n : Nat} (S : RunsCt x y n) {o : Cm} (ho : okCm o = true) (hn : n < 40) : RunsCt (stepCt x.1 x.2 o).1 (stepH y o).1 (n + 1) := by
  have hv := (okCt_iff.1 S.ok).1
  obtain ⟨_, hy, he⟩ := sameV_iff.1 S.same
  have hcan := (sim_of_view hv hy he).can hv hy o
  have hg := gapH_le x.1
  have hf := S.few
  refine ⟨stepCt_ok S.ok ho, ?_, ⟨Nat.le_trans stepCt_len (by omega), Nat.le_trans stepH_len (by omega)⟩, ?_⟩
  · cases hc : canH x.1 o
    · rw [stepCt_cannot S.ok ho (.inl hc)]
      have : stepH y o = (y, false) := by simp [stepH, hy, ho, ← hcan, hc]
      rw [this]
      exact S.same
    · have h4 : ¬ (o.op = 1 ∧ gapH x.1 = 40) := by omega
      refine sameV_trans (stepCt_same (by rw [stepCt_does S.ok ho hc h4]) ?_) (same_step S.same ho (by omega) (by omega))
      have h5 : ¬ (o.op = 1 ∧ x.1.cs.length = 40) := by omega
      unfold stepH
      rw [hv, ho, hc]
      simp only [Bool.and_self, if_true, Bool.not_true, Bool.false_or]
      rw [if_neg (by simpa using h5)]
  · by_cases h3 : canH x.1 o = false ∨ (o.op = 1 ∧ gapH x.1 = 40)
    · rw [stepCt_cannot S.ok ho h3]
      exact S.led
    · rw [not_or] at h3
      rw [stepCt_does S.ok ho (by simpa using h3.1) h3.2]
      exact fun k hk => freeH_led hk
end Hps
end Go.Proofs.Ytakdjiojahlnmaa

namespace Go.Proofs.Ytakdjiojahlnmaa
namespace Hps
/-- the references of the roots and of those of the first i cells that are not in the set -/
def outTo (h : Hp) (s : List Bool) : Nat → List Int
  | 0 => h.rt
  | i + 1 => outTo h s i ++ (if s[i]? = some true then [] else match h.cs[i]? with | some c => c.r | none => [])
def outOf (h : Hp) (s : List Bool) : List Int := outTo h s h.cs.length
theorem mem_outTo {h : Hp} {s : List Bool} {n : Int} : ∀ i, n ∈ outTo h s i ↔ n ∈ h.rt ∨ ∃ (j : Nat) (c : Cl), j < i ∧ h.cs[j]? = some c ∧ s[j]? ≠ some true ∧ n ∈ c.r
  | 0 => by
    rw [outTo]
    constructor
    · exact .inl
    · rintro (h1 | ⟨j, c, hj, _⟩)
      · exact h1
      · omega
  | i + 1 => by
    rw [outTo, List.mem_append, mem_outTo i]
    constructor
    · rintro ((h1 | ⟨j, c, hj, h2⟩) | h1)
      · exact .inl h1
      · exact .inr ⟨j, c, by omega, h2⟩
      · split at h1
        · simp at h1
        · next hs =>
          cases e : h.cs[i]? with
          | none => rw [e] at h1; simp at h1
          | some c => rw [e] at h1; exact .inr ⟨i, c, by omega, e, hs, h1⟩
    · rintro (h1 | ⟨j, c, hj, hc, hs, h2⟩)
      · exact .inl (.inl h1)
      · rcases Nat.lt_or_ge j i with h3 | h3
        · exact .inl (.inr ⟨j, c, h3, hc, hs, h2⟩)
        · obtain rfl : j = i := by omega
          rw [if_neg hs, hc]
          exact .inr h2
theorem mem_outOf {h : Hp} {s : List Bool} {n : Int} : n ∈ outOf h s ↔ n ∈ h.rt ∨ ∃ (j : Nat) (c : Cl), h.cs[j]? = some c ∧ s[j]? ≠ some true ∧ n ∈ c.r := by
  rw [outOf, mem_outTo]
  constructor
  · rintro (h1 | ⟨j, c, _, h2⟩)
    · exact .inl h1
    · exact .inr ⟨j, c, h2⟩
  · rintro (h1 | ⟨j, c, h2, h3⟩)
    · exact .inl h1
    · exact .inr ⟨j, c, (List.getElem?_eq_some_iff.1 h2).1, h2, h3⟩
/-- how many references lead to a cell of the set from outside of it; -1 for other cells -/
def trialAt (h : Hp) (s : List Bool) (k : Nat) : Int := if s[k]? = some true then (((outOf h s).count (k : Int) : Nat) : Int) else -1
theorem trial_pos {h : Hp} {s : List Bool} {k : Nat} : 0 < trialAt h s k ↔ s[k]? = some true ∧ (k : Int) ∈ outOf h s := by
  unfold trialAt
  by_cases e : s[k]? = some true
  · rw [if_pos e, ← List.count_pos_iff]
    constructor
    · intro h1
      exact ⟨e, by omega⟩
    · rintro ⟨_, h1⟩
      omega
  · rw [if_neg e]
    constructor
    · intro h1
      omega
    · rintro ⟨h1, _⟩
      exact absurd h1 e
/-- the cells of a set to which something leads from outside of it, up to number i -/
def outsideTo (h : Hp) (s : List Bool) (i : Nat) : List Int := ((List.range i).filter fun k => decide (0 < trialAt h s k)).map fun (k : Nat) => (k : Int)
def outsideL (h : Hp) (s : List Bool) : List Int := outsideTo h s h.cs.length
theorem mem_outside {h : Hp} {s : List Bool} {x : Int} : x ∈ outsideL h s ↔ ∃ k : Nat, x = k ∧ k < h.cs.length ∧ s[k]? = some true ∧ (k : Int) ∈ outOf h s := by
  unfold outsideL outsideTo
  simp only [List.mem_map, List.mem_filter, List.mem_range, decide_eq_true_eq, trial_pos]
  constructor
  · rintro ⟨k, ⟨h1, h2, h3⟩, rfl⟩
    exact ⟨k, rfl, h1, h2, h3⟩
  · rintro ⟨k, rfl, h1, h2, h3⟩
    exact ⟨k, ⟨h1, h2, h3⟩, rfl⟩
/-- for every cell whether it is in the first set and not in the second -/
def minusL (s t : List Bool) : List Bool := List.zipWith (fun a b => a && !b) s t
theorem minus_at {s t : List Bool} {k : Nat} (hl : s.length = t.length) : (minusL s t)[k]? = some true ↔ s[k]? = some true ∧ t[k]? ≠ some true := by
  unfold minusL
  rw [List.getElem?_zipWith]
  rcases Nat.lt_or_ge k s.length with hk | hk
  · rw [List.getElem?_eq_getElem hk, List.getElem?_eq_getElem (show k < t.length by omega)]
    cases s[k] <;> cases t[k]'(by omega) <;> simp
  · rw [List.getElem?_eq_none hk]
    simp
noncomputable def deadL (h : Hp) (n : Int) : List Bool := minusL (reachL h.cs [n]) (reachL h.cs (outsideL h (reachL h.cs [n])))
theorem reachL_some {cs : List Cl} {a : List Int} {k : Nat} : (reachL cs a)[k]? = some true ↔ k < cs.length ∧ Rch cs a k := by
  constructor
  · intro h
    have hk := (List.getElem?_eq_some_iff.1 h).1
    rw [reachL_len] at hk
    exact ⟨hk, (reachL_true hk).1 h⟩
  · rintro ⟨hk, h⟩
    exact (reachL_true hk).2 h
theorem from_used {h : Hp} (hv : validH h = true) {n : Nat} (hn : usedAt h.cs n = true) {k : Nat} (hr : Rch h.cs [(n : Int)] k) : usedAt h.cs k = true :=
  hr.used (okRefs_iff.2 fun m hm => by rw [List.mem_singleton] at hm; subst hm; exact okRef_iff.2 (.inr ⟨by omega, by simpa using hn⟩)) (valid_refs hv)
theorem Rch.self (cs : List Cl) (n : Nat) : Rch cs [(n : Int)] n := .root (by simp)
theorem Rch.then {cs : List Cl} {a : List Int} {m k : Nat} (h1 : Rch cs a m) (h2 : Rch cs [(m : Int)] k) : Rch cs a k :=
  h2.mono fun x hx => by
    rw [List.mem_singleton] at hx
    obtain rfl : x = m := by omega
    exact h1
/-- what leads to a set's cell from outside keeps it alive -/
def Alive (h : Hp) (n k : Nat) : Prop := Rch h.cs (outsideL h (reachL h.cs [(n : Int)])) k
theorem dead_iff {h : Hp} {n k : Nat} : (deadL h (n : Int))[k]? = some true ↔ k < h.cs.length ∧ Rch h.cs [(n : Int)] k ∧ ¬ Alive h n k := by
  unfold deadL
  rw [minus_at (by rw [reachL_len, reachL_len]), reachL_some]
  constructor
  · rintro ⟨⟨h1, h2⟩, h3⟩
    exact ⟨h1, h2, fun q => h3 (reachL_some.2 ⟨h1, q⟩)⟩
  · rintro ⟨h1, h2, h3⟩
    exact ⟨⟨h1, h2⟩, fun q => h3 (reachL_some.1 q).2⟩
theorem dead_used {h : Hp} (hv : validH h = true) {n : Nat} (hn : usedAt h.cs n = true) {k : Nat} (hd : (deadL h (n : Int))[k]? = some true) : usedAt h.cs k = true := from_used hv hn (dead_iff.1 hd).2.1
/-- what can be reached is alive, if it is in the set -/
theorem reached_alive {h : Hp} (hv : validH h = true) {n k : Nat} (hr : Rch h.cs h.rt k) (hf : Rch h.cs [(n : Int)] k) : Alive h n k := by
  induction hr with
  | root hk =>
    have hf' := hf
    refine .root (mem_outside.2 ⟨_, rfl, ?_, reachL_some.2 ⟨?_, hf⟩, mem_outOf.2 (.inl hk)⟩) <;> exact usedAt_lt (Rch.live hv (.root hk))
  | @step k m c h1 hc hm ih =>
    by_cases q : Rch h.cs [(n : Int)] k
    · exact .step (ih q) hc hm
    · have hl := usedAt_lt (Rch.live hv (.step h1 hc hm))
      exact .root (mem_outside.2 ⟨_, rfl, hl, reachL_some.2 ⟨hl, hf⟩, mem_outOf.2 (.inr ⟨k, c, hc, fun e => q (reachL_some.1 e).2, hm⟩)⟩)
/-- P61: what can be reached is not dead -/
theorem dead_lost {h : Hp} (hv : validH h = true) {n k : Nat} (hd : (deadL h (n : Int))[k]? = some true) : ¬ Rch h.cs h.rt k := fun hr => (dead_iff.1 hd).2.2 (reached_alive hv hr (dead_iff.1 hd).2.1)
/-- P61: only dead cells refer to dead cells -/
theorem dead_back {h : Hp} {n j m : Nat} {c : Cl} (hc : h.cs[j]? = some c) (hm : (m : Int) ∈ c.r) (hd : (deadL h (n : Int))[m]? = some true) : (deadL h (n : Int))[j]? = some true := by
  obtain ⟨h1, h2, h3⟩ := dead_iff.1 hd
  refine dead_iff.2 ⟨(List.getElem?_eq_some_iff.1 hc).1, ?_, fun q => h3 (.step q hc hm)⟩
  refine Classical.byContradiction fun q => h3 (.root (mem_outside.2 ⟨_, rfl, h1, reachL_some.2 ⟨h1, h2⟩, mem_outOf.2 (.inr ⟨j, c, hc, fun e => q (reachL_some.1 e).2, hm⟩)⟩))
/-- an outside cell leads to what is not dead though it is in the set -/
theorem spared {h : Hp} (hv : validH h = true) {n k : Nat} (hf : Rch h.cs [(n : Int)] k) (hk : k < h.cs.length) (hd : (deadL h (n : Int))[k]? ≠ some true) (hr : ¬ Rch h.cs h.rt k) :
    ∃ j : Nat, usedAt h.cs j = true ∧ Rch h.cs [(j : Int)] k ∧ ¬ Rch h.cs [(n : Int)] j := by
  have ha : Alive h n k := Classical.byContradiction fun q => hd (dead_iff.2 ⟨hk, hf, q⟩)
  unfold Alive at ha
  have key : ∀ o : Nat, (o : Int) ∈ outsideL h (reachL h.cs [(n : Int)]) → Rch h.cs [(o : Int)] k → ∃ j : Nat, usedAt h.cs j = true ∧ Rch h.cs [(j : Int)] k ∧ ¬ Rch h.cs [(n : Int)] j := by
    intro o ho hok
    obtain ⟨o', e, h1, h2, h3⟩ := mem_outside.1 ho
    obtain rfl : o = o' := by omega
    rcases mem_outOf.1 h3 with h4 | ⟨j, c, hc, hs, hm⟩
    · exact absurd (Rch.then (.root h4) hok) hr
    · refine ⟨j, ?_, Rch.then (.step (Rch.self _ j) hc hm) hok, fun q => hs (reachL_some.2 ⟨(List.getElem?_eq_some_iff.1 hc).1, q⟩)⟩
      refine usedAt_iff.2 ⟨c, hc, ?_⟩
      cases hu : c.u
      · have := valid_unused hv hc hu
        rw [this] at hm
        simp [freeCl] at hm
      · rfl
  have gen : ∀ k', Rch h.cs (outsideL h (reachL h.cs [(n : Int)])) k' → ∃ o : Nat, (o : Int) ∈ outsideL h (reachL h.cs [(n : Int)]) ∧ Rch h.cs [(o : Int)] k' := by
    intro k' hk'
    induction hk' with
    | root h1 => exact ⟨_, h1, Rch.self _ _⟩
    | step _ hc hm ih =>
      obtain ⟨o, h1, h2⟩ := ih
      exact ⟨o, h1, .step h2 hc hm⟩
  obtain ⟨o, h1, h2⟩ := gen k ha
  exact key o h1 h2
/-! a heap without its dead cells -/
/-- nothing that stays leads to a cell that goes -/
structure Drp (x : Hp) (D : List Bool) : Prop where
  rt : ∀ k : Nat, (k : Int) ∈ x.rt → D[k]? ≠ some true
  back : ∀ {j m : Nat} {c : Cl}, x.cs[j]? = some c → (m : Int) ∈ c.r → D[m]? = some true → D[j]? = some true
theorem dead_drp {h : Hp} (hv : validH h = true) (n : Nat) : Drp h (deadL h (n : Int)) := ⟨fun _ hk hd => dead_lost hv hd (.root hk), dead_back⟩
theorem drop_stays {x : Hp} {D : List Bool} {k : Nat} (hd : D[k]? ≠ some true) : (dropH x D).cs[k]? = x.cs[k]? := by
  rcases Nat.lt_or_ge k x.cs.length with hk | hk
  · rw [dropH, dropL_at _ _ _ _ (List.getElem?_eq_getElem hk), if_neg hd, List.getElem?_eq_getElem hk]
  · rw [List.getElem?_eq_none hk, List.getElem?_eq_none (by rw [dropH, dropL_len]; exact hk)]
theorem drop_cases {x : Hp} {D : List Bool} {k : Nat} {c : Cl} (hc : (dropH x D).cs[k]? = some c) : (D[k]? ≠ some true ∧ x.cs[k]? = some c) ∨ (D[k]? = some true ∧ c = zeroCl) := by
  by_cases e : D[k]? = some true
  · have hk := (List.getElem?_eq_some_iff.1 hc).1
    rw [dropH, dropL_len] at hk
    rw [dropH, dropL_at _ _ _ _ (List.getElem?_eq_getElem hk), if_pos e] at hc
    exact .inr ⟨e, (Option.some.inj hc).symm⟩
  · rw [drop_stays e] at hc
    exact .inl ⟨e, hc⟩
theorem drop_len (x : Hp) (D : List Bool) : (dropH x D).cs.length = x.cs.length := by rw [dropH, dropL_len]
theorem drop_usedAt {x : Hp} {D : List Bool} {k : Nat} : usedAt (dropH x D).cs k = true ↔ usedAt x.cs k = true ∧ D[k]? ≠ some true := by
  constructor
  · intro h
    obtain ⟨c, hc, hu⟩ := usedAt_iff.1 h
    rcases drop_cases hc with ⟨h1, h2⟩ | ⟨_, rfl⟩
    · exact ⟨usedAt_iff.2 ⟨c, h2, hu⟩, h1⟩
    · cases hu
  · rintro ⟨h1, h2⟩
    obtain ⟨c, hc, hu⟩ := usedAt_iff.1 h1
    exact usedAt_iff.2 ⟨c, by rw [drop_stays h2]; exact hc, hu⟩
theorem drop_rch_sub {x : Hp} {D : List Bool} {a : List Int} {k : Nat} (h : Rch (dropH x D).cs a k) : Rch x.cs a k := by
  induction h with
  | root hk => exact .root hk
  | step _ hc hm ih =>
    rcases drop_cases hc with ⟨_, h2⟩ | ⟨_, rfl⟩
    · exact .step ih h2 hm
    · simp [zeroCl] at hm
theorem Drp.rch {x : Hp} {D : List Bool} (P : Drp x D) {a : List Int} (ha : ∀ k : Nat, (k : Int) ∈ a → D[k]? ≠ some true) {k : Nat} (h : Rch x.cs a k) : D[k]? ≠ some true ∧ Rch (dropH x D).cs a k := by
  induction h with
  | root hk => exact ⟨ha _ hk, .root hk⟩
  | step _ hc hm ih =>
    refine ⟨fun e => ih.1 (P.back hc hm e), .step ih.2 (by rw [drop_stays ih.1]; exact hc) hm⟩
theorem Drp.reach {x : Hp} {D : List Bool} (P : Drp x D) {k : Nat} : Rch (dropH x D).cs (dropH x D).rt k ↔ Rch x.cs x.rt k := ⟨fun h => drop_rch_sub h, fun h => (P.rch P.rt h).2⟩
theorem Drp.valid {x : Hp} {D : List Bool} (P : Drp x D) (hv : validH x = true) : validH (dropH x D) = true := by
  obtain ⟨v1, v2, v3, v4⟩ := valid_iff.1 hv
  have key : ∀ n : Int, okRef x.cs n = true → (∀ k : Nat, n = k → D[k]? ≠ some true) → okRef (dropH x D).cs n = true := fun n ho hd => by
    rcases okRef_iff.1 ho with e | ⟨e, hu⟩
    · exact okRef_iff.2 (.inl e)
    · exact okRef_iff.2 (.inr ⟨e, drop_usedAt.2 ⟨hu, hd _ (by omega)⟩⟩)
  refine valid_iff.2 ⟨fun c hc => ?_, by rw [drop_len]; exact v2, v3, okRefs_iff.2 fun n hn => key n (okRefs_iff.1 v4 n hn) fun k e => P.rt k (e ▸ hn)⟩
  obtain ⟨k, hk⟩ := List.mem_iff_getElem?.1 hc
  rcases drop_cases hk with ⟨h1, h2⟩ | ⟨_, rfl⟩
  · obtain ⟨w1, w2, w3, w4⟩ := okCell_iff.1 (valid_cell hv h2)
    exact okCell_iff.2 ⟨w1, w2, w3, okRefs_iff.2 fun n hn => key n (okRefs_iff.1 w4 n hn) fun m e q => h1 (P.back h2 (e ▸ hn) q)⟩
  · simp [okCell, zeroCl, okRefs]
theorem Drp.sim {x : Hp} {D : List Bool} (P : Drp x D) (hv : validH x = true) : Sim x (dropH x D) (fun k y => k = y ∧ Rch x.cs x.rt k) := by
  refine ⟨fun k x y h1 h2 => by omega, fun k m x h1 h2 => by omega, ⟨rfl, fun i n m h1 h2 => ?_⟩, ?_⟩
  · have e : n = m := by
      rw [show (dropH x D).rt = x.rt from rfl, h1] at h2
      exact Option.some.inj h2
    subst e
    rcases okRef_iff.1 (valid_root hv h1) with e | ⟨e, _⟩
    · exact .inl ⟨e, e⟩
    · exact .inr ⟨n.toNat, n.toNat, by omega, by omega, rfl, .root (by rw [Int.toNat_of_nonneg e]; exact List.mem_of_getElem? h1)⟩
  · rintro k _ ⟨rfl, hr⟩
    obtain ⟨c, hc, _⟩ := usedAt_iff.1 (hr.live hv)
    refine ⟨c, c, hc, by rw [drop_stays (P.rch P.rt hr).1]; exact hc, rfl, rfl, fun i n m h1 h2 => ?_⟩
    have e : n = m := by
      rw [h1] at h2
      exact Option.some.inj h2
    subst e
    rcases okRef_iff.1 (valid_ref hv hc h1) with e | ⟨e, _⟩
    · exact .inl ⟨e, e⟩
    · exact .inr ⟨n.toNat, n.toNat, by omega, by omega, rfl, .step hr hc (by rw [Int.toNat_of_nonneg e]; exact List.mem_of_getElem? h1)⟩
theorem Drp.same {x : Hp} {D : List Bool} (P : Drp x D) (hv : validH x = true) : sameV (dropH x D) x = true := by
  rw [sameV_comm]
  exact sameV_iff.2 ⟨hv, P.valid hv, (P.sim hv).view hv (P.valid hv)⟩
theorem drop_count : ∀ (cs : List Cl) (D : List Bool), (∀ k : Nat, D[k]? = some true → usedAt cs k = true) → (dropL cs D).countP (·.u) + D.count true = cs.countP (·.u)
  | [], D, h => by
    have : D.count true = 0 := by
      rw [List.count_eq_zero]
      intro hm
      obtain ⟨k, hk⟩ := List.mem_iff_getElem?.1 hm
      have := usedAt_lt (h k hk)
      simp at this
    rw [this]
    cases D <;> rfl
  | c :: cs, [], h => by simp [dropL]
  | c :: cs, b :: D, h => by
    have ih := drop_count cs D fun k hk => by
      have := h (k + 1) (by simpa using hk)
      simpa [usedAt] using this
    cases b
    · simp only [dropL, Bool.false_eq_true, if_false, List.countP_cons]
      rw [List.count_cons_of_ne (by decide)]
      omega
    · have hu : c.u = true := by
        have := h 0 (by simp)
        simpa [usedAt] using this
      simp only [dropL, if_true, List.countP_cons, List.count_cons_self, hu, zeroCl, Bool.false_eq_true, if_false]
      omega
theorem drop_usedN {x : Hp} {D : List Bool} (h : ∀ k : Nat, D[k]? = some true → usedAt x.cs k = true) : usedN (dropH x D) + D.count true = usedN x := by
  rw [usedN_eq, usedN_eq]
  exact drop_count x.cs D h
/-! collecting -/
/-- one step: the dead cells of cell number k go -/
noncomputable def ccStep (x : Hp × Nat) (k : Nat) : Hp × Nat := if usedAt x.1.cs k = true then (dropH x.1 (deadL x.1 (k : Int)), x.2 + (deadL x.1 (k : Int)).count true) else x
/-- what holds before cell number m is suspected -/
structure Cc (h x : Hp) (f m : Nat) : Prop where
  ok : validH x = true
  len : x.cs.length = h.cs.length
  same : sameV x h = true
  cnt : usedN x + f = usedN h
  led : ∀ k, k < m → usedAt x.cs k = true → ¬ Rch x.cs x.rt k → ∃ j, m ≤ j ∧ usedAt x.cs j = true ∧ Rch x.cs [(j : Int)] k
theorem sameV_refl {h : Hp} (hv : validH h = true) : sameV h h = true := sameV_iff.2 ⟨hv, hv, rfl⟩
theorem Cc.start {h : Hp} (hv : validH h = true) : Cc h h 0 0 := ⟨hv, rfl, sameV_refl hv, rfl, fun k hk => by omega⟩
theorem Cc.step {h x : Hp} {f m : Nat} (C : Cc h x f m) : Cc h (ccStep (x, f) m).1 (ccStep (x, f) m).2 (m + 1) := by
  unfold ccStep
  by_cases hu : usedAt x.cs m = true
  · rw [if_pos hu]
    have P := dead_drp C.ok m
    have hv' := P.valid C.ok
    refine ⟨hv', by rw [drop_len]; exact C.len, sameV_trans (P.same C.ok) C.same, ?_, fun k hk hku hkr => ?_⟩
    · have h1 := drop_usedN (x := x) (D := deadL x (m : Int)) fun k hk => dead_used C.ok hu hk
      have h2 := C.cnt
      simp only
      omega
    · simp only at hku hkr ⊢
      rw [P.reach] at hkr
      obtain ⟨hku, hkd⟩ := drop_usedAt.1 hku
      -- a cell outside of the set that leads to a spared one
      have far : ∀ j, usedAt x.cs j = true → Rch x.cs [(j : Int)] k → ¬ Rch x.cs [(m : Int)] j → ∃ j, m + 1 ≤ j ∧ usedAt (dropH x (deadL x (m : Int))).cs j = true ∧ Rch (dropH x (deadL x (m : Int))).cs [(j : Int)] k := by
        intro j hj hjk hjm
        have fin : ∀ i, m ≤ i → usedAt x.cs i = true → Rch x.cs [(i : Int)] k → ¬ Rch x.cs [(m : Int)] i → ∃ j, m + 1 ≤ j ∧ usedAt (dropH x (deadL x (m : Int))).cs j = true ∧ Rch (dropH x (deadL x (m : Int))).cs [(j : Int)] k := by
          intro i hi hiu hik him
          have hid : (deadL x (m : Int))[i]? ≠ some true := fun e => him (dead_iff.1 e).2.1
          have hne : i ≠ m := fun e => him (e ▸ Rch.self _ _)
          refine ⟨i, by omega, drop_usedAt.2 ⟨hiu, hid⟩, (P.rch (fun y hy => ?_) hik).2⟩
          rw [List.mem_singleton] at hy
          obtain rfl : y = i := by omega
          exact hid
        rcases Nat.lt_or_ge j m with h1 | h1
        · obtain ⟨i, hi, hiu, hij⟩ := C.led j h1 hj (fun q => hkr (Rch.then q hjk))
          exact fin i hi hiu (Rch.then hij hjk) fun q => hjm (Rch.then q hij)
        · exact fin j h1 hj hjk hjm
      have hkl := usedAt_lt hku
      by_cases hf : Rch x.cs [(m : Int)] k
      · obtain ⟨j, h1, h2, h3⟩ := spared C.ok hf hkl hkd hkr
        exact far j h1 h2 h3
      · have hkm : k < m := by
          have : k ≠ m := fun e => hf (e ▸ Rch.self _ _)
          omega
        obtain ⟨j, h1, h2, h3⟩ := C.led k hkm hku hkr
        exact far j h2 h3 fun q => hf (Rch.then q h3)
  · rw [if_neg hu]
    refine ⟨C.ok, C.len, C.same, C.cnt, fun k hk hku hkr => ?_⟩
    have hne : ∀ j, usedAt x.cs j = true → j ≠ m := fun j hj e => hu (e ▸ hj)
    have := hne k hku
    obtain ⟨j, h1, h2, h3⟩ := C.led k (by omega) hku hkr
    have := hne j h2
    exact ⟨j, by omega, h2, h3⟩
/-- at the end nothing has leaked -/
theorem Cc.fin {h x : Hp} {f : Nat} (C : Cc h x f h.cs.length) {k : Nat} (hu : usedAt x.cs k = true) : Rch x.cs x.rt k := by
  refine Classical.byContradiction fun q => ?_
  have hk := usedAt_lt hu
  rw [C.len] at hk
  obtain ⟨j, h1, h2, _⟩ := C.led k hk hu q
  have := usedAt_lt h2
  rw [C.len] at this
  omega
end Hps
end Go.Proofs.Ytakdjiojahlnmaa

namespace Go.Proofs.Ytakdjiojahlnmaa
open Go.RowKit
set_option maxRecDepth 100000
set_option maxHeartbeats 1000000 in
theorem l8Place_any (A R : Option Addr) (n c m d : Nat) (h : Hp) (i p : Int) (w : World) (hs : HS w w.heap.size A n R m h) (_hn : n ≤ 1099511627776) (ho : Hps.okRef h.cs i = true) :
    Calls Try.prog 112 #[heapV A n c R m d, .int .i64 i, .int .i64 p] w fun e w' => e = .returned (.bool (Hps.placeH h.cs i p)) ∧ Below w.heap.size w w' := by
  have hlc := hs.cells.1
  have bb : Below w.heap.size w (w.alloc (.cells #[.slice A n c, .slice R m d] 26)) := (Below.refl _ _).alloc (Nat.le_refl _) _
  by_cases h0 : 0 ≤ i
  · obtain ⟨y, rfl, hy, _⟩ := Hps.okRef_nat ho h0
    obtain ⟨g, o, cl, A', m', cc, rfl, hg, hcl, d1, d2, d3, hmc, hi⟩ := (hs.cells.below bb).at_ (k := y) (by omega)
    have hyn : (y : Int) < n := by omega
    have HP := Lib.hid (show Hps.placeH h.cs (y : Int) p = decide (p < (m' : Int)) by
      simp [Hps.placeH, hcl, hi.1])
    clear ho hcl hy d1 d2 hi
    go_enter Try.func112, Try.ntmps112
    go_wp2_with fail
    go_ret
    exact ⟨by rw [HP.out]; rfl, bb⟩
  · have HP := Lib.hid (show Hps.placeH h.cs i p = false by rw [Hps.placeH, decide_eq_false h0]; rfl)
    have h0' : decide ((0 : Int) ≤ i) = false := decide_eq_false h0
    go_enter Try.func112, Try.ntmps112
    go_wp2_with fail
    go_ret
    exact ⟨by rw [HP.out]; rfl, bb⟩
namespace Hps
theorem canH_no {h : Hp} {o : Cm} (e : validH h = false ∨ okCm o = false) : canH h o = false := by
  unfold canH
  rcases e with e | e <;> simp [e]
theorem canH_get {h : Hp} {o : Cm} (h1 : validH h = true) (h2 : okCm o = true) (e : o.op = 2) : canH h o = placeH h.cs (rootAt h o.b) o.c := by
  simp [canH, h1, h2, e]
theorem canH_set {h : Hp} {o : Cm} (h1 : validH h = true) (h2 : okCm o = true) (e : o.op = 3) : canH h o = placeH h.cs (rootAt h o.a) o.c := by
  simp [canH, h1, h2, e]
theorem canH_data {h : Hp} {o : Cm} (h1 : validH h = true) (h2 : okCm o = true) (e : o.op = 6) : canH h o = decide (0 ≤ rootAt h o.a) := by
  simp [canH, h1, h2, e]
theorem canH_else {h : Hp} {o : Cm} (h1 : validH h = true) (h2 : okCm o = true) (e2 : ¬ o.op = 2) (e3 : ¬ o.op = 3) (e6 : ¬ o.op = 6) : canH h o = true := by
  simp [canH, h1, h2, e2, e3, e6]
theorem rootAt_nat {h : Hp} {k : Nat} {x : Int} (hx : h.rt[k]? = some x) : rootAt h (k : Int) = x := by simp [rootAt, hx]
end Hps
set_option maxHeartbeats 2000000 in
theorem mCommandPossible_any (A R : Option Addr) (n c m d : Nat) (h : Hp) (o : Cm) (w : World) (hs : HS w w.heap.size A n R m h) (hn : n ≤ 1099511627776) (hm : m ≤ 1099511627776) :
    Calls Try.prog 107 #[heapV A n c R m d, cmV o] w fun e w' => e = .returned (.bool (Hps.canH h o)) ∧ Below w.heap.size w w' := by
  have b2 : Below w.heap.size w ((w.alloc (.cells #[.slice A n c, .slice R m d] 26)).alloc (.cells #[.int .i64 o.op, .int .i64 o.a, .int .i64 o.b, .int .i64 o.c] 128)) := ((Below.refl w.heap.size w).alloc (Nat.le_refl _) _).alloc (by simp) _
  have s2 := hs.up b2
  have q1 := (Rw.new w 26 #[.slice A n c, .slice R m d]).alloc (.cells #[.int .i64 o.op, .int .i64 o.a, .int .i64 o.b, .int .i64 o.c] 128)
  have q2 := Rw.new (w.alloc (.cells #[.slice A n c, .slice R m d] 26)) 128 #[.int .i64 o.op, .int .i64 o.a, .int .i64 o.b, .int .i64 o.c]
  rw [World.size_alloc] at q2
  go_enter Try.func107, Try.ntmps107
  go_wp2_with fail
  refine (mHeapValid_any _ _ _ _ _ _ h _ s2 hn hm).mono ?_
  cases hv : Hps.validH h
  · have R0 := Lib.hid (Hps.canH_no (o := o) (.inl hv))
    rintro e w1 ⟨rfl, b1⟩
    have bb := b2.trans (b1.mono b2.size)
    go_wp2_with fail
    go_ret
    exact ⟨by rw [R0.out]; rfl, bb⟩
  rintro e w1 ⟨rfl, b1⟩
  replace q1 := q1.keep b1 q1.lt
  replace q2 := q2.keep b1 q2.lt
  replace b2 := b2.trans (b1.mono b2.size)
  replace s2 := hs.up b2
  have z0 : w1.cell? ⟨w.heap.size + 1, 0, none⟩ = some (.int .i64 o.op) := q2.cell 0
  have z1 : w1.cell? ⟨w.heap.size + 1, 1, none⟩ = some (.int .i64 o.a) := q2.cell 1
  have z2 : w1.cell? ⟨w.heap.size + 1, 2, none⟩ = some (.int .i64 o.b) := q2.cell 2
  have z3 : w1.cell? ⟨w.heap.size + 1, 3, none⟩ = some (.int .i64 o.c) := q2.cell 3
  clear b1
  go_wp2_with fail
  refine (mCommandValid_any o _).mono ?_
  cases ho : Hps.okCm o
  · have R0 := Lib.hid (Hps.canH_no (h := h) (.inr ho))
    rintro e w3 ⟨rfl, b1⟩
    have bb := b2.trans (b1.mono b2.size)
    go_wp2_with fail
    go_ret
    exact ⟨by rw [R0.out]; rfl, bb⟩
  rintro e w3 ⟨rfl, b1⟩
  replace q1 := q1.keep b1 q1.lt
  replace q2 := q2.keep b1 q2.lt
  replace b2 := b2.trans (b1.mono b2.size)
  replace s2 := hs.up b2
  have x0 : w3.cell? ⟨w.heap.size, 0, none⟩ = some (.slice A n c) := q1.cell 0
  have x1 : w3.cell? ⟨w.heap.size, 1, none⟩ = some (.slice R m d) := q1.cell 1
  have y0 : w3.cell? ⟨w.heap.size + 1, 0, none⟩ = some (.int .i64 o.op) := q2.cell 0
  have y1 : w3.cell? ⟨w.heap.size + 1, 1, none⟩ = some (.int .i64 o.a) := q2.cell 1
  have y2 : w3.cell? ⟨w.heap.size + 1, 2, none⟩ = some (.int .i64 o.b) := q2.cell 2
  have y3 : w3.cell? ⟨w.heap.size + 1, 3, none⟩ = some (.int .i64 o.c) := q2.cell 3
  have hr4 := (Hps.valid_iff.1 hv).2.2.1
  have hm4 : m = 4 := by rw [← hs.roots.1]; exact hr4
  clear b1 q1 q2 hr4 z0 z1 z2 z3
  by_cases e2 : o.op = 2
  · have R0 := Lib.hid (Hps.canH_get hv ho e2)
    obtain ⟨_, ⟨hb1, hb2⟩, _⟩ := (Hps.okCm_get (.inl e2)).1 ho
    obtain ⟨b, hbn⟩ := Int.eq_ofNat_of_zero_le hb1
    obtain ⟨g, og, x, e1, hg, hx, d1⟩ := s2.roots.at_ (k := b) (by omega)
    have HRt := Lib.hid (Hps.rootAt_nat hx)
    have ok := Hps.valid_root hv hx
    have hb4 : (b : Int) < m := by omega
    subst e1
    have BB := Lib.hid b2
    rw [e2] at y0
    rw [hbn] at y2
    clear hx e2 hb1 hb2 ho hv hm4 b2 y1
    go_wp2_with fail
    go_still_tail 9, (by kernel_rfl)
    change wpList _ _ _ _ _ w3.drew
    have b4 := BB.out.drew
    have s4 := hs.up b4
    generalize w3.drew = w4 at b4 s4
    go_wp2_with fail
    refine (l8Place_any _ _ _ _ _ _ h _ _ _ s4 hn ok).mono ?_
    rintro e w5 ⟨rfl, b5⟩
    have b6 := b4.trans (b5.mono b4.size)
    go_wp2_with fail
    go_ret
    exact ⟨by rw [R0.out, hbn, HRt.out]; rfl, b6⟩
  by_cases e3 : o.op = 3
  · have R0 := Lib.hid (Hps.canH_set hv ho e3)
    obtain ⟨hb1, hb2⟩ := Hps.okCm_a ho
    obtain ⟨b, hbn⟩ := Int.eq_ofNat_of_zero_le hb1
    obtain ⟨g, og, x, e1, hg, hx, d1⟩ := s2.roots.at_ (k := b) (by omega)
    have HRt := Lib.hid (Hps.rootAt_nat hx)
    have ok := Hps.valid_root hv hx
    have hb4 : (b : Int) < m := by omega
    subst e1
    have BB := Lib.hid b2
    rw [e3] at y0
    rw [hbn] at y1
    clear hx e2 e3 hb1 hb2 ho hv hm4 b2 y2
    go_wp2_with fail
    go_still_tail 9, (by kernel_rfl)
    change wpList _ _ _ _ _ w3.drew
    have b4 := BB.out.drew
    have s4 := hs.up b4
    generalize w3.drew = w4 at b4 s4
    go_wp2_with fail
    refine (l8Place_any _ _ _ _ _ _ h _ _ _ s4 hn ok).mono ?_
    rintro e w5 ⟨rfl, b5⟩
    have b6 := b4.trans (b5.mono b4.size)
    go_wp2_with fail
    go_ret
    exact ⟨by rw [R0.out, hbn, HRt.out]; rfl, b6⟩
  by_cases e6 : o.op = 6
  · have R0 := Lib.hid (Hps.canH_data hv ho e6)
    obtain ⟨hb1, hb2⟩ := Hps.okCm_a ho
    obtain ⟨b, hbn⟩ := Int.eq_ofNat_of_zero_le hb1
    obtain ⟨g, og, x, e1, hg, hx, d1⟩ := s2.roots.at_ (k := b) (by omega)
    have HRt := Lib.hid (Hps.rootAt_nat hx)
    have hb4 : (b : Int) < m := by omega
    subst e1
    rw [e6] at y0
    rw [hbn] at y1
    clear hx e2 e3 e6 hb1 hb2 ho hv hm4 y2 y3
    go_wp2_with fail
    go_ret
    exact ⟨by rw [R0.out, hbn, HRt.out]; rfl, b2⟩
  have R0 := Lib.hid (Hps.canH_else hv ho e2 e3 e6)
  clear ho hv hm4 y1 y2 y3 x0 x1
  go_wp2_with fail
  go_ret
  exact ⟨by rw [R0.out]; rfl, b2⟩
end Go.Proofs.Ytakdjiojahlnmaa

namespace Go.Proofs.Ytakdjiojahlnmaa
open Go.RowKit
theorem wpList_appendC {w : World} {ops : Array Oper} {rest : List Oper} {o : Oper} {a : Act} {Q : Exit → Act → World → Prop} (hgd : o.guard = none) (s x : Operand)
    (ho : o.op = .call { callee := .builtin .append, args := #[s, x], argTypes := #[23, 23] })
    (base : Nat) (v : Value) (n : Nat) (vs : List Value) (hs : a.eval s = v) (hown : w.ownsRow base 45 3 v n vs) (gs : Nat) (u : Bool) (d : Int) (A8 : Option Addr) (m8 c8 : Nat) (hx : a.eval x = .slice (some ⟨gs, 0, none⟩) 1 1)
    (hr : Rw w gs 45 #[.bool u, .int .i64 d, .slice A8 m8 c8]) (hn : n + 1 ≤ 1099511627776) (hbase : base ≤ w.heap.size)
    (h : ∀ v' w' A9 c9, v' = .slice A9 (n + 1) c9 → w'.ownsRow base 45 3 v' (n + 1) (vs ++ [.bool u, .int .i64 d, .slice A8 m8 c8]) → w.grownBy w' v.ownBlock → (v'.ownBlock = v.ownBlock ∨ v'.ownBlock = some w.heap.size) → wpList Try.prog ops Q rest (a.put o.dst v') w') : wpList Try.prog ops Q (o :: rest) a w :=
  wpList_plain hgd fun _ hK => app_stepC hgd s x ho base v n vs hs hown gs u d A8 m8 c8 hx hr hn hbase fun v' w' A9 c9 e1 e2 e3 e4 => hK _ _ (h v' w' A9 c9 e1 e2 e3 e4)
theorem OwnI.cell_at {w : World} {base g c n j : Nat} {xs : List Int} (h : OwnI w base (.slice (some ⟨g, 0, none⟩) n c) xs) (hj : j < n) : ∃ x : Int, xs[j]? = some x ∧ w.cell? ⟨g, j, none⟩ = some (.int .i64 x) := by
  obtain ⟨g', o', x, e, _, hx, hc⟩ := h.reads.at_ hj
  injection e with e
  injection e with e1 e2
  subst e1 e2
  rw [Nat.zero_add] at hc
  exact ⟨x, hx, hc⟩
/-- a cell of a heap of the call's own, in memory -/
theorem OwnHx.cell_at {w : World} {base n c k : Nat} {A : Option Addr} {vr : Value} {rvs : List Value} {h : Hp} {cl : Cl} (S : OwnHx w base (.slice A n c) vr rvs h) (hc : h.cs[k]? = some cl) :
    ∃ (g : Nat) (v : Value), A = some ⟨g, 0, none⟩ ∧ base ≤ g ∧ g < w.heap.size ∧ rvs[k]? = some v ∧ OwnI w base v cl.r ∧ w.cell? ⟨g, k * 3, none⟩ = some (.bool cl.u) ∧ w.cell? ⟨g, k * 3 + 1, none⟩ = some (.int .i64 cl.d) ∧ w.cell? ⟨g, k * 3 + 2, none⟩ = some v ∧ ∀ i, w.frozen? ⟨g, i, none⟩ = false := by
  have hk : k < h.cs.length := (List.getElem?_eq_some_iff.1 hc).1
  obtain ⟨v, hv, hi⟩ := S.ref hc
  obtain ⟨f1, f2, f3⟩ := flatC_at _ _ _ _ _ hc hv
  obtain ⟨A', c', R', d', e1, _, _, _, fA, _⟩ := S.form
  injection e1 with e1 e2 e3
  subst e1 e2 e3
  obtain ⟨g, rfl, h1, h2⟩ := fA (by omega)
  exact ⟨g, v, rfl, h1, h2, hv, hi, (World.ownsRow.cellAt S.row _ (by omega)).trans f1, (World.ownsRow.cellAt S.row _ (by omega)).trans f2, (World.ownsRow.cellAt S.row _ (by omega)).trans f3, fun i => World.ownsRow.frozenAt S.row i⟩
/-- a cell is put behind the last one -/
theorem OwnHx.snoc {w w1 : World} {base : Nat} {vc vr v9 v8 : Value} {rvs : List Value} {h : Hp} {cl : Cl} (S : OwnHx w base vc vr rvs h) (hG : w.grownBy w1 vc.ownBlock)
    (o9 : w1.ownsRow base 45 3 v9 (h.cs.length + 1) (flatC h.cs rvs ++ [.bool cl.u, .int .i64 cl.d, v8])) (q : v9.ownBlock = vc.ownBlock ∨ v9.ownBlock = some w.heap.size)
    (o8 : OwnI w base v8 cl.r) (hap : ∀ v ∈ vc :: vr :: rvs, v8.ownBlock = none ∨ v8.ownBlock ≠ v.ownBlock) : OwnHx w1 base v9 vr (rvs ++ [v8]) ⟨h.cs ++ [cl], h.rt⟩ := by
  have hsp := S.sep
  unfold Sep at hsp
  simp only [List.pairwise_cons, List.mem_cons] at hsp
  obtain ⟨sp1, sp2, sp3⟩ := hsp
  have h8lt : ∀ kk, v8.ownBlock = some kk → kk < w.heap.size := fun kk hk => (World.ownsRow.lt o8 kk hk).2
  have hvr : ∀ kk, vr.ownBlock = some kk → kk < w.heap.size := fun kk hk => (S.blocks (by simp) hk).2
  have hrv : ∀ v ∈ rvs, ∀ kk, v.ownBlock = some kk → kk < w.heap.size := fun v hv kk hk => (S.blocks (by simp [hv]) hk).2
  have h9old : ∀ v : Value, (vc.ownBlock = none ∨ vc.ownBlock ≠ v.ownBlock) → (∀ kk, v.ownBlock = some kk → kk < w.heap.size) → v9.ownBlock = none ∨ v9.ownBlock ≠ v.ownBlock := fun v hv hlt' => by
    rcases q with e | e
    · rw [e]; exact hv
    · right
      rw [e]
      intro e'
      have := hlt' _ e'.symm
      omega
  refine ⟨by simp [S.len], ?_, ?_, S.roots.far hG (sep_back (sp1 vr (.inl rfl))), ?_⟩
  · have e : flatC (h.cs ++ [cl]) (rvs ++ [v8]) = flatC h.cs rvs ++ [.bool cl.u, .int .i64 cl.d, v8] := by
      rw [flatC_append _ _ _ _ S.len]
      simp [flatC]
    rw [e, List.length_append, List.length_singleton]
    exact o9
  · intro j c' v hc' hv
    simp only at hc'
    rcases Nat.lt_or_ge j h.cs.length with hj | hj
    · rw [List.getElem?_append_left hj] at hc'
      rw [List.getElem?_append_left (by rw [S.len]; exact hj)] at hv
      exact (S.refs j c' v hc' hv).far hG (sep_back (sp1 v (.inr (List.mem_of_getElem? hv))))
    · rw [List.getElem?_append_right hj] at hc'
      rw [List.getElem?_append_right (by rw [S.len]; exact hj), S.len] at hv
      have hjk : j - h.cs.length = 0 := by
        rcases Nat.eq_zero_or_pos (j - h.cs.length) with e | e
        · exact e
        · rw [List.getElem?_eq_none (by simp; omega)] at hv; cases hv
      rw [hjk] at hc' hv
      simp at hc' hv
      subst hc' hv
      exact o8.far hG (hap vc (by simp))
  · unfold Sep
    simp only [List.pairwise_cons, List.mem_cons, List.mem_append, List.pairwise_append, List.not_mem_nil, or_false]
    refine ⟨fun v hv => ?_, fun v hv => ?_, sp3, ⟨by simp, List.Pairwise.nil⟩, fun a ha v hv => ?_⟩
    · rcases hv with rfl | hv | rfl
      · exact h9old v (sp1 v (.inl rfl)) hvr
      · exact h9old v (sp1 v (.inr hv)) (hrv v hv)
      · exact h9old v (sep_back (hap vc (by simp))) h8lt
    · rcases hv with hv | rfl
      · exact sp2 v hv
      · exact sep_back (hap vr (by simp))
    · subst hv
      exact sep_back (hap a (by simp [ha]))
/-- the copy in the box b, and the boxes of the arguments and of the result -/
structure DoSt (w wr : World) (b : Nat) (hb cb rb : Array Value) (vc vr : Value) (rvs : List Value) (h : Hp) : Prop where
  own : OwnHx wr (w.heap.size + 3) vc vr rvs h
  apart : Apart (some b) (vc :: vr :: rvs)
  box : Rw wr b 26 #[vc, vr]
  arg : Rw wr w.heap.size 26 hb
  cmd : Rw wr (w.heap.size + 1) 128 cb
  res : Rw wr (w.heap.size + 2) 26 rb
  bel : Below w.heap.size w wr
  lo : w.heap.size + 3 ≤ b
section
variable {w wr w1 : World} {b g c d i k : Nat} {hb cb rb : Array Value} {vc vr : Value} {rvs : List Value} {h : Hp} {cl : Cl}
theorem DoSt.drew (S : DoSt w wr b hb cb rb vc vr rvs h) : DoSt w wr.drew b hb cb rb vc vr rvs h := by
  have hw : Below wr.heap.size wr wr.drew := (Below.refl _ _).drew
  exact ⟨S.own.below hw (Nat.le_refl _), S.apart, S.box.keep hw S.box.lt, S.arg.keep hw S.arg.lt, S.cmd.keep hw S.cmd.lt, S.res.keep hw S.res.lt, S.bel.drew, S.lo⟩
theorem DoSt.up (S : DoSt w wr b hb cb rb vc vr rvs h) (hw : Below wr.heap.size wr w1) : DoSt w w1 b hb cb rb vc vr rvs h :=
  ⟨S.own.below hw (Nat.le_refl _), S.apart, S.box.keep hw S.box.lt, S.arg.keep hw S.arg.lt, S.cmd.keep hw S.cmd.lt, S.res.keep hw S.res.lt, S.bel.trans (hw.mono S.bel.size), S.lo⟩
/-- into a block of the copy's own something is written -/
theorem DoSt.into (S : DoSt w wr b hb cb rb vc vr rvs h) {v : Value} (hv : v ∈ vc :: vr :: rvs) (hg : v.ownBlock = some g) {rvs' : List Value} {h' : Hp} (u : Value)
    (ho : OwnHx (wr.setCell ⟨g, i, none⟩ u) (w.heap.size + 3) vc vr rvs' h') (ha : ∀ v ∈ rvs', v.ownBlock = none ∨ v.ownBlock ≠ some b) : DoSt w (wr.setCell ⟨g, i, none⟩ u) b hb cb rb vc vr rvs' h' := by
  have h1 := S.own.blocks hv hg
  have h2 : b ≠ g := by
    rcases S.apart v hv with e | e
    · rw [hg] at e; cases e
    · intro e'; rw [hg] at e; exact e (by rw [e'])
  refine ⟨ho, ?_, S.box.other h2 u, S.arg.other (by omega) u, S.cmd.other (by omega) u, S.res.other (by omega) u, S.bel.setCell (p := ⟨g, i, none⟩) (by show w.heap.size ≤ g; omega) u, S.lo⟩
  intro x hx
  simp only [List.mem_cons] at hx
  rcases hx with rfl | rfl | hx
  · exact S.apart x (by simp)
  · exact S.apart x (by simp)
  · exact ha x hx
theorem DoSt.root {m : Nat} (S : DoSt w wr b hb cb rb vc (.slice (some ⟨g, 0, none⟩) m d) rvs h) (hm : h.rt.length = m) (x : Int) : DoSt w (wr.setCell ⟨g, i, none⟩ (.int .i64 x)) b hb cb rb vc (.slice (some ⟨g, 0, none⟩) m d) rvs ⟨h.cs, h.rt.set i x⟩ := by
  subst hm
  exact S.into (v := .slice (some ⟨g, 0, none⟩) h.rt.length d) (by simp) rfl _ (S.own.root x) fun v hv => S.apart v (by simp [hv])
theorem DoSt.data {n : Nat} (S : DoSt w wr b hb cb rb (.slice (some ⟨g, 0, none⟩) n d) vr rvs h) (hn : h.cs.length = n) (hc : h.cs[k]? = some cl) (x : Int) : DoSt w (wr.setCell ⟨g, k * 3 + 1, none⟩ (.int .i64 x)) b hb cb rb (.slice (some ⟨g, 0, none⟩) n d) vr rvs ⟨h.cs.set k ⟨cl.u, x, cl.r⟩, h.rt⟩ := by
  subst hn
  exact S.into (v := .slice (some ⟨g, 0, none⟩) h.cs.length d) (by simp) rfl _ (S.own.data hc x) fun v hv => S.apart v (by simp [hv])
theorem DoSt.ref1 {m : Nat} (S : DoSt w wr b hb cb rb vc vr rvs h) (hc : h.cs[k]? = some cl) (hv : rvs[k]? = some (.slice (some ⟨g, 0, none⟩) m d)) (hm : cl.r.length = m) (x : Int) : DoSt w (wr.setCell ⟨g, i, none⟩ (.int .i64 x)) b hb cb rb vc vr rvs ⟨h.cs.set k ⟨cl.u, cl.d, cl.r.set i x⟩, h.rt⟩ := by
  subst hm
  exact S.into (v := .slice (some ⟨g, 0, none⟩) cl.r.length d) (by simp [List.mem_of_getElem? hv]) rfl _ (S.own.ref1 hc hv x) fun v hv => S.apart v (by simp [hv])
/-- a cell is put behind the last one, and the box holds the new slice -/
theorem DoSt.snoc {v9 v8 : Value} (S : DoSt w wr b hb cb rb vc vr rvs h) (hG : wr.grownBy w1 vc.ownBlock)
    (o9 : w1.ownsRow (w.heap.size + 3) 45 3 v9 (h.cs.length + 1) (flatC h.cs rvs ++ [.bool cl.u, .int .i64 cl.d, v8])) (q : v9.ownBlock = vc.ownBlock ∨ v9.ownBlock = some wr.heap.size)
    (o8 : OwnI wr (w.heap.size + 3) v8 cl.r) (hap : ∀ v ∈ vc :: vr :: rvs, v8.ownBlock = none ∨ v8.ownBlock ≠ v.ownBlock) (h8b : v8.ownBlock ≠ some b) :
    DoSt w (w1.setCell ⟨b, 0, none⟩ v9) b hb cb rb v9 vr (rvs ++ [v8]) ⟨h.cs ++ [cl], h.rt⟩ := by
  have hn := S.own.snoc hG o9 q o8 hap
  have hlo := S.lo
  have hbl := S.box.lt
  have hvcb : some b ≠ vc.ownBlock := by
    rcases S.apart vc (by simp) with e | e
    · rw [e]; simp
    · exact fun h => e h.symm
  have ap : Apart (some b) (v9 :: vr :: (rvs ++ [v8])) := by
    intro v hv
    simp only [List.mem_cons, List.mem_append, List.not_mem_nil, or_false] at hv
    rcases hv with rfl | rfl | hv | rfl
    · right
      rcases q with e | e
      · rw [e]; exact fun h => hvcb h.symm
      · rw [e]; intro e'; injection e' with e'; omega
    · exact S.apart v (by simp)
    · exact S.apart v (by simp [hv])
    · exact .inr h8b
  have far : ∀ {g' : Nat} {t : TypeId} {cs : Array Value}, Rw wr g' t cs → g' < w.heap.size + 3 → Rw (w1.setCell ⟨b, 0, none⟩ v9) g' t cs := fun hr hl =>
    Rw.other (Rw.far hr hG (fun e => by have := (S.own.blocks (v := vc) (by simp) e.symm).1; omega)) (by omega) _
  refine ⟨hn.far (put_any w1 b 0 v9) ap, ap, (Rw.far S.box hG hvcb).put 0 v9, far S.arg (by omega), far S.cmd (by omega), far S.res (by omega), ?_, hlo⟩
  exact (S.bel.grown hG S.bel.size (fun kk hk => by have := (S.own.blocks (v := vc) (by simp) hk).1; omega)).setCell (p := ⟨b, 0, none⟩) (by show w.heap.size ≤ b; omega) _
/-- a whole cell is written -/
theorem DoSt.cell {rv : Value} {old : Cl} (S : DoSt w wr b hb cb rb (.slice (some ⟨g, 0, none⟩) h.cs.length c) vr rvs h) (hc : h.cs[k]? = some old) (o : OwnI wr (w.heap.size + 3) rv cl.r) (hap : ∀ v ∈ (Value.slice (some ⟨g, 0, none⟩) h.cs.length c) :: vr :: rvs, rv.ownBlock = none ∨ rv.ownBlock ≠ v.ownBlock) (h8b : rv.ownBlock = none ∨ rv.ownBlock ≠ some b) :
    DoSt w (((wr.setCell ⟨g, k * 3, none⟩ (.bool cl.u)).setCell ⟨g, k * 3 + 1, none⟩ (.int .i64 cl.d)).setCell ⟨g, k * 3 + 2, none⟩ rv) b hb cb rb (.slice (some ⟨g, 0, none⟩) h.cs.length c) vr (rvs.set k rv) ⟨h.cs.set k cl, h.rt⟩ := by
  have hm : (Value.slice (some ⟨g, 0, none⟩) h.cs.length c) ∈ (Value.slice (some ⟨g, 0, none⟩) h.cs.length c) :: vr :: rvs := by simp
  have h1 : w.heap.size + 3 ≤ g ∧ g < wr.heap.size := S.own.blocks hm rfl
  have h2 : b ≠ g := by
    rcases S.apart _ hm with e | e
    · cases e
    · intro e'; exact e (by rw [e']; rfl)
  have oth : ∀ {g' : Nat} {t : TypeId} {cs : Array Value}, Rw wr g' t cs → g' ≠ g → Rw (((wr.setCell ⟨g, k * 3, none⟩ (.bool cl.u)).setCell ⟨g, k * 3 + 1, none⟩ (.int .i64 cl.d)).setCell ⟨g, k * 3 + 2, none⟩ rv) g' t cs := fun hr hne => ((hr.other hne _).other hne _).other hne _
  refine ⟨S.own.cell hc o hap, ?_, oth S.box h2, oth S.arg (by omega), oth S.cmd (by omega), oth S.res (by omega), ?_, S.lo⟩
  · intro x hx
    simp only [List.mem_cons] at hx
    rcases hx with rfl | rfl | hx
    · exact S.apart _ (by simp)
    · exact S.apart x (by simp)
    · rcases List.mem_or_eq_of_mem_set hx with hx | rfl
      · exact S.apart x (by simp [hx])
      · exact h8b
  · exact ((S.bel.setCell (p := ⟨g, k * 3, none⟩) (by show w.heap.size ≤ g; omega) _).setCell (p := ⟨g, k * 3 + 1, none⟩) (by show w.heap.size ≤ g; omega) _).setCell (p := ⟨g, k * 3 + 2, none⟩) (by show w.heap.size ≤ g; omega) _
theorem DoSt.cellN {n : Nat} {rv : Value} {old : Cl} (S : DoSt w wr b hb cb rb (.slice (some ⟨g, 0, none⟩) n c) vr rvs h) (hn : h.cs.length = n) (hc : h.cs[k]? = some old) (o : OwnI wr (w.heap.size + 3) rv cl.r) (hap : ∀ v ∈ (Value.slice (some ⟨g, 0, none⟩) n c) :: vr :: rvs, rv.ownBlock = none ∨ rv.ownBlock ≠ v.ownBlock) (h8b : rv.ownBlock = none ∨ rv.ownBlock ≠ some b) :
    DoSt w (((wr.setCell ⟨g, k * 3, none⟩ (.bool cl.u)).setCell ⟨g, k * 3 + 1, none⟩ (.int .i64 cl.d)).setCell ⟨g, k * 3 + 2, none⟩ rv) b hb cb rb (.slice (some ⟨g, 0, none⟩) n c) vr (rvs.set k rv) ⟨h.cs.set k cl, h.rt⟩ := by
  subst hn
  exact S.cell hc o hap h8b
/-- the copy goes into the result's box -/
theorem DoSt.done (S : DoSt w wr b hb cb rb vc vr rvs h) : OwnH ((wr.setCell ⟨w.heap.size + 2, 0, none⟩ vc).setCell ⟨w.heap.size + 2, 1, none⟩ vr) w.heap.size vc vr h ∧ Below w.heap.size w ((wr.setCell ⟨w.heap.size + 2, 0, none⟩ vc).setCell ⟨w.heap.size + 2, 1, none⟩ vr) := by
  have ap : Apart (some (w.heap.size + 2)) (vc :: vr :: rvs) := S.own.apart_below (by omega)
  exact ⟨⟨rvs, ((S.own.far (put_any wr _ 0 vc) ap).far (put_any _ _ 1 vr) ap).base (by omega)⟩, (S.bel.setCell (p := ⟨w.heap.size + 2, 0, none⟩) (by simp) vc).setCell (p := ⟨w.heap.size + 2, 1, none⟩) (by simp) vr⟩
end
end Go.Proofs.Ytakdjiojahlnmaa

namespace Go.Proofs.Ytakdjiojahlnmaa
open Go.RowKit
set_option maxRecDepth 100000
namespace Hps
theorem canH_parts {h : Hp} {o : Cm} (hc : canH h o = true) : validH h = true ∧ okCm o = true := by
  unfold canH at hc
  rw [Bool.and_eq_true, Bool.and_eq_true] at hc
  exact hc.1
end Hps
set_option maxHeartbeats 4000000 in
theorem l8Do_drop (A R : Option Addr) (n c m d : Nat) (h : Hp) (a : Nat) (ob : Int) (oc : Int) (p : Nat) (w : World) (hs : HS w w.heap.size A n R m h) (hv : Hps.validH h = true) (ha : a < 4) :
    Calls Try.prog 108 #[heapV A n c R m d, cmV ⟨5, a, ob, oc⟩, .int .i64 p] w (GaveH w (Hps.doH h ⟨5, a, ob, oc⟩ p)) := by
  have hlc := hs.cells.1
  have hlr := hs.roots.1
  have h40 := (Hps.valid_iff.1 hv).2.1
  obtain rfl : m = 4 := by rw [← hlr]; exact (Hps.valid_iff.1 hv).2.2.1
  have HL := Lib.hid hlr
  have h3 : ∀ cl ∈ h.cs, cl.r.length ≤ 1000000 := fun cl hcl => by have := (Hps.okCell_iff.1 ((Hps.valid_iff.1 hv).1 cl hcl)).2.2.1; omega
  have b3 : Below w.heap.size w (((w.alloc (.cells #[.slice A n c, .slice R 4 d] 26)).alloc (.cells #[.int .i64 5, .int .i64 a, .int .i64 ob, .int .i64 oc] 128)).alloc (.cells #[.slice none 0 0, .slice none 0 0] 26)) := (((Below.refl w.heap.size w).alloc (Nat.le_refl _) _).alloc (by simp) _).alloc (by simp; omega) _
  have s3 := hs.up b3
  have q0 := ((Rw.new w 26 #[.slice A n c, .slice R 4 d]).alloc (.cells #[.int .i64 5, .int .i64 a, .int .i64 ob, .int .i64 oc] 128)).alloc (.cells #[.slice none 0 0, .slice none 0 0] 26)
  have q1 := (Rw.new (w.alloc (.cells #[.slice A n c, .slice R 4 d] 26)) 128 #[.int .i64 5, .int .i64 a, .int .i64 ob, .int .i64 oc]).alloc (.cells #[.slice none 0 0, .slice none 0 0] 26)
  have q2 := Rw.new ((w.alloc (.cells #[.slice A n c, .slice R 4 d] 26)).alloc (.cells #[.int .i64 5, .int .i64 a, .int .i64 ob, .int .i64 oc] 128)) 26 #[.slice none 0 0, .slice none 0 0]
  simp only [World.size_alloc, Nat.add_assoc, Nat.reduceAdd] at q1 q2
  clear hlr
  go_enter Try.func108, Try.ntmps108
  go_wp2_with fail
  refine (l7Copy_any _ _ _ _ _ _ h _ s3 (by omega) (by omega) h3).mono ?_
  rintro e w1 ⟨vc, vr, rfl, ⟨rvs, own⟩, b1⟩
  replace q0 := q0.keep b1 q0.lt
  replace q1 := q1.keep b1 q1.lt
  replace q2 := q2.keep b1 q2.lt
  replace b3 := b3.trans (b1.mono b3.size)
  simp only [World.size_alloc, Nat.add_assoc, Nat.reduceAdd] at own b1
  have hsz : w.heap.size + 3 ≤ w1.heap.size := by have := b1.size; simp at this; omega
  obtain ⟨Ac, cc, Rc, dc, rfl, rfl, hcc, hdc, fA, fR⟩ := own.form
  rw [hlc] at own fA hcc ⊢
  rw [HL.out] at own fR hdc ⊢
  obtain ⟨gr, rfl, hgr1, hgr2⟩ := fR (by omega)
  have S : DoSt w (w1.alloc (.cells #[.slice Ac n cc, .slice (some ⟨gr, 0, none⟩) 4 dc] 26)) w1.heap.size #[.slice A n c, .slice R 4 d] #[.int .i64 5, .int .i64 a, .int .i64 ob, .int .i64 oc] #[.slice none 0 0, .slice none 0 0] (.slice Ac n cc) (.slice (some ⟨gr, 0, none⟩) 4 dc) rvs h :=
    ⟨own.below ((Below.refl w1.heap.size w1).alloc (Nat.le_refl _) _) (Nat.le_refl _), own.apart_new (Nat.le_refl _), Rw.new w1 _ _, q0.alloc _, q1.alloc _, q2.alloc _, b3.alloc b3.size _, hsz⟩
  clear b1 s3 h3 fR own q0 q1 q2 b3
  go_upto_region 2 with fail
  generalize w1.alloc (.cells #[.slice Ac n cc, .slice (some ⟨gr, 0, none⟩) 4 dc] 26) = w2 at S ⊢
  have hb := S.lo
  generalize w1.heap.size = b at S hb hgr2 fA ⊢
  clear hsz w1
  have y0 : w2.cell? ⟨w.heap.size + 1, 0, none⟩ = some (.int .i64 5) := S.cmd.cell 0
  have y1 : w2.cell? ⟨w.heap.size + 1, 1, none⟩ = some (.int .i64 a) := S.cmd.cell 1
  have y2 : w2.cell? ⟨w.heap.size + 1, 2, none⟩ = some (.int .i64 ob) := S.cmd.cell 2
  have y3 : w2.cell? ⟨w.heap.size + 1, 3, none⟩ = some (.int .i64 oc) := S.cmd.cell 3
  have x0 : w2.cell? ⟨b, 0, none⟩ = some (.slice Ac n cc) := S.box.cell 0
  have x1 : w2.cell? ⟨b, 1, none⟩ = some (.slice (some ⟨gr, 0, none⟩) 4 dc) := S.box.cell 1
  have hva := Hps.valid_iff.1 hv
  obtain ⟨xo, hxo, cr⟩ := S.own.roots.cell_at (j := a) (by omega)
  have fz : w2.frozen? ⟨gr, a, none⟩ = false := S.own.roots.frozen HL.out a
  have ham : (a : Int) < 4 := by omega
  have S1 := S.root (i := a) HL.out (-1)
  have r0 : (w2.setCell ⟨gr, a, none⟩ (.int .i64 (-1))).cell? ⟨b, 0, none⟩ = some (.slice Ac n cc) := S1.box.cell 0
  have r1 : (w2.setCell ⟨gr, a, none⟩ (.int .i64 (-1))).cell? ⟨b, 1, none⟩ = some (.slice (some ⟨gr, 0, none⟩) 4 dc) := S1.box.cell 1
  have r2 : (w2.setCell ⟨gr, a, none⟩ (.int .i64 (-1))).frozen? ⟨w.heap.size + 1 + 1, 0, none⟩ = false := S1.res.frozen 0
  have r3 : (w2.setCell ⟨gr, a, none⟩ (.int .i64 (-1))).frozen? ⟨w.heap.size + 1 + 1, 1, none⟩ = false := S1.res.frozen 1
  have r4 : (w2.setCell ⟨gr, a, none⟩ (.int .i64 (-1))).cell? ⟨w.heap.size + 1 + 1, 0, none⟩ = some (.slice none 0 0) := S1.res.cell 0
  have r5 : (w2.setCell ⟨gr, a, none⟩ (.int .i64 (-1))).cell? ⟨w.heap.size + 1 + 1, 1, none⟩ = some (.slice none 0 0) := S1.res.cell 1
  have r6 : (((w2.setCell ⟨gr, a, none⟩ (.int .i64 (-1))).setCell ⟨w.heap.size + 1 + 1, 0, none⟩ (.slice Ac n cc)).setCell ⟨w.heap.size + 1 + 1, 1, none⟩ (.slice (some ⟨gr, 0, none⟩) 4 dc)).cell? ⟨w.heap.size + 1 + 1, 0, none⟩ = some (.slice Ac n cc) := ((S1.res.put 0 (.slice Ac n cc)).put 1 (.slice (some ⟨gr, 0, none⟩) 4 dc)).cell 0
  have r7 : (((w2.setCell ⟨gr, a, none⟩ (.int .i64 (-1))).setCell ⟨w.heap.size + 1 + 1, 0, none⟩ (.slice Ac n cc)).setCell ⟨w.heap.size + 1 + 1, 1, none⟩ (.slice (some ⟨gr, 0, none⟩) 4 dc)).cell? ⟨w.heap.size + 1 + 1, 1, none⟩ = some (.slice (some ⟨gr, 0, none⟩) 4 dc) := ((S1.res.put 0 (.slice Ac n cc)).put 1 (.slice (some ⟨gr, 0, none⟩) 4 dc)).cell 1
  have D : Hid (OwnH (((w2.setCell ⟨gr, a, none⟩ (.int .i64 (-1))).setCell ⟨w.heap.size + 1 + 1, 0, none⟩ (.slice Ac n cc)).setCell ⟨w.heap.size + 1 + 1, 1, none⟩ (.slice (some ⟨gr, 0, none⟩) 4 dc)) w.heap.size (.slice Ac n cc) (.slice (some ⟨gr, 0, none⟩) 4 dc) _ ∧ Below w.heap.size w (((w2.setCell ⟨gr, a, none⟩ (.int .i64 (-1))).setCell ⟨w.heap.size + 1 + 1, 0, none⟩ (.slice Ac n cc)).setCell ⟨w.heap.size + 1 + 1, 1, none⟩ (.slice (some ⟨gr, 0, none⟩) 4 dc))) := Lib.hid S1.done
  have HF := Lib.hid (show Hps.doH h ⟨5, a, ob, oc⟩ p = ⟨h.cs, h.rt.set a (-1)⟩ by simp [Hps.doH])
  clear S1
  clear S hva hxo
  go_wp2_with fail
  exact bodyPost_ret (v := .agg #[.slice Ac n cc, .slice (some ⟨gr, 0, none⟩) 4 dc]) (by simp [results, Try.results108, go_sem, *]) rfl ⟨_, _, rfl, by rw [HF.out]; exact D.out.1, D.out.2⟩
set_option maxHeartbeats 4000000 in
theorem l8Do_copy (A R : Option Addr) (n c m d : Nat) (h : Hp) (a : Nat) (ob : Nat) (oc : Int) (p : Nat) (w : World) (hs : HS w w.heap.size A n R m h) (hv : Hps.validH h = true) (ha : a < 4) (hb4 : ob < 4) :
    Calls Try.prog 108 #[heapV A n c R m d, cmV ⟨4, a, ob, oc⟩, .int .i64 p] w (GaveH w (Hps.doH h ⟨4, a, ob, oc⟩ p)) := by
  have hlc := hs.cells.1
  have hlr := hs.roots.1
  have h40 := (Hps.valid_iff.1 hv).2.1
  obtain rfl : m = 4 := by rw [← hlr]; exact (Hps.valid_iff.1 hv).2.2.1
  have HL := Lib.hid hlr
  have h3 : ∀ cl ∈ h.cs, cl.r.length ≤ 1000000 := fun cl hcl => by have := (Hps.okCell_iff.1 ((Hps.valid_iff.1 hv).1 cl hcl)).2.2.1; omega
  have b3 : Below w.heap.size w (((w.alloc (.cells #[.slice A n c, .slice R 4 d] 26)).alloc (.cells #[.int .i64 4, .int .i64 a, .int .i64 ob, .int .i64 oc] 128)).alloc (.cells #[.slice none 0 0, .slice none 0 0] 26)) := (((Below.refl w.heap.size w).alloc (Nat.le_refl _) _).alloc (by simp) _).alloc (by simp; omega) _
  have s3 := hs.up b3
  have q0 := ((Rw.new w 26 #[.slice A n c, .slice R 4 d]).alloc (.cells #[.int .i64 4, .int .i64 a, .int .i64 ob, .int .i64 oc] 128)).alloc (.cells #[.slice none 0 0, .slice none 0 0] 26)
  have q1 := (Rw.new (w.alloc (.cells #[.slice A n c, .slice R 4 d] 26)) 128 #[.int .i64 4, .int .i64 a, .int .i64 ob, .int .i64 oc]).alloc (.cells #[.slice none 0 0, .slice none 0 0] 26)
  have q2 := Rw.new ((w.alloc (.cells #[.slice A n c, .slice R 4 d] 26)).alloc (.cells #[.int .i64 4, .int .i64 a, .int .i64 ob, .int .i64 oc] 128)) 26 #[.slice none 0 0, .slice none 0 0]
  simp only [World.size_alloc, Nat.add_assoc, Nat.reduceAdd] at q1 q2
  clear hlr
  go_enter Try.func108, Try.ntmps108
  go_wp2_with fail
  refine (l7Copy_any _ _ _ _ _ _ h _ s3 (by omega) (by omega) h3).mono ?_
  rintro e w1 ⟨vc, vr, rfl, ⟨rvs, own⟩, b1⟩
  replace q0 := q0.keep b1 q0.lt
  replace q1 := q1.keep b1 q1.lt
  replace q2 := q2.keep b1 q2.lt
  replace b3 := b3.trans (b1.mono b3.size)
  simp only [World.size_alloc, Nat.add_assoc, Nat.reduceAdd] at own b1
  have hsz : w.heap.size + 3 ≤ w1.heap.size := by have := b1.size; simp at this; omega
  obtain ⟨Ac, cc, Rc, dc, rfl, rfl, hcc, hdc, fA, fR⟩ := own.form
  rw [hlc] at own fA hcc ⊢
  rw [HL.out] at own fR hdc ⊢
  obtain ⟨gr, rfl, hgr1, hgr2⟩ := fR (by omega)
  have S : DoSt w (w1.alloc (.cells #[.slice Ac n cc, .slice (some ⟨gr, 0, none⟩) 4 dc] 26)) w1.heap.size #[.slice A n c, .slice R 4 d] #[.int .i64 4, .int .i64 a, .int .i64 ob, .int .i64 oc] #[.slice none 0 0, .slice none 0 0] (.slice Ac n cc) (.slice (some ⟨gr, 0, none⟩) 4 dc) rvs h :=
    ⟨own.below ((Below.refl w1.heap.size w1).alloc (Nat.le_refl _) _) (Nat.le_refl _), own.apart_new (Nat.le_refl _), Rw.new w1 _ _, q0.alloc _, q1.alloc _, q2.alloc _, b3.alloc b3.size _, hsz⟩
  clear b1 s3 h3 fR own q0 q1 q2 b3
  go_upto_region 2 with fail
  generalize w1.alloc (.cells #[.slice Ac n cc, .slice (some ⟨gr, 0, none⟩) 4 dc] 26) = w2 at S ⊢
  have hb := S.lo
  generalize w1.heap.size = b at S hb hgr2 fA ⊢
  clear hsz w1
  have y0 : w2.cell? ⟨w.heap.size + 1, 0, none⟩ = some (.int .i64 4) := S.cmd.cell 0
  have y1 : w2.cell? ⟨w.heap.size + 1, 1, none⟩ = some (.int .i64 a) := S.cmd.cell 1
  have y2 : w2.cell? ⟨w.heap.size + 1, 2, none⟩ = some (.int .i64 ob) := S.cmd.cell 2
  have y3 : w2.cell? ⟨w.heap.size + 1, 3, none⟩ = some (.int .i64 oc) := S.cmd.cell 3
  have x0 : w2.cell? ⟨b, 0, none⟩ = some (.slice Ac n cc) := S.box.cell 0
  have x1 : w2.cell? ⟨b, 1, none⟩ = some (.slice (some ⟨gr, 0, none⟩) 4 dc) := S.box.cell 1
  have hva := Hps.valid_iff.1 hv
  have ham : (a : Int) < 4 := by omega
  have AR := hs.up S.bel
  have u0 : w2.cell? ⟨w.heap.size, 0, none⟩ = some (.slice A n c) := S.arg.cell 0
  have u1 : w2.cell? ⟨w.heap.size, 1, none⟩ = some (.slice R 4 d) := S.arg.cell 1
  obtain ⟨g2, o2, x, e1, hg2, hx, d1⟩ := AR.roots.at_ (k := ob) (by omega)
  subst e1
  have hbm : (ob : Int) < 4 := by omega
  have HX := Lib.hid hx
  have SS := Lib.hid S
  clear hx S AR hva y3
  go_wp2_with fail
  go_still_tail 10, (by kernel_rfl)
  change wpList _ _ _ _ _ w2.drew
  have S4 := SS.out.drew
  generalize w2.drew = w4 at S4 ⊢
  obtain ⟨xo, hxo, cr⟩ := S4.own.roots.cell_at (j := a) (by omega)
  have fz : w4.frozen? ⟨gr, a, none⟩ = false := S4.own.roots.frozen HL.out a
  have S1 := S4.root (i := a) HL.out x
  have hx := HX.out
  have r0 : (w4.setCell ⟨gr, a, none⟩ (.int .i64 x)).cell? ⟨b, 0, none⟩ = some (.slice Ac n cc) := S1.box.cell 0
  have r1 : (w4.setCell ⟨gr, a, none⟩ (.int .i64 x)).cell? ⟨b, 1, none⟩ = some (.slice (some ⟨gr, 0, none⟩) 4 dc) := S1.box.cell 1
  have r2 : (w4.setCell ⟨gr, a, none⟩ (.int .i64 x)).frozen? ⟨w.heap.size + 1 + 1, 0, none⟩ = false := S1.res.frozen 0
  have r3 : (w4.setCell ⟨gr, a, none⟩ (.int .i64 x)).frozen? ⟨w.heap.size + 1 + 1, 1, none⟩ = false := S1.res.frozen 1
  have r4 : (w4.setCell ⟨gr, a, none⟩ (.int .i64 x)).cell? ⟨w.heap.size + 1 + 1, 0, none⟩ = some (.slice none 0 0) := S1.res.cell 0
  have r5 : (w4.setCell ⟨gr, a, none⟩ (.int .i64 x)).cell? ⟨w.heap.size + 1 + 1, 1, none⟩ = some (.slice none 0 0) := S1.res.cell 1
  have r6 : (((w4.setCell ⟨gr, a, none⟩ (.int .i64 x)).setCell ⟨w.heap.size + 1 + 1, 0, none⟩ (.slice Ac n cc)).setCell ⟨w.heap.size + 1 + 1, 1, none⟩ (.slice (some ⟨gr, 0, none⟩) 4 dc)).cell? ⟨w.heap.size + 1 + 1, 0, none⟩ = some (.slice Ac n cc) := ((S1.res.put 0 (.slice Ac n cc)).put 1 (.slice (some ⟨gr, 0, none⟩) 4 dc)).cell 0
  have r7 : (((w4.setCell ⟨gr, a, none⟩ (.int .i64 x)).setCell ⟨w.heap.size + 1 + 1, 0, none⟩ (.slice Ac n cc)).setCell ⟨w.heap.size + 1 + 1, 1, none⟩ (.slice (some ⟨gr, 0, none⟩) 4 dc)).cell? ⟨w.heap.size + 1 + 1, 1, none⟩ = some (.slice (some ⟨gr, 0, none⟩) 4 dc) := ((S1.res.put 0 (.slice Ac n cc)).put 1 (.slice (some ⟨gr, 0, none⟩) 4 dc)).cell 1
  have D : Hid (OwnH (((w4.setCell ⟨gr, a, none⟩ (.int .i64 x)).setCell ⟨w.heap.size + 1 + 1, 0, none⟩ (.slice Ac n cc)).setCell ⟨w.heap.size + 1 + 1, 1, none⟩ (.slice (some ⟨gr, 0, none⟩) 4 dc)) w.heap.size (.slice Ac n cc) (.slice (some ⟨gr, 0, none⟩) 4 dc) _ ∧ Below w.heap.size w (((w4.setCell ⟨gr, a, none⟩ (.int .i64 x)).setCell ⟨w.heap.size + 1 + 1, 0, none⟩ (.slice Ac n cc)).setCell ⟨w.heap.size + 1 + 1, 1, none⟩ (.slice (some ⟨gr, 0, none⟩) 4 dc))) := Lib.hid S1.done
  have HF := Lib.hid (show Hps.doH h ⟨4, a, ob, oc⟩ p = ⟨h.cs, h.rt.set a x⟩ by simp [Hps.doH, Hps.rootAt, hx])
  clear S1
  clear S4 hxo hx
  go_wp2_with fail
  exact bodyPost_ret (v := .agg #[.slice Ac n cc, .slice (some ⟨gr, 0, none⟩) 4 dc]) (by simp [results, Try.results108, go_sem, *]) rfl ⟨_, _, rfl, by rw [HF.out]; exact D.out.1, D.out.2⟩
set_option maxHeartbeats 4000000 in
theorem l8Do_get (A R : Option Addr) (n c m d : Nat) (h : Hp) (a : Nat) (ob : Nat) (oc : Nat) (p : Nat) (w : World) (hs : HS w w.heap.size A n R m h) (hv : Hps.validH h = true) (ha : a < 4) (hb4 : ob < 4) (k : Nat) (cl : Cl) (hk : Hps.rootAt h ob = k) (hcl : h.cs[k]? = some cl) (hoc : oc < cl.r.length) :
    Calls Try.prog 108 #[heapV A n c R m d, cmV ⟨2, a, ob, oc⟩, .int .i64 p] w (GaveH w (Hps.doH h ⟨2, a, ob, oc⟩ p)) := by
  have hlc := hs.cells.1
  have hlr := hs.roots.1
  have h40 := (Hps.valid_iff.1 hv).2.1
  obtain rfl : m = 4 := by rw [← hlr]; exact (Hps.valid_iff.1 hv).2.2.1
  have HL := Lib.hid hlr
  have h3 : ∀ cl ∈ h.cs, cl.r.length ≤ 1000000 := fun cl hcl => by have := (Hps.okCell_iff.1 ((Hps.valid_iff.1 hv).1 cl hcl)).2.2.1; omega
  have b3 : Below w.heap.size w (((w.alloc (.cells #[.slice A n c, .slice R 4 d] 26)).alloc (.cells #[.int .i64 2, .int .i64 a, .int .i64 ob, .int .i64 oc] 128)).alloc (.cells #[.slice none 0 0, .slice none 0 0] 26)) := (((Below.refl w.heap.size w).alloc (Nat.le_refl _) _).alloc (by simp) _).alloc (by simp; omega) _
  have s3 := hs.up b3
  have q0 := ((Rw.new w 26 #[.slice A n c, .slice R 4 d]).alloc (.cells #[.int .i64 2, .int .i64 a, .int .i64 ob, .int .i64 oc] 128)).alloc (.cells #[.slice none 0 0, .slice none 0 0] 26)
  have q1 := (Rw.new (w.alloc (.cells #[.slice A n c, .slice R 4 d] 26)) 128 #[.int .i64 2, .int .i64 a, .int .i64 ob, .int .i64 oc]).alloc (.cells #[.slice none 0 0, .slice none 0 0] 26)
  have q2 := Rw.new ((w.alloc (.cells #[.slice A n c, .slice R 4 d] 26)).alloc (.cells #[.int .i64 2, .int .i64 a, .int .i64 ob, .int .i64 oc] 128)) 26 #[.slice none 0 0, .slice none 0 0]
  simp only [World.size_alloc, Nat.add_assoc, Nat.reduceAdd] at q1 q2
  clear hlr
  go_enter Try.func108, Try.ntmps108
  go_wp2_with fail
  refine (l7Copy_any _ _ _ _ _ _ h _ s3 (by omega) (by omega) h3).mono ?_
  rintro e w1 ⟨vc, vr, rfl, ⟨rvs, own⟩, b1⟩
  replace q0 := q0.keep b1 q0.lt
  replace q1 := q1.keep b1 q1.lt
  replace q2 := q2.keep b1 q2.lt
  replace b3 := b3.trans (b1.mono b3.size)
  simp only [World.size_alloc, Nat.add_assoc, Nat.reduceAdd] at own b1
  have hsz : w.heap.size + 3 ≤ w1.heap.size := by have := b1.size; simp at this; omega
  obtain ⟨Ac, cc, Rc, dc, rfl, rfl, hcc, hdc, fA, fR⟩ := own.form
  rw [hlc] at own fA hcc ⊢
  rw [HL.out] at own fR hdc ⊢
  obtain ⟨gr, rfl, hgr1, hgr2⟩ := fR (by omega)
  have S : DoSt w (w1.alloc (.cells #[.slice Ac n cc, .slice (some ⟨gr, 0, none⟩) 4 dc] 26)) w1.heap.size #[.slice A n c, .slice R 4 d] #[.int .i64 2, .int .i64 a, .int .i64 ob, .int .i64 oc] #[.slice none 0 0, .slice none 0 0] (.slice Ac n cc) (.slice (some ⟨gr, 0, none⟩) 4 dc) rvs h :=
    ⟨own.below ((Below.refl w1.heap.size w1).alloc (Nat.le_refl _) _) (Nat.le_refl _), own.apart_new (Nat.le_refl _), Rw.new w1 _ _, q0.alloc _, q1.alloc _, q2.alloc _, b3.alloc b3.size _, hsz⟩
  clear b1 s3 h3 fR own q0 q1 q2 b3
  go_upto_region 2 with fail
  generalize w1.alloc (.cells #[.slice Ac n cc, .slice (some ⟨gr, 0, none⟩) 4 dc] 26) = w2 at S ⊢
  have hb := S.lo
  generalize w1.heap.size = b at S hb hgr2 fA ⊢
  clear hsz w1
  have y0 : w2.cell? ⟨w.heap.size + 1, 0, none⟩ = some (.int .i64 2) := S.cmd.cell 0
  have y1 : w2.cell? ⟨w.heap.size + 1, 1, none⟩ = some (.int .i64 a) := S.cmd.cell 1
  have y2 : w2.cell? ⟨w.heap.size + 1, 2, none⟩ = some (.int .i64 ob) := S.cmd.cell 2
  have y3 : w2.cell? ⟨w.heap.size + 1, 3, none⟩ = some (.int .i64 oc) := S.cmd.cell 3
  have x0 : w2.cell? ⟨b, 0, none⟩ = some (.slice Ac n cc) := S.box.cell 0
  have x1 : w2.cell? ⟨b, 1, none⟩ = some (.slice (some ⟨gr, 0, none⟩) 4 dc) := S.box.cell 1
  have hva := Hps.valid_iff.1 hv
  have ham : (a : Int) < 4 := by omega
  have AR := hs.up S.bel
  have u0 : w2.cell? ⟨w.heap.size, 0, none⟩ = some (.slice A n c) := S.arg.cell 0
  have u1 : w2.cell? ⟨w.heap.size, 1, none⟩ = some (.slice R 4 d) := S.arg.cell 1
  obtain ⟨g2, o2, x, e1, hg2, hx, d1⟩ := AR.roots.at_ (k := ob) (by omega)
  subst e1
  have hbm : (ob : Int) < 4 := by omega
  have ex : x = (k : Int) := by rw [← hk]; simp [Hps.rootAt, hx]
  subst ex
  have hkl := (List.getElem?_eq_some_iff.1 hcl).1
  obtain ⟨g3, o3, cl', A', m', cc', e3, hg3, hcl', _, _, d2, hmc, hi⟩ := AR.cells.at_ (k := k) (by omega)
  rw [hcl] at hcl'
  injection hcl' with hcl'
  subst hcl' e3
  have hil := hi.1
  obtain ⟨g4, o4, y, e4, hg4, hy, d3⟩ := hi.at_ (k := oc) (by omega)
  subst e4
  have hkn : (k : Int) < n := by omega
  have hom : (oc : Int) < m' := by omega
  have HY := Lib.hid hy
  have HC := Lib.hid hcl
  have HK := Lib.hid hk
  have SS := Lib.hid S
  clear hx S AR hva hy hcl hk hil hi hoc hkl
  go_wp2_with fail
  go_still_tail 19, (by kernel_rfl)
  change wpList _ _ _ _ _ w2.drew
  have S4 := SS.out.drew
  generalize w2.drew = w4 at S4 ⊢
  obtain ⟨xo, hxo, cr⟩ := S4.own.roots.cell_at (j := a) (by omega)
  have fz : w4.frozen? ⟨gr, a, none⟩ = false := S4.own.roots.frozen HL.out a
  have S1 := S4.root (i := a) HL.out y
  have hcl := HC.out
  have hy := HY.out
  have hk := HK.out
  have r0 : (w4.setCell ⟨gr, a, none⟩ (.int .i64 y)).cell? ⟨b, 0, none⟩ = some (.slice Ac n cc) := S1.box.cell 0
  have r1 : (w4.setCell ⟨gr, a, none⟩ (.int .i64 y)).cell? ⟨b, 1, none⟩ = some (.slice (some ⟨gr, 0, none⟩) 4 dc) := S1.box.cell 1
  have r2 : (w4.setCell ⟨gr, a, none⟩ (.int .i64 y)).frozen? ⟨w.heap.size + 1 + 1, 0, none⟩ = false := S1.res.frozen 0
  have r3 : (w4.setCell ⟨gr, a, none⟩ (.int .i64 y)).frozen? ⟨w.heap.size + 1 + 1, 1, none⟩ = false := S1.res.frozen 1
  have r4 : (w4.setCell ⟨gr, a, none⟩ (.int .i64 y)).cell? ⟨w.heap.size + 1 + 1, 0, none⟩ = some (.slice none 0 0) := S1.res.cell 0
  have r5 : (w4.setCell ⟨gr, a, none⟩ (.int .i64 y)).cell? ⟨w.heap.size + 1 + 1, 1, none⟩ = some (.slice none 0 0) := S1.res.cell 1
  have r6 : (((w4.setCell ⟨gr, a, none⟩ (.int .i64 y)).setCell ⟨w.heap.size + 1 + 1, 0, none⟩ (.slice Ac n cc)).setCell ⟨w.heap.size + 1 + 1, 1, none⟩ (.slice (some ⟨gr, 0, none⟩) 4 dc)).cell? ⟨w.heap.size + 1 + 1, 0, none⟩ = some (.slice Ac n cc) := ((S1.res.put 0 (.slice Ac n cc)).put 1 (.slice (some ⟨gr, 0, none⟩) 4 dc)).cell 0
  have r7 : (((w4.setCell ⟨gr, a, none⟩ (.int .i64 y)).setCell ⟨w.heap.size + 1 + 1, 0, none⟩ (.slice Ac n cc)).setCell ⟨w.heap.size + 1 + 1, 1, none⟩ (.slice (some ⟨gr, 0, none⟩) 4 dc)).cell? ⟨w.heap.size + 1 + 1, 1, none⟩ = some (.slice (some ⟨gr, 0, none⟩) 4 dc) := ((S1.res.put 0 (.slice Ac n cc)).put 1 (.slice (some ⟨gr, 0, none⟩) 4 dc)).cell 1
  have D : Hid (OwnH (((w4.setCell ⟨gr, a, none⟩ (.int .i64 y)).setCell ⟨w.heap.size + 1 + 1, 0, none⟩ (.slice Ac n cc)).setCell ⟨w.heap.size + 1 + 1, 1, none⟩ (.slice (some ⟨gr, 0, none⟩) 4 dc)) w.heap.size (.slice Ac n cc) (.slice (some ⟨gr, 0, none⟩) 4 dc) _ ∧ Below w.heap.size w (((w4.setCell ⟨gr, a, none⟩ (.int .i64 y)).setCell ⟨w.heap.size + 1 + 1, 0, none⟩ (.slice Ac n cc)).setCell ⟨w.heap.size + 1 + 1, 1, none⟩ (.slice (some ⟨gr, 0, none⟩) 4 dc))) := Lib.hid S1.done
  have HF := Lib.hid (show Hps.doH h ⟨2, a, ob, oc⟩ p = ⟨h.cs, h.rt.set a y⟩ by simp [Hps.doH, Hps.refAt, hk, hcl, hy])
  clear S1
  clear S4 hxo hy hcl hk
  go_wp2_with fail
  exact bodyPost_ret (v := .agg #[.slice Ac n cc, .slice (some ⟨gr, 0, none⟩) 4 dc]) (by simp [results, Try.results108, go_sem, *]) rfl ⟨_, _, rfl, by rw [HF.out]; exact D.out.1, D.out.2⟩
set_option maxHeartbeats 4000000 in
theorem l8Do_set (A R : Option Addr) (n c m d : Nat) (h : Hp) (a : Nat) (ob : Nat) (oc : Nat) (p : Nat) (w : World) (hs : HS w w.heap.size A n R m h) (hv : Hps.validH h = true) (ha : a < 4) (hb4 : ob < 4) (k : Nat) (cl : Cl) (hk : Hps.rootAt h a = k) (hcl : h.cs[k]? = some cl) (hoc : oc < cl.r.length) :
    Calls Try.prog 108 #[heapV A n c R m d, cmV ⟨3, a, ob, oc⟩, .int .i64 p] w (GaveH w (Hps.doH h ⟨3, a, ob, oc⟩ p)) := by
  have hlc := hs.cells.1
  have hlr := hs.roots.1
  have h40 := (Hps.valid_iff.1 hv).2.1
  obtain rfl : m = 4 := by rw [← hlr]; exact (Hps.valid_iff.1 hv).2.2.1
  have HL := Lib.hid hlr
  have h3 : ∀ cl ∈ h.cs, cl.r.length ≤ 1000000 := fun cl hcl => by have := (Hps.okCell_iff.1 ((Hps.valid_iff.1 hv).1 cl hcl)).2.2.1; omega
  have b3 : Below w.heap.size w (((w.alloc (.cells #[.slice A n c, .slice R 4 d] 26)).alloc (.cells #[.int .i64 3, .int .i64 a, .int .i64 ob, .int .i64 oc] 128)).alloc (.cells #[.slice none 0 0, .slice none 0 0] 26)) := (((Below.refl w.heap.size w).alloc (Nat.le_refl _) _).alloc (by simp) _).alloc (by simp; omega) _
  have s3 := hs.up b3
  have q0 := ((Rw.new w 26 #[.slice A n c, .slice R 4 d]).alloc (.cells #[.int .i64 3, .int .i64 a, .int .i64 ob, .int .i64 oc] 128)).alloc (.cells #[.slice none 0 0, .slice none 0 0] 26)
  have q1 := (Rw.new (w.alloc (.cells #[.slice A n c, .slice R 4 d] 26)) 128 #[.int .i64 3, .int .i64 a, .int .i64 ob, .int .i64 oc]).alloc (.cells #[.slice none 0 0, .slice none 0 0] 26)
  have q2 := Rw.new ((w.alloc (.cells #[.slice A n c, .slice R 4 d] 26)).alloc (.cells #[.int .i64 3, .int .i64 a, .int .i64 ob, .int .i64 oc] 128)) 26 #[.slice none 0 0, .slice none 0 0]
  simp only [World.size_alloc, Nat.add_assoc, Nat.reduceAdd] at q1 q2
  clear hlr
  go_enter Try.func108, Try.ntmps108
  go_wp2_with fail
  refine (l7Copy_any _ _ _ _ _ _ h _ s3 (by omega) (by omega) h3).mono ?_
  rintro e w1 ⟨vc, vr, rfl, ⟨rvs, own⟩, b1⟩
  replace q0 := q0.keep b1 q0.lt
  replace q1 := q1.keep b1 q1.lt
  replace q2 := q2.keep b1 q2.lt
  replace b3 := b3.trans (b1.mono b3.size)
  simp only [World.size_alloc, Nat.add_assoc, Nat.reduceAdd] at own b1
  have hsz : w.heap.size + 3 ≤ w1.heap.size := by have := b1.size; simp at this; omega
  obtain ⟨Ac, cc, Rc, dc, rfl, rfl, hcc, hdc, fA, fR⟩ := own.form
  rw [hlc] at own fA hcc ⊢
  rw [HL.out] at own fR hdc ⊢
  obtain ⟨gr, rfl, hgr1, hgr2⟩ := fR (by omega)
  have S : DoSt w (w1.alloc (.cells #[.slice Ac n cc, .slice (some ⟨gr, 0, none⟩) 4 dc] 26)) w1.heap.size #[.slice A n c, .slice R 4 d] #[.int .i64 3, .int .i64 a, .int .i64 ob, .int .i64 oc] #[.slice none 0 0, .slice none 0 0] (.slice Ac n cc) (.slice (some ⟨gr, 0, none⟩) 4 dc) rvs h :=
    ⟨own.below ((Below.refl w1.heap.size w1).alloc (Nat.le_refl _) _) (Nat.le_refl _), own.apart_new (Nat.le_refl _), Rw.new w1 _ _, q0.alloc _, q1.alloc _, q2.alloc _, b3.alloc b3.size _, hsz⟩
  clear b1 s3 h3 fR own q0 q1 q2 b3
  go_upto_region 2 with fail
  generalize w1.alloc (.cells #[.slice Ac n cc, .slice (some ⟨gr, 0, none⟩) 4 dc] 26) = w2 at S ⊢
  have hb := S.lo
  generalize w1.heap.size = b at S hb hgr2 fA ⊢
  clear hsz w1
  have y0 : w2.cell? ⟨w.heap.size + 1, 0, none⟩ = some (.int .i64 3) := S.cmd.cell 0
  have y1 : w2.cell? ⟨w.heap.size + 1, 1, none⟩ = some (.int .i64 a) := S.cmd.cell 1
  have y2 : w2.cell? ⟨w.heap.size + 1, 2, none⟩ = some (.int .i64 ob) := S.cmd.cell 2
  have y3 : w2.cell? ⟨w.heap.size + 1, 3, none⟩ = some (.int .i64 oc) := S.cmd.cell 3
  have x0 : w2.cell? ⟨b, 0, none⟩ = some (.slice Ac n cc) := S.box.cell 0
  have x1 : w2.cell? ⟨b, 1, none⟩ = some (.slice (some ⟨gr, 0, none⟩) 4 dc) := S.box.cell 1
  have hva := Hps.valid_iff.1 hv
  have ham : (a : Int) < 4 := by omega
  have AR := hs.up S.bel
  have u0 : w2.cell? ⟨w.heap.size, 0, none⟩ = some (.slice A n c) := S.arg.cell 0
  have u1 : w2.cell? ⟨w.heap.size, 1, none⟩ = some (.slice R 4 d) := S.arg.cell 1
  obtain ⟨ga, oa, xa, e1, hga, hxa, da⟩ := AR.roots.at_ (k := a) (by omega)
  obtain ⟨g2, o2, x, e2, hg2, hx, d1⟩ := AR.roots.at_ (k := ob) (by omega)
  subst e1
  injection e2 with e2
  injection e2 with e2 e3
  subst e2 e3
  have hbm : (ob : Int) < 4 := by omega
  have ex : xa = (k : Int) := by rw [← hk]; simp [Hps.rootAt, hxa]
  subst ex
  have hkl := (List.getElem?_eq_some_iff.1 hcl).1
  obtain ⟨gc, v, e4, hgc1, hgc2, hrv, hov, _, _, d2, _⟩ := S.own.cell_at hcl
  subst e4
  obtain ⟨Av, cv, rfl, fv⟩ := hov.form
  obtain ⟨gv, rfl, hgv1, hgv2⟩ := fv (by omega)
  obtain ⟨m', hm'⟩ : ∃ m', cl.r.length = m' := ⟨_, rfl⟩
  rw [hm'] at d2 hrv hov
  have hkn : (k : Int) < n := by omega
  have hom : (oc : Int) < m' := by omega
  have HX := Lib.hid hx
  have HC := Lib.hid hcl
  have HK := Lib.hid hk
  have HV := Lib.hid hrv
  have HM := Lib.hid hm'
  have SS := Lib.hid S
  clear hx hxa S AR hva hcl hk hoc hkl hrv hov hm' fv
  go_wp2_with fail
  go_still_tail 19, (by kernel_rfl)
  change wpList _ _ _ _ _ w2.drew
  have S4 := SS.out.drew
  generalize w2.drew = w4 at S4 ⊢
  obtain ⟨_, _, e5, _, _, hv5, hov5, _⟩ := S4.own.cell_at HC.out
  rw [HV.out] at hv5
  injection hv5 with hv5
  subst hv5
  obtain ⟨xo, hxo, cr⟩ := hov5.cell_at (j := oc) (by omega)
  have fz : w4.frozen? ⟨gv, oc, none⟩ = false := hov5.frozen HM.out oc
  have S1 := S4.ref1 (i := oc) HC.out HV.out HM.out x
  have hx := HX.out
  have hcl := HC.out
  have hk := HK.out
  have r0 : (w4.setCell ⟨gv, oc, none⟩ (.int .i64 x)).cell? ⟨b, 0, none⟩ = some (.slice (some ⟨gc, 0, none⟩) n cc) := S1.box.cell 0
  have r1 : (w4.setCell ⟨gv, oc, none⟩ (.int .i64 x)).cell? ⟨b, 1, none⟩ = some (.slice (some ⟨gr, 0, none⟩) 4 dc) := S1.box.cell 1
  have r2 : (w4.setCell ⟨gv, oc, none⟩ (.int .i64 x)).frozen? ⟨w.heap.size + 1 + 1, 0, none⟩ = false := S1.res.frozen 0
  have r3 : (w4.setCell ⟨gv, oc, none⟩ (.int .i64 x)).frozen? ⟨w.heap.size + 1 + 1, 1, none⟩ = false := S1.res.frozen 1
  have r4 : (w4.setCell ⟨gv, oc, none⟩ (.int .i64 x)).cell? ⟨w.heap.size + 1 + 1, 0, none⟩ = some (.slice none 0 0) := S1.res.cell 0
  have r5 : (w4.setCell ⟨gv, oc, none⟩ (.int .i64 x)).cell? ⟨w.heap.size + 1 + 1, 1, none⟩ = some (.slice none 0 0) := S1.res.cell 1
  have r6 : (((w4.setCell ⟨gv, oc, none⟩ (.int .i64 x)).setCell ⟨w.heap.size + 1 + 1, 0, none⟩ (.slice (some ⟨gc, 0, none⟩) n cc)).setCell ⟨w.heap.size + 1 + 1, 1, none⟩ (.slice (some ⟨gr, 0, none⟩) 4 dc)).cell? ⟨w.heap.size + 1 + 1, 0, none⟩ = some (.slice (some ⟨gc, 0, none⟩) n cc) := ((S1.res.put 0 (.slice (some ⟨gc, 0, none⟩) n cc)).put 1 (.slice (some ⟨gr, 0, none⟩) 4 dc)).cell 0
  have r7 : (((w4.setCell ⟨gv, oc, none⟩ (.int .i64 x)).setCell ⟨w.heap.size + 1 + 1, 0, none⟩ (.slice (some ⟨gc, 0, none⟩) n cc)).setCell ⟨w.heap.size + 1 + 1, 1, none⟩ (.slice (some ⟨gr, 0, none⟩) 4 dc)).cell? ⟨w.heap.size + 1 + 1, 1, none⟩ = some (.slice (some ⟨gr, 0, none⟩) 4 dc) := ((S1.res.put 0 (.slice (some ⟨gc, 0, none⟩) n cc)).put 1 (.slice (some ⟨gr, 0, none⟩) 4 dc)).cell 1
  have D : Hid (OwnH (((w4.setCell ⟨gv, oc, none⟩ (.int .i64 x)).setCell ⟨w.heap.size + 1 + 1, 0, none⟩ (.slice (some ⟨gc, 0, none⟩) n cc)).setCell ⟨w.heap.size + 1 + 1, 1, none⟩ (.slice (some ⟨gr, 0, none⟩) 4 dc)) w.heap.size (.slice (some ⟨gc, 0, none⟩) n cc) (.slice (some ⟨gr, 0, none⟩) 4 dc) _ ∧ Below w.heap.size w (((w4.setCell ⟨gv, oc, none⟩ (.int .i64 x)).setCell ⟨w.heap.size + 1 + 1, 0, none⟩ (.slice (some ⟨gc, 0, none⟩) n cc)).setCell ⟨w.heap.size + 1 + 1, 1, none⟩ (.slice (some ⟨gr, 0, none⟩) 4 dc))) := Lib.hid S1.done
  have HF := Lib.hid (show Hps.doH h ⟨3, a, ob, oc⟩ p = ⟨h.cs.set k ⟨cl.u, cl.d, cl.r.set oc x⟩, h.rt⟩ by simp [Hps.doH, Hps.setRef, hk, hcl]; simp [Hps.rootAt, hx])
  clear S1
  clear S4 hxo hx hcl hk e5 hov5
  go_wp2_with fail
  exact bodyPost_ret (v := .agg #[.slice (some ⟨gc, 0, none⟩) n cc, .slice (some ⟨gr, 0, none⟩) 4 dc]) (by simp [results, Try.results108, go_sem, *]) rfl ⟨_, _, rfl, by rw [HF.out]; exact D.out.1, D.out.2⟩
set_option maxHeartbeats 4000000 in
theorem l8Do_data (A R : Option Addr) (n c m d : Nat) (h : Hp) (a : Nat) (ob : Int) (oc : Int) (p : Nat) (w : World) (hs : HS w w.heap.size A n R m h) (hv : Hps.validH h = true) (ha : a < 4) (k : Nat) (cl : Cl) (hk : Hps.rootAt h a = k) (hcl : h.cs[k]? = some cl) :
    Calls Try.prog 108 #[heapV A n c R m d, cmV ⟨6, a, ob, oc⟩, .int .i64 p] w (GaveH w (Hps.doH h ⟨6, a, ob, oc⟩ p)) := by
  have hlc := hs.cells.1
  have hlr := hs.roots.1
  have h40 := (Hps.valid_iff.1 hv).2.1
  obtain rfl : m = 4 := by rw [← hlr]; exact (Hps.valid_iff.1 hv).2.2.1
  have HL := Lib.hid hlr
  have h3 : ∀ cl ∈ h.cs, cl.r.length ≤ 1000000 := fun cl hcl => by have := (Hps.okCell_iff.1 ((Hps.valid_iff.1 hv).1 cl hcl)).2.2.1; omega
  have b3 : Below w.heap.size w (((w.alloc (.cells #[.slice A n c, .slice R 4 d] 26)).alloc (.cells #[.int .i64 6, .int .i64 a, .int .i64 ob, .int .i64 oc] 128)).alloc (.cells #[.slice none 0 0, .slice none 0 0] 26)) := (((Below.refl w.heap.size w).alloc (Nat.le_refl _) _).alloc (by simp) _).alloc (by simp; omega) _
  have s3 := hs.up b3
  have q0 := ((Rw.new w 26 #[.slice A n c, .slice R 4 d]).alloc (.cells #[.int .i64 6, .int .i64 a, .int .i64 ob, .int .i64 oc] 128)).alloc (.cells #[.slice none 0 0, .slice none 0 0] 26)
  have q1 := (Rw.new (w.alloc (.cells #[.slice A n c, .slice R 4 d] 26)) 128 #[.int .i64 6, .int .i64 a, .int .i64 ob, .int .i64 oc]).alloc (.cells #[.slice none 0 0, .slice none 0 0] 26)
  have q2 := Rw.new ((w.alloc (.cells #[.slice A n c, .slice R 4 d] 26)).alloc (.cells #[.int .i64 6, .int .i64 a, .int .i64 ob, .int .i64 oc] 128)) 26 #[.slice none 0 0, .slice none 0 0]
  simp only [World.size_alloc, Nat.add_assoc, Nat.reduceAdd] at q1 q2
  clear hlr
  go_enter Try.func108, Try.ntmps108
  go_wp2_with fail
  refine (l7Copy_any _ _ _ _ _ _ h _ s3 (by omega) (by omega) h3).mono ?_
  rintro e w1 ⟨vc, vr, rfl, ⟨rvs, own⟩, b1⟩
  replace q0 := q0.keep b1 q0.lt
  replace q1 := q1.keep b1 q1.lt
  replace q2 := q2.keep b1 q2.lt
  replace b3 := b3.trans (b1.mono b3.size)
  simp only [World.size_alloc, Nat.add_assoc, Nat.reduceAdd] at own b1
  have hsz : w.heap.size + 3 ≤ w1.heap.size := by have := b1.size; simp at this; omega
  obtain ⟨Ac, cc, Rc, dc, rfl, rfl, hcc, hdc, fA, fR⟩ := own.form
  rw [hlc] at own fA hcc ⊢
  rw [HL.out] at own fR hdc ⊢
  obtain ⟨gr, rfl, hgr1, hgr2⟩ := fR (by omega)
  have S : DoSt w (w1.alloc (.cells #[.slice Ac n cc, .slice (some ⟨gr, 0, none⟩) 4 dc] 26)) w1.heap.size #[.slice A n c, .slice R 4 d] #[.int .i64 6, .int .i64 a, .int .i64 ob, .int .i64 oc] #[.slice none 0 0, .slice none 0 0] (.slice Ac n cc) (.slice (some ⟨gr, 0, none⟩) 4 dc) rvs h :=
    ⟨own.below ((Below.refl w1.heap.size w1).alloc (Nat.le_refl _) _) (Nat.le_refl _), own.apart_new (Nat.le_refl _), Rw.new w1 _ _, q0.alloc _, q1.alloc _, q2.alloc _, b3.alloc b3.size _, hsz⟩
  clear b1 s3 h3 fR own q0 q1 q2 b3
  go_upto_region 2 with fail
  generalize w1.alloc (.cells #[.slice Ac n cc, .slice (some ⟨gr, 0, none⟩) 4 dc] 26) = w2 at S ⊢
  have hb := S.lo
  generalize w1.heap.size = b at S hb hgr2 fA ⊢
  clear hsz w1
  have y0 : w2.cell? ⟨w.heap.size + 1, 0, none⟩ = some (.int .i64 6) := S.cmd.cell 0
  have y1 : w2.cell? ⟨w.heap.size + 1, 1, none⟩ = some (.int .i64 a) := S.cmd.cell 1
  have y2 : w2.cell? ⟨w.heap.size + 1, 2, none⟩ = some (.int .i64 ob) := S.cmd.cell 2
  have y3 : w2.cell? ⟨w.heap.size + 1, 3, none⟩ = some (.int .i64 oc) := S.cmd.cell 3
  have x0 : w2.cell? ⟨b, 0, none⟩ = some (.slice Ac n cc) := S.box.cell 0
  have x1 : w2.cell? ⟨b, 1, none⟩ = some (.slice (some ⟨gr, 0, none⟩) 4 dc) := S.box.cell 1
  have hva := Hps.valid_iff.1 hv
  have ham : (a : Int) < 4 := by omega
  have AR := hs.up S.bel
  have u0 : w2.cell? ⟨w.heap.size, 0, none⟩ = some (.slice A n c) := S.arg.cell 0
  have u1 : w2.cell? ⟨w.heap.size, 1, none⟩ = some (.slice R 4 d) := S.arg.cell 1
  obtain ⟨ga, oa, xa, e1, hga, hxa, da⟩ := AR.roots.at_ (k := a) (by omega)
  subst e1
  have ex : xa = (k : Int) := by rw [← hk]; simp [Hps.rootAt, hxa]
  subst ex
  have hkl := (List.getElem?_eq_some_iff.1 hcl).1
  obtain ⟨gc, v, e4, hgc1, hgc2, _⟩ := S.own.cell_at hcl
  subst e4
  have hkn : (k : Int) < n := by omega
  have HC := Lib.hid hcl
  have HK := Lib.hid hk
  have SS := Lib.hid S
  clear hxa S AR hva hcl hk hkl
  go_wp2_with fail
  go_still_tail 10, (by kernel_rfl)
  change wpList _ _ _ _ _ w2.drew
  have S4 := SS.out.drew
  generalize w2.drew = w4 at S4 ⊢
  obtain ⟨_, _, e5, _, _, _, _, _, cr, _, fz⟩ := S4.own.cell_at HC.out
  injection e5 with e5
  injection e5 with e5
  subst e5
  have fz := fz (k * 3 + 1)
  have S1 := S4.data hlc HC.out ob
  have hcl := HC.out
  have hk := HK.out
  have r0 : (w4.setCell ⟨gc, k * 3 + 1, none⟩ (.int .i64 ob)).cell? ⟨b, 0, none⟩ = some (.slice (some ⟨gc, 0, none⟩) n cc) := S1.box.cell 0
  have r1 : (w4.setCell ⟨gc, k * 3 + 1, none⟩ (.int .i64 ob)).cell? ⟨b, 1, none⟩ = some (.slice (some ⟨gr, 0, none⟩) 4 dc) := S1.box.cell 1
  have r2 : (w4.setCell ⟨gc, k * 3 + 1, none⟩ (.int .i64 ob)).frozen? ⟨w.heap.size + 1 + 1, 0, none⟩ = false := S1.res.frozen 0
  have r3 : (w4.setCell ⟨gc, k * 3 + 1, none⟩ (.int .i64 ob)).frozen? ⟨w.heap.size + 1 + 1, 1, none⟩ = false := S1.res.frozen 1
  have r4 : (w4.setCell ⟨gc, k * 3 + 1, none⟩ (.int .i64 ob)).cell? ⟨w.heap.size + 1 + 1, 0, none⟩ = some (.slice none 0 0) := S1.res.cell 0
  have r5 : (w4.setCell ⟨gc, k * 3 + 1, none⟩ (.int .i64 ob)).cell? ⟨w.heap.size + 1 + 1, 1, none⟩ = some (.slice none 0 0) := S1.res.cell 1
  have r6 : (((w4.setCell ⟨gc, k * 3 + 1, none⟩ (.int .i64 ob)).setCell ⟨w.heap.size + 1 + 1, 0, none⟩ (.slice (some ⟨gc, 0, none⟩) n cc)).setCell ⟨w.heap.size + 1 + 1, 1, none⟩ (.slice (some ⟨gr, 0, none⟩) 4 dc)).cell? ⟨w.heap.size + 1 + 1, 0, none⟩ = some (.slice (some ⟨gc, 0, none⟩) n cc) := ((S1.res.put 0 (.slice (some ⟨gc, 0, none⟩) n cc)).put 1 (.slice (some ⟨gr, 0, none⟩) 4 dc)).cell 0
  have r7 : (((w4.setCell ⟨gc, k * 3 + 1, none⟩ (.int .i64 ob)).setCell ⟨w.heap.size + 1 + 1, 0, none⟩ (.slice (some ⟨gc, 0, none⟩) n cc)).setCell ⟨w.heap.size + 1 + 1, 1, none⟩ (.slice (some ⟨gr, 0, none⟩) 4 dc)).cell? ⟨w.heap.size + 1 + 1, 1, none⟩ = some (.slice (some ⟨gr, 0, none⟩) 4 dc) := ((S1.res.put 0 (.slice (some ⟨gc, 0, none⟩) n cc)).put 1 (.slice (some ⟨gr, 0, none⟩) 4 dc)).cell 1
  have D : Hid (OwnH (((w4.setCell ⟨gc, k * 3 + 1, none⟩ (.int .i64 ob)).setCell ⟨w.heap.size + 1 + 1, 0, none⟩ (.slice (some ⟨gc, 0, none⟩) n cc)).setCell ⟨w.heap.size + 1 + 1, 1, none⟩ (.slice (some ⟨gr, 0, none⟩) 4 dc)) w.heap.size (.slice (some ⟨gc, 0, none⟩) n cc) (.slice (some ⟨gr, 0, none⟩) 4 dc) _ ∧ Below w.heap.size w (((w4.setCell ⟨gc, k * 3 + 1, none⟩ (.int .i64 ob)).setCell ⟨w.heap.size + 1 + 1, 0, none⟩ (.slice (some ⟨gc, 0, none⟩) n cc)).setCell ⟨w.heap.size + 1 + 1, 1, none⟩ (.slice (some ⟨gr, 0, none⟩) 4 dc))) := Lib.hid S1.done
  have HF := Lib.hid (show Hps.doH h ⟨6, a, ob, oc⟩ p = ⟨h.cs.set k ⟨cl.u, ob, cl.r⟩, h.rt⟩ by simp [Hps.doH, Hps.setDat, hk, hcl])
  clear S1
  clear S4 hcl hk
  go_wp2_with fail
  exact bodyPost_ret (v := .agg #[.slice (some ⟨gc, 0, none⟩) n cc, .slice (some ⟨gr, 0, none⟩) 4 dc]) (by simp [results, Try.results108, go_sem, *]) rfl ⟨_, _, rfl, by rw [HF.out]; exact D.out.1, D.out.2⟩
theorem Sep8 {w1 w2 : World} {b1 : Nat} {vc vr v8 : Value} {rvs : List Value} {h : Hp} {xs : List Int} (S : OwnHx w1 b1 vc vr rvs h) (o : OwnI w2 w1.heap.size v8 xs) : ∀ v ∈ vc :: vr :: rvs, v8.ownBlock = none ∨ v8.ownBlock ≠ v.ownBlock := fun v hv => by
  cases e : v8.ownBlock with
  | none => exact .inl rfl
  | some k =>
    right
    intro e'
    have h1 := (World.ownsRow.lt o k e).1
    have h2 := (S.blocks hv e'.symm).2
    omega
set_option maxHeartbeats 8000000 in
theorem l8Do_new (A R : Option Addr) (n c m d : Nat) (h : Hp) (a : Nat) (ob : Nat) (oc : Int) (p : Nat) (w : World) (hs : HS w w.heap.size A n R m h) (hv : Hps.validH h = true) (ha : a < 4) (hb3 : ob ≤ 3) (hp : p ≤ n) :
    Calls Try.prog 108 #[heapV A n c R m d, cmV ⟨1, a, ob, oc⟩, .int .i64 p] w (GaveH w (Hps.doH h ⟨1, a, ob, oc⟩ p)) := by
  have hlc := hs.cells.1
  have hlr := hs.roots.1
  have h40 := (Hps.valid_iff.1 hv).2.1
  obtain rfl : m = 4 := by rw [← hlr]; exact (Hps.valid_iff.1 hv).2.2.1
  have HL := Lib.hid hlr
  have h3 : ∀ cl ∈ h.cs, cl.r.length ≤ 1000000 := fun cl hcl => by have := (Hps.okCell_iff.1 ((Hps.valid_iff.1 hv).1 cl hcl)).2.2.1; omega
  have b3 : Below w.heap.size w (((w.alloc (.cells #[.slice A n c, .slice R 4 d] 26)).alloc (.cells #[.int .i64 1, .int .i64 a, .int .i64 ob, .int .i64 oc] 128)).alloc (.cells #[.slice none 0 0, .slice none 0 0] 26)) := (((Below.refl w.heap.size w).alloc (Nat.le_refl _) _).alloc (by simp) _).alloc (by simp; omega) _
  have s3 := hs.up b3
  have q0 := ((Rw.new w 26 #[.slice A n c, .slice R 4 d]).alloc (.cells #[.int .i64 1, .int .i64 a, .int .i64 ob, .int .i64 oc] 128)).alloc (.cells #[.slice none 0 0, .slice none 0 0] 26)
  have q1 := (Rw.new (w.alloc (.cells #[.slice A n c, .slice R 4 d] 26)) 128 #[.int .i64 1, .int .i64 a, .int .i64 ob, .int .i64 oc]).alloc (.cells #[.slice none 0 0, .slice none 0 0] 26)
  have q2 := Rw.new ((w.alloc (.cells #[.slice A n c, .slice R 4 d] 26)).alloc (.cells #[.int .i64 1, .int .i64 a, .int .i64 ob, .int .i64 oc] 128)) 26 #[.slice none 0 0, .slice none 0 0]
  simp only [World.size_alloc, Nat.add_assoc, Nat.reduceAdd] at q1 q2
  clear hlr
  go_enter Try.func108, Try.ntmps108
  go_wp2_with fail
  refine (l7Copy_any _ _ _ _ _ _ h _ s3 (by omega) (by omega) h3).mono ?_
  rintro e w1 ⟨vc, vr, rfl, ⟨rvs, own⟩, b1⟩
  replace q0 := q0.keep b1 q0.lt
  replace q1 := q1.keep b1 q1.lt
  replace q2 := q2.keep b1 q2.lt
  replace b3 := b3.trans (b1.mono b3.size)
  simp only [World.size_alloc, Nat.add_assoc, Nat.reduceAdd] at own b1
  have hsz : w.heap.size + 3 ≤ w1.heap.size := by have := b1.size; simp at this; omega
  obtain ⟨Ac, cc, Rc, dc, rfl, rfl, hcc, hdc, fA, fR⟩ := own.form
  rw [hlc] at own fA hcc ⊢
  rw [HL.out] at own fR hdc ⊢
  obtain ⟨gr, rfl, hgr1, hgr2⟩ := fR (by omega)
  have S : DoSt w (w1.alloc (.cells #[.slice Ac n cc, .slice (some ⟨gr, 0, none⟩) 4 dc] 26)) w1.heap.size #[.slice A n c, .slice R 4 d] #[.int .i64 1, .int .i64 a, .int .i64 ob, .int .i64 oc] #[.slice none 0 0, .slice none 0 0] (.slice Ac n cc) (.slice (some ⟨gr, 0, none⟩) 4 dc) rvs h :=
    ⟨own.below ((Below.refl w1.heap.size w1).alloc (Nat.le_refl _) _) (Nat.le_refl _), own.apart_new (Nat.le_refl _), Rw.new w1 _ _, q0.alloc _, q1.alloc _, q2.alloc _, b3.alloc b3.size _, hsz⟩
  clear b1 s3 h3 fR own q0 q1 q2 b3
  go_upto_region 2 with fail
  generalize w1.alloc (.cells #[.slice Ac n cc, .slice (some ⟨gr, 0, none⟩) 4 dc] 26) = w2 at S ⊢
  have hb := S.lo
  generalize w1.heap.size = b at S hb hgr2 fA ⊢
  clear hsz w1
  have y0 : w2.cell? ⟨w.heap.size + 1, 0, none⟩ = some (.int .i64 1) := S.cmd.cell 0
  have y1 : w2.cell? ⟨w.heap.size + 1, 1, none⟩ = some (.int .i64 a) := S.cmd.cell 1
  have y2 : w2.cell? ⟨w.heap.size + 1, 2, none⟩ = some (.int .i64 ob) := S.cmd.cell 2
  have y3 : w2.cell? ⟨w.heap.size + 1, 3, none⟩ = some (.int .i64 oc) := S.cmd.cell 3
  have x0 : w2.cell? ⟨b, 0, none⟩ = some (.slice Ac n cc) := S.box.cell 0
  have x1 : w2.cell? ⟨b, 1, none⟩ = some (.slice (some ⟨gr, 0, none⟩) 4 dc) := S.box.cell 1
  have hva := Hps.valid_iff.1 hv
  have hbl := S.box.lt
  have T0 : Rw (w2.alloc (.cells #[.bool true, .int .i64 oc, .slice none 0 0] 45)) w2.heap.size 45 #[.bool true, .int .i64 oc, .slice none 0 0] := Rw.new _ _ _
  have SS := Lib.hid S
  have B0 : Below w2.heap.size w2 (w2.alloc (.cells #[.bool true, .int .i64 oc, .slice none 0 0] 45)) := (Below.refl _ _).alloc (Nat.le_refl _) _
  clear S hva
  go_wp2_with fail
  go_loopw [9] (fun i wr => ∃ (k : Nat) (v8 : Value), k ≤ ob ∧ i = .int .i64 k ∧ OwnI wr (w2.heap.size + 1) v8 (List.replicate k (-1)) ∧ Rw wr w2.heap.size 45 #[.bool true, .int .i64 oc, v8] ∧ Below w2.heap.size w2 wr ∧ w2.heap.size + 1 ≤ wr.heap.size) (fun i _ => ob - (intOf i).toNat)
  case atStart => exact ⟨0, .slice none 0 0, by omega, rfl, World.ownsRow_nil _ _ _ _, T0, B0, by simp⟩
  case round =>
    clear T0 B0
    obtain ⟨k, v8, hk, rfl, ho, hx, bb, hsz⟩ := hrel
    have z2 : wr.cell? ⟨w.heap.size + 1, 2, none⟩ = some (.int .i64 ob) := (SS.out.up bb).cmd.cell 2
    have x2 : wr.cell? ⟨w2.heap.size, 2, none⟩ = some v8 := hx.cell 2
    obtain ⟨A8, c8, e, hA⟩ := ho.form
    have hlen : (List.replicate k (-1 : Int)).length = k := by simp
    rw [hlen] at e hA
    subst e
    by_cases hlt : k < ob
    · have hlt' : (k : Int) < ob := by omega
      have ow := World.ownsRow.alloc ho (.cells #[.int .i64 (-1)] 3)
      have rr : IS (wr.alloc (.cells #[.int .i64 (-1)] 3)) (wr.alloc (.cells #[.int .i64 (-1)] 3)).heap.size (some ⟨wr.heap.size, 0, none⟩) 1 [-1] := (own_oneI wr (-1) 0 (Nat.zero_le _)).reads
      have HSx := Lib.hid (show List.replicate k (-1 : Int) ++ [-1] = List.replicate (k + 1) (-1) by rw [List.replicate_succ'])
      clear hlen hp y0 y1 y2 y3 x0 x1
      go_wp2_with (at_builtin; refine wpList_appendI rfl (.tmp 26) (.tmp 27) rfl (w2.heap.size + 1) _ (List.replicate k (-1)) rfl ow (some ⟨wr.heap.size, 0, none⟩) 1 1 _ [-1] rfl rr (by simp; omega) (by simp; omega) ?_; intro v5 w5 o5 g5 s5; have hx5 := Rw.far (hx.alloc (.cells #[.int .i64 (-1)] 3)) g5 (row_ne ho (by omega)); have x0 := hx5.cell 2; have x3 := hx5.frozen 2; obtain ⟨A5, c5, e5, f5⟩ := o5.form; subst e5; clear f5)
      have o6 : OwnI w5 (w2.heap.size + 1) (.slice A5 (k + 1) c5) (List.replicate (k + 1) (-1)) := by
        have := OwnI.cast HSx.out o5
        simpa using this
      have b5 : Below w2.heap.size w2 w5 := (bb.alloc bb.size _).grown g5 (by simp; omega) (fun kk hk => by have := (World.ownsRow.lt ho kk hk).1; omega)
      have s5' : w2.heap.size + 1 ≤ w5.heap.size := by have := g5.size; simp at this; omega
      go_roundw
      case rel =>
        refine ⟨k + 1, .slice A5 (k + 1) c5, by omega, by go_num, ?_, hx5.put 2 _, b5.setCell (p := ⟨w2.heap.size, 2, none⟩) (by simp) _, by simpa using s5'⟩
        exact o6.far (only_put (World.grownBy.refl _ _) 2 _) (.inr fun e => row_ne o6 (by omega) e.symm)
      case measure => simp [intOf]; omega
    · obtain rfl : k = ob := by omega
      have S := SS.out.up bb
      have z0 : wr.cell? ⟨b, 0, none⟩ = some (.slice Ac n cc) := S.box.cell 0
      have t0 : wr.cell? ⟨w2.heap.size, 0, none⟩ = some (.bool true) := hx.cell 0
      have t1 : wr.cell? ⟨w2.heap.size, 1, none⟩ = some (.int .i64 oc) := hx.cell 1
      have ap8 := Sep8 SS.out.own (ho.base (base' := w2.heap.size) (by omega))
      have h8b : (Value.slice A8 k c8).ownBlock ≠ some b := fun e => by
        have := (World.ownsRow.lt ho b e).1
        omega
      have o8 : OwnI wr (w.heap.size + 3) (.slice A8 k c8) (List.replicate k (-1)) := ho.base (by omega)
      clear hlen hA y0 y1 y2 y3 x0 x1
      by_cases hpn : p = n
      · subst hpn
        have own' := World.ownsRow.alloc S.own.row (.cells #[.bool true, .int .i64 oc, .slice A8 k c8] 45)
        rw [hlc] at own'
        have rr := Rw.new wr 45 #[.bool true, .int .i64 oc, .slice A8 k c8]
        have B1 : Below wr.heap.size wr (wr.alloc (.cells #[.bool true, .int .i64 oc, .slice A8 k c8] 45)) := (Below.refl _ _).alloc (Nat.le_refl _) _
        have SB := S.up B1
        have o8' := o8.below B1 (Nat.le_refl _)
        have hlo := S.lo
        have hbsz := S.bel.size
        have hsz3 : w.heap.size + 3 ≤ wr.heap.size := by have := S.box.lt; omega
        have GO := Lib.hid (fun v9 w9 (g9 : (wr.alloc (.cells #[.bool true, .int .i64 oc, .slice A8 k c8] 45)).grownBy w9 (Value.slice Ac p cc).ownBlock) o9 s9 => SB.snoc (cl := ⟨true, oc, List.replicate k (-1)⟩) (v9 := v9) (w1 := w9) g9 (by rw [hlc]; exact o9) s9 o8' ap8 h8b)
        have FB := Lib.hid (fun w9 (g9 : (wr.alloc (.cells #[.bool true, .int .i64 oc, .slice A8 k c8] 45)).grownBy w9 (Value.slice Ac p cc).ownBlock) => Rw.far SB.box g9 (fun e => by
          rcases SB.apart _ (List.mem_cons_self) with e' | e'
          · rw [e'] at e; cases e
          · exact e' e.symm))
        clear S SB o8 o8' ho ap8 B1 hx bb
        go_upto_region 12 with (at_builtin; refine wpList_appendC rfl (.tmp 36) (.tmp 38) rfl (w.heap.size + 3) _ p (flatC h.cs rvs) rfl own' wr.heap.size true oc A8 k c8 rfl rr (by omega) (by simp; omega) ?_; intro v9 w9 A9 c9 e9 o9 g9 s9; subst e9; have SN := GO.out _ w9 g9 o9 s9; have z9 := (FB.out w9 g9).cell 0; have f9 := (FB.out w9 g9).frozen 0; clear o9 g9 s9)
        generalize w9.setCell ⟨b, 0, none⟩ (.slice A9 (p + 1) c9) = w5 at SN ⊢
        clear z9 f9 GO FB own' rr z0 t0 t1
        have v1 : w5.cell? ⟨b, 1, none⟩ = some (.slice (some ⟨gr, 0, none⟩) 4 dc) := SN.box.cell 1
        have v2 : w5.cell? ⟨w.heap.size + 1, 1, none⟩ = some (.int .i64 a) := SN.cmd.cell 1
        obtain ⟨xo, hxo, cr⟩ := SN.own.roots.cell_at (j := a) (by omega)
        have fz : w5.frozen? ⟨gr, a, none⟩ = false := SN.own.roots.frozen HL.out a
        have ham : (a : Int) < 4 := by omega
        have S1 := SN.root (i := a) HL.out p
        have r0 : (w5.setCell ⟨gr, a, none⟩ (.int .i64 p)).cell? ⟨b, 0, none⟩ = some (.slice A9 (p + 1) c9) := S1.box.cell 0
        have r1 : (w5.setCell ⟨gr, a, none⟩ (.int .i64 p)).cell? ⟨b, 1, none⟩ = some (.slice (some ⟨gr, 0, none⟩) 4 dc) := S1.box.cell 1
        have r2 : (w5.setCell ⟨gr, a, none⟩ (.int .i64 p)).frozen? ⟨w.heap.size + 1 + 1, 0, none⟩ = false := S1.res.frozen 0
        have r3 : (w5.setCell ⟨gr, a, none⟩ (.int .i64 p)).frozen? ⟨w.heap.size + 1 + 1, 1, none⟩ = false := S1.res.frozen 1
        have r4 : (w5.setCell ⟨gr, a, none⟩ (.int .i64 p)).cell? ⟨w.heap.size + 1 + 1, 0, none⟩ = some (.slice none 0 0) := S1.res.cell 0
        have r5 : (w5.setCell ⟨gr, a, none⟩ (.int .i64 p)).cell? ⟨w.heap.size + 1 + 1, 1, none⟩ = some (.slice none 0 0) := S1.res.cell 1
        have r6 : (((w5.setCell ⟨gr, a, none⟩ (.int .i64 p)).setCell ⟨w.heap.size + 1 + 1, 0, none⟩ (.slice A9 (p + 1) c9)).setCell ⟨w.heap.size + 1 + 1, 1, none⟩ (.slice (some ⟨gr, 0, none⟩) 4 dc)).cell? ⟨w.heap.size + 1 + 1, 0, none⟩ = some (.slice A9 (p + 1) c9) := ((S1.res.put 0 (.slice A9 (p + 1) c9)).put 1 (.slice (some ⟨gr, 0, none⟩) 4 dc)).cell 0
        have r7 : (((w5.setCell ⟨gr, a, none⟩ (.int .i64 p)).setCell ⟨w.heap.size + 1 + 1, 0, none⟩ (.slice A9 (p + 1) c9)).setCell ⟨w.heap.size + 1 + 1, 1, none⟩ (.slice (some ⟨gr, 0, none⟩) 4 dc)).cell? ⟨w.heap.size + 1 + 1, 1, none⟩ = some (.slice (some ⟨gr, 0, none⟩) 4 dc) := ((S1.res.put 0 (.slice A9 (p + 1) c9)).put 1 (.slice (some ⟨gr, 0, none⟩) 4 dc)).cell 1
        have D : Hid (OwnH (((w5.setCell ⟨gr, a, none⟩ (.int .i64 p)).setCell ⟨w.heap.size + 1 + 1, 0, none⟩ (.slice A9 (p + 1) c9)).setCell ⟨w.heap.size + 1 + 1, 1, none⟩ (.slice (some ⟨gr, 0, none⟩) 4 dc)) w.heap.size (.slice A9 (p + 1) c9) (.slice (some ⟨gr, 0, none⟩) 4 dc) _ ∧ Below w.heap.size w (((w5.setCell ⟨gr, a, none⟩ (.int .i64 p)).setCell ⟨w.heap.size + 1 + 1, 0, none⟩ (.slice A9 (p + 1) c9)).setCell ⟨w.heap.size + 1 + 1, 1, none⟩ (.slice (some ⟨gr, 0, none⟩) 4 dc))) := Lib.hid S1.done
        have HF := Lib.hid (show Hps.doH h ⟨1, a, k, oc⟩ p = ⟨h.cs ++ [⟨true, oc, List.replicate k (-1)⟩], h.rt.set a p⟩ by simp [Hps.doH, Hps.putCl, Hps.newCl, hlc]; try omega)
        clear S1
        clear SN hxo
        go_wp2_with fail
        exact bodyPost_ret (v := .agg #[.slice A9 (p + 1) c9, .slice (some ⟨gr, 0, none⟩) 4 dc]) (by simp [results, Try.results108, go_sem, *]) rfl ⟨_, _, rfl, by rw [HF.out]; exact D.out.1, D.out.2⟩
      · obtain ⟨old, hold⟩ : ∃ old, h.cs[p]? = some old := ⟨_, List.getElem?_eq_getElem (show p < h.cs.length by omega)⟩
        obtain ⟨gc, v, e4, hgc1, hgc2, _, _, c0, c1, c2, fzc⟩ := S.own.cell_at hold
        subst e4
        have f0 := fzc (p * 3)
        have f1 := fzc (p * 3 + 1)
        have f2 := fzc (p * 3 + 2)
        have SN := S.cellN hlc (cl := ⟨true, oc, List.replicate k (-1)⟩) hold o8 ap8 (.inr h8b)
        have hpn' : (p : Int) < n := by omega
        have hpne : ¬ (p : Int) = n := by omega
        have hpb : ((p : Int) == n) = false := by rw [beq_eq_false_iff_ne]; exact hpne
        have hplt := (List.getElem?_eq_some_iff.1 hold).1
        clear S o8 ho ap8 hold fzc hx bb
        go_upto_region 12 with fail
        generalize ((wr.setCell ⟨gc, p * 3, none⟩ (.bool true)).setCell ⟨gc, p * 3 + 1, none⟩ (.int .i64 oc)).setCell ⟨gc, p * 3 + 2, none⟩ (.slice A8 k c8) = w5 at SN ⊢
        clear c0 c1 c2 f0 f1 f2 z0 t0 t1
        have v1 : w5.cell? ⟨b, 1, none⟩ = some (.slice (some ⟨gr, 0, none⟩) 4 dc) := SN.box.cell 1
        have v2 : w5.cell? ⟨w.heap.size + 1, 1, none⟩ = some (.int .i64 a) := SN.cmd.cell 1
        obtain ⟨xo, hxo, cr⟩ := SN.own.roots.cell_at (j := a) (by omega)
        have fz : w5.frozen? ⟨gr, a, none⟩ = false := SN.own.roots.frozen HL.out a
        have ham : (a : Int) < 4 := by omega
        have S1 := SN.root (i := a) HL.out p
        have r0 : (w5.setCell ⟨gr, a, none⟩ (.int .i64 p)).cell? ⟨b, 0, none⟩ = some (.slice (some ⟨gc, 0, none⟩) n cc) := S1.box.cell 0
        have r1 : (w5.setCell ⟨gr, a, none⟩ (.int .i64 p)).cell? ⟨b, 1, none⟩ = some (.slice (some ⟨gr, 0, none⟩) 4 dc) := S1.box.cell 1
        have r2 : (w5.setCell ⟨gr, a, none⟩ (.int .i64 p)).frozen? ⟨w.heap.size + 1 + 1, 0, none⟩ = false := S1.res.frozen 0
        have r3 : (w5.setCell ⟨gr, a, none⟩ (.int .i64 p)).frozen? ⟨w.heap.size + 1 + 1, 1, none⟩ = false := S1.res.frozen 1
        have r4 : (w5.setCell ⟨gr, a, none⟩ (.int .i64 p)).cell? ⟨w.heap.size + 1 + 1, 0, none⟩ = some (.slice none 0 0) := S1.res.cell 0
        have r5 : (w5.setCell ⟨gr, a, none⟩ (.int .i64 p)).cell? ⟨w.heap.size + 1 + 1, 1, none⟩ = some (.slice none 0 0) := S1.res.cell 1
        have r6 : (((w5.setCell ⟨gr, a, none⟩ (.int .i64 p)).setCell ⟨w.heap.size + 1 + 1, 0, none⟩ (.slice (some ⟨gc, 0, none⟩) n cc)).setCell ⟨w.heap.size + 1 + 1, 1, none⟩ (.slice (some ⟨gr, 0, none⟩) 4 dc)).cell? ⟨w.heap.size + 1 + 1, 0, none⟩ = some (.slice (some ⟨gc, 0, none⟩) n cc) := ((S1.res.put 0 (.slice (some ⟨gc, 0, none⟩) n cc)).put 1 (.slice (some ⟨gr, 0, none⟩) 4 dc)).cell 0
        have r7 : (((w5.setCell ⟨gr, a, none⟩ (.int .i64 p)).setCell ⟨w.heap.size + 1 + 1, 0, none⟩ (.slice (some ⟨gc, 0, none⟩) n cc)).setCell ⟨w.heap.size + 1 + 1, 1, none⟩ (.slice (some ⟨gr, 0, none⟩) 4 dc)).cell? ⟨w.heap.size + 1 + 1, 1, none⟩ = some (.slice (some ⟨gr, 0, none⟩) 4 dc) := ((S1.res.put 0 (.slice (some ⟨gc, 0, none⟩) n cc)).put 1 (.slice (some ⟨gr, 0, none⟩) 4 dc)).cell 1
        have D : Hid (OwnH (((w5.setCell ⟨gr, a, none⟩ (.int .i64 p)).setCell ⟨w.heap.size + 1 + 1, 0, none⟩ (.slice (some ⟨gc, 0, none⟩) n cc)).setCell ⟨w.heap.size + 1 + 1, 1, none⟩ (.slice (some ⟨gr, 0, none⟩) 4 dc)) w.heap.size (.slice (some ⟨gc, 0, none⟩) n cc) (.slice (some ⟨gr, 0, none⟩) 4 dc) _ ∧ Below w.heap.size w (((w5.setCell ⟨gr, a, none⟩ (.int .i64 p)).setCell ⟨w.heap.size + 1 + 1, 0, none⟩ (.slice (some ⟨gc, 0, none⟩) n cc)).setCell ⟨w.heap.size + 1 + 1, 1, none⟩ (.slice (some ⟨gr, 0, none⟩) 4 dc))) := Lib.hid S1.done
        have HF := Lib.hid (show Hps.doH h ⟨1, a, k, oc⟩ p = ⟨h.cs.set p ⟨true, oc, List.replicate k (-1)⟩, h.rt.set a p⟩ by simp [Hps.doH, Hps.putCl, Hps.newCl, hlc]; try omega)
        clear S1
        clear SN hxo
        go_wp2_with fail
        exact bodyPost_ret (v := .agg #[.slice (some ⟨gc, 0, none⟩) n cc, .slice (some ⟨gr, 0, none⟩) 4 dc]) (by simp [results, Try.results108, go_sem, *]) rfl ⟨_, _, rfl, by rw [HF.out]; exact D.out.1, D.out.2⟩
theorem l8Do_any (A R : Option Addr) (n c m d : Nat) (h : Hp) (o : Cm) (p : Nat) (w : World) (hs : HS w w.heap.size A n R m h) (hc : Hps.canH h o = true) (hp : o.op = 1 → p ≤ n) :
    Calls Try.prog 108 #[heapV A n c R m d, cmV o, .int .i64 p] w (GaveH w (Hps.doH h o p)) := by
  obtain ⟨hv, ho⟩ := Hps.canH_parts hc
  obtain ⟨op, a, b, cc⟩ := o
  obtain ⟨ha1, ha2⟩ := Hps.okCm_a ho
  obtain ⟨a, rfl⟩ := Int.eq_ofNat_of_zero_le ha1
  have ha : a < 4 := by simp only at ha2; omega
  rcases Hps.okCm_op ho with e | e | e | e | e | e <;> simp only at e <;> subst e
  · obtain ⟨_, hb, _⟩ := (Hps.okCm_new rfl).1 ho
    simp only at hb
    obtain ⟨b, rfl⟩ := Int.eq_ofNat_of_zero_le hb.1
    exact l8Do_new A R n c m d h a b cc p w hs hv ha (by omega) (hp rfl)
  · obtain ⟨_, hb, hcc⟩ := (Hps.okCm_get (.inl rfl)).1 ho
    rw [Hps.canH_get hv ho rfl] at hc
    simp only at hb hcc hc
    obtain ⟨b, rfl⟩ := Int.eq_ofNat_of_zero_le hb.1
    obtain ⟨cc, rfl⟩ := Int.eq_ofNat_of_zero_le hcc.1
    obtain ⟨k, cl, hk, hcl, hl⟩ := Hps.placeH_iff.1 hc
    exact l8Do_get A R n c m d h a b cc p w hs hv ha (by omega) k cl hk hcl (by omega)
  · obtain ⟨_, hb, hcc⟩ := (Hps.okCm_get (.inr rfl)).1 ho
    rw [Hps.canH_set hv ho rfl] at hc
    simp only at hb hcc hc
    obtain ⟨b, rfl⟩ := Int.eq_ofNat_of_zero_le hb.1
    obtain ⟨cc, rfl⟩ := Int.eq_ofNat_of_zero_le hcc.1
    obtain ⟨k, cl, hk, hcl, hl⟩ := Hps.placeH_iff.1 hc
    exact l8Do_set A R n c m d h a b cc p w hs hv ha (by omega) k cl hk hcl (by omega)
  · obtain ⟨_, hb, _⟩ := (Hps.okCm_copy rfl).1 ho
    simp only at hb
    obtain ⟨b, rfl⟩ := Int.eq_ofNat_of_zero_le hb.1
    exact l8Do_copy A R n c m d h a b cc p w hs hv ha (by omega)
  · exact l8Do_drop A R n c m d h a b cc p w hs hv ha
  · rw [Hps.canH_data hv ho rfl] at hc
    obtain ⟨k, hk, hk2, _⟩ := Hps.okRef_nat (Hps.root_ok hv _) (of_decide_eq_true hc)
    exact l8Do_data A R n c m d h a b cc p w hs hv ha k _ hk (List.getElem?_eq_getElem hk2)
end Go.Proofs.Ytakdjiojahlnmaa

namespace Go.Proofs.Ytakdjiojahlnmaa
open Go.RowKit
set_option maxRecDepth 100000
/-- a heap of the call's own, and a bool -/
def GaveH2 (w : World) (h : Hp) (ok : Bool) (e : Ending) (w' : World) : Prop := ∃ vc vr, e = .returned (.tuple #[.agg #[vc, vr], .bool ok]) ∧ OwnH w' w.heap.size vc vr h ∧ Below w.heap.size w w'
theorem own_zeroH (w : World) (base : Nat) (_hb : base ≤ w.heap.size) : OwnH w base (.slice none 0 0) (.slice none 0 0) Hps.zeroH := by
  refine ⟨[], rfl, World.ownsRow_nil _ _ _ _, fun k c v hc => by simp [Hps.zeroH] at hc, World.ownsRow_nil _ _ _ _, ?_⟩
  simp [Sep, Value.ownBlock]
/-- a heap of the call's own goes into the box of a result -/
theorem OwnH.out {w wr : World} {base g : Nat} {vc vr : Value} {h : Hp} (ho : OwnH wr base vc vr h) (hg : g < base) (hb : Below w.heap.size w wr) (hw : w.heap.size ≤ g) :
    OwnH ((wr.setCell ⟨g, 0, none⟩ vc).setCell ⟨g, 1, none⟩ vr) w.heap.size vc vr h ∧ Below w.heap.size w ((wr.setCell ⟨g, 0, none⟩ vc).setCell ⟨g, 1, none⟩ vr) := by
  obtain ⟨rvs, own⟩ := ho
  have ap : Apart (some g) (vc :: vr :: rvs) := own.apart_below hg
  exact ⟨⟨rvs, ((own.far (put_any wr g 0 vc) ap).far (put_any _ g 1 vr) ap).base (by omega)⟩, (hb.setCell (p := ⟨g, 0, none⟩) hw vc).setCell (p := ⟨g, 1, none⟩) hw vr⟩
theorem OwnH.base {w : World} {base base' : Nat} {vc vr : Value} {h : Hp} (ho : OwnH w base vc vr h) (hb : base' ≤ base) : OwnH w base' vc vr h := by
  obtain ⟨rvs, own⟩ := ho
  exact ⟨rvs, own.base hb⟩
theorem OwnH.below {w w' : World} {base B : Nat} {vc vr : Value} {h : Hp} (ho : OwnH w base vc vr h) (hb : Below B w w') (hB : w.heap.size ≤ B) : OwnH w' base vc vr h := by
  obtain ⟨rvs, own⟩ := ho
  exact ⟨rvs, own.below hb hB⟩
theorem OwnH.form {w : World} {base : Nat} {vc vr : Value} {h : Hp} (ho : OwnH w base vc vr h) : ∃ A c R d, vc = .slice A h.cs.length c ∧ vr = .slice R h.rt.length d ∧ HS w w.heap.size A h.cs.length R h.rt.length h := by
  obtain ⟨rvs, own⟩ := ho
  obtain ⟨A, c, R, d, rfl, rfl, _⟩ := own.form
  exact ⟨A, c, R, d, rfl, rfl, own.reads⟩
theorem OwnH.slices {w : World} {base : Nat} {vc vr : Value} {h : Hp} (ho : OwnH w base vc vr h) : ∃ A n c R m d, vc = .slice A n c ∧ vr = .slice R m d := by
  obtain ⟨A, c, R, d, e1, e2, _⟩ := ho.form
  exact ⟨A, _, c, R, _, d, e1, e2⟩
namespace Hps
theorem stepH_no {h : Hp} {o : Cm} (e : validH h = false ∨ okCm o = false) : stepH h o = (zeroH, false) := by
  unfold stepH
  rcases e with e | e <;> simp [e]
theorem stepH_cannot {h : Hp} {o : Cm} (h1 : validH h = true) (h2 : okCm o = true) (h3 : canH h o = false) : stepH h o = (h, false) := by simp [stepH, h1, h2, h3]
theorem stepH_full {h : Hp} {o : Cm} (h1 : validH h = true) (h2 : okCm o = true) (h3 : o.op = 1) (h4 : h.cs.length = 40) : stepH h o = (h, false) := by simp [stepH, h1, h2, h3, h4]
theorem stepH_does {h : Hp} {o : Cm} (h1 : validH h = true) (h2 : okCm o = true) (h3 : canH h o = true) (h4 : ¬ (o.op = 1 ∧ h.cs.length = 40)) : stepH h o = (doH h o h.cs.length, true) := by
  simp [stepH, h1, h2, h3]
  intro h5 h6
  exact h4 ⟨h5, h6⟩
end Hps
set_option maxHeartbeats 4000000 in
theorem mStepHeap_any (A R : Option Addr) (n c m d : Nat) (h : Hp) (o : Cm) (w : World) (hs : HS w w.heap.size A n R m h) (hn : n ≤ 1099511627776) (hm : m ≤ 1099511627776) :
    Calls Try.prog 100 #[heapV A n c R m d, cmV o] w (GaveH2 w (Hps.stepH h o).1 (Hps.stepH h o).2) := by
  have b2 : Below w.heap.size w (((w.alloc (.cells #[.slice A n c, .slice R m d] 26)).alloc (.cells #[.int .i64 o.op, .int .i64 o.a, .int .i64 o.b, .int .i64 o.c] 128)).alloc (.cells #[.slice none 0 0, .slice none 0 0] 26)) := (((Below.refl w.heap.size w).alloc (Nat.le_refl _) _).alloc (by simp) _).alloc (by simp; omega) _
  have s2 := hs.up b2
  have q1 := ((Rw.new w 26 #[.slice A n c, .slice R m d]).alloc (.cells #[.int .i64 o.op, .int .i64 o.a, .int .i64 o.b, .int .i64 o.c] 128)).alloc (.cells #[.slice none 0 0, .slice none 0 0] 26)
  have q2 := (Rw.new (w.alloc (.cells #[.slice A n c, .slice R m d] 26)) 128 #[.int .i64 o.op, .int .i64 o.a, .int .i64 o.b, .int .i64 o.c]).alloc (.cells #[.slice none 0 0, .slice none 0 0] 26)
  have q3 := Rw.new ((w.alloc (.cells #[.slice A n c, .slice R m d] 26)).alloc (.cells #[.int .i64 o.op, .int .i64 o.a, .int .i64 o.b, .int .i64 o.c] 128)) 26 #[.slice none 0 0, .slice none 0 0]
  simp only [World.size_alloc] at q2 q3
  go_enter Try.func100, Try.ntmps100
  go_wp2_with fail
  refine (mHeapValid_any _ _ _ _ _ _ h _ s2 hn hm).mono ?_
  rintro e w1 ⟨rfl, b1⟩
  replace q1 := q1.keep b1 q1.lt
  replace q2 := q2.keep b1 q2.lt
  replace q3 := q3.keep b1 q3.lt
  replace b2 := b2.trans (b1.mono b2.size)
  clear b1 s2
  cases hv : Hps.validH h
  · have HF := Lib.hid (Hps.stepH_no (o := o) (.inl hv))
    have r2 : (w1).frozen? ⟨w.heap.size + 1 + 1, 0, none⟩ = false := q3.frozen 0
    have r3 : (w1).frozen? ⟨w.heap.size + 1 + 1, 1, none⟩ = false := q3.frozen 1
    have r4 : (w1).cell? ⟨w.heap.size + 1 + 1, 0, none⟩ = some (.slice none 0 0) := q3.cell 0
    have r5 : (w1).cell? ⟨w.heap.size + 1 + 1, 1, none⟩ = some (.slice none 0 0) := q3.cell 1
    have r6 : (((w1).setCell ⟨w.heap.size + 1 + 1, 0, none⟩ (.slice none 0 0)).setCell ⟨w.heap.size + 1 + 1, 1, none⟩ (.slice none 0 0)).cell? ⟨w.heap.size + 1 + 1, 0, none⟩ = some (.slice none 0 0) := ((q3.put 0 (.slice none 0 0)).put 1 (.slice none 0 0)).cell 0
    have r7 : (((w1).setCell ⟨w.heap.size + 1 + 1, 0, none⟩ (.slice none 0 0)).setCell ⟨w.heap.size + 1 + 1, 1, none⟩ (.slice none 0 0)).cell? ⟨w.heap.size + 1 + 1, 1, none⟩ = some (.slice none 0 0) := ((q3.put 0 (.slice none 0 0)).put 1 (.slice none 0 0)).cell 1
    have D : Hid (OwnH (((w1).setCell ⟨w.heap.size + 1 + 1, 0, none⟩ (.slice none 0 0)).setCell ⟨w.heap.size + 1 + 1, 1, none⟩ (.slice none 0 0)) w.heap.size (.slice none 0 0) (.slice none 0 0) Hps.zeroH ∧ Below w.heap.size w (((w1).setCell ⟨w.heap.size + 1 + 1, 0, none⟩ (.slice none 0 0)).setCell ⟨w.heap.size + 1 + 1, 1, none⟩ (.slice none 0 0))) := Lib.hid ((own_zeroH w1 w1.heap.size (Nat.le_refl _)).out q3.lt b2 (by omega))
    clear q1 q2 q3 b2
    go_wp2_with fail
    exact bodyPost_ret (v := .tuple #[.agg #[.slice none 0 0, .slice none 0 0], .bool false]) (by simp [results, Try.results100, go_sem, *]) rfl ⟨_, _, by rw [HF.out], by rw [HF.out]; exact D.out.1, D.out.2⟩
  have s2 := hs.up b2
  have z0 : w1.cell? ⟨w.heap.size + 1, 0, none⟩ = some (.int .i64 o.op) := q2.cell 0
  have z1 : w1.cell? ⟨w.heap.size + 1, 1, none⟩ = some (.int .i64 o.a) := q2.cell 1
  have z2 : w1.cell? ⟨w.heap.size + 1, 2, none⟩ = some (.int .i64 o.b) := q2.cell 2
  have z3 : w1.cell? ⟨w.heap.size + 1, 3, none⟩ = some (.int .i64 o.c) := q2.cell 3
  go_wp2_with fail
  refine (mCommandValid_any o _).mono ?_
  rintro e w3 ⟨rfl, b1⟩
  replace q1 := q1.keep b1 q1.lt
  replace q2 := q2.keep b1 q2.lt
  replace q3 := q3.keep b1 q3.lt
  replace b2 := b2.trans (b1.mono b2.size)
  clear b1 s2 z0 z1 z2 z3
  cases ho : Hps.okCm o
  · have HF := Lib.hid (Hps.stepH_no (h := h) (.inr ho))
    have r2 : (w3).frozen? ⟨w.heap.size + 1 + 1, 0, none⟩ = false := q3.frozen 0
    have r3 : (w3).frozen? ⟨w.heap.size + 1 + 1, 1, none⟩ = false := q3.frozen 1
    have r4 : (w3).cell? ⟨w.heap.size + 1 + 1, 0, none⟩ = some (.slice none 0 0) := q3.cell 0
    have r5 : (w3).cell? ⟨w.heap.size + 1 + 1, 1, none⟩ = some (.slice none 0 0) := q3.cell 1
    have r6 : (((w3).setCell ⟨w.heap.size + 1 + 1, 0, none⟩ (.slice none 0 0)).setCell ⟨w.heap.size + 1 + 1, 1, none⟩ (.slice none 0 0)).cell? ⟨w.heap.size + 1 + 1, 0, none⟩ = some (.slice none 0 0) := ((q3.put 0 (.slice none 0 0)).put 1 (.slice none 0 0)).cell 0
    have r7 : (((w3).setCell ⟨w.heap.size + 1 + 1, 0, none⟩ (.slice none 0 0)).setCell ⟨w.heap.size + 1 + 1, 1, none⟩ (.slice none 0 0)).cell? ⟨w.heap.size + 1 + 1, 1, none⟩ = some (.slice none 0 0) := ((q3.put 0 (.slice none 0 0)).put 1 (.slice none 0 0)).cell 1
    have D : Hid (OwnH (((w3).setCell ⟨w.heap.size + 1 + 1, 0, none⟩ (.slice none 0 0)).setCell ⟨w.heap.size + 1 + 1, 1, none⟩ (.slice none 0 0)) w.heap.size (.slice none 0 0) (.slice none 0 0) Hps.zeroH ∧ Below w.heap.size w (((w3).setCell ⟨w.heap.size + 1 + 1, 0, none⟩ (.slice none 0 0)).setCell ⟨w.heap.size + 1 + 1, 1, none⟩ (.slice none 0 0))) := Lib.hid ((own_zeroH w3 w3.heap.size (Nat.le_refl _)).out q3.lt b2 (by omega))
    clear q1 q2 q3 b2
    go_wp2_with fail
    exact bodyPost_ret (v := .tuple #[.agg #[.slice none 0 0, .slice none 0 0], .bool false]) (by simp [results, Try.results100, go_sem, *]) rfl ⟨_, _, by rw [HF.out], by rw [HF.out]; exact D.out.1, D.out.2⟩
  have s2 := hs.up b2
  have x0 : w3.cell? ⟨w.heap.size, 0, none⟩ = some (.slice A n c) := q1.cell 0
  have x1 : w3.cell? ⟨w.heap.size, 1, none⟩ = some (.slice R m d) := q1.cell 1
  have z0 : w3.cell? ⟨w.heap.size + 1, 0, none⟩ = some (.int .i64 o.op) := q2.cell 0
  have z1 : w3.cell? ⟨w.heap.size + 1, 1, none⟩ = some (.int .i64 o.a) := q2.cell 1
  have z2 : w3.cell? ⟨w.heap.size + 1, 2, none⟩ = some (.int .i64 o.b) := q2.cell 2
  have z3 : w3.cell? ⟨w.heap.size + 1, 3, none⟩ = some (.int .i64 o.c) := q2.cell 3
  go_wp2_with fail
  refine (mCommandPossible_any _ _ _ _ _ _ h o _ s2 hn hm).mono ?_
  rintro e w4 ⟨rfl, b1⟩
  replace q1 := q1.keep b1 q1.lt
  replace q2 := q2.keep b1 q2.lt
  replace q3 := q3.keep b1 q3.lt
  replace b2 := b2.trans (b1.mono b2.size)
  clear b1 s2 z0 z1 z2 z3 x0 x1
  have s2 := hs.up b2
  have x0 : w4.cell? ⟨w.heap.size, 0, none⟩ = some (.slice A n c) := q1.cell 0
  have x1 : w4.cell? ⟨w.heap.size, 1, none⟩ = some (.slice R m d) := q1.cell 1
  have z0 : w4.cell? ⟨w.heap.size + 1, 0, none⟩ = some (.int .i64 o.op) := q2.cell 0
  have z1 : w4.cell? ⟨w.heap.size + 1, 1, none⟩ = some (.int .i64 o.a) := q2.cell 1
  have z2 : w4.cell? ⟨w.heap.size + 1, 2, none⟩ = some (.int .i64 o.b) := q2.cell 2
  have z3 : w4.cell? ⟨w.heap.size + 1, 3, none⟩ = some (.int .i64 o.c) := q2.cell 3
  have h40 := (Hps.valid_iff.1 hv).2.1
  have hr4 := (Hps.valid_iff.1 hv).2.2.1
  have hlc := hs.cells.1
  have hlr := hs.roots.1
  have hn4 : n ≤ 40 := by omega
  have hm4 : m ≤ 4 := by omega
  have HL := Lib.hid hlc
  have H3 := Lib.hid (fun cl (hcl : cl ∈ h.cs) => show cl.r.length ≤ 1000000 by have := (Hps.okCell_iff.1 ((Hps.valid_iff.1 hv).1 cl hcl)).2.2.1; omega)
  clear h40 hr4 hlr hlc
  have hsz : w.heap.size + 3 ≤ w4.heap.size := by have := q3.lt; omega
  cases hc : Hps.canH h o
  · have HF := Lib.hid (Hps.stepH_cannot hv ho hc)
    clear hv ho hc
    go_wp2_with fail
    refine (l7Copy_any _ _ _ _ _ _ h _ s2 (by omega) (by omega) H3.out).mono ?_
    rintro e w5 ⟨vc, vr, rfl, oh, b1⟩
    obtain ⟨A5, n5, c5, R5, m5, d5, rfl, rfl⟩ := oh.slices
    replace q3 := q3.keep b1 q3.lt
    have b3 := b2.trans (b1.mono b2.size)
    replace oh := oh.base (base' := w.heap.size + 3) hsz
    have r2 : (w5).frozen? ⟨w.heap.size + 1 + 1, 0, none⟩ = false := q3.frozen 0
    have r3 : (w5).frozen? ⟨w.heap.size + 1 + 1, 1, none⟩ = false := q3.frozen 1
    have r4 : (w5).cell? ⟨w.heap.size + 1 + 1, 0, none⟩ = some (.slice none 0 0) := q3.cell 0
    have r5 : (w5).cell? ⟨w.heap.size + 1 + 1, 1, none⟩ = some (.slice none 0 0) := q3.cell 1
    have r6 : (((w5).setCell ⟨w.heap.size + 1 + 1, 0, none⟩ (.slice A5 n5 c5)).setCell ⟨w.heap.size + 1 + 1, 1, none⟩ (.slice R5 m5 d5)).cell? ⟨w.heap.size + 1 + 1, 0, none⟩ = some (.slice A5 n5 c5) := ((q3.put 0 (.slice A5 n5 c5)).put 1 (.slice R5 m5 d5)).cell 0
    have r7 : (((w5).setCell ⟨w.heap.size + 1 + 1, 0, none⟩ (.slice A5 n5 c5)).setCell ⟨w.heap.size + 1 + 1, 1, none⟩ (.slice R5 m5 d5)).cell? ⟨w.heap.size + 1 + 1, 1, none⟩ = some (.slice R5 m5 d5) := ((q3.put 0 (.slice A5 n5 c5)).put 1 (.slice R5 m5 d5)).cell 1
    have D : Hid (OwnH (((w5).setCell ⟨w.heap.size + 1 + 1, 0, none⟩ (.slice A5 n5 c5)).setCell ⟨w.heap.size + 1 + 1, 1, none⟩ (.slice R5 m5 d5)) w.heap.size (.slice A5 n5 c5) (.slice R5 m5 d5) _ ∧ Below w.heap.size w (((w5).setCell ⟨w.heap.size + 1 + 1, 0, none⟩ (.slice A5 n5 c5)).setCell ⟨w.heap.size + 1 + 1, 1, none⟩ (.slice R5 m5 d5))) := Lib.hid (oh.out (by omega) b3 (by omega))
    clear q1 q2 q3 oh b2 b3 z0 z1 z2 z3 x0 x1 s2
    go_wp2_with fail
    exact bodyPost_ret (v := .tuple #[.agg #[.slice A5 n5 c5, .slice R5 m5 d5], .bool false]) (by simp [results, Try.results100, go_sem, *]) rfl ⟨_, _, by rw [HF.out], by rw [HF.out]; exact D.out.1, D.out.2⟩
  by_cases h1 : o.op = 1
  · by_cases hf : n = 40
    · have HF := Lib.hid (Hps.stepH_full hv ho h1 (by rw [HL.out]; exact hf))
      clear hv ho hc
      have ht : (o.op == (1 : Int)) = true := by rw [h1]; rfl
      clear h1
      subst hf
      go_wp2_with fail
      refine (l7Copy_any _ _ _ _ _ _ h _ s2 (by omega) (by omega) H3.out).mono ?_
      rintro e w5 ⟨vc, vr, rfl, oh, b1⟩
      obtain ⟨A5, n5, c5, R5, m5, d5, rfl, rfl⟩ := oh.slices
      replace q3 := q3.keep b1 q3.lt
      have b3 := b2.trans (b1.mono b2.size)
      replace oh := oh.base (base' := w.heap.size + 3) hsz
      have r2 : (w5).frozen? ⟨w.heap.size + 1 + 1, 0, none⟩ = false := q3.frozen 0
      have r3 : (w5).frozen? ⟨w.heap.size + 1 + 1, 1, none⟩ = false := q3.frozen 1
      have r4 : (w5).cell? ⟨w.heap.size + 1 + 1, 0, none⟩ = some (.slice none 0 0) := q3.cell 0
      have r5 : (w5).cell? ⟨w.heap.size + 1 + 1, 1, none⟩ = some (.slice none 0 0) := q3.cell 1
      have r6 : (((w5).setCell ⟨w.heap.size + 1 + 1, 0, none⟩ (.slice A5 n5 c5)).setCell ⟨w.heap.size + 1 + 1, 1, none⟩ (.slice R5 m5 d5)).cell? ⟨w.heap.size + 1 + 1, 0, none⟩ = some (.slice A5 n5 c5) := ((q3.put 0 (.slice A5 n5 c5)).put 1 (.slice R5 m5 d5)).cell 0
      have r7 : (((w5).setCell ⟨w.heap.size + 1 + 1, 0, none⟩ (.slice A5 n5 c5)).setCell ⟨w.heap.size + 1 + 1, 1, none⟩ (.slice R5 m5 d5)).cell? ⟨w.heap.size + 1 + 1, 1, none⟩ = some (.slice R5 m5 d5) := ((q3.put 0 (.slice A5 n5 c5)).put 1 (.slice R5 m5 d5)).cell 1
      have D : Hid (OwnH (((w5).setCell ⟨w.heap.size + 1 + 1, 0, none⟩ (.slice A5 n5 c5)).setCell ⟨w.heap.size + 1 + 1, 1, none⟩ (.slice R5 m5 d5)) w.heap.size (.slice A5 n5 c5) (.slice R5 m5 d5) _ ∧ Below w.heap.size w (((w5).setCell ⟨w.heap.size + 1 + 1, 0, none⟩ (.slice A5 n5 c5)).setCell ⟨w.heap.size + 1 + 1, 1, none⟩ (.slice R5 m5 d5))) := Lib.hid (oh.out (by omega) b3 (by omega))
      clear q1 q2 q3 oh b2 b3 z0 z1 z2 z3 x0 x1 s2
      go_wp2_with fail
      exact bodyPost_ret (v := .tuple #[.agg #[.slice A5 n5 c5, .slice R5 m5 d5], .bool false]) (by simp [results, Try.results100, go_sem, *]) rfl ⟨_, _, by rw [HF.out], by rw [HF.out]; exact D.out.1, D.out.2⟩
    have HF := Lib.hid (Hps.stepH_does hv ho hc (fun hh => hf (by rw [← HL.out]; exact hh.2)))
    have hc2 := Lib.hid (l8Do_any A R n c m d h o n w4 s2 hc (fun _ => Nat.le_refl _))
    have ht : (o.op == (1 : Int)) = true := by rw [h1]; rfl
    have hf' : ¬ (n : Int) = 40 := by omega
    rw [HL.out] at HF
    clear hv ho hc h1 hf
    go_wp2_with fail
    refine hc2.out.mono ?_
    rintro e w5 ⟨vc, vr, rfl, oh, b1⟩
    obtain ⟨A5, n5, c5, R5, m5, d5, rfl, rfl⟩ := oh.slices
    replace q3 := q3.keep b1 q3.lt
    have b3 := b2.trans (b1.mono b2.size)
    replace oh := oh.base (base' := w.heap.size + 3) hsz
    clear hc2
    have r2 : (w5).frozen? ⟨w.heap.size + 1 + 1, 0, none⟩ = false := q3.frozen 0
    have r3 : (w5).frozen? ⟨w.heap.size + 1 + 1, 1, none⟩ = false := q3.frozen 1
    have r4 : (w5).cell? ⟨w.heap.size + 1 + 1, 0, none⟩ = some (.slice none 0 0) := q3.cell 0
    have r5 : (w5).cell? ⟨w.heap.size + 1 + 1, 1, none⟩ = some (.slice none 0 0) := q3.cell 1
    have r6 : (((w5).setCell ⟨w.heap.size + 1 + 1, 0, none⟩ (.slice A5 n5 c5)).setCell ⟨w.heap.size + 1 + 1, 1, none⟩ (.slice R5 m5 d5)).cell? ⟨w.heap.size + 1 + 1, 0, none⟩ = some (.slice A5 n5 c5) := ((q3.put 0 (.slice A5 n5 c5)).put 1 (.slice R5 m5 d5)).cell 0
    have r7 : (((w5).setCell ⟨w.heap.size + 1 + 1, 0, none⟩ (.slice A5 n5 c5)).setCell ⟨w.heap.size + 1 + 1, 1, none⟩ (.slice R5 m5 d5)).cell? ⟨w.heap.size + 1 + 1, 1, none⟩ = some (.slice R5 m5 d5) := ((q3.put 0 (.slice A5 n5 c5)).put 1 (.slice R5 m5 d5)).cell 1
    have D : Hid (OwnH (((w5).setCell ⟨w.heap.size + 1 + 1, 0, none⟩ (.slice A5 n5 c5)).setCell ⟨w.heap.size + 1 + 1, 1, none⟩ (.slice R5 m5 d5)) w.heap.size (.slice A5 n5 c5) (.slice R5 m5 d5) _ ∧ Below w.heap.size w (((w5).setCell ⟨w.heap.size + 1 + 1, 0, none⟩ (.slice A5 n5 c5)).setCell ⟨w.heap.size + 1 + 1, 1, none⟩ (.slice R5 m5 d5))) := Lib.hid (oh.out (by omega) b3 (by omega))
    clear q1 q2 q3 oh b2 b3 z0 z1 z2 z3 x0 x1 s2
    go_wp2_with fail
    exact bodyPost_ret (v := .tuple #[.agg #[.slice A5 n5 c5, .slice R5 m5 d5], .bool true]) (by simp [results, Try.results100, go_sem, *]) rfl ⟨_, _, by rw [HF.out], by rw [HF.out]; exact D.out.1, D.out.2⟩
  have HF := Lib.hid (Hps.stepH_does hv ho hc (fun hh => h1 hh.1))
  have hc2 := Lib.hid (l8Do_any A R n c m d h o n w4 s2 hc (fun _ => Nat.le_refl _))
  rw [HL.out] at HF
  clear hv ho hc
  go_wp2_with fail
  refine hc2.out.mono ?_
  rintro e w5 ⟨vc, vr, rfl, oh, b1⟩
  obtain ⟨A5, n5, c5, R5, m5, d5, rfl, rfl⟩ := oh.slices
  replace q3 := q3.keep b1 q3.lt
  have b3 := b2.trans (b1.mono b2.size)
  replace oh := oh.base (base' := w.heap.size + 3) hsz
  clear hc2
  have r2 : (w5).frozen? ⟨w.heap.size + 1 + 1, 0, none⟩ = false := q3.frozen 0
  have r3 : (w5).frozen? ⟨w.heap.size + 1 + 1, 1, none⟩ = false := q3.frozen 1
  have r4 : (w5).cell? ⟨w.heap.size + 1 + 1, 0, none⟩ = some (.slice none 0 0) := q3.cell 0
  have r5 : (w5).cell? ⟨w.heap.size + 1 + 1, 1, none⟩ = some (.slice none 0 0) := q3.cell 1
  have r6 : (((w5).setCell ⟨w.heap.size + 1 + 1, 0, none⟩ (.slice A5 n5 c5)).setCell ⟨w.heap.size + 1 + 1, 1, none⟩ (.slice R5 m5 d5)).cell? ⟨w.heap.size + 1 + 1, 0, none⟩ = some (.slice A5 n5 c5) := ((q3.put 0 (.slice A5 n5 c5)).put 1 (.slice R5 m5 d5)).cell 0
  have r7 : (((w5).setCell ⟨w.heap.size + 1 + 1, 0, none⟩ (.slice A5 n5 c5)).setCell ⟨w.heap.size + 1 + 1, 1, none⟩ (.slice R5 m5 d5)).cell? ⟨w.heap.size + 1 + 1, 1, none⟩ = some (.slice R5 m5 d5) := ((q3.put 0 (.slice A5 n5 c5)).put 1 (.slice R5 m5 d5)).cell 1
  have D : Hid (OwnH (((w5).setCell ⟨w.heap.size + 1 + 1, 0, none⟩ (.slice A5 n5 c5)).setCell ⟨w.heap.size + 1 + 1, 1, none⟩ (.slice R5 m5 d5)) w.heap.size (.slice A5 n5 c5) (.slice R5 m5 d5) _ ∧ Below w.heap.size w (((w5).setCell ⟨w.heap.size + 1 + 1, 0, none⟩ (.slice A5 n5 c5)).setCell ⟨w.heap.size + 1 + 1, 1, none⟩ (.slice R5 m5 d5))) := Lib.hid (oh.out (by omega) b3 (by omega))
  clear q1 q2 q3 oh b2 b3 z0 z1 z2 z3 x0 x1 s2
  go_wp2_with fail
  exact bodyPost_ret (v := .tuple #[.agg #[.slice A5 n5 c5, .slice R5 m5 d5], .bool true]) (by simp [results, Try.results100, go_sem, *]) rfl ⟨_, _, by rw [HF.out], by rw [HF.out]; exact D.out.1, D.out.2⟩
end Go.Proofs.Ytakdjiojahlnmaa

namespace Go.Proofs.Ytakdjiojahlnmaa
open Go.RowKit
set_option maxRecDepth 100000
/-- a heap of the call's own, and what a pointer v leads to lies apart, once l -/
def OwnF (w : World) (base : Nat) (v : Value) (l : Bool) (vc vr : Value) (h : Hp) : Prop := ∃ rvs, OwnHx w base vc vr rvs h ∧ ∀ g, l = true → v = .pointer (some ⟨g, 0, none⟩) → Apart (some g) (vc :: vr :: rvs)
section
variable {w w' : World} {base : Nat} {v vc vr : Value} {l l' : Bool} {h : Hp}
theorem OwnF.own (ho : OwnF w base v l vc vr h) : OwnH w base vc vr h := by
  obtain ⟨rvs, o, _⟩ := ho
  exact ⟨rvs, o⟩
theorem OwnF.eq (ho : OwnF w base v l vc vr h) (e : l' = l) : OwnF w base v l' vc vr h := e ▸ ho
theorem OwnF.below (ho : OwnF w base v l vc vr h) (hb : Below w.heap.size w w') : OwnF w' base v l vc vr h := by
  obtain ⟨rvs, o, a⟩ := ho
  exact ⟨rvs, o.below hb (Nat.le_refl _), a⟩
theorem OwnF.alloc (ho : OwnF w base v l vc vr h) (ob : Obj) : OwnF (w.alloc ob) base (.pointer (some ⟨w.heap.size, 0, none⟩)) l' vc vr h := by
  obtain ⟨rvs, o, a⟩ := ho
  refine ⟨rvs, o.below ((Below.refl _ _).alloc (Nat.le_refl _) _) (Nat.le_refl _), fun g _ e => ?_⟩
  injection e with e
  injection e with e
  injection e with e
  subst e
  exact o.apart_new (Nat.le_refl _)
theorem OwnF.new (ho : OwnH w base vc vr h) (hv : ∀ g, l = true → v = .pointer (some ⟨g, 0, none⟩) → g < base) : OwnF w base v l vc vr h := by
  obtain ⟨rvs, o⟩ := ho
  exact ⟨rvs, o, fun g hl e => o.apart_below (hv g hl e)⟩
theorem OwnF.baseH {base' : Nat} (hb : base' ≤ base) (ho : OwnH w base vc vr h) (hv : ∀ g, l = true → v = .pointer (some ⟨g, 0, none⟩) → g < base) : OwnF w base' v l vc vr h := by
  obtain ⟨rvs, o⟩ := ho
  exact ⟨rvs, o.base hb, fun g hl e => o.apart_below (hv g hl e)⟩
theorem OwnF.put {g : Nat} (ho : OwnF w base (.pointer (some ⟨g, 0, none⟩)) l vc vr h) (hl : l = true) (u u' : Value) : OwnF ((w.setCell ⟨g, 0, none⟩ u).setCell ⟨g, 1, none⟩ u') base (.pointer (some ⟨g, 0, none⟩)) l vc vr h := by
  obtain ⟨rvs, o, a⟩ := ho
  exact ⟨rvs, (o.far (put_any w g 0 u) (a g hl rfl)).far (put_any _ g 1 u') (a g hl rfl), a⟩
end
/-- while a program runs: the heap so far in the box b -/
structure RunSt (w wr : World) (b : Nat) (vc vr : Value) (h : Hp) : Prop where
  own : ∃ rvs, OwnHx wr (w.heap.size + 1) vc vr rvs h ∧ Apart (some b) (vc :: vr :: rvs)
  box : Rw wr b 26 #[vc, vr]
  res : Rw wr w.heap.size 26 #[.slice none 0 0, .slice none 0 0]
  bel : Below w.heap.size w wr
  lo : w.heap.size + 1 ≤ b
theorem RunSt.next {w wr w5 : World} {b : Nat} {vc vr vc' vr' : Value} {h h' : Hp} (S : RunSt w wr b vc vr h) (B : Below wr.heap.size wr w5) (o : OwnH w5 wr.heap.size vc' vr' h') :
    RunSt w ((w5.setCell ⟨b, 0, none⟩ vc').setCell ⟨b, 1, none⟩ vr') b vc' vr' h' := by
  have hb := S.box.lt
  have hlo := S.lo
  obtain ⟨rvs, own⟩ := o
  have ap : Apart (some b) (vc' :: vr' :: rvs) := own.apart_below hb
  have x1 := S.box.keep B hb
  have x2 := S.res.keep B S.res.lt
  refine ⟨⟨rvs, ((own.far (put_any w5 b 0 vc') ap).far (put_any _ b 1 vr') ap).base (by omega), ap⟩, (x1.put 0 vc').put 1 vr', (x2.other (by omega) _).other (by omega) _, ?_, hlo⟩
  exact ((S.bel.trans (B.mono S.bel.size)).setCell (p := ⟨b, 0, none⟩) (by show w.heap.size ≤ b; omega) _).setCell (p := ⟨b, 1, none⟩) (by show w.heap.size ≤ b; omega) _
set_option maxRecDepth 100000 in
set_option maxHeartbeats 4000000 in
theorem mRunHeap_any (A : Option Addr) (n c : Nat) (l : List Cm) (w : World) (h : MS w w.heap.size A n l) (hn : n ≤ 1099511627776) :
    Calls Try.prog 75 #[.slice A n c] w (GaveH w (Hps.runH l)) := by
  have b1 : Below w.heap.size w (w.alloc (.cells #[.slice none 0 0, .slice none 0 0] 26)) := (Below.refl _ _).alloc (Nat.le_refl _) _
  have m1 := h.up b1
  have q3 := Rw.new w 26 #[.slice none 0 0, .slice none 0 0]
  go_enter Try.func75, Try.ntmps75
  go_wp2_with fail
  refine (mCommandsValid_any _ _ _ l _ m1 hn).mono ?_
  rintro e w1 ⟨rfl, b2⟩
  replace q3 := q3.keep b2 q3.lt
  replace b1 := b1.trans (b2.mono b1.size)
  clear m1 b2
  cases hv : Hps.okCms l
  · have HF := Lib.hid (show Hps.runH l = Hps.zeroH by rw [Hps.runH, if_neg (by rw [hv]; simp)])
    have r2 : w1.frozen? ⟨w.heap.size, 0, none⟩ = false := q3.frozen 0
    have r3 : w1.frozen? ⟨w.heap.size, 1, none⟩ = false := q3.frozen 1
    have r4 : w1.cell? ⟨w.heap.size, 0, none⟩ = some (.slice none 0 0) := q3.cell 0
    have r5 : w1.cell? ⟨w.heap.size, 1, none⟩ = some (.slice none 0 0) := q3.cell 1
    have r6 : ((w1.setCell ⟨w.heap.size, 0, none⟩ (.slice none 0 0)).setCell ⟨w.heap.size, 1, none⟩ (.slice none 0 0)).cell? ⟨w.heap.size, 0, none⟩ = some (.slice none 0 0) := ((q3.put 0 (.slice none 0 0)).put 1 (.slice none 0 0)).cell 0
    have r7 : ((w1.setCell ⟨w.heap.size, 0, none⟩ (.slice none 0 0)).setCell ⟨w.heap.size, 1, none⟩ (.slice none 0 0)).cell? ⟨w.heap.size, 1, none⟩ = some (.slice none 0 0) := ((q3.put 0 (.slice none 0 0)).put 1 (.slice none 0 0)).cell 1
    have D := Lib.hid ((own_zeroH w1 w1.heap.size (Nat.le_refl _)).out q3.lt b1 (Nat.le_refl _))
    clear q3 b1 hv
    go_wp2_with fail
    exact bodyPost_ret (v := .agg #[.slice none 0 0, .slice none 0 0]) (by simp [results, Try.results75, go_sem, *]) rfl ⟨_, _, rfl, by rw [HF.out]; exact D.out.1, D.out.2⟩
  have HF := Lib.hid (show Hps.runH l = Hps.runFrom Hps.emptyH l by rw [Hps.runH, if_pos hv])
  have HV := Lib.hid ((Hps.okCms_iff.1 hv).1)
  clear hv
  go_wp2_with fail
  refine (mEmptyHeap_any _).mono ?_
  rintro e w2 ⟨vc, vr, rfl, ⟨rvs, own⟩, b2⟩
  have hsz : w.heap.size + 1 ≤ w1.heap.size := q3.lt
  replace q3 := q3.keep b2 q3.lt
  have hsz2 := b2.size
  have hq := Rw.new w2 26 #[vc, vr]
  have S0 : RunSt w (w2.alloc (.cells #[vc, vr] 26)) w2.heap.size vc vr Hps.emptyH :=
    ⟨⟨rvs, (OwnHx.base (base' := w.heap.size + 1) own hsz).below ((Below.refl w2.heap.size w2).alloc (Nat.le_refl _) _) (Nat.le_refl _), own.apart_new (Nat.le_refl _)⟩, hq, q3.alloc _, (b1.trans (b2.mono b1.size)).alloc (by omega) _, by omega⟩
  obtain ⟨Ac, cc, Rc, dc, rfl, rfl, -⟩ := own.form
  clear hq own q3 b2
  go_upto_region 4 with fail
  generalize w2.alloc (.cells #[.slice Ac Hps.emptyH.cs.length cc, .slice Rc Hps.emptyH.rt.length dc] 26) = w3 at S0 ⊢
  generalize w2.heap.size = b at S0 ⊢
  clear hsz hsz2 w2 b1 w1
  go_wp2_with fail
  go_loopw [4] (fun i wr => ∃ (k : Nat) (A1 : Option Addr) (c1 : Nat) (R1 : Option Addr) (d1 : Nat) (hh : Hp), k ≤ n ∧ i = .int .i64 k ∧ hh = Hps.runFrom Hps.emptyH (l.take k) ∧ Hps.validH hh = true ∧ RunSt w wr b (.slice A1 hh.cs.length c1) (.slice R1 hh.rt.length d1) hh) (fun i _ => n - (intOf i).toNat)
  case atStart => exact ⟨0, Ac, cc, Rc, dc, Hps.emptyH, by omega, rfl, by simp [Hps.runFrom], Hps.empty_valid, S0⟩
  case round =>
    clear S0
    obtain ⟨k, A1, c1, R1, d1, hh, hk, rfl, hhe, hhv, S⟩ := hrel
    have hlo := S.lo
    have x0 : wr.cell? ⟨b, 0, none⟩ = some (.slice A1 hh.cs.length c1) := S.box.cell 0
    have x1 : wr.cell? ⟨b, 1, none⟩ = some (.slice R1 hh.rt.length d1) := S.box.cell 1
    have hml := h.1
    by_cases hlt : k < n
    · obtain ⟨g, o, x, rfl, hg, hx, c0, c1', c2, c3⟩ := (h.below S.bel).at_ hlt
      have hlt' : (k : Int) < n := by omega
      obtain ⟨h2, hh2⟩ : ∃ h2, (Hps.stepH hh x).1 = h2 := ⟨_, rfl⟩
      obtain ⟨ok, hok⟩ : ∃ ok, (Hps.stepH hh x).2 = ok := ⟨_, rfl⟩
      have HX := Lib.hid hx
      have HNX := Lib.hid (show h2 = Hps.runFrom Hps.emptyH (l.take (k + 1)) by
        rw [List.take_add_one, HX.out, Option.toList, Hps.runFrom_snoc, ← hhe]
        exact hh2.symm)
      have HVX := Lib.hid (show Hps.validH h2 = true by rw [← hh2]; exact Hps.stepH_valid hhv (HV.out x (List.mem_of_getElem? HX.out)))
      have hn40 := (Hps.valid_iff.1 hhv).2.1
      have hm4 := (Hps.valid_iff.1 hhv).2.2.1
      have CALL := Lib.hid (fun (ww : World) (hB : Below wr.heap.size wr ww) => by
        obtain ⟨rvs, own, _⟩ := S.own
        have hs := (own.below hB (Nat.le_refl _)).reads
        have := mStepHeap_any A1 R1 hh.cs.length c1 hh.rt.length d1 hh x ww hs (by omega) (by omega)
        rw [hh2, hok] at this
        exact this)
      have SS := Lib.hid S
      clear S hx hhe hhv hh2 hok hn40 hm4 hml
      go_wp2_with fail
      refine wp_region_inv (by kernel_rfl) (by kernel_rfl) (fun L ac ww => ∃ t5 t6 t18 t19 t20 t21 t22 t23 t24 t25 t26 : Value, ac = { tmps := #[Value.slice (some { block := g, off := o }) n c, undef, Value.pointer (some { block := w.heap.size, off := 0 }), Value.pointer (some { block := b, off := 0 }), Value.int IntKind.i64 ↑k, t5, t6, Value.slice (some { block := g, off := o }) n c, Value.bool true, Value.bool false, undef, Value.agg #[Value.slice Ac Hps.emptyH.cs.length cc, Value.slice Rc Hps.emptyH.rt.length dc], Value.int IntKind.i64 ↑k, Value.slice (some { block := g, off := o }) n c, Value.int IntKind.i64 ↑n, Value.bool true, u16, u17, t18, t19, t20, t21, t22, t23, t24, t25, t26, u27, undef], defers := [] } ∧ (Below wr.heap.size wr ww) ∧ (L 10 = true → L 9 = true) ∧ (L 6 = true → L 5 = true) ∧ (L 7 = true → L 5 = true) ∧ (L 0 = true → t19 = .agg #[(.slice A1 hh.cs.length c1), (.slice R1 hh.rt.length d1)]) ∧ (L 1 = true → t20 = .slice (some ⟨g, o, none⟩) n c) ∧ (L 2 = true → t21 = .int .i64 k) ∧ (L 3 = true → t22 = .pointer (some ⟨g, o + k * 4, none⟩)) ∧ (L 4 = true → t23 = .agg #[.int .i64 x.op, .int .i64 x.a, .int .i64 x.b, .int .i64 x.c]) ∧ (L 5 = true → ∃ (A5 : Option Addr) (n5 c5 : Nat) (R5 : Option Addr) (m5 d5 : Nat), t24 = .tuple #[.agg #[.slice A5 n5 c5, .slice R5 m5 d5], .bool ok] ∧ OwnF ww wr.heap.size t5 (L 9) (.slice A5 n5 c5) (.slice R5 m5 d5) h2) ∧ (L 6 = true → ∃ (A5 : Option Addr) (n5 c5 : Nat) (R5 : Option Addr) (m5 d5 : Nat), t24 = .tuple #[.agg #[.slice A5 n5 c5, .slice R5 m5 d5], .bool ok] ∧ t18 = .tuple #[.agg #[.slice A5 n5 c5, .slice R5 m5 d5], .bool ok]) ∧ (L 7 = true → ∃ (A5 : Option Addr) (n5 c5 : Nat) (R5 : Option Addr) (m5 d5 : Nat), t24 = .tuple #[.agg #[.slice A5 n5 c5, .slice R5 m5 d5], .bool ok] ∧ t25 = .agg #[.slice A5 n5 c5, .slice R5 m5 d5]) ∧ (L 8 = true → t26 = .bool ok) ∧ (L 9 = true → ∃ (g5 : Nat) (z0 z1 : Value), t5 = .pointer (some ⟨g5, 0, none⟩) ∧ wr.heap.size ≤ g5 ∧ Rw ww g5 26 #[z0, z1]) ∧ (L 10 = true → ∃ (g5 : Nat) (A5 : Option Addr) (n5 c5 : Nat) (R5 : Option Addr) (m5 d5 : Nat), t5 = .pointer (some ⟨g5, 0, none⟩) ∧ wr.heap.size ≤ g5 ∧ Rw ww g5 26 #[.slice A5 n5 c5, .slice R5 m5 d5] ∧ OwnH ww wr.heap.size (.slice A5 n5 c5) (.slice R5 m5 d5) h2) ∧ (L 11 = true → t6 = .bool ok)) ?h0 ?hstep ?hdone
      case h0 => exact ⟨_, _, _, _, _, _, _, _, _, _, _, rfl, (Below.refl _ _).drew, fun h => absurd h Bool.false_ne_true, fun h => absurd h Bool.false_ne_true, fun h => absurd h Bool.false_ne_true, (fun h => absurd h Bool.false_ne_true), (fun h => absurd h Bool.false_ne_true), (fun h => absurd h Bool.false_ne_true), (fun h => absurd h Bool.false_ne_true), (fun h => absurd h Bool.false_ne_true), (fun h => absurd h Bool.false_ne_true), (fun h => absurd h Bool.false_ne_true), (fun h => absurd h Bool.false_ne_true), (fun h => absurd h Bool.false_ne_true), (fun h => absurd h Bool.false_ne_true), (fun h => absurd h Bool.false_ne_true), (fun h => absurd h Bool.false_ne_true)⟩
      case hstep =>
        rintro L ac ww i o ho hL hd ⟨t5, t6, t18, t19, t20, t21, t22, t23, t24, t25, t26, rfl, I0, I1, I2, I3, f0, f1, f2, f3, f4, f5, f6, f7, f8, f9, f10, f11⟩
        have hi : i < 12 := (Array.getElem?_eq_some_iff.1 ho).1
        obtain rfl | rfl | rfl | rfl | rfl | rfl | rfl | rfl | rfl | rfl | rfl | rfl : i = 0 ∨ i = 1 ∨ i = 2 ∨ i = 3 ∨ i = 4 ∨ i = 5 ∨ i = 6 ∨ i = 7 ∨ i = 8 ∨ i = 9 ∨ i = 10 ∨ i = 11 := by omega
        · obtain rfl := Option.some.inj ho
          have y0 : ww.cell? ⟨b, 0, none⟩ = some (.slice A1 hh.cs.length c1) := (I0.cell (p := ⟨b, 0, none⟩) SS.out.box.lt).trans x0
          have y1 : ww.cell? ⟨b, 1, none⟩ = some (.slice R1 hh.rt.length d1) := (I0.cell (p := ⟨b, 1, none⟩) SS.out.box.lt).trans x1
          refine wpOp_step rfl (fun K' hK => ?_)
          go_simp
          refine hK _ _ ?_
          exact ⟨_, _, _, _, _, _, _, _, _, _, _, rfl, (I0), (fun h => by rw [upd_other (by decide)]; exact I1 (upd_ne h (by decide))), (fun h => upd_mono (I2 (upd_ne h (by decide)))), (fun h => upd_mono (I3 (upd_ne h (by decide)))), (fun _ => rfl), (kp f1), (kp f2), (kp f3), (kp f4), (fun h => by
            obtain ⟨A5, n5, c5, R5, m5, d5, e, oo⟩ := f5 (upd_ne h (by decide))
            exact ⟨A5, n5, c5, R5, m5, d5, e, oo.eq (upd_other (by decide))⟩), (kp f6), (kp f7), (kp f8), (kp f9), (kp f10), (kp f11)⟩
        · obtain rfl := Option.some.inj ho
          refine wpOp_step rfl (fun K' hK => ?_)
          go_simp
          refine hK _ _ ?_
          exact ⟨_, _, _, _, _, _, _, _, _, _, _, rfl, (I0), (fun h => by rw [upd_other (by decide)]; exact I1 (upd_ne h (by decide))), (fun h => upd_mono (I2 (upd_ne h (by decide)))), (fun h => upd_mono (I3 (upd_ne h (by decide)))), (kp f0), (fun _ => rfl), (kp f2), (kp f3), (kp f4), (fun h => by
            obtain ⟨A5, n5, c5, R5, m5, d5, e, oo⟩ := f5 (upd_ne h (by decide))
            exact ⟨A5, n5, c5, R5, m5, d5, e, oo.eq (upd_other (by decide))⟩), (kp f6), (kp f7), (kp f8), (kp f9), (kp f10), (kp f11)⟩
        · obtain rfl := Option.some.inj ho
          refine wpOp_step rfl (fun K' hK => ?_)
          go_simp
          refine hK _ _ ?_
          exact ⟨_, _, _, _, _, _, _, _, _, _, _, rfl, (I0), (fun h => by rw [upd_other (by decide)]; exact I1 (upd_ne h (by decide))), (fun h => upd_mono (I2 (upd_ne h (by decide)))), (fun h => upd_mono (I3 (upd_ne h (by decide)))), (kp f0), (kp f1), (fun _ => rfl), (kp f3), (kp f4), (fun h => by
            obtain ⟨A5, n5, c5, R5, m5, d5, e, oo⟩ := f5 (upd_ne h (by decide))
            exact ⟨A5, n5, c5, R5, m5, d5, e, oo.eq (upd_other (by decide))⟩), (kp f6), (kp f7), (kp f8), (kp f9), (kp f10), (kp f11)⟩
        · obtain rfl := Option.some.inj ho
          have g1 := f1 (hd ⟨1, .data⟩ (by simp) rfl)
          have g2 := f2 (hd ⟨2, .data⟩ (by simp) rfl)
          subst g1
          subst g2
          refine wpOp_step rfl (fun K' hK => ?_)
          go_simp
          refine hK _ _ ?_
          exact ⟨_, _, _, _, _, _, _, _, _, _, _, rfl, (I0), (fun h => by rw [upd_other (by decide)]; exact I1 (upd_ne h (by decide))), (fun h => upd_mono (I2 (upd_ne h (by decide)))), (fun h => upd_mono (I3 (upd_ne h (by decide)))), (kp f0), (kp f1), (kp f2), (fun _ => rfl), (kp f4), (fun h => by
            obtain ⟨A5, n5, c5, R5, m5, d5, e, oo⟩ := f5 (upd_ne h (by decide))
            exact ⟨A5, n5, c5, R5, m5, d5, e, oo.eq (upd_other (by decide))⟩), (kp f6), (kp f7), (kp f8), (kp f9), (kp f10), (kp f11)⟩
        · obtain rfl := Option.some.inj ho
          have g3 := f3 (hd ⟨3, .data⟩ (by simp) rfl)
          subst g3
          have y0 : ww.cell? ⟨g, o + k * 4, none⟩ = some (.int .i64 x.op) := (I0.cell (p := ⟨g, o + k * 4, none⟩) (Nat.lt_of_lt_of_le hg SS.out.bel.size)).trans c0
          have y1 : ww.cell? ⟨g, o + k * 4 + 1, none⟩ = some (.int .i64 x.a) := (I0.cell (p := ⟨g, o + k * 4 + 1, none⟩) (Nat.lt_of_lt_of_le hg SS.out.bel.size)).trans c1'
          have y2 : ww.cell? ⟨g, o + k * 4 + 2, none⟩ = some (.int .i64 x.b) := (I0.cell (p := ⟨g, o + k * 4 + 2, none⟩) (Nat.lt_of_lt_of_le hg SS.out.bel.size)).trans c2
          have y3 : ww.cell? ⟨g, o + k * 4 + 3, none⟩ = some (.int .i64 x.c) := (I0.cell (p := ⟨g, o + k * 4 + 3, none⟩) (Nat.lt_of_lt_of_le hg SS.out.bel.size)).trans c3
          refine wpOp_step rfl (fun K' hK => ?_)
          go_simp
          refine hK _ _ ?_
          exact ⟨_, _, _, _, _, _, _, _, _, _, _, rfl, (I0), (fun h => by rw [upd_other (by decide)]; exact I1 (upd_ne h (by decide))), (fun h => upd_mono (I2 (upd_ne h (by decide)))), (fun h => upd_mono (I3 (upd_ne h (by decide)))), (kp f0), (kp f1), (kp f2), (kp f3), (fun _ => rfl), (fun h => by
            obtain ⟨A5, n5, c5, R5, m5, d5, e, oo⟩ := f5 (upd_ne h (by decide))
            exact ⟨A5, n5, c5, R5, m5, d5, e, oo.eq (upd_other (by decide))⟩), (kp f6), (kp f7), (kp f8), (kp f9), (kp f10), (kp f11)⟩
        · obtain rfl := Option.some.inj ho
          have g0 := f0 (hd ⟨0, .data⟩ (by simp) rfl)
          have g4 := f4 (hd ⟨4, .data⟩ (by simp) rfl)
          subst g0
          subst g4
          refine wpOp_step rfl (fun K' hK => ?_)
          go_simp
          refine (CALL.out ww I0).mono ?_
          rintro e w' ⟨v1, v2, rfl, oh, b5⟩
          obtain ⟨A5, n5, c5, R5, m5, d5, rfl, rfl⟩ := oh.slices
          have hsz := I0.size
          refine hK _ _ ?_
          exact ⟨_, _, _, _, _, _, _, _, _, _, _, rfl, (I0.trans (b5.mono I0.size)), (fun h => by rw [upd_other (by decide)]; exact I1 (upd_ne h (by decide))), (fun h => upd_mono (I2 (upd_ne h (by decide)))), (fun h => upd_mono (I3 (upd_ne h (by decide)))), (kp f0), (kp f1), (kp f2), (kp f3), (kp f4), (fun _ => ⟨A5, n5, c5, R5, m5, d5, rfl, OwnF.baseH hsz oh (fun g5 hl e => by
            obtain ⟨g6, z0, z1, e', hg5, hz⟩ := f9 (by rw [upd_other (by decide)] at hl; exact hl)
            rw [e'] at e
            injection e with e
            injection e with e
            injection e with e
            rw [← e]
            exact hz.lt) ⟩), (fun h => absurd (I2 (upd_ne h (by decide))) (by rw [hL]; simp)), (fun h => absurd (I3 (upd_ne h (by decide))) (by rw [hL]; simp)), (kp f8), (fun h => by
            obtain ⟨g5, z0, z1, e, hg5, hz⟩ := f9 (upd_ne h (by decide))
            exact ⟨g5, z0, z1, e, hg5, hz.keep b5 hz.lt⟩), (fun h => by
            obtain ⟨g5, A5, n5, c5, R5, m5, d5, e, hg5, hz, oo⟩ := f10 (upd_ne h (by decide))
            exact ⟨g5, A5, n5, c5, R5, m5, d5, e, hg5, hz.keep b5 hz.lt, oo.below b5 (Nat.le_refl _)⟩), (kp f11)⟩
        · obtain rfl := Option.some.inj ho
          have g5 := f5 (hd ⟨5, .data⟩ (by simp) rfl)
          obtain ⟨A5, n5, c5, R5, m5, d5, rfl, o5⟩ := g5
          refine wpOp_step rfl (fun K' hK => ?_)
          go_simp
          refine hK _ _ ?_
          exact ⟨_, _, _, _, _, _, _, _, _, _, _, rfl, (I0), (fun h => by rw [upd_other (by decide)]; exact I1 (upd_ne h (by decide))), (fun _ => upd_mono (hd ⟨5, .data⟩ (by simp) rfl)), (fun h => upd_mono (I3 (upd_ne h (by decide)))), (kp f0), (kp f1), (kp f2), (kp f3), (kp f4), (fun h => by
            obtain ⟨A5, n5, c5, R5, m5, d5, e, oo⟩ := f5 (upd_ne h (by decide))
            exact ⟨A5, n5, c5, R5, m5, d5, e, oo.eq (upd_other (by decide))⟩), (fun _ => ⟨_, _, _, _, _, _, rfl, rfl⟩), (kp f7), (kp f8), (kp f9), (kp f10), (kp f11)⟩
        · obtain rfl := Option.some.inj ho
          have g6 := f6 (hd ⟨6, .data⟩ (by simp) rfl)
          obtain ⟨A5, n5, c5, R5, m5, d5, rfl, rfl⟩ := g6
          refine wpOp_step rfl (fun K' hK => ?_)
          go_simp
          refine hK _ _ ?_
          exact ⟨_, _, _, _, _, _, _, _, _, _, _, rfl, (I0), (fun h => by rw [upd_other (by decide)]; exact I1 (upd_ne h (by decide))), (fun h => upd_mono (I2 (upd_ne h (by decide)))), (fun _ => upd_mono (I2 (hd ⟨6, .data⟩ (by simp) rfl))), (kp f0), (kp f1), (kp f2), (kp f3), (kp f4), (fun h => by
            obtain ⟨A5, n5, c5, R5, m5, d5, e, oo⟩ := f5 (upd_ne h (by decide))
            exact ⟨A5, n5, c5, R5, m5, d5, e, oo.eq (upd_other (by decide))⟩), (kp f6), (fun _ => ⟨_, _, _, _, _, _, rfl, rfl⟩), (kp f8), (kp f9), (kp f10), (kp f11)⟩
        · obtain rfl := Option.some.inj ho
          have g6 := f6 (hd ⟨6, .data⟩ (by simp) rfl)
          obtain ⟨A5, n5, c5, R5, m5, d5, rfl, rfl⟩ := g6
          refine wpOp_step rfl (fun K' hK => ?_)
          go_simp
          refine hK _ _ ?_
          exact ⟨_, _, _, _, _, _, _, _, _, _, _, rfl, (I0), (fun h => by rw [upd_other (by decide)]; exact I1 (upd_ne h (by decide))), (fun h => upd_mono (I2 (upd_ne h (by decide)))), (fun h => upd_mono (I3 (upd_ne h (by decide)))), (kp f0), (kp f1), (kp f2), (kp f3), (kp f4), (fun h => by
            obtain ⟨A5, n5, c5, R5, m5, d5, e, oo⟩ := f5 (upd_ne h (by decide))
            exact ⟨A5, n5, c5, R5, m5, d5, e, oo.eq (upd_other (by decide))⟩), (kp f6), (kp f7), (fun _ => rfl), (kp f9), (kp f10), (kp f11)⟩
        · obtain rfl := Option.some.inj ho
          refine wpOp_step rfl (fun K' hK => ?_)
          go_simp
          refine hK _ _ ?_
          exact ⟨_, _, _, _, _, _, _, _, _, _, _, rfl, (I0.alloc I0.size _), (fun _ => upd_self), (fun h => upd_mono (I2 (upd_ne h (by decide)))), (fun h => upd_mono (I3 (upd_ne h (by decide)))), (kp f0), (kp f1), (kp f2), (kp f3), (kp f4), (fun h => by
            obtain ⟨A5, n5, c5, R5, m5, d5, e, oo⟩ := f5 (upd_ne h (by decide))
            exact ⟨A5, n5, c5, R5, m5, d5, e, oo.alloc _⟩), (kp f6), (kp f7), (kp f8), (fun _ => ⟨ww.heap.size, _, _, rfl, I0.size, Rw.new _ _ _⟩), (fun h => absurd (I1 (upd_ne h (by decide))) (by rw [hL]; simp)), (kp f11)⟩
        · obtain rfl := Option.some.inj ho
          have g7 := f7 (hd ⟨7, .data⟩ (by simp) rfl)
          have g9 := f9 (hd ⟨9, .data⟩ (by simp) rfl)
          have g5 := f5 (hd ⟨5, .chain⟩ (by simp) rfl)
          have hL9 := hd ⟨9, .data⟩ (by simp) rfl
          obtain ⟨q5, z0, z1, rfl, hq5, hz⟩ := g9
          obtain ⟨A5, n5, c5, R5, m5, d5, rfl, rfl⟩ := g7
          obtain ⟨A6, n6, c6, R6, m6, d6, e6, oo⟩ := g5
          injection e6 with e6
          simp at e6
          obtain ⟨⟨rfl, rfl, rfl⟩, rfl, rfl, rfl⟩ := e6
          have u0 := hz.cell 0
          have u1 := hz.cell 1
          have u2 := hz.frozen 0
          have u3 := hz.frozen 1
          simp at u0 u1
          refine wpOp_step rfl (fun K' hK => ?_)
          go_simp
          refine hK _ _ ?_
          exact ⟨_, _, _, _, _, _, _, _, _, _, _, rfl, ((I0.setCell (p := ⟨q5, 0, none⟩) hq5 _).setCell (p := ⟨q5, 1, none⟩) hq5 _), (fun _ => by rw [upd_other (by decide)]; exact hL9), (fun h => upd_mono (I2 (upd_ne h (by decide)))), (fun h => upd_mono (I3 (upd_ne h (by decide)))), (kp f0), (kp f1), (kp f2), (kp f3), (kp f4), (fun h => ⟨_, _, _, _, _, _, rfl, (oo.put hL9 _ _).eq (upd_other (by decide))⟩), (kp f6), (kp f7), (kp f8), (fun h => ⟨_, _, _, rfl, hq5, (hz.put 0 _).put 1 _⟩), (fun _ => ⟨_, _, _, _, _, _, _, rfl, hq5, (hz.put 0 _).put 1 _, (oo.put hL9 _ _).own⟩), (kp f11)⟩
        · obtain rfl := Option.some.inj ho
          have g8 := f8 (hd ⟨8, .data⟩ (by simp) rfl)
          subst g8
          refine wpOp_step rfl (fun K' hK => ?_)
          go_simp
          refine hK _ _ ?_
          exact ⟨_, _, _, _, _, _, _, _, _, _, _, rfl, (I0), (fun h => by rw [upd_other (by decide)]; exact I1 (upd_ne h (by decide))), (fun h => upd_mono (I2 (upd_ne h (by decide)))), (fun h => upd_mono (I3 (upd_ne h (by decide)))), (kp f0), (kp f1), (kp f2), (kp f3), (kp f4), (fun h => by
            obtain ⟨A5, n5, c5, R5, m5, d5, e, oo⟩ := f5 (upd_ne h (by decide))
            exact ⟨A5, n5, c5, R5, m5, d5, e, oo.eq (upd_other (by decide))⟩), (kp f6), (kp f7), (kp f8), (kp f9), (kp f10), (fun _ => rfl)⟩
      case hdone =>
        rintro L ac ww hall ⟨t5, t6, t18, t19, t20, t21, t22, t23, t24, t25, t26, rfl, I0, I1, I2, I3, f0, f1, f2, f3, f4, f5, f6, f7, f8, f9, f10, f11⟩
        have e0 := f0 (hall 0 (by decide))
        have e1 := f1 (hall 1 (by decide))
        have e2 := f2 (hall 2 (by decide))
        have e3 := f3 (hall 3 (by decide))
        have e4 := f4 (hall 4 (by decide))
        have e5 := f5 (hall 5 (by decide))
        have e6 := f6 (hall 6 (by decide))
        have e7 := f7 (hall 7 (by decide))
        have e8 := f8 (hall 8 (by decide))
        have e9 := f9 (hall 9 (by decide))
        have e10 := f10 (hall 10 (by decide))
        have e11 := f11 (hall 11 (by decide))
        clear f0 f1 f2 f3 f4 f5 f6 f7 f8 f9 f10 f11
        obtain ⟨g5, A5, n5, c5, R5, m5, d5, rfl, hg5, hz, oo⟩ := e10
        obtain ⟨nn, hnn⟩ : ∃ nn, h2.cs.length = nn := ⟨_, rfl⟩
        obtain ⟨mm, hmm⟩ : ∃ mm, h2.rt.length = mm := ⟨_, rfl⟩
        obtain ⟨Ax, cx, Rx, dx, ex1, ex2, _⟩ := oo.form
        injection ex1 with ex1 ex2' ex3
        injection ex2 with ey1 ey2 ey3
        subst ex1 ex2' ex3 ey1 ey2 ey3
        have NX := SS.out.next I0 oo
        have z0 := hz.cell 0
        have z1 := hz.cell 1
        simp at z0 z1
        have z2 : ww.frozen? ⟨b, 0, none⟩ = false := (SS.out.box.keep I0 SS.out.box.lt).frozen 0
        have z3 : ww.frozen? ⟨b, 1, none⟩ = false := (SS.out.box.keep I0 SS.out.box.lt).frozen 1
        have z4 : ww.cell? ⟨b, 0, none⟩ = some (.slice A1 hh.cs.length c1) := (SS.out.box.keep I0 SS.out.box.lt).cell 0
        have z5 : ww.cell? ⟨b, 1, none⟩ = some (.slice R1 hh.rt.length d1) := (SS.out.box.keep I0 SS.out.box.lt).cell 1
        clear e0 e1 e2 e3 e4 e5 e6 e7 e8 e9 e11 I1 I2 I3 hz oo hnn hmm x0 x1 c0 c1' c2 c3
        go_wp2_with fail
        go_roundw
        case rel => exact ⟨k + 1, A5, c5, R5, d5, h2, by omega, by go_num, HNX.out, HVX.out, NX⟩
        case measure => simp [intOf]; omega
    · obtain rfl : k = n := by omega
      have HE := Lib.hid (show Hps.runH l = hh by rw [HF.out, hhe, List.take_of_length_le (by omega)])
      have r2 : wr.frozen? ⟨w.heap.size, 0, none⟩ = false := S.res.frozen 0
      have r3 : wr.frozen? ⟨w.heap.size, 1, none⟩ = false := S.res.frozen 1
      have r4 : wr.cell? ⟨w.heap.size, 0, none⟩ = some (.slice none 0 0) := S.res.cell 0
      have r5 : wr.cell? ⟨w.heap.size, 1, none⟩ = some (.slice none 0 0) := S.res.cell 1
      obtain ⟨nn, hnn⟩ : ∃ nn, hh.cs.length = nn := ⟨_, rfl⟩
      obtain ⟨mm, hmm⟩ : ∃ mm, hh.rt.length = mm := ⟨_, rfl⟩
      rw [hnn, hmm] at S
      rw [hnn] at x0
      rw [hmm] at x1
      have r6 : ((wr.setCell ⟨w.heap.size, 0, none⟩ (.slice A1 nn c1)).setCell ⟨w.heap.size, 1, none⟩ (.slice R1 mm d1)).cell? ⟨w.heap.size, 0, none⟩ = some (.slice A1 nn c1) := ((S.res.put 0 (.slice A1 nn c1)).put 1 (.slice R1 mm d1)).cell 0
      have r7 : ((wr.setCell ⟨w.heap.size, 0, none⟩ (.slice A1 nn c1)).setCell ⟨w.heap.size, 1, none⟩ (.slice R1 mm d1)).cell? ⟨w.heap.size, 1, none⟩ = some (.slice R1 mm d1) := ((S.res.put 0 (.slice A1 nn c1)).put 1 (.slice R1 mm d1)).cell 1
      have D := Lib.hid (by
        obtain ⟨rvs, own, _⟩ := S.own
        exact OwnH.out (w := w) (g := w.heap.size) ⟨rvs, own⟩ (by omega) S.bel (Nat.le_refl _))
      clear S hhe hhv hnn hmm hml
      go_wp2_with fail
      exact bodyPost_ret (v := .agg #[.slice A1 nn c1, .slice R1 mm d1]) (by simp [results, Try.results75, go_sem, *]) rfl ⟨_, _, rfl, by rw [HE.out]; exact D.out.1, D.out.2⟩
end Go.Proofs.Ytakdjiojahlnmaa

namespace Go.Proofs.Ytakdjiojahlnmaa
open Go.RowKit
set_option maxRecDepth 100000
/-- a heap of the call's own in the box b; what was there before the world w0 is as it was -/
structure BoxSt (w0 wr : World) (b : Nat) (vc vr : Value) (rvs : List Value) (h : Hp) : Prop where
  own : OwnHx wr w0.heap.size vc vr rvs h
  apart : Apart (some b) (vc :: vr :: rvs)
  box : Rw wr b 26 #[vc, vr]
  low : Below w0.heap.size w0 wr
  lo : w0.heap.size ≤ b
section
variable {w0 wr w1 : World} {b g c d i k : Nat} {vc vr : Value} {rvs : List Value} {h : Hp} {cl : Cl}
theorem BoxSt.up (S : BoxSt w0 wr b vc vr rvs h) (hw : Below wr.heap.size wr w1) : BoxSt w0 w1 b vc vr rvs h :=
  ⟨S.own.below hw (Nat.le_refl _), S.apart, S.box.keep hw S.box.lt, S.low.trans (hw.mono S.low.size), S.lo⟩
theorem BoxSt.drew (S : BoxSt w0 wr b vc vr rvs h) : BoxSt w0 wr.drew b vc vr rvs h := S.up (Below.refl _ _).drew
theorem BoxSt.into (S : BoxSt w0 wr b vc vr rvs h) {v : Value} (hv : v ∈ vc :: vr :: rvs) (hg : v.ownBlock = some g) {rvs' : List Value} {h' : Hp} (u : Value)
    (ho : OwnHx (wr.setCell ⟨g, i, none⟩ u) w0.heap.size vc vr rvs' h') (ha : ∀ v ∈ rvs', v.ownBlock = none ∨ v.ownBlock ≠ some b) : BoxSt w0 (wr.setCell ⟨g, i, none⟩ u) b vc vr rvs' h' := by
  have h1 := S.own.blocks hv hg
  have h2 : b ≠ g := by
    rcases S.apart v hv with e | e
    · rw [hg] at e; cases e
    · intro e'; rw [hg] at e; exact e (by rw [e'])
  refine ⟨ho, ?_, S.box.other h2 u, S.low.setCell (p := ⟨g, i, none⟩) (by show w0.heap.size ≤ g; omega) u, S.lo⟩
  intro x hx
  simp only [List.mem_cons] at hx
  rcases hx with rfl | rfl | hx
  · exact S.apart x (by simp)
  · exact S.apart x (by simp)
  · exact ha x hx
theorem BoxSt.root {m : Nat} (S : BoxSt w0 wr b vc (.slice (some ⟨g, 0, none⟩) m d) rvs h) (hm : h.rt.length = m) (x : Int) : BoxSt w0 (wr.setCell ⟨g, i, none⟩ (.int .i64 x)) b vc (.slice (some ⟨g, 0, none⟩) m d) rvs ⟨h.cs, h.rt.set i x⟩ := by
  subst hm
  exact S.into (v := .slice (some ⟨g, 0, none⟩) h.rt.length d) (by simp) rfl _ (S.own.root x) fun v hv => S.apart v (by simp [hv])
theorem BoxSt.data {n : Nat} (S : BoxSt w0 wr b (.slice (some ⟨g, 0, none⟩) n d) vr rvs h) (hn : h.cs.length = n) (hc : h.cs[k]? = some cl) (x : Int) : BoxSt w0 (wr.setCell ⟨g, k * 3 + 1, none⟩ (.int .i64 x)) b (.slice (some ⟨g, 0, none⟩) n d) vr rvs ⟨h.cs.set k ⟨cl.u, x, cl.r⟩, h.rt⟩ := by
  subst hn
  exact S.into (v := .slice (some ⟨g, 0, none⟩) h.cs.length d) (by simp) rfl _ (S.own.data hc x) fun v hv => S.apart v (by simp [hv])
theorem BoxSt.ref1 {m : Nat} (S : BoxSt w0 wr b vc vr rvs h) (hc : h.cs[k]? = some cl) (hv : rvs[k]? = some (.slice (some ⟨g, 0, none⟩) m d)) (hm : cl.r.length = m) (x : Int) : BoxSt w0 (wr.setCell ⟨g, i, none⟩ (.int .i64 x)) b vc vr rvs ⟨h.cs.set k ⟨cl.u, cl.d, cl.r.set i x⟩, h.rt⟩ := by
  subst hm
  exact S.into (v := .slice (some ⟨g, 0, none⟩) cl.r.length d) (by simp [List.mem_of_getElem? hv]) rfl _ (S.own.ref1 hc hv x) fun v hv => S.apart v (by simp [hv])
theorem BoxSt.snoc {v9 v8 : Value} (S : BoxSt w0 wr b vc vr rvs h) (hG : wr.grownBy w1 vc.ownBlock)
    (o9 : w1.ownsRow w0.heap.size 45 3 v9 (h.cs.length + 1) (flatC h.cs rvs ++ [.bool cl.u, .int .i64 cl.d, v8])) (q : v9.ownBlock = vc.ownBlock ∨ v9.ownBlock = some wr.heap.size)
    (o8 : OwnI wr w0.heap.size v8 cl.r) (hap : ∀ v ∈ vc :: vr :: rvs, v8.ownBlock = none ∨ v8.ownBlock ≠ v.ownBlock) (h8b : v8.ownBlock ≠ some b) :
    BoxSt w0 (w1.setCell ⟨b, 0, none⟩ v9) b v9 vr (rvs ++ [v8]) ⟨h.cs ++ [cl], h.rt⟩ := by
  have hn := S.own.snoc hG o9 q o8 hap
  have hlo := S.lo
  have hbl := S.box.lt
  have hvcb : some b ≠ vc.ownBlock := by
    rcases S.apart vc (by simp) with e | e
    · rw [e]; simp
    · exact fun h => e h.symm
  have ap : Apart (some b) (v9 :: vr :: (rvs ++ [v8])) := by
    intro v hv
    simp only [List.mem_cons, List.mem_append, List.not_mem_nil, or_false] at hv
    rcases hv with rfl | rfl | hv | rfl
    · right
      rcases q with e | e
      · rw [e]; exact fun h => hvcb h.symm
      · rw [e]; intro e'; injection e' with e'; omega
    · exact S.apart v (by simp)
    · exact S.apart v (by simp [hv])
    · exact .inr h8b
  refine ⟨hn.far (put_any w1 b 0 v9) ap, ap, (Rw.far S.box hG hvcb).put 0 v9, ?_, hlo⟩
  exact (S.low.grown hG S.low.size (fun kk hk => (S.own.blocks (v := vc) (by simp) hk).1)).setCell (p := ⟨b, 0, none⟩) (by show w0.heap.size ≤ b; omega) _
theorem BoxSt.cell {n : Nat} {rv : Value} {old : Cl} (S : BoxSt w0 wr b (.slice (some ⟨g, 0, none⟩) n c) vr rvs h) (hn : h.cs.length = n) (hc : h.cs[k]? = some old) (o : OwnI wr w0.heap.size rv cl.r) (hap : ∀ v ∈ (Value.slice (some ⟨g, 0, none⟩) n c) :: vr :: rvs, rv.ownBlock = none ∨ rv.ownBlock ≠ v.ownBlock) (h8b : rv.ownBlock = none ∨ rv.ownBlock ≠ some b) :
    BoxSt w0 (((wr.setCell ⟨g, k * 3, none⟩ (.bool cl.u)).setCell ⟨g, k * 3 + 1, none⟩ (.int .i64 cl.d)).setCell ⟨g, k * 3 + 2, none⟩ rv) b (.slice (some ⟨g, 0, none⟩) n c) vr (rvs.set k rv) ⟨h.cs.set k cl, h.rt⟩ := by
  subst hn
  have hm : (Value.slice (some ⟨g, 0, none⟩) h.cs.length c) ∈ (Value.slice (some ⟨g, 0, none⟩) h.cs.length c) :: vr :: rvs := by simp
  have h1 : w0.heap.size ≤ g ∧ g < wr.heap.size := S.own.blocks hm rfl
  have h2 : b ≠ g := by
    rcases S.apart _ hm with e | e
    · cases e
    · intro e'; exact e (by rw [e']; rfl)
  refine ⟨S.own.cell hc o hap, ?_, ((S.box.other h2 _).other h2 _).other h2 _, ?_, S.lo⟩
  · intro x hx
    simp only [List.mem_cons] at hx
    rcases hx with rfl | rfl | hx
    · exact S.apart _ (by simp)
    · exact S.apart x (by simp)
    · rcases List.mem_or_eq_of_mem_set hx with hx | rfl
      · exact S.apart x (by simp [hx])
      · exact h8b
  · exact ((S.low.setCell (p := ⟨g, k * 3, none⟩) (by show w0.heap.size ≤ g; omega) _).setCell (p := ⟨g, k * 3 + 1, none⟩) (by show w0.heap.size ≤ g; omega) _).setCell (p := ⟨g, k * 3 + 2, none⟩) (by show w0.heap.size ≤ g; omega) _
theorem BoxSt.ownH (S : BoxSt w0 wr b vc vr rvs h) : OwnH wr w0.heap.size vc vr h := ⟨rvs, S.own⟩
theorem BoxSt.of {w1 : World} (o : OwnH w1 w0.heap.size vc vr h) (hb : Below w0.heap.size w0 w1) : ∃ rvs, BoxSt w0 (w1.alloc (.cells #[vc, vr] 26)) w1.heap.size vc vr rvs h := by
  obtain ⟨rvs, own⟩ := o
  exact ⟨rvs, own.below ((Below.refl _ _).alloc (Nat.le_refl _) _) (Nat.le_refl _), own.apart_new (Nat.le_refl _), Rw.new _ _ _, hb.alloc hb.size _, hb.size⟩
end
set_option maxHeartbeats 4000000 in
theorem l11Drop_any (A R D : Option Addr) (n c m d e : Nat) (h : Hp) (bs : List Bool) (w : World) (hs : HS w w.heap.size A n R m h) (ho : OS w w.heap.size D n bs) (hn : n ≤ 1000000) (hm : m ≤ 1000000) (h3 : ∀ cl ∈ h.cs, cl.r.length ≤ 1000000) :
    Calls Try.prog 109 #[heapV A n c R m d, .slice D n e] w (GaveH w (Hps.dropH h bs)) := by
  have hlc := hs.cells.1
  have hlr := hs.roots.1
  have hlb := ho.1
  have b2 : Below w.heap.size w ((w.alloc (.cells #[.slice A n c, .slice R m d] 26)).alloc (.cells #[.slice none 0 0, .slice none 0 0] 26)) := ((Below.refl w.heap.size w).alloc (Nat.le_refl _) _).alloc (by simp) _
  have s2 := hs.up b2
  have q2 := Rw.new (w.alloc (.cells #[.slice A n c, .slice R m d] 26)) 26 #[.slice none 0 0, .slice none 0 0]
  simp only [World.size_alloc] at q2
  have q1 := (Rw.new w 26 #[.slice A n c, .slice R m d]).alloc (.cells #[.slice none 0 0, .slice none 0 0] 26)
  have hz : ((w.alloc (.cells #[.slice A n c, .slice R m d] 26)).alloc (.cells #[.slice none 0 0, .slice none 0 0] 26)).heap.size = w.heap.size + 1 + 1 := by simp
  go_enter Try.func109, Try.ntmps109
  go_upto_region 1 with fail
  generalize (w.alloc (.cells #[.slice A n c, .slice R m d] 26)).alloc (.cells #[.slice none 0 0, .slice none 0 0] 26) = w0 at b2 s2 q1 q2 hz ⊢
  have HZ := Lib.hid hz
  clear hz
  have y0 : w0.cell? ⟨w.heap.size, 0, none⟩ = some (.slice A n c) := q1.cell 0
  have y1 : w0.cell? ⟨w.heap.size, 1, none⟩ = some (.slice R m d) := q1.cell 1
  go_wp2_with fail
  clear y0 y1 q1
  refine (l7Copy_any _ _ _ _ _ _ h _ s2 hn hm h3).mono ?_
  rintro e w1 ⟨vc, vr, rfl, oh, b1⟩
  obtain ⟨rvs, S0⟩ := BoxSt.of oh b1
  obtain ⟨Ac, cc, Rc, dc, rfl, rfl, -⟩ := oh.form
  rw [hlc, hlr] at S0 ⊢
  clear oh b1 s2 h3
  go_upto_region 2 with fail
  generalize w1.alloc (.cells #[.slice Ac n cc, .slice Rc m dc] 26) = w3 at S0 ⊢
  generalize w1.heap.size = b at S0 ⊢
  clear w1
  have HLC := Lib.hid hlc
  have HLB := Lib.hid hlb
  clear hlc hlb hlr
  go_wp2_with fail
  go_loopw [6] (fun i wr => ∃ (k : Nat) (rvs : List Value), k ≤ n ∧ i = .int .i64 k ∧ BoxSt w0 wr b (.slice Ac n cc) (.slice Rc m dc) rvs ⟨Hps.dropL h.cs (bs.take k), h.rt⟩) (fun i _ => n - (intOf i).toNat)
  case atStart => exact ⟨0, rvs, by omega, rfl, by rw [List.take_zero, Hps.dropL_nil]; exact S0⟩
  case round =>
    clear S0 rvs
    obtain ⟨k, rvs, hk, rfl, S⟩ := hrel
    have bw := b2.trans (S.low.mono b2.size)
    have x0 : wr.cell? ⟨b, 0, none⟩ = some (.slice Ac n cc) := S.box.cell 0
    have x1 : wr.cell? ⟨b, 1, none⟩ = some (.slice Rc m dc) := S.box.cell 1
    by_cases hlt : k < n
    · obtain ⟨g, o, bl, rfl, hg, hbl, c1⟩ := (ho.below bw).at_ hlt
      have hlt' : (k : Int) < n := by omega
      have hkl : k < h.cs.length := by rw [HLC.out]; exact hlt
      have HS := Lib.hid (Hps.dropL_succ hbl hkl)
      cases bl
      · clear hbl hkl
        have HS' := HS.out
        rw [if_neg (by simp)] at HS'
        have HS2 := Lib.hid HS'
        clear HS' HS
        go_wp2_with fail
        go_roundw
        case rel => exact ⟨k + 1, rvs, by omega, by go_num, by rw [HS2.out]; exact S⟩
        case measure => simp [intOf]; omega
      · have HS' := HS.out
        rw [if_pos rfl] at HS'
        have HS2 := Lib.hid HS'
        have hdl : (Hps.dropL h.cs (bs.take k)).length = n := by rw [Hps.dropL_len]; exact HLC.out
        obtain ⟨old, hold⟩ : ∃ old, (Hps.dropL h.cs (bs.take k))[k]? = some old := ⟨_, List.getElem?_eq_getElem (show k < _ by rw [hdl]; exact hlt)⟩
        obtain ⟨gc, v, e4, hgc1, hgc2, -, -, y0, y1, y2, fz⟩ := S.own.cell_at hold
        subst e4
        have f0 := fz (k * 3)
        have f1 := fz (k * 3 + 1)
        have f2 := fz (k * 3 + 2)
        have SN := S.cell (cl := Hps.zeroCl) (rv := .slice none 0 0) hdl hold (World.ownsRow_nil _ _ _ _) (fun _ _ => .inl rfl) (.inl rfl)
        rw [← HS2.out] at SN
        have SH := Lib.hid SN
        clear hbl hkl hold hdl S SN HS HS' HS2 fz
        go_wp2_with fail
        go_roundw
        case rel => exact ⟨k + 1, _, by omega, by go_num, SH.out⟩
        case measure => simp [intOf]; omega
    · obtain rfl : k = n := by omega
      have HE := Lib.hid (show Hps.dropL h.cs (bs.take k) = Hps.dropL h.cs bs by rw [List.take_of_length_le (by rw [HLB.out]; omega)])
      have q3 := q2.keep S.low q2.lt
      have r2 : wr.frozen? ⟨w.heap.size + 1, 0, none⟩ = false := q3.frozen 0
      have r3 : wr.frozen? ⟨w.heap.size + 1, 1, none⟩ = false := q3.frozen 1
      have r4 : wr.cell? ⟨w.heap.size + 1, 0, none⟩ = some (.slice none 0 0) := q3.cell 0
      have r5 : wr.cell? ⟨w.heap.size + 1, 1, none⟩ = some (.slice none 0 0) := q3.cell 1
      have r6 : ((wr.setCell ⟨w.heap.size + 1, 0, none⟩ (.slice Ac k cc)).setCell ⟨w.heap.size + 1, 1, none⟩ (.slice Rc m dc)).cell? ⟨w.heap.size + 1, 0, none⟩ = some (.slice Ac k cc) := ((q3.put 0 (.slice Ac k cc)).put 1 (.slice Rc m dc)).cell 0
      have r7 : ((wr.setCell ⟨w.heap.size + 1, 0, none⟩ (.slice Ac k cc)).setCell ⟨w.heap.size + 1, 1, none⟩ (.slice Rc m dc)).cell? ⟨w.heap.size + 1, 1, none⟩ = some (.slice Rc m dc) := ((q3.put 0 (.slice Ac k cc)).put 1 (.slice Rc m dc)).cell 1
      have D := Lib.hid (S.ownH.out (w := w) (g := w.heap.size + 1) q2.lt bw (by omega))
      clear S q2 q3
      go_wp2_with fail
      exact bodyPost_ret (v := .agg #[.slice Ac k cc, .slice Rc m dc]) (by simp [results, Try.results109, go_sem, *]) rfl ⟨_, _, rfl, by rw [Hps.dropH, ← HE.out]; exact D.out.1, D.out.2⟩
end Go.Proofs.Ytakdjiojahlnmaa
namespace Go.Proofs.Ytakdjiojahlnmaa
open Go.RowKit
set_option maxRecDepth 100000
/-- a heap of the call's own, and a number -/
def GaveHN (w : World) (h : Hp) (k : Int) (e : Ending) (w' : World) : Prop := ∃ vc vr, e = .returned (.tuple #[.agg #[vc, vr], .int .i64 k]) ∧ OwnH w' w.heap.size vc vr h ∧ Below w.heap.size w w'
namespace Hps
theorem sweepH_no {h : Hp} {bs : List Bool} (e : validH h = false ∨ bs.length ≠ h.cs.length) : sweepH h bs = (zeroH, -1) := by
  unfold sweepH
  rcases e with e | e <;> simp [e]
theorem sweepH_bad {h : Hp} {bs : List Bool} (h1 : validH h = true) (h2 : bs.length = h.cs.length) (h3 : validH (dropH h (bs.map (!·))) = false) : sweepH h bs = (zeroH, -1) := by simp [sweepH, h1, h2, h3]
theorem sweepH_ok {h : Hp} {bs : List Bool} (h1 : validH h = true) (h2 : bs.length = h.cs.length) (h3 : validH (dropH h (bs.map (!·))) = true) : sweepH h bs = (dropH h (bs.map (!·)), (freedTo h.cs bs h.cs.length : Int)) := by simp [sweepH, h1, h2, h3]
theorem freedTo_kept {cs : List Cl} {bs : List Bool} {k : Nat} (h : bs[k]? = some true) : freedTo cs bs (k + 1) = freedTo cs bs k := by simp [freedTo, h]
theorem freedTo_free {cs : List Cl} {bs : List Bool} {k : Nat} {c : Cl} (h : bs[k]? = some false) (hc : cs[k]? = some c) : freedTo cs bs (k + 1) = freedTo cs bs k + (if c.u = true then 1 else 0) := by
  have : usedAt cs k = c.u := by simp [usedAt, hc]
  simp [freedTo, h, this]
theorem not_succ {bs : List Bool} {k : Nat} {b : Bool} (h : bs[k]? = some b) : (bs.take (k + 1)).map (!·) = (bs.take k).map (!·) ++ [!b] := by
  rw [List.take_add_one, h]
  simp
end Hps
set_option maxHeartbeats 4000000 in
theorem mSweepCells_any (A R D : Option Addr) (n c m d q e : Nat) (h : Hp) (bs : List Bool) (w : World) (hs : HS w w.heap.size A n R m h) (ho : OS w w.heap.size D q bs) (hn : n ≤ 1099511627776) (hm : m ≤ 1099511627776) (hq : q ≤ 1099511627776) :
    Calls Try.prog 102 #[heapV A n c R m d, .slice D q e] w (GaveHN w (Hps.sweepH h bs).1 (Hps.sweepH h bs).2) := by
  have hlc := hs.cells.1
  have hlr := hs.roots.1
  have hlb := ho.1
  have b2 : Below w.heap.size w ((w.alloc (.cells #[.slice A n c, .slice R m d] 26)).alloc (.cells #[.slice none 0 0, .slice none 0 0] 26)) := ((Below.refl w.heap.size w).alloc (Nat.le_refl _) _).alloc (by simp) _
  have s2 := hs.up b2
  have q3 := Rw.new (w.alloc (.cells #[.slice A n c, .slice R m d] 26)) 26 #[.slice none 0 0, .slice none 0 0]
  simp only [World.size_alloc] at q3
  have q1 := (Rw.new w 26 #[.slice A n c, .slice R m d]).alloc (.cells #[.slice none 0 0, .slice none 0 0] 26)
  go_enter Try.func102, Try.ntmps102
  go_wp2_with fail
  refine (mHeapValid_any _ _ _ _ _ _ h _ s2 hn hm).mono ?_
  rintro e w1 ⟨rfl, b1⟩
  replace q1 := q1.keep b1 q1.lt
  replace q3 := q3.keep b1 q3.lt
  replace b2 := b2.trans (b1.mono b2.size)
  have hG : w.heap.size + 1 < w1.heap.size := q3.lt
  clear b1 s2
  cases hv : Hps.validH h
  · have HF := Lib.hid (Hps.sweepH_no (bs := bs) (.inl hv))
    have r2 : (w1).frozen? ⟨w.heap.size + 1, 0, none⟩ = false := q3.frozen 0
    have r3 : (w1).frozen? ⟨w.heap.size + 1, 1, none⟩ = false := q3.frozen 1
    have r4 : (w1).cell? ⟨w.heap.size + 1, 0, none⟩ = some (.slice none 0 0) := q3.cell 0
    have r5 : (w1).cell? ⟨w.heap.size + 1, 1, none⟩ = some (.slice none 0 0) := q3.cell 1
    have r6 : (((w1).setCell ⟨w.heap.size + 1, 0, none⟩ (.slice none 0 0)).setCell ⟨w.heap.size + 1, 1, none⟩ (.slice none 0 0)).cell? ⟨w.heap.size + 1, 0, none⟩ = some (.slice none 0 0) := ((q3.put 0 (.slice none 0 0)).put 1 (.slice none 0 0)).cell 0
    have r7 : (((w1).setCell ⟨w.heap.size + 1, 0, none⟩ (.slice none 0 0)).setCell ⟨w.heap.size + 1, 1, none⟩ (.slice none 0 0)).cell? ⟨w.heap.size + 1, 1, none⟩ = some (.slice none 0 0) := ((q3.put 0 (.slice none 0 0)).put 1 (.slice none 0 0)).cell 1
    have D := Lib.hid ((own_zeroH (w1) (w1).heap.size (Nat.le_refl _)).out (w := w) (g := w.heap.size + 1) q3.lt b2 (by omega))
    clear q1 q3 b2 hv
    go_wp2_with fail
    exact bodyPost_ret (v := .tuple #[.agg #[.slice none 0 0, .slice none 0 0], .int .i64 (-1)]) (by simp [results, Try.results102, go_sem, *]) rfl ⟨_, _, by rw [HF.out], by rw [HF.out]; exact D.out.1, D.out.2⟩
  have x0 : w1.cell? ⟨w.heap.size, 0, none⟩ = some (.slice A n c) := q1.cell 0
  have x1 : w1.cell? ⟨w.heap.size, 1, none⟩ = some (.slice R m d) := q1.cell 1
  by_cases hqn : q = n
  case neg =>
    have HF := Lib.hid (Hps.sweepH_no (h := h) (bs := bs) (.inr (by rw [hlb, hlc]; exact hqn)))
    have hne : ((q : Int) != n) = true := by rw [bne_iff_ne]; omega
    have r2 : (w1).frozen? ⟨w.heap.size + 1, 0, none⟩ = false := q3.frozen 0
    have r3 : (w1).frozen? ⟨w.heap.size + 1, 1, none⟩ = false := q3.frozen 1
    have r4 : (w1).cell? ⟨w.heap.size + 1, 0, none⟩ = some (.slice none 0 0) := q3.cell 0
    have r5 : (w1).cell? ⟨w.heap.size + 1, 1, none⟩ = some (.slice none 0 0) := q3.cell 1
    have r6 : (((w1).setCell ⟨w.heap.size + 1, 0, none⟩ (.slice none 0 0)).setCell ⟨w.heap.size + 1, 1, none⟩ (.slice none 0 0)).cell? ⟨w.heap.size + 1, 0, none⟩ = some (.slice none 0 0) := ((q3.put 0 (.slice none 0 0)).put 1 (.slice none 0 0)).cell 0
    have r7 : (((w1).setCell ⟨w.heap.size + 1, 0, none⟩ (.slice none 0 0)).setCell ⟨w.heap.size + 1, 1, none⟩ (.slice none 0 0)).cell? ⟨w.heap.size + 1, 1, none⟩ = some (.slice none 0 0) := ((q3.put 0 (.slice none 0 0)).put 1 (.slice none 0 0)).cell 1
    have D := Lib.hid ((own_zeroH (w1) (w1).heap.size (Nat.le_refl _)).out (w := w) (g := w.heap.size + 1) q3.lt b2 (by omega))
    clear q1 q3 b2 hv hqn
    go_wp2_with fail
    exact bodyPost_ret (v := .tuple #[.agg #[.slice none 0 0, .slice none 0 0], .int .i64 (-1)]) (by simp [results, Try.results102, go_sem, *]) rfl ⟨_, _, by rw [HF.out], by rw [HF.out]; exact D.out.1, D.out.2⟩
  subst hqn
  have hn40 : q ≤ 40 := by rw [← hlc]; exact (Hps.valid_iff.1 hv).2.1
  have hm4 : m = 4 := by rw [← hlr]; exact (Hps.valid_iff.1 hv).2.2.1
  have H3 := Lib.hid (fun cl (hcl : cl ∈ h.cs) => show cl.r.length ≤ 1000000 by have := (Hps.okCell_iff.1 ((Hps.valid_iff.1 hv).1 cl hcl)).2.2.1; omega)
  have HLB := Lib.hid (show bs.length = h.cs.length by rw [hlb, hlc])
  have HLC := Lib.hid hlc
  have HB := Lib.hid hlb
  have HV := Lib.hid hv
  have HM := Lib.hid hm4
  have o0 := own_noneO w1 w1.heap.size (Nat.le_refl _)
  have e0 : Below w1.heap.size w1 (w1.alloc (.cells #[] 4)) := (Below.refl _ _).alloc (Nat.le_refl _) _
  clear hlb hlc hlr hv hm4
  go_wp2_with fail
  go_loopw [6, 7, 8] (fun v f i wr => ∃ k : Nat, k ≤ q ∧ i = .int .i64 k ∧ f = .int .i64 (Hps.freedTo h.cs bs k) ∧ OwnO wr w1.heap.size v ((bs.take k).map (!·)) ∧ Below w1.heap.size w1 wr) (fun _ _ i _ => q - (intOf i).toNat)
  case atStart => exact ⟨0, by omega, rfl, rfl, by rw [List.take_zero]; exact o0, e0⟩
  case round =>
    clear o0 e0
    obtain ⟨k, hk, rfl, rfl, ow, bb⟩ := hrel
    have bw := b2.trans (bb.mono b2.size)
    have x0' : wr.cell? ⟨w.heap.size, 0, none⟩ = some (.slice A q c) := (q1.keep bb q1.lt).cell 0
    have x1' : wr.cell? ⟨w.heap.size, 1, none⟩ = some (.slice R m d) := (q1.keep bb q1.lt).cell 1
    obtain ⟨Av, cv, e1, -⟩ := ow.form
    have hlen : ((bs.take k).map (!·)).length = k := by rw [List.length_map, List.length_take, HB.out]; omega
    rw [hlen] at e1
    subst e1
    have hfl := Hps.freedTo_le h.cs bs k
    by_cases hlt : k < q
    · obtain ⟨g, o, bl, rfl, hg, hbl, c1⟩ := (ho.below bw).at_ hlt
      obtain ⟨g2, o2, cl, A', m', cc, rfl, hg2, hcl, d1, d2, d3, -, -⟩ := (hs.cells.below bw).at_ hlt
      have hlt' : (k : Int) < q := by omega
      have HN := Lib.hid (Hps.not_succ hbl)
      have ow2 := World.ownsRow.alloc ow (.cells #[.bool (!bl)] 4)
      have rr : OS (wr.alloc (.cells #[.bool (!bl)] 4)) (wr.alloc (.cells #[.bool (!bl)] 4)).heap.size (some ⟨wr.heap.size, 0, none⟩) 1 [!bl] := (own_oneO wr (!bl) 0 (Nat.zero_le _)).reads
      have bsz := bb.size
      have WB := Lib.hid (fun (w5 : World) (g5 : (wr.alloc (.cells #[.bool (!bl)] 4)).grownBy w5 (Value.slice Av k cv).ownBlock) => show Below w1.heap.size w1 w5 from (bb.alloc bb.size _).grown g5 (by simp; omega) (fun kk hk => (World.ownsRow.lt ow kk hk).1))
      have hgw := Nat.lt_of_lt_of_le hg (b2.size)
      have hgw2 := Nat.lt_of_lt_of_le hg2 (b2.size)
      have hq1 := q1.lt
      cases bl
      · have HFR := Lib.hid (Hps.freedTo_free hbl hcl)
        have y1 : w1.cell? ⟨g, o + k, none⟩ = some (.bool false) := (bb.cell (p := ⟨g, o + k, none⟩) hgw).symm.trans c1
        have y2 : w1.cell? ⟨g2, o2 + k * 3, none⟩ = some (.bool cl.u) := (bb.cell (p := ⟨g2, o2 + k * 3, none⟩) hgw2).symm.trans d1
        clear hbl hcl d2 d3 ow
        simp only [Bool.not_false] at ow2 rr WB HN
        cases hu : cl.u
        · rw [hu] at HFR d1 y2
          simp only [Bool.false_eq_true, if_false, Nat.add_zero] at HFR
          go_wp2_with (at_builtin; refine wpList_appendO rfl (.tmp 29) (.tmp 35) rfl w1.heap.size _ ((bs.take k).map (!·)) rfl ow2 (some ⟨wr.heap.size, 0, none⟩) 1 1 _ [true] rfl rr (by rw [hlen]; omega) (by simp; omega) ?_; intro v5 w5 o5 g5 s5; have BN := WB.out w5 g5; have c5 := (BN.cell (p := ⟨g, o + k, none⟩) hgw).trans y1; have y5 := (BN.cell (p := ⟨w.heap.size, 0, none⟩) (by show w.heap.size < w1.heap.size; omega)).trans x0; have e5 := (BN.cell (p := ⟨g2, o2 + k * 3, none⟩) hgw2).trans y2)
          go_roundw
          case rel => exact ⟨k + 1, by omega, by go_num, by rw [HFR.out], by rw [HN.out]; exact o5, BN⟩
          case measure => simp [intOf]; omega
        · rw [hu] at HFR d1 y2
          simp only [if_true] at HFR
          go_wp2_with (at_builtin; refine wpList_appendO rfl (.tmp 29) (.tmp 35) rfl w1.heap.size _ ((bs.take k).map (!·)) rfl ow2 (some ⟨wr.heap.size, 0, none⟩) 1 1 _ [true] rfl rr (by rw [hlen]; omega) (by simp; omega) ?_; intro v5 w5 o5 g5 s5; have BN := WB.out w5 g5; have c5 := (BN.cell (p := ⟨g, o + k, none⟩) hgw).trans y1; have y5 := (BN.cell (p := ⟨w.heap.size, 0, none⟩) (by show w.heap.size < w1.heap.size; omega)).trans x0; have e5 := (BN.cell (p := ⟨g2, o2 + k * 3, none⟩) hgw2).trans y2)
          go_roundw
          case rel => exact ⟨k + 1, by omega, by go_num, by rw [HFR.out]; go_num, by rw [HN.out]; exact o5, BN⟩
          case measure => simp [intOf]; omega
      · have HFR := Lib.hid (Hps.freedTo_kept (cs := h.cs) hbl)
        have y1 : w1.cell? ⟨g, o + k, none⟩ = some (.bool true) := (bb.cell (p := ⟨g, o + k, none⟩) hgw).symm.trans c1
        have y2 : w1.cell? ⟨g2, o2 + k * 3, none⟩ = some (.bool cl.u) := (bb.cell (p := ⟨g2, o2 + k * 3, none⟩) hgw2).symm.trans d1
        clear hbl hcl d2 d3 ow
        simp only [Bool.not_true] at ow2 rr WB HN
        go_wp2_with (at_builtin; refine wpList_appendO rfl (.tmp 29) (.tmp 35) rfl w1.heap.size _ ((bs.take k).map (!·)) rfl ow2 (some ⟨wr.heap.size, 0, none⟩) 1 1 _ [false] rfl rr (by rw [hlen]; omega) (by simp; omega) ?_; intro v5 w5 o5 g5 s5; have BN := WB.out w5 g5; have c5 := (BN.cell (p := ⟨g, o + k, none⟩) hgw).trans y1; have y5 := (BN.cell (p := ⟨w.heap.size, 0, none⟩) (by show w.heap.size < w1.heap.size; omega)).trans x0; have e5 := (BN.cell (p := ⟨g2, o2 + k * 3, none⟩) hgw2).trans y2)
        go_roundw
        case rel => exact ⟨k + 1, by omega, by go_num, by rw [HFR.out], by rw [HN.out]; exact o5, BN⟩
        case measure => simp [intOf]; omega
    · obtain rfl : k = q := by omega
      have ow' : OwnO wr w1.heap.size (.slice Av k cv) (bs.map (!·)) := by
        rw [List.take_of_length_le (by rw [HB.out]; omega)] at ow
        exact ow
      have rd := ow'.reads
      have hsr := hs.up bw
      clear ow hlen x0 x1
      go_wp2_with fail
      refine (l11Drop_any _ _ _ _ _ _ _ _ h (bs.map (!·)) _ hsr rd (by omega) (by have := HM.out; omega) H3.out).mono ?_
      rintro e w5 ⟨vc, vr, rfl, oh, b5⟩
      have b6 := bw.trans (b5.mono bw.size)
      have q3 := (q3.keep bb q3.lt).keep b5 (q3.keep bb q3.lt).lt
      obtain ⟨rvs, S⟩ := BoxSt.of oh b5
      obtain ⟨Ac, cc, Rc, dc, rfl, rfl, -⟩ := oh.form
      have hlx : (Hps.dropH h (bs.map (!·))).cs.length = k := by rw [Hps.dropH, Hps.dropL_len]; exact HLC.out
      have hrx : (Hps.dropH h (bs.map (!·))).rt.length = m := hsr.roots.1
      rw [hlx, hrx] at oh S ⊢
      have b7 : Below w.heap.size w (w5.alloc (.cells #[.slice Ac k cc, .slice Rc m dc] 26)) := b6.alloc b6.size _
      replace q3 := q3.alloc (.cells #[.slice Ac k cc, .slice Rc m dc] 26)
      clear oh b5 b6 hsr x0' x1' rd ow'
      go_upto_region 12 with fail
      generalize w5.alloc (.cells #[.slice Ac k cc, .slice Rc m dc] 26) = w6 at S b7 q3 ⊢
      generalize w5.heap.size = b at S ⊢
      have z0 : w6.cell? ⟨b, 0, none⟩ = some (.slice Ac k cc) := S.box.cell 0
      have z1 : w6.cell? ⟨b, 1, none⟩ = some (.slice Rc m dc) := S.box.cell 1
      have hsx := S.own.reads
      go_wp2_with fail
      refine (mHeapValid_any _ _ _ _ _ _ _ _ hsx (by omega) (by have := HM.out; omega)).mono ?_
      rintro e w7 ⟨rfl, b8⟩
      replace q3 := q3.keep b8 q3.lt
      replace S := S.up b8
      replace b7 := b7.trans (b8.mono b7.size)
      clear hsx b8 z0 z1
      cases hv2 : Hps.validH (Hps.dropH h (bs.map (!·)))
      · have HF := Lib.hid (Hps.sweepH_bad HV.out HLB.out hv2)
        have r2 : (w7).frozen? ⟨w.heap.size + 1, 0, none⟩ = false := q3.frozen 0
        have r3 : (w7).frozen? ⟨w.heap.size + 1, 1, none⟩ = false := q3.frozen 1
        have r4 : (w7).cell? ⟨w.heap.size + 1, 0, none⟩ = some (.slice none 0 0) := q3.cell 0
        have r5 : (w7).cell? ⟨w.heap.size + 1, 1, none⟩ = some (.slice none 0 0) := q3.cell 1
        have r6 : (((w7).setCell ⟨w.heap.size + 1, 0, none⟩ (.slice none 0 0)).setCell ⟨w.heap.size + 1, 1, none⟩ (.slice none 0 0)).cell? ⟨w.heap.size + 1, 0, none⟩ = some (.slice none 0 0) := ((q3.put 0 (.slice none 0 0)).put 1 (.slice none 0 0)).cell 0
        have r7 : (((w7).setCell ⟨w.heap.size + 1, 0, none⟩ (.slice none 0 0)).setCell ⟨w.heap.size + 1, 1, none⟩ (.slice none 0 0)).cell? ⟨w.heap.size + 1, 1, none⟩ = some (.slice none 0 0) := ((q3.put 0 (.slice none 0 0)).put 1 (.slice none 0 0)).cell 1
        have D := Lib.hid ((own_zeroH (w7) (w7).heap.size (Nat.le_refl _)).out (w := w) (g := w.heap.size + 1) q3.lt b7 (by omega))
        clear S q3 b7 hv2 q1 b2 bb bw hfl
        go_wp2_with fail
        exact bodyPost_ret (v := .tuple #[.agg #[.slice none 0 0, .slice none 0 0], .int .i64 (-1)]) (by simp [results, Try.results102, go_sem, *]) rfl ⟨_, _, by rw [HF.out], by rw [HF.out]; exact D.out.1, D.out.2⟩
      · have HF := Lib.hid (Hps.sweepH_ok HV.out HLB.out hv2)
        rw [HLC.out] at HF
        have z0 : w7.cell? ⟨b, 0, none⟩ = some (.slice Ac k cc) := S.box.cell 0
        have z1 : w7.cell? ⟨b, 1, none⟩ = some (.slice Rc m dc) := S.box.cell 1
        have r2 : (w7).frozen? ⟨w.heap.size + 1, 0, none⟩ = false := q3.frozen 0
        have r3 : (w7).frozen? ⟨w.heap.size + 1, 1, none⟩ = false := q3.frozen 1
        have r4 : (w7).cell? ⟨w.heap.size + 1, 0, none⟩ = some (.slice none 0 0) := q3.cell 0
        have r5 : (w7).cell? ⟨w.heap.size + 1, 1, none⟩ = some (.slice none 0 0) := q3.cell 1
        have r6 : (((w7).setCell ⟨w.heap.size + 1, 0, none⟩ (.slice Ac k cc)).setCell ⟨w.heap.size + 1, 1, none⟩ (.slice Rc m dc)).cell? ⟨w.heap.size + 1, 0, none⟩ = some (.slice Ac k cc) := ((q3.put 0 (.slice Ac k cc)).put 1 (.slice Rc m dc)).cell 0
        have r7 : (((w7).setCell ⟨w.heap.size + 1, 0, none⟩ (.slice Ac k cc)).setCell ⟨w.heap.size + 1, 1, none⟩ (.slice Rc m dc)).cell? ⟨w.heap.size + 1, 1, none⟩ = some (.slice Rc m dc) := ((q3.put 0 (.slice Ac k cc)).put 1 (.slice Rc m dc)).cell 1
        have D := Lib.hid (S.ownH.out (w := w) (g := w.heap.size + 1) (by have := bb.size; omega) b7 (by omega))
        clear S q3 b7 hv2 q1 b2 bb bw hfl
        go_wp2_with fail
        exact bodyPost_ret (v := .tuple #[.agg #[.slice Ac k cc, .slice Rc m dc], .int .i64 (Hps.freedTo h.cs bs k : Int)]) (by simp [results, Try.results102, go_sem, *]) rfl ⟨_, _, by rw [HF.out], by rw [HF.out]; exact D.out.1, D.out.2⟩
end Go.Proofs.Ytakdjiojahlnmaa
namespace Go.Proofs.Ytakdjiojahlnmaa
open Go.RowKit
set_option maxRecDepth 100000
theorem OwnO.slices {w : World} {base : Nat} {v : Value} {xs : List Bool} (h : OwnO w base v xs) : ∃ A n c, v = .slice A n c := by
  obtain ⟨A, c, e, -⟩ := h.form
  exact ⟨A, _, c, e⟩
theorem OwnH.put {w : World} {base g : Nat} {vc vr : Value} {h : Hp} (ho : OwnH w base vc vr h) (hg : g < base) (u u' : Value) : OwnH ((w.setCell ⟨g, 0, none⟩ u).setCell ⟨g, 1, none⟩ u') base vc vr h := by
  obtain ⟨rvs, own⟩ := ho
  have ap : Apart (some g) (vc :: vr :: rvs) := own.apart_below hg
  exact ⟨rvs, (own.far (put_any w g 0 u) ap).far (put_any _ g 1 u') ap⟩
theorem OwnO.put2 {w : World} {base g : Nat} {v : Value} {xs : List Bool} (h : OwnO w base v xs) (hg : g < base) (u u' : Value) : OwnO ((w.setCell ⟨g, 0, none⟩ u).setCell ⟨g, 1, none⟩ u') base v xs := by
  have ne : v.ownBlock = none ∨ v.ownBlock ≠ some g := by
    cases e : v.ownBlock with
    | none => exact .inl rfl
    | some k => right; intro e'; injection e' with e'; have := (World.ownsRow.lt h k e).1; omega
  exact (h.far (put_any w g 0 u) ne).far (put_any _ g 1 u') ne
set_option maxRecDepth 100000 in
set_option maxHeartbeats 4000000 in
theorem mCollectSweep_any (A R : Option Addr) (n c m d : Nat) (h : Hp) (w : World) (hs : HS w w.heap.size A n R m h) (hn : n ≤ 1099511627776) (hm : m ≤ 1099511627776) :
    Calls Try.prog 78 #[heapV A n c R m d] w (GaveHN w (Hps.collectH h).1 (Hps.collectH h).2) := by
  have b2 : Below w.heap.size w ((w.alloc (.cells #[.slice A n c, .slice R m d] 26)).alloc (.cells #[.slice none 0 0, .slice none 0 0] 26)) := ((Below.refl w.heap.size w).alloc (Nat.le_refl _) _).alloc (by simp) _
  have q3 := Rw.new (w.alloc (.cells #[.slice A n c, .slice R m d] 26)) 26 #[.slice none 0 0, .slice none 0 0]
  simp only [World.size_alloc] at q3
  have q1 := (Rw.new w 26 #[.slice A n c, .slice R m d]).alloc (.cells #[.slice none 0 0, .slice none 0 0] 26)
  have hz : w.heap.size + 1 + 1 ≤ ((w.alloc (.cells #[.slice A n c, .slice R m d] 26)).alloc (.cells #[.slice none 0 0, .slice none 0 0] 26)).heap.size := by simp
  obtain ⟨rm, hrm⟩ : ∃ rm, Hps.reachH h = rm := ⟨_, rfl⟩
  obtain ⟨h2, hh2⟩ : ∃ h2, (Hps.collectH h).1 = h2 := ⟨_, rfl⟩
  obtain ⟨kk, hkk⟩ : ∃ kk, (Hps.collectH h).2 = kk := ⟨_, rfl⟩
  have hrl : rm.length ≤ 1099511627776 := by
    rw [← hrm, Hps.reachH]
    split
    · rw [Hps.reachL_len, hs.cells.1]; exact hn
    · simp
  have C1 := Lib.hid (fun (ww : World) (hh : HS ww ww.heap.size A n R m h) => by
    have := mReachable_any A R n c m d h ww hh hn hm
    rw [hrm] at this
    exact this)
  have C2 := Lib.hid (fun (ww : World) (Av : Option Addr) (nv cv : Nat) (hh : HS ww ww.heap.size A n R m h) (oo : OS ww ww.heap.size Av nv rm) => by
    have := mSweepCells_any A R Av n c m d nv cv h rm ww hh oo hn hm (by rw [← oo.1]; exact hrl)
    rw [show Hps.sweepH h rm = Hps.collectH h by rw [Hps.collectH, hrm], hh2, hkk] at this
    exact this)
  rw [hh2, hkk]
  clear hrm hh2 hkk hrl
  go_enter Try.func78, Try.ntmps78
  go_upto_region 1 with fail
  generalize (w.alloc (.cells #[.slice A n c, .slice R m d] 26)).alloc (.cells #[.slice none 0 0, .slice none 0 0] 26) = w0 at b2 q1 q3 hz ⊢
  refine wp_region_inv (by kernel_rfl) (by kernel_rfl) (fun L ac ww => ∃ t3 t4 t5 t6 t7 t8 t9 : Value, ac = { tmps := #[heapV A n c R m d, Value.pointer (some { block := w.heap.size, off := 0 }), Value.pointer (some { block := w.heap.size + 1, off := 0 }), t3, t4, t5, t6, t7, t8, t9], defers := [] } ∧ (Below (w.heap.size + 1) w0 ww) ∧ (∃ z0 z1 : Value, Rw ww (w.heap.size + 1) 26 #[z0, z1]) ∧ (L 4 = true → L 3 = true) ∧ (L 0 = true → t4 = .agg #[.slice A n c, .slice R m d]) ∧ (L 1 = true → t5 = .agg #[.slice A n c, .slice R m d]) ∧ (L 2 = true → ∃ (Av : Option Addr) (nv cv : Nat), t6 = .slice Av nv cv ∧ OwnO ww w0.heap.size (.slice Av nv cv) rm) ∧ (L 3 = true → ∃ (A5 : Option Addr) (n5 c5 : Nat) (R5 : Option Addr) (m5 d5 : Nat), t7 = .tuple #[.agg #[.slice A5 n5 c5, .slice R5 m5 d5], .int .i64 kk] ∧ OwnH ww w0.heap.size (.slice A5 n5 c5) (.slice R5 m5 d5) h2) ∧ (L 4 = true → ∃ (A5 : Option Addr) (n5 c5 : Nat) (R5 : Option Addr) (m5 d5 : Nat), t7 = .tuple #[.agg #[.slice A5 n5 c5, .slice R5 m5 d5], .int .i64 kk] ∧ t8 = .agg #[.slice A5 n5 c5, .slice R5 m5 d5]) ∧ (L 5 = true → t9 = .int .i64 kk) ∧ (L 6 = true → ∃ (A5 : Option Addr) (n5 c5 : Nat) (R5 : Option Addr) (m5 d5 : Nat), Rw ww (w.heap.size + 1) 26 #[.slice A5 n5 c5, .slice R5 m5 d5] ∧ OwnH ww w0.heap.size (.slice A5 n5 c5) (.slice R5 m5 d5) h2) ∧ (L 7 = true → t3 = .int .i64 kk)) ?h0 ?hstep ?hdone
  case h0 => exact ⟨_, _, _, _, _, _, _, rfl, (Below.refl _ _).drew, ⟨_, _, q3⟩, fun h => absurd h Bool.false_ne_true, (fun h => absurd h Bool.false_ne_true), (fun h => absurd h Bool.false_ne_true), (fun h => absurd h Bool.false_ne_true), (fun h => absurd h Bool.false_ne_true), (fun h => absurd h Bool.false_ne_true), (fun h => absurd h Bool.false_ne_true), (fun h => absurd h Bool.false_ne_true), (fun h => absurd h Bool.false_ne_true)⟩
  case hstep =>
    rintro L ac ww i o ho hL hd ⟨t3, t4, t5, t6, t7, t8, t9, rfl, I0, I1, I2, f0, f1, f2, f3, f4, f5, f6, f7⟩
    have hi : i < 8 := (Array.getElem?_eq_some_iff.1 ho).1
    obtain rfl | rfl | rfl | rfl | rfl | rfl | rfl | rfl : i = 0 ∨ i = 1 ∨ i = 2 ∨ i = 3 ∨ i = 4 ∨ i = 5 ∨ i = 6 ∨ i = 7 := by omega
    · obtain rfl := Option.some.inj ho
      have y0 : ww.cell? ⟨w.heap.size, 0, none⟩ = some (.slice A n c) := (I0.cell (p := ⟨w.heap.size, 0, none⟩) (Nat.lt_succ_self _)).trans (q1.cell 0)
      have y1 : ww.cell? ⟨w.heap.size, 1, none⟩ = some (.slice R m d) := (I0.cell (p := ⟨w.heap.size, 1, none⟩) (Nat.lt_succ_self _)).trans (q1.cell 1)
      refine wpOp_step rfl (fun K' hK => ?_)
      go_simp
      refine hK _ _ ?_
      exact ⟨_, _, _, _, _, _, _, rfl, (I0), (I1), (fun h => upd_mono (I2 (upd_ne h (by decide)))), (fun _ => rfl), (kp f1), (kp f2), (kp f3), (kp f4), (kp f5), (kp f6), (kp f7)⟩
    · obtain rfl := Option.some.inj ho
      have y0 : ww.cell? ⟨w.heap.size, 0, none⟩ = some (.slice A n c) := (I0.cell (p := ⟨w.heap.size, 0, none⟩) (Nat.lt_succ_self _)).trans (q1.cell 0)
      have y1 : ww.cell? ⟨w.heap.size, 1, none⟩ = some (.slice R m d) := (I0.cell (p := ⟨w.heap.size, 1, none⟩) (Nat.lt_succ_self _)).trans (q1.cell 1)
      refine wpOp_step rfl (fun K' hK => ?_)
      go_simp
      refine hK _ _ ?_
      exact ⟨_, _, _, _, _, _, _, rfl, (I0), (I1), (fun h => upd_mono (I2 (upd_ne h (by decide)))), (kp f0), (fun _ => rfl), (kp f2), (kp f3), (kp f4), (kp f5), (kp f6), (kp f7)⟩
    · obtain rfl := Option.some.inj ho
      have g1 := f1 (hd ⟨1, .data⟩ (by simp) rfl)
      subst g1
      refine wpOp_step rfl (fun K' hK => ?_)
      go_simp
      have hsw : HS ww ww.heap.size A n R m h := hs.up (b2.trans (I0.mono (Nat.le_succ _)))
      refine (C1.out ww hsw).mono ?_
      rintro e w' ⟨v1, rfl, oo, b5⟩
      obtain ⟨Av, nv, cv, rfl⟩ := oo.slices
      have hsz := I0.size
      obtain ⟨z0, z1, hz1⟩ := I1
      refine hK _ _ ?_
      exact ⟨_, _, _, _, _, _, _, rfl, (I0.trans (b5.mono (Nat.le_trans (by omega) hsz))), (⟨z0, z1, hz1.keep b5 hz1.lt⟩), (fun h => upd_mono (I2 (upd_ne h (by decide)))), (kp f0), (kp f1), (fun _ => ⟨_, _, _, rfl, oo.base hsz⟩), (fun h => by
        obtain ⟨A5, n5, c5, R5, m5, d5, r5, o5⟩ := f3 (upd_ne h (by decide))
        exact ⟨A5, n5, c5, R5, m5, d5, r5, o5.below b5 (Nat.le_refl _)⟩), (kp f4), (kp f5), (fun h => by
        obtain ⟨A5, n5, c5, R5, m5, d5, r5, o5⟩ := f6 (upd_ne h (by decide))
        exact ⟨A5, n5, c5, R5, m5, d5, r5.keep b5 r5.lt, o5.below b5 (Nat.le_refl _)⟩), (kp f7)⟩
    · obtain rfl := Option.some.inj ho
      have g0 := f0 (hd ⟨0, .data⟩ (by simp) rfl)
      have g2 := f2 (hd ⟨2, .data⟩ (by simp) rfl)
      subst g0
      obtain ⟨Av, nv, cv, rfl, o2⟩ := g2
      refine wpOp_step rfl (fun K' hK => ?_)
      go_simp
      have hsw : HS ww ww.heap.size A n R m h := hs.up (b2.trans (I0.mono (Nat.le_succ _)))
      refine (C2.out ww Av nv cv hsw o2.reads).mono ?_
      rintro e w' ⟨v1, v2, rfl, oh, b5⟩
      obtain ⟨A5, n5, c5, R5, m5, d5, rfl, rfl⟩ := oh.slices
      have hsz := I0.size
      obtain ⟨z0, z1, hz1⟩ := I1
      refine hK _ _ ?_
      exact ⟨_, _, _, _, _, _, _, rfl, (I0.trans (b5.mono (Nat.le_trans (by omega) hsz))), (⟨z0, z1, hz1.keep b5 hz1.lt⟩), (fun h => upd_mono (I2 (upd_ne h (by decide)))), (kp f0), (kp f1), (fun h => ⟨Av, nv, cv, rfl, o2.below b5 (Nat.le_refl _)⟩), (fun _ => ⟨_, _, _, _, _, _, rfl, oh.base hsz⟩), (fun h => absurd (I2 (upd_ne h (by decide))) (by rw [hL]; simp)), (kp f5), (fun h => by
        obtain ⟨A5, n5, c5, R5, m5, d5, r5, o5⟩ := f6 (upd_ne h (by decide))
        exact ⟨A5, n5, c5, R5, m5, d5, r5.keep b5 r5.lt, o5.below b5 (Nat.le_refl _)⟩), (kp f7)⟩
    · obtain rfl := Option.some.inj ho
      have g3 := f3 (hd ⟨3, .data⟩ (by simp) rfl)
      obtain ⟨A5, n5, c5, R5, m5, d5, rfl, o3⟩ := g3
      refine wpOp_step rfl (fun K' hK => ?_)
      go_simp
      refine hK _ _ ?_
      exact ⟨_, _, _, _, _, _, _, rfl, (I0), (I1), (fun _ => upd_mono (hd ⟨3, .data⟩ (by simp) rfl)), (kp f0), (kp f1), (kp f2), (fun _ => ⟨_, _, _, _, _, _, rfl, o3⟩), (fun _ => ⟨_, _, _, _, _, _, rfl, rfl⟩), (kp f5), (kp f6), (kp f7)⟩
    · obtain rfl := Option.some.inj ho
      have g3 := f3 (hd ⟨3, .data⟩ (by simp) rfl)
      obtain ⟨A5, n5, c5, R5, m5, d5, rfl, o3⟩ := g3
      refine wpOp_step rfl (fun K' hK => ?_)
      go_simp
      refine hK _ _ ?_
      exact ⟨_, _, _, _, _, _, _, rfl, (I0), (I1), (fun h => upd_mono (I2 (upd_ne h (by decide)))), (kp f0), (kp f1), (kp f2), (fun _ => ⟨_, _, _, _, _, _, rfl, o3⟩), (kp f4), (fun _ => rfl), (kp f6), (kp f7)⟩
    · obtain rfl := Option.some.inj ho
      have g4 := f4 (hd ⟨4, .data⟩ (by simp) rfl)
      have g3 := f3 (hd ⟨3, .chain⟩ (by simp) rfl)
      obtain ⟨A5, n5, c5, R5, m5, d5, rfl, rfl⟩ := g4
      obtain ⟨A6, n6, c6, R6, m6, d6, e6, oo⟩ := g3
      injection e6 with e6
      simp at e6
      obtain ⟨⟨rfl, rfl, rfl⟩, rfl, rfl, rfl⟩ := e6
      obtain ⟨z0, z1, hz1⟩ := I1
      have u0 := hz1.cell 0
      have u1 := hz1.cell 1
      have u2 := hz1.frozen 0
      have u3 := hz1.frozen 1
      simp at u0 u1
      refine wpOp_step rfl (fun K' hK => ?_)
      go_simp
      refine hK _ _ ?_
      exact ⟨_, _, _, _, _, _, _, rfl, ((I0.setCell (p := ⟨w.heap.size + 1, 0, none⟩) (Nat.le_refl _) _).setCell (p := ⟨w.heap.size + 1, 1, none⟩) (Nat.le_refl _) _), (⟨_, _, (hz1.put 0 _).put 1 _⟩), (fun h => upd_mono (I2 (upd_ne h (by decide)))), (kp f0), (kp f1), (fun h => by
        obtain ⟨Av, nv, cv, e, o2⟩ := f2 (upd_ne h (by decide))
        exact ⟨Av, nv, cv, e, o2.put2 (by omega) _ _⟩), (fun h => ⟨_, _, _, _, _, _, rfl, oo.put (by omega) _ _⟩), (kp f4), (kp f5), (fun _ => ⟨_, _, _, _, _, _, (hz1.put 0 _).put 1 _, oo.put (by omega) _ _⟩), (kp f7)⟩
    · obtain rfl := Option.some.inj ho
      have g5 := f5 (hd ⟨5, .data⟩ (by simp) rfl)
      subst g5
      refine wpOp_step rfl (fun K' hK => ?_)
      go_simp
      refine hK _ _ ?_
      exact ⟨_, _, _, _, _, _, _, rfl, (I0), (I1), (fun h => upd_mono (I2 (upd_ne h (by decide)))), (kp f0), (kp f1), (kp f2), (kp f3), (kp f4), (kp f5), (kp f6), (fun _ => rfl)⟩
  case hdone =>
    rintro L ac ww hall ⟨t3, t4, t5, t6, t7, t8, t9, rfl, I0, I1, I2, f0, f1, f2, f3, f4, f5, f6, f7⟩
    have e0 := f0 (hall 0 (by decide))
    have e1 := f1 (hall 1 (by decide))
    have e2 := f2 (hall 2 (by decide))
    have e3 := f3 (hall 3 (by decide))
    have e4 := f4 (hall 4 (by decide))
    have e5 := f5 (hall 5 (by decide))
    have e6 := f6 (hall 6 (by decide))
    have e7 := f7 (hall 7 (by decide))
    clear f0 f1 f2 f3 f4 f5 f6 f7
    obtain ⟨A5, n5, c5, R5, m5, d5, r5, o5⟩ := e6
    have r6 := r5.cell 0
    have r7 := r5.cell 1
    simp at r6 r7
    have bf : Below w.heap.size w ww := b2.trans (I0.mono (Nat.le_succ _))
    have of := o5.base (base' := w.heap.size) (by omega)
    clear e0 e1 e2 e3 e4 e5 I1 I2 C1 C2 q1 q3 hs o5 r5
    go_wp2_with fail
    exact bodyPost_ret (v := .tuple #[.agg #[.slice A5 n5 c5, .slice R5 m5 d5], .int .i64 kk]) (by simp [results, Try.results78, go_sem, *]) rfl ⟨_, _, rfl, of, bf⟩
end Go.Proofs.Ytakdjiojahlnmaa

namespace Go.Proofs.Ytakdjiojahlnmaa
namespace Hps
/-- the heap of the cells on a list, in this order -/
def moveH (h : Hp) (o : List Int) : Hp := ⟨o.map fun n => ⟨true, (cellAt h.cs n).d, (cellAt h.cs n).r.map (nameL o)⟩, h.rt.map (nameL o)⟩
/-- a list of just the cells that can be reached, each once -/
structure Lives (h : Hp) (o : List Int) : Prop where
  nodup : o.Nodup
  mem : ∀ n : Int, n ∈ o ↔ ∃ k : Nat, n = k ∧ Rch h.cs h.rt k
section
variable {h : Hp} {o : List Int}
theorem Lives.cell (L : Lives h o) (hv : validH h = true) {x : Nat} {n : Int} (hx : o[x]? = some n) : ∃ (k : Nat) (c : Cl), n = k ∧ Rch h.cs h.rt k ∧ h.cs[k]? = some c ∧ (moveH h o).cs[x]? = some ⟨true, c.d, c.r.map (nameL o)⟩ := by
  obtain ⟨k, rfl, hk⟩ := (L.mem n).1 (List.mem_of_getElem? hx)
  obtain ⟨c, hc, _⟩ := usedAt_iff.1 (hk.live hv)
  refine ⟨k, c, rfl, hk, hc, ?_⟩
  simp [moveH, hx, cellAt, hc]
theorem Lives.neg (L : Lives h o) : (-1 : Int) ∉ o := fun hm => by
  obtain ⟨k, e, _⟩ := (L.mem _).1 hm
  omega
/-- a reference that is none or leads to a reachable cell -/
theorem Lives.name (L : Lives h o) {n : Int} (hn : n = -1 ∨ ∃ k : Nat, n = k ∧ Rch h.cs h.rt k) : RR (fun k x => o[x]? = some (k : Int)) n (nameL o n) := by
  rcases hn with rfl | ⟨k, rfl, hk⟩
  · exact .inl ⟨rfl, nameL_none L.neg⟩
  · obtain ⟨x, hx⟩ := List.mem_iff_getElem?.1 ((L.mem _).2 ⟨k, rfl, hk⟩)
    exact .inr ⟨k, x, rfl, nameL_at L.nodup hx, hx⟩
theorem ref_live (hv : validH h = true) {k : Nat} {c : Cl} (hk : Rch h.cs h.rt k) (hc : h.cs[k]? = some c) {n : Int} (hn : n ∈ c.r) : n = -1 ∨ ∃ m : Nat, n = m ∧ Rch h.cs h.rt m := by
  have ok := okRefs_iff.1 (valid_refs hv c (List.mem_of_getElem? hc)) n hn
  by_cases h0 : 0 ≤ n
  · obtain ⟨m, rfl, _⟩ := okRef_nat ok h0
    exact .inr ⟨m, rfl, .step hk hc hn⟩
  · rcases okRef_iff.1 ok with e | ⟨e, _⟩
    · exact .inl e
    · omega
theorem root_live (hv : validH h = true) {n : Int} (hn : n ∈ h.rt) : n = -1 ∨ ∃ m : Nat, n = m ∧ Rch h.cs h.rt m := by
  have ok := okRefs_iff.1 (valid_iff.1 hv).2.2.2 n hn
  by_cases h0 : 0 ≤ n
  · obtain ⟨m, rfl, _⟩ := okRef_nat ok h0
    exact .inr ⟨m, rfl, .root hn⟩
  · rcases okRef_iff.1 ok with e | ⟨e, _⟩
    · exact .inl e
    · omega
theorem Lives.names (L : Lives h o) {ns : List Int} (hn : ∀ n ∈ ns, n = -1 ∨ ∃ k : Nat, n = k ∧ Rch h.cs h.rt k) : LR (fun k x => o[x]? = some (k : Int)) ns (ns.map (nameL o)) := by
  refine ⟨by simp, fun i n m h1 h2 => ?_⟩
  rw [List.getElem?_map, h1, Option.map_some, Option.some.injEq] at h2
  rw [← h2]
  exact L.name (hn n (List.mem_of_getElem? h1))
/-- a heap and the heap of its moved cells are related -/
theorem Lives.sim (L : Lives h o) (hv : validH h = true) : Sim h (moveH h o) (fun k x => o[x]? = some (k : Int)) := by
  refine ⟨fun k x y h1 h2 => ?_, fun k m x h1 h2 => ?_, L.names (fun n hn => root_live hv hn), fun {k x} hx => ?_⟩
  · have e1 := nameL_at L.nodup h1
    have e2 := nameL_at L.nodup h2
    omega
  · rw [h1] at h2
    have := Option.some.inj h2
    omega
  · obtain ⟨k', c, e, hk, hc, hm⟩ := L.cell hv hx
    have e : k = k' := by omega
    subst e
    exact ⟨c, _, hc, hm, rfl, L.names (fun n hn => ref_live hv hk hc hn)⟩
theorem Lives.len (L : Lives h o) (hv : validH h = true) : o.length ≤ h.cs.length := by
  refine few_numbers _ o L.nodup fun x hx => ?_
  obtain ⟨k, rfl, hk⟩ := (L.mem x).1 hx
  exact ⟨k, rfl, usedAt_lt (hk.live hv)⟩
theorem Lives.okRef (L : Lives h o) (hv : validH h = true) {n : Int} (hn : n = -1 ∨ ∃ k : Nat, n = k ∧ Rch h.cs h.rt k) : okRef (moveH h o).cs (nameL o n) = true := by
  rcases L.name hn with ⟨_, e⟩ | ⟨k, x, _, e, hx⟩
  · rw [e]
    exact okRef_none _
  · obtain ⟨_, c, _, _, _, hm⟩ := L.cell hv hx
    rw [e, okRef_iff]
    exact .inr ⟨by omega, usedAt_iff.2 ⟨_, by rw [Int.toNat_natCast]; exact hm, rfl⟩⟩
theorem Lives.valid (L : Lives h o) (hv : validH h = true) : validH (moveH h o) = true := by
  obtain ⟨h1, h2, h3, h4⟩ := valid_iff.1 hv
  refine valid_iff.2 ⟨fun c hc => ?_, ?_, ?_, ?_⟩
  · obtain ⟨x, hx⟩ := List.mem_iff_getElem?.1 hc
    have hxl := (List.getElem?_eq_some_iff.1 hx).1
    simp only [moveH, List.length_map] at hxl
    obtain ⟨k, d, e, hk, hd, hm⟩ := L.cell hv (List.getElem?_eq_getElem hxl)
    rw [hm] at hx
    have hx := Option.some.inj hx
    subst hx
    have ok := okCell_iff.1 (valid_cell hv hd)
    refine okCell_iff.2 ⟨.inl rfl, ok.2.1, by simpa using ok.2.2.1, okRefs_iff.2 fun n hn => ?_⟩
    obtain ⟨m, hm1, rfl⟩ := List.mem_map.1 hn
    exact L.okRef hv (ref_live hv hk hd hm1)
  · have := L.len hv
    simp only [moveH, List.length_map]
    omega
  · simpa [moveH] using h3
  · refine okRefs_iff.2 fun n hn => ?_
    obtain ⟨m, hm1, rfl⟩ := List.mem_map.1 hn
    exact L.okRef hv (root_live hv hm1)
/-- moved cells: a program sees the same -/
theorem Lives.view (L : Lives h o) (hv : validH h = true) : viewH (moveH h o) = viewH h := ((L.sim hv).view hv (L.valid hv)).symm
end
end Hps
end Go.Proofs.Ytakdjiojahlnmaa
namespace Go.Proofs.Ytakdjiojahlnmaa
open Go.RowKit
set_option maxRecDepth 100000
namespace Hps
end Hps
/-- the list so far, and marks that lie apart from it -/
structure SO (w wr : World) (ov lv : Value) (bs : List Bool) (l : List Int) : Prop where
  lst : OwnI wr (w.heap.size + 1) lv l
  mks : OwnO wr (w.heap.size + 1) ov bs
  sep : lv.ownBlock = none ∨ lv.ownBlock ≠ ov.ownBlock
  bel : Below w.heap.size w wr
  big : w.heap.size + 1 ≤ wr.heap.size
theorem SO.app {w wr w1 : World} {ov lv v5 : Value} {bs : List Bool} {l xs : List Int} {ob : Obj} (S : SO w wr ov lv bs l) (h : OwnI w1 (w.heap.size + 1) v5 (l ++ xs)) (hg : (wr.alloc ob).grownBy w1 lv.ownBlock) (hs : v5.ownBlock = lv.ownBlock ∨ v5.ownBlock = some (wr.alloc ob).heap.size) : SO w w1 ov v5 bs (l ++ xs) := by
  have hlo : ∀ k, lv.ownBlock = some k → w.heap.size + 1 ≤ k := fun k hk => (World.ownsRow.lt S.lst k hk).1
  have mk2 : OwnO (wr.alloc ob) (w.heap.size + 1) ov bs := World.ownsRow.alloc S.mks ob
  refine ⟨h, World.ownsRow.kept mk2 hg (sep_back S.sep), ?_, (S.bel.alloc S.bel.size ob).grown hg (by simp; have := S.bel.size; omega) (fun k hk => by have := hlo k hk; omega), by have := hg.size; have := S.big; simp at *; omega⟩
  rcases hs with e | e
  · rw [e]; exact S.sep
  · right
    rw [e]
    intro e'
    have := (World.ownsRow.lt S.mks _ e'.symm).2
    simp at this
    omega
end Go.Proofs.Ytakdjiojahlnmaa
namespace Go.Proofs.Ytakdjiojahlnmaa
open Go.RowKit
/-- a part of a slice of numbers -/
theorem IS.part {w : World} {B n i r : Nat} {g o : Nat} {xs : List Int} (h : IS w B (some ⟨g, o, none⟩) n xs) (hi : i + r ≤ n) : IS w B (some ⟨g, o + i, none⟩) r ((xs.drop i).take r) := by
  have hl := h.1
  refine ⟨by rw [List.length_take, List.length_drop]; omega, fun hr => ?_⟩
  obtain ⟨g', o', e, hb, hc⟩ := h.2 (by omega)
  have e := Option.some.inj e
  injection e with e1 e2
  subst e1 e2
  refine ⟨g, o + i, rfl, hb, fun k b hk => ?_⟩
  rw [List.getElem?_take] at hk
  split at hk
  · rw [List.getElem?_drop] at hk
    rw [Nat.add_assoc]
    exact hc _ _ hk
  · cases hk
section
variable {w0 wr w1 : World} {b : Nat} {vc vr v9 : Value} {rvs : List Value} {h : Hp} {x : Int}
end
end Go.Proofs.Ytakdjiojahlnmaa

namespace Go.Proofs.Ytakdjiojahlnmaa
namespace Hps
theorem reachH_at {h : Hp} (hv : validH h = true) {k : Nat} (hk : k < h.cs.length) : (reachH h)[k]? = some true ↔ Rch h.cs h.rt k := by
  rw [reachH, if_pos hv, reachL_true hk]
end Hps
namespace Hps
end Hps
end Go.Proofs.Ytakdjiojahlnmaa

namespace Go.Proofs.Ytakdjiojahlnmaa
/-- a lazy heap: the heap, the marks, the number of the cell at which sweeping goes on -/
structure Lz where
  s : Hp
  ms : List Bool
  i : Int
namespace Hps
theorem same_reach {a b : Hp} (ha : validH a = true) (hb : validH b = true) (hr : b.rt = a.rt) (hc : ∀ k, Rch a.cs a.rt k → b.cs[k]? = a.cs[k]?) : sameV b a = true := by
  have S : Sim a b (fun k y => k = y ∧ Rch a.cs a.rt k) := by
    refine ⟨fun k x y h1 h2 => by omega, fun k m x h1 h2 => by omega, ⟨by rw [hr], fun i n m h1 h2 => ?_⟩, ?_⟩
    · have e : n = m := by
        rw [hr, h1] at h2
        exact Option.some.inj h2
      subst e
      rcases okRef_iff.1 (valid_root ha h1) with e | ⟨e, _⟩
      · exact .inl ⟨e, e⟩
      · exact .inr ⟨n.toNat, n.toNat, by omega, by omega, rfl, .root (by rw [Int.toNat_of_nonneg e]; exact List.mem_of_getElem? h1)⟩
    · rintro k _ ⟨rfl, hk⟩
      obtain ⟨c, hcc, _⟩ := usedAt_iff.1 (hk.live ha)
      refine ⟨c, c, hcc, by rw [hc k hk]; exact hcc, rfl, rfl, fun i n m h1 h2 => ?_⟩
      have e : n = m := by
        rw [h1] at h2
        exact Option.some.inj h2
      subst e
      rcases okRef_iff.1 (valid_ref ha hcc h1) with e | ⟨e, _⟩
      · exact .inl ⟨e, e⟩
      · exact .inr ⟨n.toNat, n.toNat, by omega, by omega, rfl, .step hk hcc (by rw [Int.toNat_of_nonneg e]; exact List.mem_of_getElem? h1)⟩
  rw [sameV_comm]
  exact sameV_iff.2 ⟨ha, hb, S.view ha hb⟩
/-! the first mark that is not set -/
def unIn : List Bool → Nat
  | [] => 0
  | true :: l => unIn l + 1
  | false :: _ => 0
theorem unIn_le : ∀ l : List Bool, unIn l ≤ l.length
  | [] => Nat.le_refl _
  | true :: l => by
    have := unIn_le l
    rw [unIn, List.length_cons]
    omega
  | false :: _ => Nat.zero_le _
theorem unIn_at : ∀ l : List Bool, unIn l < l.length → l[unIn l]? = some false
  | [], h => by simp at h
  | true :: l, h => by
    rw [unIn, List.getElem?_cons_succ]
    refine unIn_at l ?_
    rw [unIn, List.length_cons] at h
    omega
  | false :: _, _ => rfl
theorem unIn_before : ∀ (l : List Bool) (j : Nat), j < unIn l → l[j]? = some true
  | [], j, h => by simp [unIn] at h
  | true :: l, 0, _ => rfl
  | true :: l, j + 1, h => by
    rw [List.getElem?_cons_succ]
    refine unIn_before l j ?_
    rw [unIn] at h
    omega
  | false :: _, j, h => by simp [unIn] at h
/-- the first mark from k on that is not set, or behind the last one -/
def unAt (ms : List Bool) (k : Nat) : Nat := k + unIn (ms.drop k)
theorem unAt_le {ms : List Bool} {k : Nat} (h : k ≤ ms.length) : k ≤ unAt ms k ∧ unAt ms k ≤ ms.length := by
  have := unIn_le (ms.drop k)
  rw [List.length_drop] at this
  unfold unAt
  omega
theorem unAt_at {ms : List Bool} {k : Nat} (h : unAt ms k < ms.length) : ms[unAt ms k]? = some false := by
  unfold unAt at h ⊢
  have := unIn_at (ms.drop k) (by rw [List.length_drop]; omega)
  rwa [List.getElem?_drop] at this
theorem unAt_before {ms : List Bool} {k j : Nat} (hj : k ≤ j) (h : j < unAt ms k) : ms[j]? = some true := by
  have := unIn_before (ms.drop k) (j - k) (by unfold unAt at h; omega)
  rwa [List.getElem?_drop, Nat.add_sub_cancel' hj] at this
theorem unAt_set {ms : List Bool} {k : Nat} (h : ms[k]? = some true) : unAt ms k = unAt ms (k + 1) := by
  have hl := (List.getElem?_eq_some_iff.1 h)
  unfold unAt
  rw [List.drop_eq_getElem_cons hl.1, hl.2, unIn]
  omega
theorem unAt_un {ms : List Bool} {k : Nat} (h : ms[k]? = some false) : unAt ms k = k := by
  have hl := (List.getElem?_eq_some_iff.1 h)
  unfold unAt
  rw [List.drop_eq_getElem_cons hl.1, hl.2, unIn, Nat.add_zero]
theorem unAt_end {ms : List Bool} {k : Nat} (h : ms.length ≤ k) : unAt ms k = k := by
  unfold unAt
  rw [List.drop_of_length_le h, unIn, Nat.add_zero]
/-! validity -/
/-- a mark that must not be so -/
def badAt (l : Lz) (k : Nat) : Prop := ((reachL l.s.cs l.s.rt)[k]? = some true ∧ l.ms[k]? = some false) ∨ (l.ms[k]? = some true ∧ usedAt l.s.cs k = false) ∨ ((k : Int) < l.i ∧ l.ms[k]? = some false ∧ usedAt l.s.cs k = true)
def okLz (l : Lz) : Prop := validH l.s = true ∧ l.ms.length = l.s.cs.length ∧ (0 ≤ l.i ∧ l.i ≤ l.ms.length) ∧ ∀ k : Nat, k < l.ms.length → ¬ badAt l k
theorem okLz.reach {l : Lz} (h : okLz l) {k : Nat} (hr : Rch l.s.cs l.s.rt k) : l.ms[k]? = some true := by
  have hk : k < l.ms.length := by rw [h.2.1]; exact usedAt_lt (hr.live h.1)
  have hm := List.getElem?_eq_getElem hk
  cases e : l.ms[k]
  · exact absurd (.inl ⟨(reachL_true (by rw [← h.2.1]; exact hk)).2 hr, by rw [hm, e]⟩) (h.2.2.2 k hk)
  · rw [hm, e]
theorem okLz.used {l : Lz} (h : okLz l) {k : Nat} (hm : l.ms[k]? = some true) : usedAt l.s.cs k = true := by
  cases e : usedAt l.s.cs k
  · exact absurd (.inr (.inl ⟨hm, e⟩)) (h.2.2.2 k (List.getElem?_eq_some_iff.1 hm).1)
  · rfl
theorem okLz.swept {l : Lz} (h : okLz l) {k : Nat} (hk : (k : Int) < l.i) (hm : l.ms[k]? = some false) : usedAt l.s.cs k = false := by
  cases e : usedAt l.s.cs k
  · rfl
  · exact absurd (.inr (.inr ⟨hk, hm, e⟩)) (h.2.2.2 k (List.getElem?_eq_some_iff.1 hm).1)
theorem okLz.of {l : Lz} (hv : validH l.s = true) (hl : l.ms.length = l.s.cs.length) (hi : 0 ≤ l.i ∧ l.i ≤ l.ms.length) (h1 : ∀ k, Rch l.s.cs l.s.rt k → l.ms[k]? = some true) (h2 : ∀ k : Nat, l.ms[k]? = some true → usedAt l.s.cs k = true) (h3 : ∀ k : Nat, (k : Int) < l.i → l.ms[k]? = some false → usedAt l.s.cs k = false) : okLz l := by
  refine ⟨hv, hl, hi, fun k hk => ?_⟩
  rintro (⟨a, b⟩ | ⟨a, b⟩ | ⟨a, b, c⟩)
  · rw [h1 k ((reachL_true (by rw [← hl]; exact hk)).1 a)] at b
    cases b
  · rw [h2 k a] at b
    cases b
  · rw [h3 k a b] at c
    cases c
def zeroLz : Lz := ⟨zeroH, [], 0⟩
noncomputable def startLz (h : Hp) : Lz := if validH h = true then ⟨h, reachH h, 0⟩ else zeroLz
/-- P66: lazy heaps begin valid -/
theorem start_ok {h : Hp} (hv : validH h = true) : okLz (startLz h) := by
  rw [startLz, if_pos hv]
  refine okLz.of hv (reachH_len hv) ⟨Int.le_refl _, Int.natCast_nonneg _⟩ (fun k hr => (reachH_at hv (usedAt_lt (hr.live hv))).2 hr) (fun k hm => ?_) (fun k hk => absurd hk (by show ¬ (k : Int) < 0; omega))
  have hk : k < h.cs.length := by rw [← reachH_len hv]; exact (List.getElem?_eq_some_iff.1 hm).1
  exact ((reachH_at hv hk).1 hm).live hv
/-- a reference of a cell that is not marked, without what is not marked -/
def cutR (ms : List Bool) (n : Int) : Int := if 0 ≤ n ∧ ms[n.toNat]? = some false then -1 else n
/-- cells of which the first i are cut, and of the next one the first j references -/
def cutIJ (ms : List Bool) (cs : List Cl) (i j : Nat) : List Cl := cs.mapIdx fun k c => if ms[k]? = some false then (if k < i then ⟨c.u, c.d, c.r.map (cutR ms)⟩ else if k = i then ⟨c.u, c.d, (c.r.take j).map (cutR ms) ++ c.r.drop j⟩ else c) else c
def cutL (ms : List Bool) (cs : List Cl) : List Cl := cutIJ ms cs cs.length 0
theorem cut_len (ms : List Bool) (cs : List Cl) (i j : Nat) : (cutIJ ms cs i j).length = cs.length := by simp [cutIJ]
theorem cut_at {ms : List Bool} {cs : List Cl} {i j k : Nat} {c : Cl} (hc : cs[k]? = some c) : (cutIJ ms cs i j)[k]? = some (if ms[k]? = some false then (if k < i then ⟨c.u, c.d, c.r.map (cutR ms)⟩ else if k = i then ⟨c.u, c.d, (c.r.take j).map (cutR ms) ++ c.r.drop j⟩ else c) else c) := by
  rw [cutIJ, List.getElem?_mapIdx, hc]
  rfl
theorem cut_start (ms : List Bool) (cs : List Cl) : cutIJ ms cs 0 0 = cs := by
  apply List.ext_getElem?
  intro k
  rcases Nat.lt_or_ge k cs.length with hk | hk
  · have hc := List.getElem?_eq_getElem hk
    rw [cut_at hc, hc, if_neg (Nat.not_lt_zero k)]
    by_cases e : k = 0
    · rw [if_pos e, List.take_zero, List.map_nil, List.nil_append, List.drop_zero]
      split <;> rfl
    · rw [if_neg e]
      split <;> rfl
  · rw [List.getElem?_eq_none hk, List.getElem?_eq_none (by rw [cut_len]; exact hk)]
/-- a cell is done -/
theorem cut_next {ms : List Bool} {cs : List Cl} {i : Nat} {c : Cl} (hc : cs[i]? = some c) : cutIJ ms cs i c.r.length = cutIJ ms cs (i + 1) 0 := by
  apply List.ext_getElem?
  intro k
  rcases Nat.lt_or_ge k cs.length with hk | hk
  · have hck := List.getElem?_eq_getElem hk
    rw [cut_at hck, cut_at hck]
    by_cases hm : ms[k]? = some false
    · rw [if_pos hm, if_pos hm]
      rcases Nat.lt_trichotomy k i with e | e | e
      · rw [if_pos e, if_pos (by omega)]
      · subst e
        rw [hck] at hc
        obtain rfl := Option.some.inj hc
        rw [if_neg (Nat.lt_irrefl _), if_pos rfl, if_pos (Nat.lt_succ_self _), List.take_length, List.drop_length, List.append_nil]
      · rw [if_neg (by omega), if_neg (by omega)]
        by_cases e2 : k = i + 1
        · rw [if_neg (by omega), if_pos e2, List.take_zero, List.map_nil, List.nil_append, List.drop_zero]
        · rw [if_neg (by omega), if_neg e2]
    · rw [if_neg hm, if_neg hm]
  · rw [List.getElem?_eq_none (by rw [cut_len]; exact hk), List.getElem?_eq_none (by rw [cut_len]; exact hk)]
/-- a cell that is marked needs nothing -/
theorem cut_marked {ms : List Bool} {cs : List Cl} {i : Nat} (hm : ms[i]? ≠ some false) (j j' : Nat) : cutIJ ms cs i j = cutIJ ms cs i j' := by
  apply List.ext_getElem?
  intro k
  rcases Nat.lt_or_ge k cs.length with hk | hk
  · have hck := List.getElem?_eq_getElem hk
    rw [cut_at hck, cut_at hck]
    by_cases hk2 : ms[k]? = some false
    · rw [if_pos hk2, if_pos hk2]
      by_cases e : k = i
      · subst e
        exact absurd hk2 hm
      · rw [if_neg e, if_neg e]
    · rw [if_neg hk2, if_neg hk2]
  · rw [List.getElem?_eq_none (by rw [cut_len]; exact hk), List.getElem?_eq_none (by rw [cut_len]; exact hk)]
/-- a reference is done -/
theorem cut_ref {ms : List Bool} {cs : List Cl} {i j : Nat} {c : Cl} {n : Int} (hc : cs[i]? = some c) (hn : c.r[j]? = some n) (hm : ms[i]? = some false) : ∃ c', (cutIJ ms cs i j)[i]? = some c' ∧ c'.u = c.u ∧ c'.d = c.d ∧ c'.r.length = c.r.length ∧ c'.r[j]? = some n ∧ cutIJ ms cs i (j + 1) = (cutIJ ms cs i j).set i ⟨c'.u, c'.d, c'.r.set j (cutR ms n)⟩ := by
  have hj := (List.getElem?_eq_some_iff.1 hn).1
  have hl : ((c.r.take j).map (cutR ms)).length = j := by rw [List.length_map, List.length_take]; omega
  refine ⟨⟨c.u, c.d, (c.r.take j).map (cutR ms) ++ c.r.drop j⟩, ?_, rfl, rfl, ?_, ?_, ?_⟩
  · rw [cut_at hc, if_pos hm, if_neg (Nat.lt_irrefl _), if_pos rfl]
  · rw [List.length_append, hl, List.length_drop]
    omega
  · rw [List.getElem?_append_right (by rw [hl]; exact Nat.le_refl _), hl, Nat.sub_self, List.getElem?_drop, Nat.add_zero]
    exact hn
  · apply List.ext_getElem?
    intro k
    rw [List.getElem?_set]
    rcases Nat.lt_or_ge k cs.length with hk | hk
    · have hck := List.getElem?_eq_getElem hk
      by_cases e : i = k
      · subst e
        rw [hck] at hc
        obtain rfl := Option.some.inj hc
        rw [if_pos rfl, if_pos (by rw [cut_len]; exact hk), cut_at hck, if_pos hm, if_neg (Nat.lt_irrefl _), if_pos rfl]
        congr 2
        rw [List.take_add_one, hn, Option.toList, List.map_append, List.map_singleton]
        have hd : cs[i].r.drop j = n :: cs[i].r.drop (j + 1) := by rw [List.drop_eq_getElem_cons hj, (List.getElem?_eq_some_iff.1 hn).2]
        rw [List.set_append_right _ _ (by rw [hl]; exact Nat.le_refl _), hl, Nat.sub_self, hd, List.set_cons_zero, List.append_assoc]
        rfl
      · rw [if_neg e, cut_at hck, cut_at hck]
        by_cases hm2 : ms[k]? = some false
        · rw [if_pos hm2, if_pos hm2, if_neg (show ¬ k = i by omega), if_neg (show ¬ k = i by omega)]
        · rw [if_neg hm2, if_neg hm2]
    · rw [List.getElem?_eq_none (by rw [cut_len]; exact hk), if_neg (show ¬ i = k by have := (List.getElem?_eq_some_iff.1 hc).1; omega), List.getElem?_eq_none (by rw [cut_len]; exact hk)]
theorem cut_same {ms : List Bool} {cs : List Cl} {i j : Nat} {c : Cl} {n : Int} (hc : cs[i]? = some c) (hn : c.r[j]? = some n) (he : ms[i]? ≠ some false ∨ cutR ms n = n) : cutIJ ms cs i (j + 1) = cutIJ ms cs i j := by
  rcases he with he | he
  · exact cut_marked he _ _
  · by_cases hm : ms[i]? = some false
    · obtain ⟨c', h1, _, _, _, h5, h6⟩ := cut_ref hc hn hm
      rw [h6, he]
      apply List.ext_getElem?
      intro k
      rw [List.getElem?_set]
      split
      · next e =>
        subst e
        rw [h1]
        have : c'.r.set j n = c'.r := by
          apply List.ext_getElem?
          intro m
          rw [List.getElem?_set]
          split
          · next e2 =>
            subst e2
            rw [h5, if_pos (List.getElem?_eq_some_iff.1 h5).1]
          · rfl
        rw [this, if_pos (List.getElem?_eq_some_iff.1 h1).1]
      · rfl
    · exact cut_marked hm _ _
theorem cutL_at {ms : List Bool} {cs : List Cl} {k : Nat} {c : Cl} (hc : cs[k]? = some c) : (cutL ms cs)[k]? = some (if ms[k]? = some false then ⟨c.u, c.d, c.r.map (cutR ms)⟩ else c) := by
  rw [cutL, cut_at hc, if_pos (List.getElem?_eq_some_iff.1 hc).1]
/-- the cell that is taken -/
def tookCl : Cl := ⟨true, 0, []⟩
/-- the lazy heap after cell k has been taken -/
def tookLz (l : Lz) (k : Nat) : Lz := ⟨⟨(cutL l.ms l.s.cs).set k tookCl, l.s.rt⟩, l.ms.set k true, (k : Int) + 1⟩
open Classical in
noncomputable def takeLz (l : Lz) : Lz × Int := if okLz l then (if unAt l.ms l.i.toNat < l.ms.length then (tookLz l (unAt l.ms l.i.toNat), (unAt l.ms l.i.toNat : Int)) else (⟨l.s, l.ms, (l.ms.length : Int)⟩, -1)) else (zeroLz, -1)
theorem take_no {l : Lz} (h : ¬ okLz l) : takeLz l = (zeroLz, -1) := by rw [takeLz, if_neg h]
theorem take_end {l : Lz} (h : okLz l) (hu : ¬ unAt l.ms l.i.toNat < l.ms.length) : takeLz l = (⟨l.s, l.ms, (l.ms.length : Int)⟩, -1) := by rw [takeLz, if_pos h, if_neg hu]
theorem take_yes {l : Lz} (h : okLz l) (hu : unAt l.ms l.i.toNat < l.ms.length) : takeLz l = (tookLz l (unAt l.ms l.i.toNat), (unAt l.ms l.i.toNat : Int)) := by rw [takeLz, if_pos h, if_pos hu]
section
variable {l : Lz} {k : Nat}
theorem took_cell {j : Nat} (hk : k < l.s.cs.length) : ((cutL l.ms l.s.cs).set k tookCl)[j]? = if j = k then some tookCl else (cutL l.ms l.s.cs)[j]? := by
  rw [List.getElem?_set]
  by_cases e : k = j
  · rw [if_pos e, if_pos e.symm, if_pos (by rw [cutL, cut_len]; omega)]
  · rw [if_neg e, if_neg (fun q => e q.symm)]
theorem cutL_used (ms : List Bool) (cs : List Cl) (j : Nat) : usedAt (cutL ms cs) j = usedAt cs j := by
  unfold usedAt
  cases hc : cs[j]? with
  | none => rw [List.getElem?_eq_none (by rw [cutL, cut_len]; exact List.getElem?_eq_none_iff.1 hc)]
  | some c =>
    rw [cutL_at hc]
    by_cases hm : ms[j]? = some false
    · rw [if_pos hm]
    · rw [if_neg hm]
theorem took_used {j : Nat} (hk : k < l.s.cs.length) : usedAt (tookLz l k).s.cs j = (decide (j = k) || usedAt l.s.cs j) := by
  show usedAt ((cutL l.ms l.s.cs).set k tookCl) j = _
  by_cases e : j = k
  · rw [decide_eq_true e, Bool.true_or]
    exact usedAt_iff.2 ⟨tookCl, by rw [took_cell hk, if_pos e], rfl⟩
  · rw [decide_eq_false e, Bool.false_or, ← cutL_used l.ms l.s.cs j]
    unfold usedAt
    rw [took_cell hk, if_neg e]
theorem cutR_ok {ms : List Bool} {cs cs' : List Cl} (hu : ∀ j, usedAt cs j = true → usedAt cs' j = true) {n : Int} (hn : okRef cs n = true) : okRef cs' (cutR ms n) = true ∧ okRef cs' n = true := by
  have h2 : okRef cs' n = true := by
    rcases okRef_iff.1 hn with e | ⟨e, q⟩
    · exact okRef_iff.2 (.inl e)
    · exact okRef_iff.2 (.inr ⟨e, hu _ q⟩)
  refine ⟨?_, h2⟩
  unfold cutR
  split
  · exact okRef_iff.2 (.inl rfl)
  · exact h2
/-- the heap stays valid -/
theorem took_valid (h : okLz l) (hk : k < l.ms.length) : validH (tookLz l k).s = true := by
  have hkc : k < l.s.cs.length := by rw [← h.2.1]; exact hk
  obtain ⟨v1, v2, v3, v4⟩ := valid_iff.1 h.1
  have hu : ∀ j, usedAt l.s.cs j = true → usedAt (tookLz l k).s.cs j = true := fun j hj => by rw [took_used hkc, hj, Bool.or_true]
  refine valid_iff.2 ⟨fun c hc => ?_, ?_, v3, okRefs_iff.2 fun n hn => (cutR_ok (ms := []) hu (okRefs_iff.1 v4 n hn)).2⟩
  · obtain ⟨j, hj⟩ := List.mem_iff_getElem?.1 hc
    have hj' : ((cutL l.ms l.s.cs).set k tookCl)[j]? = some c := hj
    rw [took_cell hkc] at hj'
    split at hj'
    · obtain rfl := Option.some.inj hj'
      exact okCell_iff.2 ⟨.inl rfl, ⟨Int.le_refl _, by decide⟩, by decide, okRefs_iff.2 fun n hn => by simp [tookCl] at hn⟩
    · have hjl : j < l.s.cs.length := by
        have := (List.getElem?_eq_some_iff.1 hj').1
        rwa [cutL, cut_len] at this
      have hc0 := List.getElem?_eq_getElem hjl
      obtain ⟨w1, w2, w3, w4⟩ := okCell_iff.1 (valid_cell h.1 hc0)
      rw [cutL_at hc0] at hj'
      split at hj'
      · obtain rfl := Option.some.inj hj'
        refine okCell_iff.2 ⟨?_, w2, by rw [List.length_map]; exact w3, okRefs_iff.2 fun n hn => ?_⟩
        · rcases w1 with w1 | ⟨w1, w5⟩
          · exact .inl w1
          · exact .inr ⟨w1, by simp [w5]⟩
        · obtain ⟨m, hm, rfl⟩ := List.mem_map.1 hn
          exact (cutR_ok hu (okRefs_iff.1 w4 m hm)).1
      · obtain rfl := Option.some.inj hj'
        exact okCell_iff.2 ⟨w1, w2, w3, okRefs_iff.2 fun n hn => (cutR_ok (ms := []) hu (okRefs_iff.1 w4 n hn)).2⟩
  · show ((cutL l.ms l.s.cs).set k tookCl).length ≤ 40
    rw [List.length_set, cutL, cut_len]
    exact v2
/-- what can be reached stays as it was -/
theorem took_reach_cell (h : okLz l) (hk : k < l.ms.length) (hm : l.ms[k]? = some false) {j : Nat} (hj : Rch l.s.cs l.s.rt j) : (tookLz l k).s.cs[j]? = l.s.cs[j]? := by
  have hkc : k < l.s.cs.length := by rw [← h.2.1]; exact hk
  have hr := h.reach hj
  show ((cutL l.ms l.s.cs).set k tookCl)[j]? = _
  rw [took_cell hkc, if_neg (fun e => by subst e; rw [hr] at hm; cases hm)]
  have hc0 := List.getElem?_eq_getElem (usedAt_lt (hj.live h.1))
  rw [cutL_at hc0, hc0, if_neg (fun e => by rw [hr] at e; cases e)]
theorem took_rch (h : okLz l) (hk : k < l.ms.length) (hm : l.ms[k]? = some false) {j : Nat} : Rch (tookLz l k).s.cs (tookLz l k).s.rt j ↔ Rch l.s.cs l.s.rt j := by
  constructor
  · intro hj
    refine Rch.inside (S := Rch l.s.cs l.s.rt) (fun i hi => .root hi) (fun i m c hi hc hmc => ?_) hj
    rw [took_reach_cell h hk hm hi] at hc
    exact .step hi hc hmc
  · intro hj
    induction hj with
    | root hi => exact .root hi
    | step hi hc hmc ih => exact .step ih ((took_reach_cell h hk hm hi).trans hc) hmc
/-- P68: a program sees the same -/
theorem took_same (h : okLz l) (hk : k < l.ms.length) (hm : l.ms[k]? = some false) : sameV (tookLz l k).s l.s = true :=
  same_reach h.1 (took_valid h hk) rfl fun _ hj => took_reach_cell h hk hm hj
/-- P68: the lazy heap stays valid -/
theorem took_ok (h : okLz l) (hk : k < l.ms.length) (hm : l.ms[k]? = some false) (hb : ∀ j : Nat, l.i ≤ (j : Int) → j < k → l.ms[j]? = some true) : okLz (tookLz l k) := by
  have hkc : k < l.s.cs.length := by rw [← h.2.1]; exact hk
  have hms : ∀ j, (l.ms.set k true)[j]? = if j = k then some true else l.ms[j]? := fun j => by
    rw [List.getElem?_set]
    by_cases e : k = j
    · rw [if_pos e, if_pos e.symm, if_pos hk]
    · rw [if_neg e, if_neg (fun q => e q.symm)]
  refine okLz.of (took_valid h hk) ?_ ?_ (fun j hj => ?_) (fun j hj => ?_) (fun j hj hj2 => ?_)
  · show (l.ms.set k true).length = ((cutL l.ms l.s.cs).set k tookCl).length
    rw [List.length_set, List.length_set, cutL, cut_len]
    exact h.2.1
  · show (0 : Int) ≤ (k : Int) + 1 ∧ (k : Int) + 1 ≤ ((l.ms.set k true).length : Nat)
    rw [List.length_set]
    omega
  · show (l.ms.set k true)[j]? = some true
    rw [hms]
    split
    · rfl
    · exact h.reach ((took_rch h hk hm).1 hj)
  · have hj' : (l.ms.set k true)[j]? = some true := hj
    rw [hms] at hj'
    rw [took_used hkc]
    split at hj'
    · next e => rw [decide_eq_true e]; rfl
    · rw [h.used hj', Bool.or_true]
  · have hj' : (l.ms.set k true)[j]? = some false := hj2
    have hj3 : (j : Int) < (k : Int) + 1 := hj
    rw [hms] at hj'
    split at hj'
    · cases hj'
    · next e =>
      rw [took_used hkc, decide_eq_false e, Bool.false_or]
      refine h.swept (Classical.byContradiction fun q => ?_) hj'
      rw [hb j (by omega) (by omega)] at hj'
      cases hj'
end
/-- P68 in full -/
theorem take_cases {l : Lz} (h : okLz l) : (takeLz l = (⟨l.s, l.ms, (l.ms.length : Int)⟩, -1) ∧ okLz (takeLz l).1 ∧ ∀ j : Nat, l.i ≤ (j : Int) → j < l.ms.length → l.ms[j]? = some true) ∨ ∃ k : Nat, takeLz l = (tookLz l k, (k : Int)) ∧ l.i ≤ (k : Int) ∧ k < l.ms.length ∧ l.ms[k]? = some false ∧ okLz (tookLz l k) ∧ sameV (tookLz l k).s l.s = true := by
  have hi := h.2.2.1
  have hle := unAt_le (ms := l.ms) (k := l.i.toNat) (by omega)
  have hb : ∀ j : Nat, l.i ≤ (j : Int) → j < unAt l.ms l.i.toNat → l.ms[j]? = some true := fun j h1 h2 => unAt_before (by omega) h2
  by_cases hu : unAt l.ms l.i.toNat < l.ms.length
  · right
    have hm := unAt_at hu
    exact ⟨_, take_yes h hu, by omega, hu, hm, took_ok h hu hm hb, took_same h hu hm⟩
  · left
    refine ⟨take_end h hu, ?_, fun j h1 h2 => hb j h1 (by omega)⟩
    rw [take_end h hu]
    refine okLz.of h.1 h.2.1 ⟨Int.natCast_nonneg _, Int.le_refl _⟩ (fun k hr => h.reach hr) (fun k hm => h.used hm) fun k _ hm => ?_
    have hm' : l.ms[k]? = some false := hm
    refine h.swept (Classical.byContradiction fun q => ?_) hm'
    have hkl := (List.getElem?_eq_some_iff.1 hm').1
    rw [hb k (by omega) (by omega)] at hm'
    cases hm'
/-- P68: the next cell has a greater number -/
theorem take_next {l : Lz} {k : Nat} (_h : okLz (tookLz l k)) : (takeLz (tookLz l k)).2 = -1 ∨ (k : Int) < (takeLz (tookLz l k)).2 := by
  rcases take_cases _h with ⟨e, _⟩ | ⟨m, e, h1, _⟩
  · rw [e]; exact .inl rfl
  · rw [e]
    right
    have : (k : Int) + 1 ≤ (m : Int) := h1
    show (k : Int) < (m : Int)
    omega
/-! all of them -/
theorem count_set {ms : List Bool} {k : Nat} (h : ms[k]? = some false) : (ms.set k true).count true = ms.count true + 1 := by
  have hl := List.getElem?_eq_some_iff.1 h
  rw [List.count_set hl.1, hl.2]
  simp
end Hps
end Go.Proofs.Ytakdjiojahlnmaa

