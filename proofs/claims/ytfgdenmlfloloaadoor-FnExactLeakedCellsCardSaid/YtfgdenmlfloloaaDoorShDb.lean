/- What the claim DELeakedCells stands on, part 2 of 2: texts of one seat put together, with what the claim needs of them. No conditions. -/
import Derived.Test.YtfgdenmlfloloaaDoorShDa
namespace Go.Proofs.YtfgdenmlfloloaaDoor
namespace Hps
/-- the numbers ns are met, in order: those that are none, or are there, are passed over -/
def meet1 (l : List Int) (n : Int) : List Int := if 0 ≤ n ∧ n ∉ l then l ++ [n] else l
def meet (l : List Int) (ns : List Int) : List Int := ns.foldl meet1 l
theorem meet_cons (l : List Int) (n : Int) (ns : List Int) : meet l (n :: ns) = meet (meet1 l n) ns := rfl
theorem meet1_prefix (l : List Int) (n : Int) : l <+: meet1 l n := by
  unfold meet1
  split
  · exact List.prefix_append _ _
  · exact List.prefix_refl _
theorem meet_prefix (ns : List Int) : ∀ l : List Int, l <+: meet l ns := by
  induction ns with
  | nil => intro l; exact List.prefix_refl _
  | cons n ns ih => intro l; rw [meet_cons]; exact (meet1_prefix l n).trans (ih _)
theorem mem_meet1 {l : List Int} {n m : Int} : m ∈ meet1 l n ↔ m ∈ l ∨ (0 ≤ n ∧ m = n) := by
  unfold meet1
  split
  · next h => simp; constructor
              · rintro (h1 | rfl)
                · exact .inl h1
                · exact .inr ⟨h.1, rfl⟩
              · rintro (h1 | ⟨_, h1⟩)
                · exact .inl h1
                · exact .inr h1
  · next h =>
    constructor
    · exact .inl
    · rintro (h1 | ⟨h0, rfl⟩)
      · exact h1
      · by_cases hm : m ∈ l
        · exact hm
        · exact absurd ⟨h0, hm⟩ h
theorem mem_meet {m : Int} (ns : List Int) : ∀ {l : List Int}, m ∈ meet l ns ↔ m ∈ l ∨ (0 ≤ m ∧ m ∈ ns) := by
  induction ns with
  | nil => intro l; simp [meet]
  | cons n ns ih =>
    intro l
    rw [meet_cons, ih, mem_meet1]
    constructor
    · rintro ((h | ⟨h0, rfl⟩) | ⟨h0, h⟩)
      · exact .inl h
      · exact .inr ⟨h0, by simp⟩
      · exact .inr ⟨h0, by simp [h]⟩
    · rintro (h | ⟨h0, h⟩)
      · exact .inl (.inl h)
      · rcases List.mem_cons.1 h with rfl | h
        · exact .inl (.inr ⟨h0, rfl⟩)
        · exact .inr ⟨h0, h⟩
theorem meet1_nodup {l : List Int} (h : l.Nodup) (n : Int) : (meet1 l n).Nodup := by
  unfold meet1
  split
  · next hn =>
    rw [List.nodup_append]
    refine ⟨h, by simp, fun a ha b hb => ?_⟩
    rw [List.mem_singleton] at hb
    rintro rfl
    exact hn.2 (hb ▸ ha)
  · exact h
theorem meet_nodup (ns : List Int) : ∀ {l : List Int}, l.Nodup → (meet l ns).Nodup := by
  induction ns with
  | nil => intro l h; exact h
  | cons n ns ih => intro l h; exact ih (meet1_nodup h n)
/-- the references of the cell with a number -/
def refsAt (cs : List Cl) (n : Int) : List Int := match cs[n.toNat]? with
  | some c => c.r
  | none => []
/-- the list from its place k on is worked off -/
def bfs (cs : List Cl) : Nat → Nat → List Int → List Int
  | 0, _, l => l
  | f + 1, k, l => match l[k]? with
    | none => l
    | some n => bfs cs f (k + 1) (meet l (refsAt cs n))
def orderL (cs : List Cl) (rt : List Int) : List Int := bfs cs (cs.length + 1) 0 (meet [] rt)
def orderH (h : Hp) : List Int := if validH h = true then orderL h.cs h.rt else []
/-- all that is on the list are numbers of cells -/
def InB (cs : List Cl) (l : List Int) : Prop := ∀ n ∈ l, ∃ k : Nat, n = k ∧ k < cs.length
theorem few_numbers : ∀ (n : Nat) (l : List Int), l.Nodup → (∀ x ∈ l, ∃ k : Nat, x = k ∧ k < n) → l.length ≤ n
  | 0, l, _, h => by
    cases l with
    | nil => exact Nat.le_refl _
    | cons x l =>
      obtain ⟨k, _, hk⟩ := h x (by simp)
      omega
  | n + 1, l, hd, h => by
    have h1 := few_numbers n (l.erase (n : Int)) (hd.erase _) (fun x hx => by
      rw [hd.mem_erase_iff] at hx
      obtain ⟨k, e, hk⟩ := h x hx.2
      exact ⟨k, e, by have := hx.1; omega⟩)
    by_cases hm : (n : Int) ∈ l
    · rw [List.length_erase_of_mem hm] at h1
      omega
    · rw [List.erase_of_not_mem hm] at h1
      omega
theorem InB.le {cs : List Cl} {l : List Int} (h : InB cs l) (hd : l.Nodup) : l.length ≤ cs.length := few_numbers _ l hd h
theorem prefix_back {l l' : List Int} (h : l <+: l') {i : Nat} {x : Int} (hi : i < l.length) (hx : l'[i]? = some x) : l[i]? = some x := by
  have := List.prefix_iff_getElem?.1 h i hi
  rw [this] at hx
  rw [List.getElem?_eq_getElem hi]
  exact hx
theorem InB.meet {cs : List Cl} {l ns : List Int} (h : InB cs l) (hn : okRefs cs ns = true) : InB cs (meet l ns) := by
  intro m hm
  rcases (mem_meet ns).1 hm with h1 | ⟨h0, h1⟩
  · exact h m h1
  · obtain ⟨k, e, hk, _⟩ := okRef_nat (okRefs_iff.1 hn m h1) h0
    exact ⟨k, e, hk⟩
theorem refsAt_ok {cs : List Cl} (hc : ∀ c ∈ cs, okRefs cs c.r = true) (n : Int) : okRefs cs (refsAt cs n) = true := by
  unfold refsAt
  cases e : cs[n.toNat]? with
  | none => simp [okRefs]
  | some c => exact hc c (List.mem_of_getElem? e)
/-- what holds while the list is worked off -/
structure Bf (cs : List Cl) (rt : List Int) (k : Nat) (l : List Int) : Prop where
  nodup : l.Nodup
  inb : InB cs l
  rch : ∀ n ∈ l, Rch cs rt n.toNat
  roots : ∀ n ∈ rt, 0 ≤ n → n ∈ l
  done : ∀ (i : Nat) (n : Int), i < k → l[i]? = some n → ∀ m ∈ refsAt cs n, 0 ≤ m → m ∈ l
theorem Bf.start {cs : List Cl} {rt : List Int} (hr : okRefs cs rt = true) : Bf cs rt 0 (meet [] rt) := by
  refine ⟨meet_nodup rt (by simp), InB.meet (fun n hn => by simp at hn) hr, fun n hn => ?_, fun n hn h0 => (mem_meet rt).2 (.inr ⟨h0, hn⟩), fun i n hi => by omega⟩
  rcases (mem_meet rt).1 hn with h1 | ⟨h0, h1⟩
  · simp at h1
  · exact .root (by rwa [Int.toNat_of_nonneg h0])
theorem Bf.next {cs : List Cl} {rt : List Int} {k : Nat} {l : List Int} (h : Bf cs rt k l) (hc : ∀ c ∈ cs, okRefs cs c.r = true) {n : Int} (hn : l[k]? = some n) : Bf cs rt (k + 1) (meet l (refsAt cs n)) := by
  have hp := meet_prefix (refsAt cs n) l
  have hlk := (List.getElem?_eq_some_iff.1 hn).1
  refine ⟨meet_nodup _ h.nodup, h.inb.meet (refsAt_ok hc n), fun m hm => ?_, fun m hm h0 => hp.subset (h.roots m hm h0), fun i m hi hm x hx h0 => ?_⟩
  · rcases (mem_meet _).1 hm with h1 | ⟨h0, h1⟩
    · exact h.rch m h1
    · unfold refsAt at h1
      cases e : cs[n.toNat]? with
      | none => rw [e] at h1; simp at h1
      | some c =>
        rw [e] at h1
        exact .step (h.rch n (List.mem_of_getElem? hn)) e (by rwa [Int.toNat_of_nonneg h0])
  · rcases Nat.lt_or_ge i k with h1 | h1
    · have hm' : l[i]? = some m := prefix_back hp (by omega) hm
      exact hp.subset (h.done i m h1 hm' x hx h0)
    · have hik : i = k := by omega
      subst hik
      have hm' : l[i]? = some m := prefix_back hp hlk hm
      rw [hn] at hm'
      obtain rfl := Option.some.inj hm'
      exact (mem_meet _).2 (.inr ⟨h0, hx⟩)
theorem bfs_fin {cs : List Cl} {rt : List Int} (hc : ∀ c ∈ cs, okRefs cs c.r = true) : ∀ (f k : Nat) (l : List Int), Bf cs rt k l → k ≤ l.length → cs.length + 1 ≤ f + k → ∃ k', Bf cs rt k' (bfs cs f k l) ∧ k' = (bfs cs f k l).length
  | 0, k, l, h, hk, hf => by
    have := h.inb.le h.nodup
    omega
  | f + 1, k, l, h, hk, hf => by
    unfold bfs
    cases e : l[k]? with
    | none =>
      have : l.length ≤ k := by simpa using e
      exact ⟨k, h, by simp; omega⟩
    | some n =>
      have hlk := (List.getElem?_eq_some_iff.1 e).1
      have hp := (meet_prefix (refsAt cs n) l).length_le
      exact bfs_fin hc f (k + 1) _ (h.next hc e) (by omega) (by omega)
theorem orderL_fin {cs : List Cl} {rt : List Int} (hc : ∀ c ∈ cs, okRefs cs c.r = true) (hr : okRefs cs rt = true) : Bf cs rt (orderL cs rt).length (orderL cs rt) := by
  obtain ⟨k, h, e⟩ := bfs_fin hc (cs.length + 1) 0 (meet [] rt) (.start hr) (Nat.zero_le _) (by omega)
  rw [← orderL] at h e
  rw [← e]
  exact h
theorem order_valid {h : Hp} (hv : validH h = true) : orderH h = orderL h.cs h.rt := by rw [orderH, if_pos hv]
theorem orderH_fin {h : Hp} (hv : validH h = true) : Bf h.cs h.rt (orderH h).length (orderH h) := by
  rw [order_valid hv]
  exact orderL_fin (valid_refs hv) (valid_iff.1 hv).2.2.2
theorem order_nodup (h : Hp) : (orderH h).Nodup := by
  cases hv : validH h
  · rw [orderH, if_neg (by rw [hv]; decide)]
    simp
  · exact (orderH_fin hv).nodup
theorem mem_order {h : Hp} (hv : validH h = true) {k : Nat} : (k : Int) ∈ orderH h ↔ Rch h.cs h.rt k := by
  have B := orderH_fin hv
  constructor
  · intro hk
    exact B.rch _ hk
  · intro hr
    refine Rch.inside (S := fun k : Nat => (k : Int) ∈ orderH h) (fun k hk => B.roots _ hk (by omega)) (fun k m c hk hc hm => ?_) hr
    obtain ⟨i, hi⟩ := List.mem_iff_getElem?.1 hk
    exact B.done i _ (List.getElem?_eq_some_iff.1 hi).1 hi m (by unfold refsAt; rw [Int.toNat_natCast, hc]; exact hm) (by omega)
theorem order_nat {h : Hp} {n : Int} (hn : n ∈ orderH h) : ∃ k : Nat, n = k ∧ k < h.cs.length := by
  cases hv : validH h
  · rw [orderH, if_neg (by rw [hv]; decide)] at hn
    simp at hn
  · exact (orderH_fin hv).inb n hn
/-- the place of a number on a list, or -1 -/
def nameL (l : List Int) (n : Int) : Int := if n ∈ l then (l.idxOf n : Int) else -1
theorem nameL_at {l : List Int} {n : Int} {i : Nat} (hd : l.Nodup) (h : l[i]? = some n) : nameL l n = i := by
  obtain ⟨h1, h2⟩ := List.getElem?_eq_some_iff.1 h
  rw [nameL, if_pos (List.mem_of_getElem? h), ← h2, hd.idxOf_getElem i h1]
theorem nameL_none {l : List Int} {n : Int} (h : n ∉ l) : nameL l n = -1 := by rw [nameL, if_neg h]
theorem nameL_neg {l : List Int} {n : Int} (h : nameL l n = -1) : n ∉ l := by
  intro hm
  rw [nameL, if_pos hm] at h
  omega
theorem nameL_get {l : List Int} {n : Int} {i : Nat} (h : nameL l n = i) : l[i]? = some n := by
  by_cases hm : n ∈ l
  · rw [nameL, if_pos hm] at h
    have e : l.idxOf n = i := by omega
    have hlt := List.idxOf_lt_length_of_mem hm
    rw [List.getElem?_eq_some_iff]
    refine ⟨by omega, ?_⟩
    subst e
    exact List.getElem_idxOf hlt
  · rw [nameL_none hm] at h
    omega
/-- what is seen of one cell -/
def cellV (l : List Int) (c : Cl) : List Int := c.d :: (c.r.length : Int) :: c.r.map (nameL l)
def cellAt (cs : List Cl) (n : Int) : Cl := (cs[n.toNat]?).getD ⟨false, 0, []⟩
def viewH (h : Hp) : List Int := if validH h = true then h.rt.map (nameL (orderH h)) ++ ((orderH h).map fun n => cellV (orderH h) (cellAt h.cs n)).flatten else []
theorem view_valid {h : Hp} (hv : validH h = true) : viewH h = h.rt.map (nameL (orderH h)) ++ ((orderH h).map fun n => cellV (orderH h) (cellAt h.cs n)).flatten := by rw [viewH, if_pos hv]
theorem view_not {h : Hp} (hv : validH h = false) : viewH h = [] := by rw [viewH, if_neg (by rw [hv]; decide)]
theorem view_len {h : Hp} (hv : validH h = true) : 4 ≤ (viewH h).length := by
  rw [view_valid hv, List.length_append, List.length_map, (valid_iff.1 hv).2.2.1]
  omega
theorem view_nil {h : Hp} : viewH h = [] ↔ validH h = false := by
  constructor
  · intro e
    cases hv : validH h
    · rfl
    · have := view_len hv
      rw [e] at this
      simp at this
  · exact view_not
def sameV (a b : Hp) : Bool := validH a && decide (viewH a = viewH b)
theorem sameV_iff {a b : Hp} : sameV a b = true ↔ validH a = true ∧ validH b = true ∧ viewH a = viewH b := by
  unfold sameV
  rw [Bool.and_eq_true, decide_eq_true_eq]
  constructor
  · rintro ⟨h1, h2⟩
    refine ⟨h1, ?_, h2⟩
    cases hv : validH b
    · rw [view_not hv, view_nil] at h2
      rw [h1] at h2
      cases h2
    · rfl
  · rintro ⟨h1, _, h2⟩
    exact ⟨h1, h2⟩
theorem sameV_comm (a b : Hp) : sameV a b = sameV b a := by
  rw [Bool.eq_iff_iff, sameV_iff, sameV_iff]
  constructor <;> (rintro ⟨h1, h2, h3⟩; exact ⟨h2, h1, h3.symm⟩)
end Hps
end Go.Proofs.YtfgdenmlfloloaaDoor
namespace Go.Proofs.YtfgdenmlfloloaaDoor
namespace Hps
/-- references that are related: none of both, or related cells -/
def RR (R : Nat → Nat → Prop) (n m : Int) : Prop := (n = -1 ∧ m = -1) ∨ ∃ k x : Nat, n = k ∧ m = x ∧ R k x
theorem RR.mono {R R' : Nat → Nat → Prop} (h : ∀ k x, R k x → R' k x) {n m : Int} (hr : RR R n m) : RR R' n m := by
  rcases hr with h1 | ⟨k, x, e1, e2, h1⟩
  · exact .inl h1
  · exact .inr ⟨k, x, e1, e2, h _ _ h1⟩
/-- lists of related references -/
def LR (R : Nat → Nat → Prop) (la lb : List Int) : Prop := la.length = lb.length ∧ ∀ (i : Nat) (n m : Int), la[i]? = some n → lb[i]? = some m → RR R n m
theorem LR.nil (R : Nat → Nat → Prop) : LR R [] [] := ⟨rfl, fun i n m h => by simp at h⟩
theorem LR.mono {R R' : Nat → Nat → Prop} (h : ∀ k x, R k x → R' k x) {la lb : List Int} (hr : LR R la lb) : LR R' la lb := ⟨hr.1, fun i n m h1 h2 => (hr.2 i n m h1 h2).mono h⟩
theorem LR.set {R : Nat → Nat → Prop} {la lb : List Int} (h : LR R la lb) (i : Nat) {n m : Int} (hr : RR R n m) : LR R (la.set i n) (lb.set i m) := by
  refine ⟨by simp [h.1], fun j x y h1 h2 => ?_⟩
  rw [List.getElem?_set] at h1 h2
  by_cases e : i = j
  · subst e
    rw [if_pos rfl] at h1 h2
    split at h1
    · split at h2
      · rw [← Option.some.inj h1, ← Option.some.inj h2]
        exact hr
      · cases h2
    · cases h1
  · rw [if_neg e] at h1 h2
    exact h.2 j x y h1 h2
theorem LR.cons {R : Nat → Nat → Prop} {n m : Int} {la lb : List Int} (h : LR R (n :: la) (m :: lb)) : RR R n m ∧ LR R la lb := by
  refine ⟨h.2 0 n m rfl rfl, by simpa using h.1, fun i x y h1 h2 => h.2 (i + 1) x y (by simpa using h1) (by simpa using h2)⟩
theorem LR.get {R : Nat → Nat → Prop} {la lb : List Int} (h : LR R la lb) (i : Nat) : RR R ((la[i]?).getD (-1)) ((lb[i]?).getD (-1)) := by
  rcases Nat.lt_or_ge i la.length with h1 | h1
  · have a1 := List.getElem?_eq_getElem h1
    have a2 := List.getElem?_eq_getElem (show i < lb.length by rw [← h.1]; exact h1)
    rw [a1, a2]
    exact h.2 i _ _ a1 a2
  · rw [List.getElem?_eq_none h1, List.getElem?_eq_none (by rw [← h.1]; exact h1)]
    exact .inl ⟨rfl, rfl⟩
/-- cells of two heaps that are related by turns: what a program sees of them is the same -/
structure Sim (a b : Hp) (R : Nat → Nat → Prop) : Prop where
  one : ∀ k x y : Nat, R k x → R k y → x = y
  back : ∀ k m x : Nat, R k x → R m x → k = m
  roots : LR R a.rt b.rt
  cell : ∀ {k x : Nat}, R k x → ∃ c c', a.cs[k]? = some c ∧ b.cs[x]? = some c' ∧ c.d = c'.d ∧ LR R c.r c'.r
section
variable {a b : Hp} {R : Nat → Nat → Prop}
/-- lists of related cells -/
def CR (R : Nat → Nat → Prop) (la lb : List Int) : Prop := la.length = lb.length ∧ ∀ (i : Nat) (n m : Int), la[i]? = some n → lb[i]? = some m → ∃ k x : Nat, n = k ∧ m = x ∧ R k x
theorem CR.mem (one : ∀ k x y : Nat, R k x → R k y → x = y) {la lb : List Int} (h : CR R la lb) {k x : Nat} (hr : R k x) (hm : (k : Int) ∈ la) : (x : Int) ∈ lb := by
  obtain ⟨i, hi⟩ := List.mem_iff_getElem?.1 hm
  have hl := (List.getElem?_eq_some_iff.1 hi).1
  have hb := List.getElem?_eq_getElem (show i < lb.length by rw [← h.1]; exact hl)
  obtain ⟨k', x', e1, e2, hr'⟩ := h.2 i _ _ hi hb
  have e1 : k = k' := by omega
  subst e1
  have := one _ _ _ hr hr'
  subst this
  rw [← e2]
  exact List.getElem_mem _
theorem CR.mem' (back : ∀ k m x : Nat, R k x → R m x → k = m) {la lb : List Int} (h : CR R la lb) {k x : Nat} (hr : R k x) (hm : (x : Int) ∈ lb) : (k : Int) ∈ la := by
  obtain ⟨i, hi⟩ := List.mem_iff_getElem?.1 hm
  have hl := (List.getElem?_eq_some_iff.1 hi).1
  have hb := List.getElem?_eq_getElem (show i < la.length by rw [h.1]; exact hl)
  obtain ⟨k', x', e1, e2, hr'⟩ := h.2 i _ _ hb hi
  have e2 : x = x' := by omega
  subst e2
  have := back _ _ _ hr hr'
  subst this
  rw [← e1]
  exact List.getElem_mem _
theorem CR.snoc {la lb : List Int} (h : CR R la lb) {k x : Nat} (hr : R k x) : CR R (la ++ [(k : Int)]) (lb ++ [(x : Int)]) := by
  refine ⟨by simp [h.1], fun i n m h1 h2 => ?_⟩
  rcases Nat.lt_or_ge i la.length with hi | hi
  · rw [List.getElem?_append_left hi] at h1
    rw [List.getElem?_append_left (by rw [← h.1]; exact hi)] at h2
    exact h.2 i n m h1 h2
  · rw [List.getElem?_append_right hi] at h1
    rw [List.getElem?_append_right (by rw [← h.1]; exact hi), ← h.1] at h2
    have hz : i - la.length = 0 := by
      have := (List.getElem?_eq_some_iff.1 h1).1
      simp at this
      omega
    rw [hz] at h1 h2
    exact ⟨k, x, by simpa using h1.symm, by simpa using h2.symm, hr⟩
theorem Sim.meet1 (S : Sim a b R) {la lb : List Int} (h : CR R la lb) {n m : Int} (hr : RR R n m) : CR R (meet1 la n) (meet1 lb m) := by
  unfold Hps.meet1
  rcases hr with ⟨rfl, rfl⟩ | ⟨k, x, rfl, rfl, hr⟩
  · rw [if_neg (by omega), if_neg (by omega)]
    exact h
  · by_cases hm : (k : Int) ∈ la
    · have hm' := h.mem S.one hr hm
      rw [if_neg (fun q => q.2 hm), if_neg (fun q => q.2 hm')]
      exact h
    · have hm' : (x : Int) ∉ lb := fun q => hm (h.mem' S.back hr q)
      rw [if_pos ⟨by omega, hm⟩, if_pos ⟨by omega, hm'⟩]
      exact h.snoc hr
theorem Sim.meet (S : Sim a b R) : ∀ (ns ms : List Int) {la lb : List Int}, CR R la lb → LR R ns ms → CR R (meet la ns) (meet lb ms)
  | [], [], la, lb, h, _ => h
  | [], _ :: _, _, _, _, h => by have := h.1; simp at this
  | _ :: _, [], _, _, _, h => by have := h.1; simp at this
  | n :: ns, m :: ms, la, lb, h, hl => by
    obtain ⟨h1, h2⟩ := hl.cons
    rw [meet_cons, meet_cons]
    exact S.meet ns ms (S.meet1 h h1) h2
theorem Sim.bfs (S : Sim a b R) : ∀ (f k : Nat) {la lb : List Int}, CR R la lb → CR R (bfs a.cs f k la) (bfs b.cs f k lb)
  | 0, _, _, _, h => h
  | f + 1, k, la, lb, h => by
    unfold Hps.bfs
    rcases Nat.lt_or_ge k la.length with h1 | h1
    · have a1 := List.getElem?_eq_getElem h1
      have a2 := List.getElem?_eq_getElem (show k < lb.length by rw [← h.1]; exact h1)
      obtain ⟨q, x, e1, e2, hr⟩ := h.2 k _ _ a1 a2
      rw [a1, a2]
      simp only
      obtain ⟨c, c', hc, hc', _, hl⟩ := S.cell hr
      have r1 : refsAt a.cs la[k] = c.r := by rw [e1, refsAt, Int.toNat_natCast, hc]
      have r2 : refsAt b.cs (lb[k]'(by rw [← h.1]; exact h1)) = c'.r := by rw [e2, refsAt, Int.toNat_natCast, hc']
      rw [r1, r2]
      exact S.bfs f (k + 1) (S.meet _ _ h hl)
    · rw [List.getElem?_eq_none h1, List.getElem?_eq_none (by rw [← h.1]; exact h1)]
      exact h
end
/-- more fuel than enough changes nothing -/
theorem bfs_more {cs : List Cl} {rt : List Int} (hc : ∀ c ∈ cs, okRefs cs c.r = true) : ∀ (f k : Nat) (l : List Int), Bf cs rt k l → cs.length + 1 ≤ f + k → bfs cs (f + 1) k l = bfs cs f k l
  | 0, k, l, h, hf => by
    have hl := h.inb.le h.nodup
    unfold bfs
    rw [List.getElem?_eq_none (by omega)]
  | f + 1, k, l, h, hf => by
    rw [bfs, bfs]
    cases e : l[k]? with
    | none => rfl
    | some n => exact bfs_more hc f (k + 1) _ (h.next hc e) (by omega)
theorem bfs_enough {cs : List Cl} {rt : List Int} (hc : ∀ c ∈ cs, okRefs cs c.r = true) (hr : okRefs cs rt = true) : ∀ g, bfs cs (cs.length + 1 + g) 0 (meet [] rt) = orderL cs rt
  | 0 => rfl
  | g + 1 => by
    rw [← Nat.add_assoc, bfs_more hc _ 0 _ (.start hr) (by omega)]
    exact bfs_enough hc hr g
theorem order_fuel {h : Hp} (hv : validH h = true) : orderH h = bfs h.cs 41 0 (meet [] h.rt) := by
  have hl := (valid_iff.1 hv).2.1
  rw [order_valid hv, ← bfs_enough (valid_refs hv) (valid_iff.1 hv).2.2.2 (40 - h.cs.length)]
  congr 1
  omega
theorem Sim.order {a b : Hp} {R : Nat → Nat → Prop} (S : Sim a b R) (ha : validH a = true) (hb : validH b = true) : CR R (orderH a) (orderH b) := by
  rw [order_fuel ha, order_fuel hb]
  exact S.bfs 41 0 (S.meet _ _ ⟨rfl, fun i n m h => by simp at h⟩ S.roots)
theorem Sim.name {a b : Hp} {R : Nat → Nat → Prop} (S : Sim a b R) (ha : validH a = true) (hb : validH b = true) {n m : Int} (hr : RR R n m) : nameL (orderH a) n = nameL (orderH b) m := by
  have C := S.order ha hb
  have neg : ∀ h : Hp, (-1 : Int) ∉ orderH h := fun h hm => by
    obtain ⟨k, e, _⟩ := order_nat hm
    omega
  rcases hr with ⟨rfl, rfl⟩ | ⟨k, x, rfl, rfl, hr⟩
  · rw [nameL_none (neg a), nameL_none (neg b)]
  · by_cases hm : (k : Int) ∈ orderH a
    · obtain ⟨i, hi⟩ := List.mem_iff_getElem?.1 hm
      have hl := (List.getElem?_eq_some_iff.1 hi).1
      have hb' := List.getElem?_eq_getElem (show i < (orderH b).length by rw [← C.1]; exact hl)
      obtain ⟨k', x', e1, e2, hr'⟩ := C.2 i _ _ hi hb'
      have e1 : k = k' := by omega
      subst e1
      have := S.one _ _ _ hr hr'
      subst this
      rw [nameL_at (order_nodup a) hi, nameL_at (order_nodup b) (hb'.trans (by rw [e2]))]
    · rw [nameL_none hm, nameL_none (fun q => hm (C.mem' S.back hr q))]
theorem Sim.names {a b : Hp} {R : Nat → Nat → Prop} (S : Sim a b R) (ha : validH a = true) (hb : validH b = true) {ns ms : List Int} (h : LR R ns ms) : ns.map (nameL (orderH a)) = ms.map (nameL (orderH b)) := by
  apply List.ext_getElem?
  intro i
  rw [List.getElem?_map, List.getElem?_map]
  rcases Nat.lt_or_ge i ns.length with h1 | h1
  · have a1 := List.getElem?_eq_getElem h1
    have a2 := List.getElem?_eq_getElem (show i < ms.length by rw [← h.1]; exact h1)
    rw [a1, a2, Option.map_some, Option.map_some, S.name ha hb (h.2 i _ _ a1 a2)]
  · rw [List.getElem?_eq_none h1, List.getElem?_eq_none (by rw [← h.1]; exact h1)]
    rfl
/-- related heaps: a program sees the same -/
theorem Sim.view {a b : Hp} {R : Nat → Nat → Prop} (S : Sim a b R) (ha : validH a = true) (hb : validH b = true) : viewH a = viewH b := by
  rw [view_valid ha, view_valid hb, S.names ha hb S.roots]
  congr 2
  have C := S.order ha hb
  apply List.ext_getElem?
  intro i
  rw [List.getElem?_map, List.getElem?_map]
  rcases Nat.lt_or_ge i (orderH a).length with h1 | h1
  · have a1 := List.getElem?_eq_getElem h1
    have a2 := List.getElem?_eq_getElem (show i < (orderH b).length by rw [← C.1]; exact h1)
    obtain ⟨k, x, e1, e2, hr⟩ := C.2 i _ _ a1 a2
    obtain ⟨c, c', hc, hc', hd, hl⟩ := S.cell hr
    rw [a1, a2, Option.map_some, Option.map_some, e1, e2, cellAt, cellAt, Int.toNat_natCast, Int.toNat_natCast, hc, hc', Option.getD_some, Option.getD_some, cellV, cellV, hd, hl.1, S.names ha hb hl]
  · rw [List.getElem?_eq_none h1, List.getElem?_eq_none (by rw [← C.1]; exact h1)]
    rfl
/-- a part of a view: it tells its length -/
def SegOK (s : List Int) : Prop := ∃ (d : Int) (xs : List Int), s = d :: (xs.length : Int) :: xs
theorem segs_eq : ∀ (ss ts : List (List Int)), (∀ s ∈ ss, SegOK s) → (∀ t ∈ ts, SegOK t) → ss.flatten = ts.flatten → ss = ts
  | [], [], _, _, _ => rfl
  | [], t :: ts, _, h2, h => by
    obtain ⟨d, xs, rfl⟩ := h2 t (by simp)
    simp at h
  | s :: ss, [], h1, _, h => by
    obtain ⟨d, xs, rfl⟩ := h1 s (by simp)
    simp at h
  | s :: ss, t :: ts, h1, h2, h => by
    obtain ⟨d, xs, rfl⟩ := h1 s (by simp)
    obtain ⟨e, ys, rfl⟩ := h2 t (by simp)
    simp only [List.flatten_cons, List.cons_append, List.cons.injEq] at h
    obtain ⟨q1, q2, q3⟩ := h
    have q2 : xs.length = ys.length := by omega
    obtain ⟨q4, q5⟩ := List.append_inj q3 q2
    rw [q1, q4, segs_eq ss ts (fun x hx => h1 x (by simp [hx])) (fun x hx => h2 x (by simp [hx])) q5]
theorem seg_cell (l : List Int) (c : Cl) : SegOK (cellV l c) := ⟨c.d, c.r.map (nameL l), by simp [cellV]⟩
theorem segs_cells (l : List Int) (f : Int → Cl) (o : List Int) : ∀ s ∈ o.map (fun n => cellV l (f n)), SegOK s := by
  intro s hs
  obtain ⟨n, _, rfl⟩ := List.mem_map.1 hs
  exact seg_cell _ _
/-- cells at the same place of the orders -/
def SameAt (a b : Hp) (k x : Nat) : Prop := ∃ i : Nat, (orderH a)[i]? = some (k : Int) ∧ (orderH b)[i]? = some (x : Int)
/-- references with the same name lead to cells at the same place -/
theorem same_name {a b : Hp} {n m : Int} (ho : nameL (orderH a) n = nameL (orderH b) m) (hn : n = -1 ∨ (0 ≤ n ∧ n ∈ orderH a)) (hm : m = -1 ∨ (0 ≤ m ∧ m ∈ orderH b)) : RR (SameAt a b) n m := by
  have neg : ∀ h : Hp, (-1 : Int) ∉ orderH h := fun h hm => by
    obtain ⟨k, e, _⟩ := order_nat hm
    omega
  rcases hn with rfl | ⟨n0, hn⟩
  · rcases hm with rfl | ⟨m0, hm⟩
    · exact .inl ⟨rfl, rfl⟩
    · rw [nameL_none (neg a)] at ho
      exact absurd hm (nameL_neg ho.symm)
  · obtain ⟨i, hi⟩ := List.mem_iff_getElem?.1 hn
    rw [nameL_at (order_nodup a) hi] at ho
    have hj := nameL_get ho.symm
    obtain ⟨k, rfl, _⟩ := order_nat (List.mem_of_getElem? hi)
    obtain ⟨x, rfl, _⟩ := order_nat (List.mem_of_getElem? hj)
    exact .inr ⟨k, x, rfl, rfl, i, hi, hj⟩
theorem ref_met {h : Hp} (hv : validH h = true) {k : Nat} {c : Cl} (hk : (k : Int) ∈ orderH h) (hc : h.cs[k]? = some c) {n : Int} (hn : n ∈ c.r) : n = -1 ∨ (0 ≤ n ∧ n ∈ orderH h) := by
  have ok := okRefs_iff.1 (valid_refs hv c (List.mem_of_getElem? hc)) n hn
  by_cases h0 : 0 ≤ n
  · obtain ⟨m, rfl, _⟩ := okRef_nat ok h0
    exact .inr ⟨h0, (mem_order hv).2 (.step ((mem_order hv).1 hk) hc hn)⟩
  · rcases okRef_iff.1 ok with e | ⟨e, _⟩
    · exact .inl e
    · omega
theorem root_met {h : Hp} (hv : validH h = true) {n : Int} (hn : n ∈ h.rt) : n = -1 ∨ (0 ≤ n ∧ n ∈ orderH h) := by
  have ok := okRefs_iff.1 (valid_iff.1 hv).2.2.2 n hn
  by_cases h0 : 0 ≤ n
  · obtain ⟨m, rfl, _⟩ := okRef_nat ok h0
    exact .inr ⟨h0, (mem_order hv).2 (.root hn)⟩
  · rcases okRef_iff.1 ok with e | ⟨e, _⟩
    · exact .inl e
    · omega
theorem names_same {a b : Hp} {ns ms : List Int} (he : ns.map (nameL (orderH a)) = ms.map (nameL (orderH b))) (hn : ∀ n ∈ ns, n = -1 ∨ (0 ≤ n ∧ n ∈ orderH a)) (hm : ∀ m ∈ ms, m = -1 ∨ (0 ≤ m ∧ m ∈ orderH b)) : LR (SameAt a b) ns ms := by
  have hl : ns.length = ms.length := by simpa using congrArg List.length he
  refine ⟨hl, fun i n m h1 h2 => same_name ?_ (hn n (List.mem_of_getElem? h1)) (hm m (List.mem_of_getElem? h2))⟩
  have := congrArg (fun l => l[i]?) he
  simp only [List.getElem?_map, h1, h2, Option.map_some, Option.some.injEq] at this
  exact this
/-- heaps of which a program sees the same are related -/
theorem sim_of_view {a b : Hp} (ha : validH a = true) (hb : validH b = true) (he : viewH a = viewH b) : Sim a b (SameAt a b) := by
  rw [view_valid ha, view_valid hb] at he
  obtain ⟨e1, e2⟩ := List.append_inj he (by simp [(valid_iff.1 ha).2.2.1, (valid_iff.1 hb).2.2.1])
  have e3 := segs_eq _ _ (segs_cells _ _ _) (segs_cells _ _ _) e2
  refine ⟨?_, ?_, names_same e1 (fun n hn => root_met ha hn) (fun n hn => root_met hb hn), ?_⟩
  · rintro k x y ⟨i, h1, h2⟩ ⟨j, h3, h4⟩
    have e := nameL_at (order_nodup a) h1
    rw [nameL_at (order_nodup a) h3] at e
    have e : j = i := by omega
    subst e
    rw [h2] at h4
    have := Option.some.inj h4
    omega
  · rintro k m x ⟨i, h1, h2⟩ ⟨j, h3, h4⟩
    have e := nameL_at (order_nodup b) h2
    rw [nameL_at (order_nodup b) h4] at e
    have e : j = i := by omega
    subst e
    rw [h1] at h3
    have := Option.some.inj h3
    omega
  · rintro k x ⟨i, h1, h2⟩
    obtain ⟨k', ek, hk⟩ := order_nat (List.mem_of_getElem? h1)
    obtain ⟨x', ex, hx⟩ := order_nat (List.mem_of_getElem? h2)
    have ek : k = k' := by omega
    have ex : x = x' := by omega
    subst ek ex
    have hc := List.getElem?_eq_getElem hk
    have hc' := List.getElem?_eq_getElem hx
    have := congrArg (fun l => l[i]?) e3
    simp only [List.getElem?_map, h1, h2, Option.map_some, Option.some.injEq, cellAt, Int.toNat_natCast, hc, hc', Option.getD_some, cellV, List.cons.injEq] at this
    exact ⟨_, _, hc, hc', this.1, names_same this.2.2 (fun n hn => ref_met ha (List.mem_of_getElem? h1) hc hn) (fun n hn => ref_met hb (List.mem_of_getElem? h2) hc' hn)⟩
theorem Sim.lt {a b : Hp} {R : Nat → Nat → Prop} (S : Sim a b R) {k x : Nat} (h : R k x) : k < a.cs.length ∧ x < b.cs.length := by
  obtain ⟨c, c', h1, h2, _⟩ := S.cell h
  exact ⟨(List.getElem?_eq_some_iff.1 h1).1, (List.getElem?_eq_some_iff.1 h2).1⟩
/-! what an instruction does to related heaps -/
section
variable {a b : Hp} {R : Nat → Nat → Prop}
theorem Sim.setRoot (S : Sim a b R) (i : Nat) {n m : Int} (hr : RR R n m) : Sim ⟨a.cs, a.rt.set i n⟩ ⟨b.cs, b.rt.set i m⟩ R := ⟨S.one, S.back, S.roots.set i hr, S.cell⟩
theorem Sim.setCell (S : Sim a b R) {k x : Nat} (hr : R k x) {c c' : Cl} (hd : c.d = c'.d) (hl : LR R c.r c'.r) : Sim ⟨a.cs.set k c, a.rt⟩ ⟨b.cs.set x c', b.rt⟩ R := by
  refine ⟨S.one, S.back, S.roots, fun {m y} hm => ?_⟩
  obtain ⟨h1, h2⟩ := S.lt hr
  by_cases e : k = m
  · subst e
    have := S.one _ _ _ hr hm
    subst this
    exact ⟨c, c', by simp [h1], by simp [h2], hd, hl⟩
  · have e' : x ≠ y := fun q => e (S.back _ _ _ hr (q ▸ hm))
    obtain ⟨q, q', g1, g2, g3⟩ := S.cell hm
    exact ⟨q, q', by simp [e, g1], by simp [e', g2], g3⟩
theorem Sim.snoc (S : Sim a b R) {c c' : Cl} (hd : c.d = c'.d) (hl : LR (fun _ _ => False) c.r c'.r) (i : Nat) :
    Sim ⟨a.cs ++ [c], a.rt.set i (a.cs.length : Int)⟩ ⟨b.cs ++ [c'], b.rt.set i (b.cs.length : Int)⟩ (fun k x => R k x ∨ (k = a.cs.length ∧ x = b.cs.length)) := by
  refine ⟨?_, ?_, ?_, ?_⟩
  · rintro k x y (h1 | ⟨rfl, rfl⟩) (h2 | ⟨e, e2⟩)
    · exact S.one _ _ _ h1 h2
    · have := (S.lt h1).1; omega
    · have := (S.lt h2).1; omega
    · omega
  · rintro k m x (h1 | ⟨rfl, rfl⟩) (h2 | ⟨e, e2⟩)
    · exact S.back _ _ _ h1 h2
    · have := (S.lt h1).2; omega
    · have := (S.lt h2).2; omega
    · omega
  · exact (S.roots.mono (fun _ _ h => .inl h)).set i (.inr ⟨_, _, rfl, rfl, .inr ⟨rfl, rfl⟩⟩)
  · rintro k x (h1 | ⟨rfl, rfl⟩)
    · obtain ⟨q, q', g1, g2, g3, g4⟩ := S.cell h1
      obtain ⟨l1, l2⟩ := S.lt h1
      exact ⟨q, q', by rw [List.getElem?_append_left l1]; exact g1, by rw [List.getElem?_append_left l2]; exact g2, g3, g4.mono (fun _ _ h => .inl h)⟩
    · exact ⟨c, c', by simp, by simp, hd, hl.mono (fun _ _ h => h.elim)⟩
theorem Sim.rootAt (S : Sim a b R) (i : Int) : RR R (rootAt a i) (rootAt b i) := S.roots.get i.toNat
theorem Sim.place (S : Sim a b R) {n m : Int} (hr : RR R n m) (p : Int) : placeH a.cs n p = placeH b.cs m p := by
  rcases hr with ⟨rfl, rfl⟩ | ⟨k, x, rfl, rfl, hr⟩
  · rfl
  · obtain ⟨c, c', h1, h2, _, hl⟩ := S.cell hr
    simp [placeH, h1, h2, hl.1]
theorem Sim.refAt (S : Sim a b R) {n m : Int} (hr : RR R n m) (hn : 0 ≤ n) (p : Int) : RR R (refAt a.cs n p) (refAt b.cs m p) := by
  rcases hr with ⟨rfl, rfl⟩ | ⟨k, x, rfl, rfl, hr⟩
  · omega
  · obtain ⟨c, c', h1, h2, _, hl⟩ := S.cell hr
    simp only [Hps.refAt, Int.toNat_natCast, h1, h2]
    exact hl.get _
theorem Sim.can (S : Sim a b R) (ha : validH a = true) (hb : validH b = true) (o : Cm) : canH a o = canH b o := by
  unfold canH
  rw [ha, hb, S.place (S.rootAt o.b), S.place (S.rootAt o.a)]
  have : decide (0 ≤ Hps.rootAt a o.a) = decide (0 ≤ Hps.rootAt b o.a) := by
    rw [decide_eq_decide]
    rcases S.rootAt o.a with ⟨e1, e2⟩ | ⟨k, x, e1, e2, _⟩ <;> omega
  rw [this]
theorem Sim.does (S : Sim a b R) {o : Cm} (hc : canH a o = true) : ∃ R', Sim (doH a o a.cs.length) (doH b o b.cs.length) R' := by
  obtain ⟨⟨hv, ho⟩, hc⟩ : (validH a = true ∧ okCm o = true) ∧ _ := by
    unfold canH at hc
    rw [Bool.and_eq_true, Bool.and_eq_true] at hc
    exact hc
  unfold doH
  by_cases h1 : o.op = 1
  · rw [if_pos h1, if_pos h1, putCl, if_pos rfl, putCl, if_pos rfl]
    refine ⟨_, S.snoc (c := newCl o) (c' := newCl o) rfl ⟨rfl, fun i n m h1 h2 => .inl ?_⟩ _⟩
    have e1 := List.mem_of_getElem? h1
    have e2 := List.mem_of_getElem? h2
    simp only [newCl, List.mem_replicate] at e1 e2
    exact ⟨e1.2, e2.2⟩
  rw [if_neg h1, if_neg h1]
  by_cases h2 : o.op = 2
  · rw [if_pos h2, if_pos h2]
    rw [if_pos h2] at hc
    obtain ⟨k, c, e, _⟩ := placeH_iff.1 hc
    exact ⟨R, S.setRoot _ (S.refAt (S.rootAt o.b) (by omega) _)⟩
  rw [if_neg h2, if_neg h2]
  by_cases h3 : o.op = 3
  · rw [if_pos h3, if_pos h3]
    rw [if_neg h2, if_pos h3] at hc
    obtain ⟨k, c, e, hk, _⟩ := placeH_iff.1 hc
    rcases S.rootAt o.a with ⟨e1, e2⟩ | ⟨k', x, e1, e2, hr⟩
    · omega
    · obtain ⟨c1, c2, g1, g2, g3, g4⟩ := S.cell hr
      rw [e1, e2, Int.toNat_natCast, Int.toNat_natCast, setRef, setRef, g1, g2]
      exact ⟨R, S.setCell hr (c := ⟨c1.u, c1.d, _⟩) (c' := ⟨c2.u, c2.d, _⟩) g3 (g4.set _ (S.rootAt o.b))⟩
  rw [if_neg h3, if_neg h3]
  by_cases h4 : o.op = 4
  · rw [if_pos h4, if_pos h4]
    exact ⟨R, S.setRoot _ (S.rootAt o.b)⟩
  rw [if_neg h4, if_neg h4]
  by_cases h5 : o.op = 5
  · rw [if_pos h5, if_pos h5]
    exact ⟨R, S.setRoot _ (.inl ⟨rfl, rfl⟩)⟩
  rw [if_neg h5, if_neg h5]
  by_cases h6 : o.op = 6
  · rw [if_pos h6, if_pos h6]
    rw [if_neg h2, if_neg h3, if_pos h6] at hc
    have hc := of_decide_eq_true hc
    rcases S.rootAt o.a with ⟨e1, e2⟩ | ⟨k', x, e1, e2, hr⟩
    · omega
    · obtain ⟨c1, c2, g1, g2, g3, g4⟩ := S.cell hr
      rw [e1, e2, Int.toNat_natCast, Int.toNat_natCast, setDat, setDat, g1, g2]
      exact ⟨R, S.setCell hr (c := ⟨c1.u, o.b, _⟩) (c' := ⟨c2.u, o.b, _⟩) rfl g4⟩
  rw [if_neg h6, if_neg h6]
  exact ⟨R, S⟩
theorem Sim.step (S : Sim a b R) (ha : validH a = true) (hb : validH b = true) {o : Cm} (ho : okCm o = true) (la : a.cs.length ≠ 40) (lb : b.cs.length ≠ 40) : ∃ R', Sim (stepH a o).1 (stepH b o).1 R' := by
  have hcan := S.can ha hb o
  cases hc : canH a o
  · rw [hc] at hcan
    have e1 : stepH a o = (a, false) := by simp [stepH, ha, ho, hc]
    have e2 : stepH b o = (b, false) := by simp [stepH, hb, ho, ← hcan]
    rw [e1, e2]
    exact ⟨R, S⟩
  · rw [hc] at hcan
    have e1 : stepH a o = (doH a o a.cs.length, true) := by simp [stepH, ha, ho, hc, la]
    have e2 : stepH b o = (doH b o b.cs.length, true) := by simp [stepH, hb, ho, ← hcan, lb]
    rw [e1, e2]
    exact S.does hc
end
/-- equal views go on equally -/
theorem same_step {a b : Hp} {o : Cm} (h : sameV a b = true) (ho : okCm o = true) (la : a.cs.length ≠ 40) (lb : b.cs.length ≠ 40) : sameV (stepH a o).1 (stepH b o).1 = true := by
  obtain ⟨ha, hb, he⟩ := sameV_iff.1 h
  obtain ⟨R, S⟩ := (sim_of_view ha hb he).step ha hb ho la lb
  have va := stepH_valid ha ho
  have vb := stepH_valid hb ho
  exact sameV_iff.2 ⟨va, vb, S.view va vb⟩
end Hps
end Go.Proofs.YtfgdenmlfloloaaDoor
namespace Go.Proofs.YtfgdenmlfloloaaDoor
namespace Hps
end Hps
end Go.Proofs.YtfgdenmlfloloaaDoor
namespace Go.Proofs.YtfgdenmlfloloaaDoor
open Go.RowKit
set_option maxRecDepth 100000
/-- the list of the cells that were met, the marks in a block of their own, the heap's box -/
structure RO (w wr : World) (box : Array Value) (n : Nat) (lv : Value) (cs : List Cl) (outs : List Bool) (l : List Int) : Prop where
  own : OwnO wr w.heap.size (.slice (some ⟨w.heap.size + 2, 0, none⟩) n n) outs
  lst : OwnI wr (w.heap.size + 1) lv l
  ne : lv.ownBlock = none ∨ lv.ownBlock ≠ some (w.heap.size + 2)
  box : Rw wr w.heap.size 26 box
  bel : Below w.heap.size w wr
  len : outs.length = n
  mem : ∀ k : Nat, outs[k]? = some true ↔ (k : Int) ∈ l
  nodup : l.Nodup
  inb : Hps.InB cs l
  cells : cs.length = n
  big : w.heap.size + 3 ≤ wr.heap.size
section
variable {w wr w5 : World} {box : Array Value} {n y : Nat} {lv v5 : Value} {cs : List Cl} {outs : List Bool} {l : List Int}
theorem RO.draws (h : RO w wr box n lv cs outs l) (k : Nat) : RO w (wr.drewN k) box n lv cs outs l :=
  ⟨h.own, h.lst, h.ne, h.box, below_drewN h.bel k, h.len, h.mem, h.nodup, h.inb, h.cells, h.big⟩
theorem RO.le (h : RO w wr box n lv cs outs l) : l.length ≤ n := by
  rw [← h.cells]
  exact h.inb.le h.nodup
theorem RO.pre (h : RO w wr box n lv cs outs l) (y : Nat) : OwnI ((wr.setCell ⟨w.heap.size + 2, y, none⟩ (.bool true)).alloc (.cells #[.int .i64 y] 3)) (w.heap.size + 1) lv l :=
  World.ownsRow.alloc (h.lst.far (only_put (World.grownBy.refl _ _) y (.bool true)) h.ne) _
/-- one more is met -/
theorem RO.mark (h : RO w wr box n lv cs outs l) (hy : outs[y]? = some false) (ho : OwnI w5 (w.heap.size + 1) v5 (l ++ [(y : Int)])) (hg : ((wr.setCell ⟨w.heap.size + 2, y, none⟩ (.bool true)).alloc (.cells #[.int .i64 y] 3)).grownBy w5 lv.ownBlock)
    (hs : v5.ownBlock = lv.ownBlock ∨ v5.ownBlock = some ((wr.setCell ⟨w.heap.size + 2, y, none⟩ (.bool true)).alloc (.cells #[.int .i64 y] 3)).heap.size) : RO w w5 box n v5 cs (outs.set y true) (Hps.meet1 l (y : Int)) := by
  have hlv : ∀ k, lv.ownBlock = some k → w.heap.size + 1 ≤ k := fun k hk => (World.ownsRow.lt h.lst k hk).1
  obtain ⟨hyl, hye⟩ := List.getElem?_eq_some_iff.1 hy
  have hyn : (y : Int) ∉ l := fun hm => by
    have := (h.mem y).2 hm
    rw [hy] at this
    cases this
  have hm1 : Hps.meet1 l (y : Int) = l ++ [(y : Int)] := by rw [Hps.meet1, if_pos ⟨by omega, hyn⟩]
  have o1 := h.own.put' (j := y) h.len true
  have o2 := World.ownsRow.alloc o1 (.cells #[.int .i64 y] 3)
  have o3 : OwnO w5 w.heap.size (.slice (some ⟨w.heap.size + 2, 0, none⟩) n n) (outs.set y true) := World.ownsRow.kept o2 hg (by
    right
    intro e
    rcases h.ne with e' | e'
    · rw [e'] at e; cases e
    · exact e' e.symm)
  have b1 := (h.bel.setCell (p := ⟨w.heap.size + 2, y, none⟩) (by simp) (.bool true)).alloc (by simp; have := h.bel.size; omega) (.cells #[.int .i64 y] 3)
  have hbig := h.big
  refine ⟨o3, by rw [hm1]; exact ho, ?_, ?_, b1.grown hg (by simp; have := h.bel.size; omega) (fun k hk => by have := hlv k hk; omega), by simp [h.len], fun k => ?_, Hps.meet1_nodup h.nodup _, fun x hx => ?_, h.cells, ?_⟩
  · rcases hs with e | e
    · rw [e]; exact h.ne
    · right
      rw [e]
      intro e'
      have := Option.some.inj e'
      simp at this
      omega
  · exact Rw.far ((Rw.other (w := wr) h.box (by omega) _).alloc _) hg (fun e => by have := hlv w.heap.size e.symm; omega)
  · rw [Hps.mem_meet1, ← h.mem, List.getElem?_set]
    by_cases e : y = k
    · subst e
      simp [hyl]
    · rw [if_neg e]
      constructor
      · exact .inl
      · rintro (h1 | ⟨_, h1⟩)
        · exact h1
        · omega
  · rcases Hps.mem_meet1.1 hx with h1 | ⟨_, rfl⟩
    · exact h.inb x h1
    · exact ⟨y, rfl, by rw [h.cells, ← h.len]; exact hyl⟩
  · have := hg.size
    simp at *
    omega
/-- a number that is none, or has been met -/
theorem RO.same (_h : RO w wr box n lv cs outs l) {x : Int} (hx : ¬ 0 ≤ x ∨ x ∈ l) : Hps.meet1 l x = l := by
  rw [Hps.meet1, if_neg]
  rintro ⟨h0, h1⟩
  rcases hx with h2 | h2
  · exact h2 h0
  · exact h1 h2
end
namespace Hps
end Hps
end Go.Proofs.YtfgdenmlfloloaaDoor
namespace Go.Proofs.YtfgdenmlfloloaaDoor
open Go.RowKit
set_option maxRecDepth 100000
/-- the view so far, the order, the heap's box -/
structure VS (w wr : World) (box : Array Value) (ov : Value) (o : List Int) (lv : Value) (l : List Int) : Prop where
  lst : OwnI wr (w.heap.size + 1) lv l
  ord : OwnI wr (w.heap.size + 1) ov o
  sep : lv.ownBlock = none ∨ lv.ownBlock ≠ ov.ownBlock
  box : Rw wr w.heap.size 26 box
  bel : Below w.heap.size w wr
section
variable {w wr w1 : World} {box : Array Value} {ov lv v5 : Value} {o l xs : List Int}
theorem VS.up (S : VS w wr box ov o lv l) (hb : Below wr.heap.size wr w1) : VS w w1 box ov o lv l :=
  ⟨S.lst.below hb (Nat.le_refl _), S.ord.below hb (Nat.le_refl _), S.sep, S.box.keep hb S.box.lt, S.bel.trans (hb.mono S.bel.size)⟩
theorem VS.app (S : VS w wr box ov o lv l) (h : OwnI w1 (w.heap.size + 1) v5 (l ++ xs)) (hg : wr.grownBy w1 lv.ownBlock) (hs : v5.ownBlock = lv.ownBlock ∨ v5.ownBlock = some wr.heap.size) : VS w w1 box ov o v5 (l ++ xs) := by
  have hlo : ∀ k, lv.ownBlock = some k → w.heap.size + 1 ≤ k := fun k hk => (World.ownsRow.lt S.lst k hk).1
  refine ⟨h, S.ord.far hg (sep_back S.sep), ?_, Rw.far S.box hg (fun e => by have := hlo _ e.symm; omega), S.bel.grown hg S.bel.size (fun k hk => by have := hlo k hk; omega)⟩
  rcases hs with e | e
  · rw [e]; exact S.sep
  · right
    rw [e]
    intro e'
    have := (World.ownsRow.lt S.ord _ e'.symm).2
    omega
end
namespace Hps
end Hps
namespace Hps
end Hps
end Go.Proofs.YtfgdenmlfloloaaDoor

namespace Go.Proofs.YtfgdenmlfloloaaDoor
namespace Hps
/-- nothing is left of a cell -/
def freeCl : Cl := ⟨false, 0, []⟩
def freeK (h : Hp) (k : Nat) : Hp := ⟨h.cs.set k freeCl, h.rt⟩
/-- used cells to each of which a root or one of them leads -/
def Sup (h : Hp) (K : Nat → Prop) : Prop := ∀ k, K k → usedAt h.cs k = true ∧ ((k : Int) ∈ h.rt ∨ ∃ (m : Nat) (c : Cl), K m ∧ h.cs[m]? = some c ∧ (k : Int) ∈ c.r)
/-- a cell that is never freed -/
def Kept (h : Hp) (k : Nat) : Prop := ∃ K : Nat → Prop, Sup h K ∧ K k
open Classical in
/-- what is left when everything is freed to which nothing leads -/
noncomputable def freeH (h : Hp) : Hp := ⟨(List.range h.cs.length).map fun k => if Kept h k then (h.cs[k]?).getD freeCl else freeCl, h.rt⟩
theorem mem_refsOf {h : Hp} {n : Int} : n ∈ refsOf h ↔ n ∈ h.rt ∨ ∃ (m : Nat) (c : Cl), h.cs[m]? = some c ∧ n ∈ c.r := by
  unfold refsOf
  rw [List.mem_append, List.mem_flatten]
  constructor
  · rintro (h1 | ⟨l, hl, hn⟩)
    · exact .inl h1
    · obtain ⟨c, hc, rfl⟩ := List.mem_map.1 hl
      obtain ⟨m, hm⟩ := List.mem_iff_getElem?.1 hc
      exact .inr ⟨m, c, hm, hn⟩
  · rintro (h1 | ⟨m, c, hm, hn⟩)
    · exact .inl h1
    · exact .inr ⟨c.r, List.mem_map.2 ⟨c, List.mem_of_getElem? hm, rfl⟩, hn⟩
theorem Kept.used {h : Hp} {k : Nat} (hk : Kept h k) : usedAt h.cs k = true := by
  obtain ⟨K, hs, hk⟩ := hk
  exact (hs k hk).1
theorem freeH_len (h : Hp) : (freeH h).cs.length = h.cs.length := by simp [freeH]
theorem freeH_cell {h : Hp} {k : Nat} (hk : Kept h k) : (freeH h).cs[k]? = h.cs[k]? := by
  obtain ⟨c, hc, _⟩ := usedAt_iff.1 hk.used
  have hl := (List.getElem?_eq_some_iff.1 hc).1
  simp [freeH, hl, hk]
theorem freeH_gone {h : Hp} {k : Nat} (hk : ¬ Kept h k) (hl : k < h.cs.length) : (freeH h).cs[k]? = some freeCl := by simp [freeH, hl, hk]
/-- while cells are freed: x is what h has become -/
structure Frees (h x : Hp) : Prop where
  rt : x.rt = h.rt
  len : x.cs.length = h.cs.length
  cell : ∀ k, x.cs[k]? = h.cs[k]? ∨ (x.cs[k]? = some freeCl ∧ ¬ Kept h k)
theorem Frees.refl (h : Hp) : Frees h h := ⟨rfl, rfl, fun _ => .inl rfl⟩
theorem Frees.kept {h x : Hp} (F : Frees h x) {k : Nat} (hk : Kept h k) : x.cs[k]? = h.cs[k]? := by
  rcases F.cell k with e | ⟨_, e⟩
  · exact e
  · exact absurd hk e
theorem Frees.free {h x : Hp} (F : Frees h x) {k : Nat} (hlt : k < x.cs.length) (hn : (k : Int) ∉ refsOf x) : Frees h (freeK x k) := by
  refine ⟨F.rt, by simp [freeK, F.len], fun j => ?_⟩
  by_cases e : k = j
  · subst e
    refine .inr ⟨by simp [freeK, hlt], fun hk => ?_⟩
    obtain ⟨K, hs, hkk⟩ := hk
    obtain ⟨_, h1 | ⟨m, c, hm, hc, hr⟩⟩ := hs k hkk
    · exact hn (mem_refsOf.2 (.inl (by rw [F.rt]; exact h1)))
    · exact hn (mem_refsOf.2 (.inr ⟨m, c, by rw [F.kept ⟨K, hs, hm⟩]; exact hc, hr⟩))
  · rw [freeK, List.getElem?_set_ne e]
    exact F.cell j
theorem valid_unused {h : Hp} (hv : validH h = true) {k : Nat} {c : Cl} (hc : h.cs[k]? = some c) (hu : c.u = false) : c = freeCl := by
  have := okCell_iff.1 (valid_cell hv hc)
  obtain ⟨u, d, r⟩ := c
  simp only at hu this
  subst hu
  rcases this.1 with e | ⟨e1, e2⟩
  · cases e
  · rw [freeCl, e1, e2]
theorem Frees.used {h x : Hp} (F : Frees h x) (hv : validH h = true) {k : Nat} {c : Cl} (hc : x.cs[k]? = some c) (hr : c.r ≠ []) : h.cs[k]? = some c ∧ c.u = true := by
  rcases F.cell k with e | ⟨e, _⟩
  · rw [e] at hc
    refine ⟨hc, ?_⟩
    cases hu : c.u
    · rw [valid_unused hv hc hu] at hr
      exact absurd rfl hr
    · rfl
  · rw [hc] at e
    rw [Option.some.inj e] at hr
    exact absurd rfl hr
/-- when nothing is left that could be freed, it is what is kept -/
theorem Frees.fin {h x : Hp} (F : Frees h x) (hv : validH h = true) (hd : ∀ k, usedAt x.cs k = true → (k : Int) ∈ refsOf x) : x = freeH h := by
  have hs : Sup h (fun k => usedAt x.cs k = true) := fun k hk => by
    obtain ⟨c, hc, hu⟩ := usedAt_iff.1 hk
    refine ⟨?_, ?_⟩
    · rcases F.cell k with e | ⟨e, _⟩
      · exact usedAt_iff.2 ⟨c, by rw [← e]; exact hc, hu⟩
      · rw [hc] at e
        rw [Option.some.inj e] at hu
        cases hu
    · rcases mem_refsOf.1 (hd k hk) with h1 | ⟨m, c', hm, hn⟩
      · exact .inl (by rw [← F.rt]; exact h1)
      · obtain ⟨h1, h2⟩ := F.used hv hm (List.ne_nil_of_mem hn)
        exact .inr ⟨m, c', usedAt_iff.2 ⟨c', hm, h2⟩, h1, hn⟩
  have hcs : x.cs = (freeH h).cs := by
    apply List.ext_getElem?
    intro k
    rcases Nat.lt_or_ge k h.cs.length with hk | hk
    · obtain ⟨c, hc⟩ : ∃ c, h.cs[k]? = some c := ⟨_, List.getElem?_eq_getElem hk⟩
      by_cases q : Kept h k
      · rw [freeH_cell q, F.kept q]
      · rw [freeH_gone q hk]
        rcases F.cell k with e | ⟨e, _⟩
        · rw [e, hc]
          congr 1
          refine valid_unused hv hc ?_
          cases hu : c.u
          · rfl
          · exact absurd ⟨_, hs, usedAt_iff.2 ⟨c, by rw [e]; exact hc, hu⟩⟩ q
        · exact e
    · rw [List.getElem?_eq_none (by rw [F.len]; exact hk), List.getElem?_eq_none (by simp [freeH]; exact hk)]
  obtain ⟨xc, xr⟩ := x
  have := F.rt
  simp only at this hcs
  rw [this, hcs]
  rfl
theorem freeK_valid {x : Hp} (hv : validH x = true) {k : Nat} (hn : (k : Int) ∉ refsOf x) : validH (freeK x k) = true := by
  obtain ⟨v1, v2, v3, v4⟩ := valid_iff.1 hv
  have hu : ∀ n : Int, okRef x.cs n = true → n ≠ (k : Int) → okRef (x.cs.set k freeCl) n = true := fun n ho hne => by
    rcases okRef_iff.1 ho with e | ⟨e, hu⟩
    · exact okRef_iff.2 (.inl e)
    · refine okRef_iff.2 (.inr ⟨e, ?_⟩)
      obtain ⟨c, hc, hcu⟩ := usedAt_iff.1 hu
      exact usedAt_iff.2 ⟨c, by rw [List.getElem?_set_ne (by omega)]; exact hc, hcu⟩
  refine valid_iff.2 ⟨fun c hc => ?_, by simpa [freeK] using v2, v3, okRefs_iff.2 fun n h1 => hu n (okRefs_iff.1 v4 n h1) fun e => hn (mem_refsOf.2 (.inl (e ▸ h1)))⟩
  rcases List.mem_or_eq_of_mem_set hc with h1 | rfl
  · obtain ⟨m, hm⟩ := List.mem_iff_getElem?.1 h1
    obtain ⟨w1, w2, w3, w4⟩ := okCell_iff.1 (v1 c h1)
    exact okCell_iff.2 ⟨w1, w2, w3, okRefs_iff.2 fun n h2 => hu n (okRefs_iff.1 w4 n h2) fun e => hn (mem_refsOf.2 (.inr ⟨m, c, hm, e ▸ h2⟩))⟩
  · exact okCell_iff.2 ⟨.inr ⟨rfl, rfl⟩, by decide, by decide, rfl⟩
/-- a used cell to which nothing leads, the last one below n; -1 if there is none -/
def idleTo (h : Hp) : Nat → Int
  | 0 => -1
  | n + 1 => if usedAt h.cs n = true ∧ (n : Int) ∉ refsOf h then (n : Int) else idleTo h n
theorem idleTo_cases (h : Hp) : ∀ n, (idleTo h n = -1 ∧ ∀ k, k < n → usedAt h.cs k = true → (k : Int) ∈ refsOf h) ∨ ∃ k : Nat, idleTo h n = k ∧ k < n ∧ usedAt h.cs k = true ∧ (k : Int) ∉ refsOf h
  | 0 => .inl ⟨rfl, fun k hk => by omega⟩
  | n + 1 => by
    rw [idleTo]
    by_cases e : usedAt h.cs n = true ∧ (n : Int) ∉ refsOf h
    · rw [if_pos e]
      exact .inr ⟨n, rfl, by omega, e⟩
    · rw [if_neg e]
      rcases idleTo_cases h n with ⟨h1, h2⟩ | ⟨k, h1, h2, h3⟩
      · refine .inl ⟨h1, fun k hk hu => ?_⟩
        rcases Nat.lt_or_ge k n with h3 | h3
        · exact h2 k h3 hu
        · obtain rfl : k = n := by omega
          exact Classical.byContradiction fun q => e ⟨hu, q⟩
      · exact .inr ⟨k, h1, by omega, h3⟩
def usedN (h : Hp) : Nat := usedTo h.cs h.cs.length
theorem usedN_eq (h : Hp) : usedN h = h.cs.countP (·.u) := by simp [usedN, usedTo]
theorem usedN_free {x : Hp} {k : Nat} (hu : usedAt x.cs k = true) : usedN (freeK x k) + 1 = usedN x := by
  rw [usedN_eq, usedN_eq, freeK]
  obtain ⟨c, hc, hcu⟩ := usedAt_iff.1 hu
  have key : ∀ (cs : List Cl) (k : Nat), cs[k]? = some c → (cs.set k freeCl).countP (·.u) + 1 = cs.countP (·.u) := by
    intro cs
    induction cs with
    | nil => intro k h; simp at h
    | cons a l ih =>
      intro k h
      cases k with
      | zero =>
        simp only [List.getElem?_cons_zero, Option.some.injEq] at h
        subst h
        simp [hcu, freeCl]
      | succ k =>
        have := ih k (by simpa using h)
        rw [List.set_cons_succ, List.countP_cons, List.countP_cons]
        omega
  exact key x.cs k hc
def freeF : Nat → Hp → Hp
  | 0, x => x
  | f + 1, x => if idleTo x x.cs.length < 0 then x else freeF f (freeK x (idleTo x x.cs.length).toNat)
theorem freeF_frees {h : Hp} (hv : validH h = true) : ∀ (f : Nat) (x : Hp), Frees h x → validH x = true → usedN x < f → freeF f x = freeH h ∧ validH (freeH h) = true
  | 0, x, _, _, hu => by omega
  | f + 1, x, F, vx, hu => by
    rw [freeF]
    rcases idleTo_cases x x.cs.length with ⟨h1, h2⟩ | ⟨k, h1, h2, h3, h4⟩
    · rw [if_pos (by omega)]
      have := F.fin hv fun k hk => h2 k (usedAt_lt hk) hk
      exact ⟨this, this ▸ vx⟩
    · rw [if_neg (by omega), h1, Int.toNat_natCast]
      exact freeF_frees hv f _ (F.free h2 h4) (freeK_valid vx h4) (by have := usedN_free h3; omega)
theorem usedN_lt (h : Hp) : usedN h < h.cs.length + 1 := by have := usedTo_le h.cs h.cs.length; unfold usedN; omega
theorem freeH_valid {h : Hp} (hv : validH h = true) : validH (freeH h) = true := (freeF_frees hv _ h (Frees.refl h) hv (usedN_lt h)).2
/-- what is left is led to -/
theorem freeH_led {h : Hp} {k : Nat} (hu : usedAt (freeH h).cs k = true) : (k : Int) ∈ refsOf (freeH h) := by
  have hl := usedAt_lt hu
  rw [freeH_len] at hl
  have hk : Kept h k := by
    refine Classical.byContradiction fun q => ?_
    obtain ⟨c, hc, hcu⟩ := usedAt_iff.1 hu
    rw [freeH_gone q hl] at hc
    rw [← Option.some.inj hc] at hcu
    cases hcu
  obtain ⟨K, hs, hkk⟩ := hk
  obtain ⟨_, h1 | ⟨m, c, hm, hc, hr⟩⟩ := hs k hkk
  · exact mem_refsOf.2 (.inl h1)
  · exact mem_refsOf.2 (.inr ⟨m, c, by rw [freeH_cell ⟨K, hs, hm⟩]; exact hc, hr⟩)
theorem reached_kept {h : Hp} (hv : validH h = true) {k : Nat} (hr : Rch h.cs h.rt k) : Kept h k := by
  refine ⟨fun k => Rch h.cs h.rt k, fun k hk => ⟨hk.live hv, ?_⟩, hr⟩
  cases hk with
  | root h1 => exact .inl h1
  | step h1 h2 h3 => exact .inr ⟨_, _, h1, h2, h3⟩
/-- a program sees the same -/
theorem freeH_sim {h : Hp} (hv : validH h = true) : Sim h (freeH h) (fun k x => k = x ∧ Rch h.cs h.rt k) := by
  refine ⟨fun k x y h1 h2 => by omega, fun k m x h1 h2 => by omega, ⟨rfl, fun i n m h1 h2 => ?_⟩, ?_⟩
  · have e : n = m := by
      rw [show (freeH h).rt = h.rt from rfl, h1] at h2
      exact Option.some.inj h2
    subst e
    rcases okRef_iff.1 (valid_root hv h1) with e | ⟨e, _⟩
    · exact .inl ⟨e, e⟩
    · exact .inr ⟨n.toNat, n.toNat, by omega, by omega, rfl, .root (by rw [Int.toNat_of_nonneg e]; exact List.mem_of_getElem? h1)⟩
  · rintro k x ⟨rfl, hr⟩
    obtain ⟨c, hc, _⟩ := usedAt_iff.1 (hr.live hv)
    refine ⟨c, c, hc, by rw [freeH_cell (reached_kept hv hr)]; exact hc, rfl, rfl, fun i n m h1 h2 => ?_⟩
    have e : n = m := by
      rw [h1] at h2
      exact Option.some.inj h2
    subst e
    rcases okRef_iff.1 (valid_ref hv hc h1) with e | ⟨e, _⟩
    · exact .inl ⟨e, e⟩
    · exact .inr ⟨n.toNat, n.toNat, by omega, by omega, rfl, .step hr hc (by rw [Int.toNat_of_nonneg e]; exact List.mem_of_getElem? h1)⟩
theorem freeH_same {h : Hp} (hv : validH h = true) : sameV (freeH h) h = true := by
  rw [sameV_comm]
  exact sameV_iff.2 ⟨hv, freeH_valid hv, (freeH_sim hv).view hv (freeH_valid hv)⟩
/-- the first cell that is not used, or the place behind the last one -/
def gapTo (cs : List Cl) (n : Nat) : Nat := ((List.range n).find? fun k => !usedAt cs k).getD n
def gapH (h : Hp) : Nat := gapTo h.cs h.cs.length
theorem gapH_cases (h : Hp) : (gapH h = h.cs.length ∧ ∀ k, k < h.cs.length → usedAt h.cs k = true) ∨ (gapH h < h.cs.length ∧ usedAt h.cs (gapH h) = false ∧ ∀ k, k < gapH h → usedAt h.cs k = true) := by
  unfold gapH gapTo
  cases e : (List.range h.cs.length).find? fun k => !usedAt h.cs k with
  | none =>
    refine .inl ⟨rfl, fun k hk => ?_⟩
    have := List.find?_eq_none.1 e k (List.mem_range.2 hk)
    simpa using this
  | some k =>
    refine .inr ⟨?_, ?_, ?_⟩
    · exact List.mem_range.1 (List.mem_of_find?_eq_some e)
    · simpa using List.find?_some e
    · intro j hj
      simp only [Option.getD_some] at hj
      obtain ⟨_, l1, l2, e1, e2⟩ := List.find?_eq_some_iff_append.1 e
      have hk := List.mem_range.1 (List.mem_of_find?_eq_some e)
      have hm : j ∈ l1 := by
        have hj1 : j ∈ List.range h.cs.length := List.mem_range.2 (by omega)
        rw [e1, List.mem_append, List.mem_cons] at hj1
        rcases hj1 with h1 | h1 | h1
        · exact h1
        · omega
        · have hs : (l1 ++ k :: l2).Pairwise (· < ·) := by rw [← e1]; exact List.pairwise_lt_range
          rw [List.pairwise_append, List.pairwise_cons] at hs
          have := hs.2.1.1 j h1
          omega
      simpa using e2 j hm
theorem gapH_le (h : Hp) : gapH h ≤ h.cs.length := by rcases gapH_cases h with ⟨e, _⟩ | ⟨e, _⟩ <;> omega
/-- counts are those of RefCounts -/
def okCt (h : Hp) (l : List Int) : Bool := validH h && decide (l = countsL h)
theorem okCt_iff {h : Hp} {l : List Int} : okCt h l = true ↔ validH h = true ∧ l = countsL h := by simp [okCt]
/-- a step with counts -/
noncomputable def stepCt (h : Hp) (l : List Int) (o : Cm) : (Hp × List Int) × Bool :=
  if okCt h l && okCm o then
    (if !canH h o || (decide (o.op = 1) && decide (gapH h = 40)) then ((h, l), false) else ((freeH (doH h o (gapH h)), countsL (freeH (doH h o (gapH h)))), true))
  else ((zeroH, []), false)
theorem stepCt_no {h : Hp} {l : List Int} {o : Cm} (e : okCt h l = false ∨ okCm o = false) : stepCt h l o = ((zeroH, []), false) := by
  rw [stepCt, if_neg]
  rw [Bool.and_eq_true]
  rintro ⟨h1, h2⟩
  rcases e with e | e
  · rw [e] at h1; cases h1
  · rw [e] at h2; cases h2
theorem stepCt_cannot {h : Hp} {l : List Int} {o : Cm} (h1 : okCt h l = true) (h2 : okCm o = true) (h3 : canH h o = false ∨ (o.op = 1 ∧ gapH h = 40)) : stepCt h l o = ((h, l), false) := by
  rw [stepCt, if_pos (by rw [h1, h2]; rfl), if_pos]
  rcases h3 with e | ⟨e1, e2⟩
  · simp [e]
  · simp [e1, e2]
theorem stepCt_does {h : Hp} {l : List Int} {o : Cm} (h1 : okCt h l = true) (h2 : okCm o = true) (h3 : canH h o = true) (h4 : ¬ (o.op = 1 ∧ gapH h = 40)) : stepCt h l o = ((freeH (doH h o (gapH h)), countsL (freeH (doH h o (gapH h)))), true) := by
  rw [stepCt, if_pos (by rw [h1, h2]; rfl), if_neg]
  simp only [h3, Bool.not_true, Bool.false_or, Bool.and_eq_true, decide_eq_true_eq]
  exact h4
theorem gap_room {h : Hp} (hv : validH h = true) {o : Cm} (h4 : ¬ (o.op = 1 ∧ gapH h = 40)) : o.op = 1 → gapH h ≤ h.cs.length ∧ gapH h < 40 := fun h1 => by
  have := gapH_le h
  have := (valid_iff.1 hv).2.1
  exact ⟨gapH_le h, by omega⟩
theorem stepCt_ok {h : Hp} {l : List Int} {o : Cm} (h1 : okCt h l = true) (h2 : okCm o = true) : okCt (stepCt h l o).1.1 (stepCt h l o).1.2 = true := by
  by_cases h3 : canH h o = false ∨ (o.op = 1 ∧ gapH h = 40)
  · rw [stepCt_cannot h1 h2 h3]
    exact h1
  · rw [not_or] at h3
    have h3' : canH h o = true := by simpa using h3.1
    rw [stepCt_does h1 h2 h3' h3.2]
    exact okCt_iff.2 ⟨freeH_valid (doH_valid h3' (gap_room (okCt_iff.1 h1).1 h3.2)), rfl⟩
/-! a new cell at a gap and a new cell behind the last one -/
theorem new_sim {h : Hp} (hv : validH h = true) {p : Nat} (hp : p < h.cs.length) (hu : usedAt h.cs p = false) (c : Cl) (hc : ∀ n ∈ c.r, n = -1) (i : Nat) :
    Sim ⟨h.cs.set p c, h.rt.set i (p : Int)⟩ ⟨h.cs ++ [c], h.rt.set i (h.cs.length : Int)⟩ (fun k x => (k = x ∧ usedAt h.cs k = true) ∨ (k = p ∧ x = h.cs.length)) := by
  have hlt : ∀ k, usedAt h.cs k = true → k < h.cs.length := fun k hk => usedAt_lt hk
  have hne : ∀ k, usedAt h.cs k = true → k ≠ p := fun k hk e => by rw [e, hu] at hk; cases hk
  have hrr : ∀ n : Int, okRef h.cs n = true → RR (fun k x => (k = x ∧ usedAt h.cs k = true) ∨ (k = p ∧ x = h.cs.length)) n n := fun n ho => by
    rcases okRef_iff.1 ho with e | ⟨e, hu⟩
    · exact .inl ⟨e, e⟩
    · exact .inr ⟨n.toNat, n.toNat, by omega, by omega, .inl ⟨rfl, hu⟩⟩
  refine ⟨?_, ?_, ?_, ?_⟩
  · rintro k x y (⟨rfl, h1⟩ | ⟨rfl, rfl⟩) (⟨rfl, h2⟩ | ⟨e, rfl⟩)
    · rfl
    · exact absurd e (hne _ h1)
    · exact absurd rfl (hne _ h2)
    · rfl
  · rintro k m x (⟨rfl, h1⟩ | ⟨rfl, rfl⟩) (⟨rfl, h2⟩ | ⟨rfl, e⟩)
    · rfl
    · have := hlt _ h1; omega
    · have := hlt _ h2; omega
    · rfl
  · refine LR.set (R := fun k x => (k = x ∧ usedAt h.cs k = true) ∨ (k = p ∧ x = h.cs.length)) ⟨rfl, fun j n m h1 h2 => ?_⟩ i (.inr ⟨_, _, rfl, rfl, .inr ⟨rfl, rfl⟩⟩)
    rw [h1] at h2
    rw [← Option.some.inj h2]
    exact hrr n (valid_root hv h1)
  · rintro k x (⟨rfl, h1⟩ | ⟨rfl, rfl⟩)
    · obtain ⟨q, hq, _⟩ := usedAt_iff.1 h1
      refine ⟨q, q, by rw [List.getElem?_set_ne (fun e => hne k h1 e.symm)]; exact hq, by rw [List.getElem?_append_left (hlt k h1)]; exact hq, rfl, rfl, fun j n m h1 h2 => ?_⟩
      rw [h1] at h2
      rw [← Option.some.inj h2]
      exact hrr n (valid_ref hv hq h1)
    · refine ⟨c, c, by simp [hp], by simp, rfl, rfl, fun j n m h1 h2 => ?_⟩
      rw [h1] at h2
      have e := hc n (List.mem_of_getElem? h1)
      exact .inl ⟨e, by rw [← Option.some.inj h2]; exact e⟩
theorem gap_same {h : Hp} {o : Cm} (hv : validH h = true) (hc : canH h o = true) (h4 : ¬ (o.op = 1 ∧ gapH h = 40)) (hl : o.op = 1 → h.cs.length < 40) : sameV (doH h o (gapH h)) (doH h o h.cs.length) = true := by
  have v1 : validH (doH h o (gapH h)) = true := doH_valid hc (gap_room hv h4)
  have v2 : validH (doH h o h.cs.length) = true := doH_valid hc (fun h1 => ⟨Nat.le_refl _, hl h1⟩)
  by_cases h1 : o.op = 1
  · rcases gapH_cases h with ⟨e, _⟩ | ⟨e1, e2, _⟩
    · rw [e] at v1 ⊢
      exact sameV_iff.2 ⟨v1, v1, rfl⟩
    · have S := new_sim hv e1 e2 (newCl o) (fun n hn => by simp only [newCl, List.mem_replicate] at hn; exact hn.2) o.a.toNat
      have d1 : doH h o (gapH h) = ⟨h.cs.set (gapH h) (newCl o), h.rt.set o.a.toNat (gapH h : Int)⟩ := by rw [doH, if_pos h1, putCl, if_neg (by omega)]
      have d2 : doH h o h.cs.length = ⟨h.cs ++ [newCl o], h.rt.set o.a.toNat (h.cs.length : Int)⟩ := by rw [doH, if_pos h1, putCl, if_pos rfl]
      rw [← d1, ← d2] at S
      exact sameV_iff.2 ⟨v1, v2, S.view v1 v2⟩
  · have : doH h o (gapH h) = doH h o h.cs.length := by
      unfold doH
      rw [if_neg h1, if_neg h1]
    rw [this]
    exact sameV_iff.2 ⟨v2, v2, rfl⟩
theorem sameV_trans {a b c : Hp} (h1 : sameV a b = true) (h2 : sameV b c = true) : sameV a c = true := by
  obtain ⟨a1, _, a3⟩ := sameV_iff.1 h1
  obtain ⟨_, b2, b3⟩ := sameV_iff.1 h2
  exact sameV_iff.2 ⟨a1, b2, a3.trans b3⟩
/-- P56: with room, a program sees what StepHeap shows -/
theorem stepCt_same {h : Hp} {l : List Int} {o : Cm} (hd : (stepCt h l o).2 = true) (hr : (stepH h o).2 = true) : sameV (stepCt h l o).1.1 (stepH h o).1 = true := by
  have h1 : okCt h l = true := by
    cases e : okCt h l
    · rw [stepCt_no (.inl e)] at hd; cases hd
    · rfl
  have h2 : okCm o = true := by
    cases e : okCm o
    · rw [stepCt_no (.inr e)] at hd; cases hd
    · rfl
  have hv := (okCt_iff.1 h1).1
  by_cases h3 : canH h o = false ∨ (o.op = 1 ∧ gapH h = 40)
  · rw [stepCt_cannot h1 h2 h3] at hd
    cases hd
  rw [not_or] at h3
  have h3' : canH h o = true := by simpa using h3.1
  have h5 : ¬ (o.op = 1 ∧ h.cs.length = 40) := by
    rintro ⟨e1, e2⟩
    simp [stepH, hv, h2, e1, e2] at hr
  have e : stepH h o = (doH h o h.cs.length, true) := by
    unfold stepH
    rw [hv, h2, h3']
    simp only [Bool.and_self, if_true, Bool.not_true, Bool.false_or]
    rw [if_neg]
    simpa using h5
  rw [stepCt_does h1 h2 h3' h3.2, e]
  exact sameV_trans (freeH_same (doH_valid h3' (gap_room hv h3.2))) (gap_same hv h3' h3.2 (fun q => by have := (valid_iff.1 hv).2.1; omega))
theorem empty_ok : okCt emptyH [] = true := by decide
/-- while a program runs with counts: at most as many cells as steps; a program sees what it sees without freeing; everything used has a count -/
structure RunsCt (x : Hp × List Int) (y : Hp) (n : Nat) : Prop where
  ok : okCt x.1 x.2 = true
  same : sameV x.1 y = true
  few : x.1.cs.length ≤ n ∧ y.cs.length ≤ n
  led : ∀ k, usedAt x.1.cs k = true → (k : Int) ∈ refsOf x.1
theorem RunsCt.start : RunsCt (emptyH, []) emptyH 0 := ⟨empty_ok, by rw [sameV_iff]; exact ⟨empty_valid, empty_valid, rfl⟩, by decide, fun k hk => by simp [emptyH, usedAt] at hk⟩
theorem doH_len {h : Hp} {o : Cm} {p : Nat} : (doH h o p).cs.length ≤ h.cs.length + 1 := by
  have h1 : ∀ c, (putCl h.cs p c).length ≤ h.cs.length + 1 := fun c => by unfold putCl; split <;> simp
  have h2 : ∀ k i x, (setRef h.cs k i x).length = h.cs.length := fun k i x => by unfold setRef; split <;> simp
  have h3 : ∀ k x, (setDat h.cs k x).length = h.cs.length := fun k x => by unfold setDat; split <;> simp
  unfold doH
  split
  · exact h1 _
  split
  · simp
  split
  · rw [h2]; omega
  split
  · simp
  split
  · simp
  split
  · rw [h3]; omega
  · omega
theorem stepH_len {h : Hp} {o : Cm} : (stepH h o).1.cs.length ≤ h.cs.length + 1 := by
  unfold stepH
  split
  · split
    · simp
    · exact doH_len
  · simp [zeroH]
theorem stepCt_len {h : Hp} {l : List Int} {o : Cm} : (stepCt h l o).1.1.cs.length ≤ h.cs.length + 1 := by
  unfold stepCt
  split
  · split
    · simp
    · simp only [freeH_len]; exact doH_len
  · simp [zeroH]
theorem RunsCt.step {x : Hp × List Int} {y : Hp} {n : Nat} (S : RunsCt x y n) {o : Cm} (ho : okCm o = true) (hn : n < 40) : RunsCt (stepCt x.1 x.2 o).1 (stepH y o).1 (n + 1) := by
  have hv := (okCt_iff.1 S.ok).1
  obtain ⟨_, hy, he⟩ := sameV_iff.1 S.same
  have hcan := (sim_of_view hv hy he).can hv hy o
  have hg := gapH_le x.1
  have hf := S.few
  refine ⟨stepCt_ok S.ok ho, ?_, ⟨Nat.le_trans stepCt_len (by omega), Nat.le_trans stepH_len (by omega)⟩, ?_⟩
  · cases hc : canH x.1 o
    · rw [stepCt_cannot S.ok ho (.inl hc)]
      have : stepH y o = (y, false) := by simp [stepH, hy, ho, ← hcan, hc]
      rw [this]
      exact S.same
    · have h4 : ¬ (o.op = 1 ∧ gapH x.1 = 40) := by omega
      refine sameV_trans (stepCt_same (by rw [stepCt_does S.ok ho hc h4]) ?_) (same_step S.same ho (by omega) (by omega))
      have h5 : ¬ (o.op = 1 ∧ x.1.cs.length = 40) := by omega
      unfold stepH
      rw [hv, ho, hc]
      simp only [Bool.and_self, if_true, Bool.not_true, Bool.false_or]
      rw [if_neg (by simpa using h5)]
  · by_cases h3 : canH x.1 o = false ∨ (o.op = 1 ∧ gapH x.1 = 40)
    · rw [stepCt_cannot S.ok ho h3]
      exact S.led
    · rw [not_or] at h3
      rw [stepCt_does S.ok ho (by simpa using h3.1) h3.2]
      exact fun k hk => freeH_led hk
open Classical in
/-- the used cells that cannot be reached, ascending -/
noncomputable def leakL (h : Hp) : List Int := ((List.range h.cs.length).filter fun k => usedAt h.cs k && !decide (Rch h.cs h.rt k)).map fun (k : Nat) => (k : Int)
noncomputable def leakH (h : Hp) : List Int := if validH h = true then leakL h else []
open Classical in
noncomputable def leakTo (h : Hp) (n : Nat) : List Int := ((List.range n).filter fun k => usedAt h.cs k && !decide (Rch h.cs h.rt k)).map fun (k : Nat) => (k : Int)
theorem leakTo_all (h : Hp) : leakTo h h.cs.length = leakL h := rfl
theorem leakTo_yes {h : Hp} {k : Nat} (hu : usedAt h.cs k = true) (hr : ¬ Rch h.cs h.rt k) : leakTo h (k + 1) = leakTo h k ++ [(k : Int)] := by
  simp [leakTo, List.range_succ, List.filter_append, hu, hr]
theorem leakTo_no {h : Hp} {k : Nat} (hu : usedAt h.cs k = false ∨ Rch h.cs h.rt k) : leakTo h (k + 1) = leakTo h k := by
  rcases hu with e | e
  · simp [leakTo, List.range_succ, List.filter_append, e]
  · simp [leakTo, List.range_succ, List.filter_append, e]
theorem leakTo_len (h : Hp) (n : Nat) : (leakTo h n).length ≤ n := by
  simp only [leakTo, List.length_map]
  exact Nat.le_trans (List.length_filter_le _ _) (by simp)
end Hps
end Go.Proofs.YtfgdenmlfloloaaDoor

namespace Go.Proofs.YtfgdenmlfloloaaDoor
open Go.RowKit
set_option maxRecDepth 100000
namespace Hps
end Hps
end Go.Proofs.YtfgdenmlfloloaaDoor

namespace Go.Proofs.YtfgdenmlfloloaaDoor
open Go.RowKit
/-- a cell is put behind the last one -/
theorem OwnHx.snoc {w w1 : World} {base : Nat} {vc vr v9 v8 : Value} {rvs : List Value} {h : Hp} {cl : Cl} (S : OwnHx w base vc vr rvs h) (hG : w.grownBy w1 vc.ownBlock)
    (o9 : w1.ownsRow base 43 3 v9 (h.cs.length + 1) (flatC h.cs rvs ++ [.bool cl.u, .int .i64 cl.d, v8])) (q : v9.ownBlock = vc.ownBlock ∨ v9.ownBlock = some w.heap.size)
    (o8 : OwnI w base v8 cl.r) (hap : ∀ v ∈ vc :: vr :: rvs, v8.ownBlock = none ∨ v8.ownBlock ≠ v.ownBlock) : OwnHx w1 base v9 vr (rvs ++ [v8]) ⟨h.cs ++ [cl], h.rt⟩ := by
  have hsp := S.sep
  unfold Sep at hsp
  simp only [List.pairwise_cons, List.mem_cons] at hsp
  obtain ⟨sp1, sp2, sp3⟩ := hsp
  have h8lt : ∀ kk, v8.ownBlock = some kk → kk < w.heap.size := fun kk hk => (World.ownsRow.lt o8 kk hk).2
  have hvr : ∀ kk, vr.ownBlock = some kk → kk < w.heap.size := fun kk hk => (S.blocks (by simp) hk).2
  have hrv : ∀ v ∈ rvs, ∀ kk, v.ownBlock = some kk → kk < w.heap.size := fun v hv kk hk => (S.blocks (by simp [hv]) hk).2
  have h9old : ∀ v : Value, (vc.ownBlock = none ∨ vc.ownBlock ≠ v.ownBlock) → (∀ kk, v.ownBlock = some kk → kk < w.heap.size) → v9.ownBlock = none ∨ v9.ownBlock ≠ v.ownBlock := fun v hv hlt' => by
    rcases q with e | e
    · rw [e]; exact hv
    · right
      rw [e]
      intro e'
      have := hlt' _ e'.symm
      omega
  refine ⟨by simp [S.len], ?_, ?_, S.roots.far hG (sep_back (sp1 vr (.inl rfl))), ?_⟩
  · have e : flatC (h.cs ++ [cl]) (rvs ++ [v8]) = flatC h.cs rvs ++ [.bool cl.u, .int .i64 cl.d, v8] := by
      rw [flatC_append _ _ _ _ S.len]
      simp [flatC]
    rw [e, List.length_append, List.length_singleton]
    exact o9
  · intro j c' v hc' hv
    simp only at hc'
    rcases Nat.lt_or_ge j h.cs.length with hj | hj
    · rw [List.getElem?_append_left hj] at hc'
      rw [List.getElem?_append_left (by rw [S.len]; exact hj)] at hv
      exact (S.refs j c' v hc' hv).far hG (sep_back (sp1 v (.inr (List.mem_of_getElem? hv))))
    · rw [List.getElem?_append_right hj] at hc'
      rw [List.getElem?_append_right (by rw [S.len]; exact hj), S.len] at hv
      have hjk : j - h.cs.length = 0 := by
        rcases Nat.eq_zero_or_pos (j - h.cs.length) with e | e
        · exact e
        · rw [List.getElem?_eq_none (by simp; omega)] at hv; cases hv
      rw [hjk] at hc' hv
      simp at hc' hv
      subst hc' hv
      exact o8.far hG (hap vc (by simp))
  · unfold Sep
    simp only [List.pairwise_cons, List.mem_cons, List.mem_append, List.pairwise_append, List.not_mem_nil, or_false]
    refine ⟨fun v hv => ?_, fun v hv => ?_, sp3, ⟨by simp, List.Pairwise.nil⟩, fun a ha v hv => ?_⟩
    · rcases hv with rfl | hv | rfl
      · exact h9old v (sp1 v (.inl rfl)) hvr
      · exact h9old v (sp1 v (.inr hv)) (hrv v hv)
      · exact h9old v (sep_back (hap vc (by simp))) h8lt
    · rcases hv with hv | rfl
      · exact sp2 v hv
      · exact sep_back (hap vr (by simp))
    · subst hv
      exact sep_back (hap a (by simp [ha]))
/-- the copy in the box b, and the boxes of the arguments and of the result -/
structure DoSt (w wr : World) (b : Nat) (hb cb rb : Array Value) (vc vr : Value) (rvs : List Value) (h : Hp) : Prop where
  own : OwnHx wr (w.heap.size + 3) vc vr rvs h
  apart : Apart (some b) (vc :: vr :: rvs)
  box : Rw wr b 26 #[vc, vr]
  arg : Rw wr w.heap.size 26 hb
  cmd : Rw wr (w.heap.size + 1) 36 cb
  res : Rw wr (w.heap.size + 2) 26 rb
  bel : Below w.heap.size w wr
  lo : w.heap.size + 3 ≤ b
section
variable {w wr w1 : World} {b g c d i k : Nat} {hb cb rb : Array Value} {vc vr : Value} {rvs : List Value} {h : Hp} {cl : Cl}
theorem DoSt.drew (S : DoSt w wr b hb cb rb vc vr rvs h) : DoSt w wr.drew b hb cb rb vc vr rvs h := by
  have hw : Below wr.heap.size wr wr.drew := (Below.refl _ _).drew
  exact ⟨S.own.below hw (Nat.le_refl _), S.apart, S.box.keep hw S.box.lt, S.arg.keep hw S.arg.lt, S.cmd.keep hw S.cmd.lt, S.res.keep hw S.res.lt, S.bel.drew, S.lo⟩
theorem DoSt.up (S : DoSt w wr b hb cb rb vc vr rvs h) (hw : Below wr.heap.size wr w1) : DoSt w w1 b hb cb rb vc vr rvs h :=
  ⟨S.own.below hw (Nat.le_refl _), S.apart, S.box.keep hw S.box.lt, S.arg.keep hw S.arg.lt, S.cmd.keep hw S.cmd.lt, S.res.keep hw S.res.lt, S.bel.trans (hw.mono S.bel.size), S.lo⟩
/-- into a block of the copy's own something is written -/
theorem DoSt.into (S : DoSt w wr b hb cb rb vc vr rvs h) {v : Value} (hv : v ∈ vc :: vr :: rvs) (hg : v.ownBlock = some g) {rvs' : List Value} {h' : Hp} (u : Value)
    (ho : OwnHx (wr.setCell ⟨g, i, none⟩ u) (w.heap.size + 3) vc vr rvs' h') (ha : ∀ v ∈ rvs', v.ownBlock = none ∨ v.ownBlock ≠ some b) : DoSt w (wr.setCell ⟨g, i, none⟩ u) b hb cb rb vc vr rvs' h' := by
  have h1 := S.own.blocks hv hg
  have h2 : b ≠ g := by
    rcases S.apart v hv with e | e
    · rw [hg] at e; cases e
    · intro e'; rw [hg] at e; exact e (by rw [e'])
  refine ⟨ho, ?_, S.box.other h2 u, S.arg.other (by omega) u, S.cmd.other (by omega) u, S.res.other (by omega) u, S.bel.setCell (p := ⟨g, i, none⟩) (by show w.heap.size ≤ g; omega) u, S.lo⟩
  intro x hx
  simp only [List.mem_cons] at hx
  rcases hx with rfl | rfl | hx
  · exact S.apart x (by simp)
  · exact S.apart x (by simp)
  · exact ha x hx
theorem DoSt.root {m : Nat} (S : DoSt w wr b hb cb rb vc (.slice (some ⟨g, 0, none⟩) m d) rvs h) (hm : h.rt.length = m) (x : Int) : DoSt w (wr.setCell ⟨g, i, none⟩ (.int .i64 x)) b hb cb rb vc (.slice (some ⟨g, 0, none⟩) m d) rvs ⟨h.cs, h.rt.set i x⟩ := by
  subst hm
  exact S.into (v := .slice (some ⟨g, 0, none⟩) h.rt.length d) (by simp) rfl _ (S.own.root x) fun v hv => S.apart v (by simp [hv])
theorem DoSt.data {n : Nat} (S : DoSt w wr b hb cb rb (.slice (some ⟨g, 0, none⟩) n d) vr rvs h) (hn : h.cs.length = n) (hc : h.cs[k]? = some cl) (x : Int) : DoSt w (wr.setCell ⟨g, k * 3 + 1, none⟩ (.int .i64 x)) b hb cb rb (.slice (some ⟨g, 0, none⟩) n d) vr rvs ⟨h.cs.set k ⟨cl.u, x, cl.r⟩, h.rt⟩ := by
  subst hn
  exact S.into (v := .slice (some ⟨g, 0, none⟩) h.cs.length d) (by simp) rfl _ (S.own.data hc x) fun v hv => S.apart v (by simp [hv])
/-- a cell is put behind the last one, and the box holds the new slice -/
theorem DoSt.snoc {v9 v8 : Value} (S : DoSt w wr b hb cb rb vc vr rvs h) (hG : wr.grownBy w1 vc.ownBlock)
    (o9 : w1.ownsRow (w.heap.size + 3) 43 3 v9 (h.cs.length + 1) (flatC h.cs rvs ++ [.bool cl.u, .int .i64 cl.d, v8])) (q : v9.ownBlock = vc.ownBlock ∨ v9.ownBlock = some wr.heap.size)
    (o8 : OwnI wr (w.heap.size + 3) v8 cl.r) (hap : ∀ v ∈ vc :: vr :: rvs, v8.ownBlock = none ∨ v8.ownBlock ≠ v.ownBlock) (h8b : v8.ownBlock ≠ some b) :
    DoSt w (w1.setCell ⟨b, 0, none⟩ v9) b hb cb rb v9 vr (rvs ++ [v8]) ⟨h.cs ++ [cl], h.rt⟩ := by
  have hn := S.own.snoc hG o9 q o8 hap
  have hlo := S.lo
  have hbl := S.box.lt
  have hvcb : some b ≠ vc.ownBlock := by
    rcases S.apart vc (by simp) with e | e
    · rw [e]; simp
    · exact fun h => e h.symm
  have ap : Apart (some b) (v9 :: vr :: (rvs ++ [v8])) := by
    intro v hv
    simp only [List.mem_cons, List.mem_append, List.not_mem_nil, or_false] at hv
    rcases hv with rfl | rfl | hv | rfl
    · right
      rcases q with e | e
      · rw [e]; exact fun h => hvcb h.symm
      · rw [e]; intro e'; injection e' with e'; omega
    · exact S.apart v (by simp)
    · exact S.apart v (by simp [hv])
    · exact .inr h8b
  have far : ∀ {g' : Nat} {t : TypeId} {cs : Array Value}, Rw wr g' t cs → g' < w.heap.size + 3 → Rw (w1.setCell ⟨b, 0, none⟩ v9) g' t cs := fun hr hl =>
    Rw.other (Rw.far hr hG (fun e => by have := (S.own.blocks (v := vc) (by simp) e.symm).1; omega)) (by omega) _
  refine ⟨hn.far (put_any w1 b 0 v9) ap, ap, (Rw.far S.box hG hvcb).put 0 v9, far S.arg (by omega), far S.cmd (by omega), far S.res (by omega), ?_, hlo⟩
  exact (S.bel.grown hG S.bel.size (fun kk hk => by have := (S.own.blocks (v := vc) (by simp) hk).1; omega)).setCell (p := ⟨b, 0, none⟩) (by show w.heap.size ≤ b; omega) _
/-- a whole cell is written -/
theorem DoSt.cell {rv : Value} {old : Cl} (S : DoSt w wr b hb cb rb (.slice (some ⟨g, 0, none⟩) h.cs.length c) vr rvs h) (hc : h.cs[k]? = some old) (o : OwnI wr (w.heap.size + 3) rv cl.r) (hap : ∀ v ∈ (Value.slice (some ⟨g, 0, none⟩) h.cs.length c) :: vr :: rvs, rv.ownBlock = none ∨ rv.ownBlock ≠ v.ownBlock) (h8b : rv.ownBlock = none ∨ rv.ownBlock ≠ some b) :
    DoSt w (((wr.setCell ⟨g, k * 3, none⟩ (.bool cl.u)).setCell ⟨g, k * 3 + 1, none⟩ (.int .i64 cl.d)).setCell ⟨g, k * 3 + 2, none⟩ rv) b hb cb rb (.slice (some ⟨g, 0, none⟩) h.cs.length c) vr (rvs.set k rv) ⟨h.cs.set k cl, h.rt⟩ := by
  have hm : (Value.slice (some ⟨g, 0, none⟩) h.cs.length c) ∈ (Value.slice (some ⟨g, 0, none⟩) h.cs.length c) :: vr :: rvs := by simp
  have h1 : w.heap.size + 3 ≤ g ∧ g < wr.heap.size := S.own.blocks hm rfl
  have h2 : b ≠ g := by
    rcases S.apart _ hm with e | e
    · cases e
    · intro e'; exact e (by rw [e']; rfl)
  have oth : ∀ {g' : Nat} {t : TypeId} {cs : Array Value}, Rw wr g' t cs → g' ≠ g → Rw (((wr.setCell ⟨g, k * 3, none⟩ (.bool cl.u)).setCell ⟨g, k * 3 + 1, none⟩ (.int .i64 cl.d)).setCell ⟨g, k * 3 + 2, none⟩ rv) g' t cs := fun hr hne => ((hr.other hne _).other hne _).other hne _
  refine ⟨S.own.cell hc o hap, ?_, oth S.box h2, oth S.arg (by omega), oth S.cmd (by omega), oth S.res (by omega), ?_, S.lo⟩
  · intro x hx
    simp only [List.mem_cons] at hx
    rcases hx with rfl | rfl | hx
    · exact S.apart _ (by simp)
    · exact S.apart x (by simp)
    · rcases List.mem_or_eq_of_mem_set hx with hx | rfl
      · exact S.apart x (by simp [hx])
      · exact h8b
  · exact ((S.bel.setCell (p := ⟨g, k * 3, none⟩) (by show w.heap.size ≤ g; omega) _).setCell (p := ⟨g, k * 3 + 1, none⟩) (by show w.heap.size ≤ g; omega) _).setCell (p := ⟨g, k * 3 + 2, none⟩) (by show w.heap.size ≤ g; omega) _
/-- the copy goes into the result's box -/
theorem DoSt.done (S : DoSt w wr b hb cb rb vc vr rvs h) : OwnH ((wr.setCell ⟨w.heap.size + 2, 0, none⟩ vc).setCell ⟨w.heap.size + 2, 1, none⟩ vr) w.heap.size vc vr h ∧ Below w.heap.size w ((wr.setCell ⟨w.heap.size + 2, 0, none⟩ vc).setCell ⟨w.heap.size + 2, 1, none⟩ vr) := by
  have ap : Apart (some (w.heap.size + 2)) (vc :: vr :: rvs) := S.own.apart_below (by omega)
  exact ⟨⟨rvs, ((S.own.far (put_any wr _ 0 vc) ap).far (put_any _ _ 1 vr) ap).base (by omega)⟩, (S.bel.setCell (p := ⟨w.heap.size + 2, 0, none⟩) (by simp) vc).setCell (p := ⟨w.heap.size + 2, 1, none⟩) (by simp) vr⟩
end
end Go.Proofs.YtfgdenmlfloloaaDoor

namespace Go.Proofs.YtfgdenmlfloloaaDoor
open Go.RowKit
set_option maxRecDepth 100000
namespace Hps
end Hps
end Go.Proofs.YtfgdenmlfloloaaDoor

namespace Go.Proofs.YtfgdenmlfloloaaDoor
open Go.RowKit
set_option maxRecDepth 100000
/-- a heap of the call's own goes into the box of a result -/
theorem OwnH.out {w wr : World} {base g : Nat} {vc vr : Value} {h : Hp} (ho : OwnH wr base vc vr h) (hg : g < base) (hb : Below w.heap.size w wr) (hw : w.heap.size ≤ g) :
    OwnH ((wr.setCell ⟨g, 0, none⟩ vc).setCell ⟨g, 1, none⟩ vr) w.heap.size vc vr h ∧ Below w.heap.size w ((wr.setCell ⟨g, 0, none⟩ vc).setCell ⟨g, 1, none⟩ vr) := by
  obtain ⟨rvs, own⟩ := ho
  have ap : Apart (some g) (vc :: vr :: rvs) := own.apart_below hg
  exact ⟨⟨rvs, ((own.far (put_any wr g 0 vc) ap).far (put_any _ g 1 vr) ap).base (by omega)⟩, (hb.setCell (p := ⟨g, 0, none⟩) hw vc).setCell (p := ⟨g, 1, none⟩) hw vr⟩
theorem OwnH.base {w : World} {base base' : Nat} {vc vr : Value} {h : Hp} (ho : OwnH w base vc vr h) (hb : base' ≤ base) : OwnH w base' vc vr h := by
  obtain ⟨rvs, own⟩ := ho
  exact ⟨rvs, own.base hb⟩
theorem OwnH.below {w w' : World} {base B : Nat} {vc vr : Value} {h : Hp} (ho : OwnH w base vc vr h) (hb : Below B w w') (hB : w.heap.size ≤ B) : OwnH w' base vc vr h := by
  obtain ⟨rvs, own⟩ := ho
  exact ⟨rvs, own.below hb hB⟩
theorem OwnH.form {w : World} {base : Nat} {vc vr : Value} {h : Hp} (ho : OwnH w base vc vr h) : ∃ A c R d, vc = .slice A h.cs.length c ∧ vr = .slice R h.rt.length d ∧ HS w w.heap.size A h.cs.length R h.rt.length h := by
  obtain ⟨rvs, own⟩ := ho
  obtain ⟨A, c, R, d, rfl, rfl, _⟩ := own.form
  exact ⟨A, c, R, d, rfl, rfl, own.reads⟩
theorem OwnH.slices {w : World} {base : Nat} {vc vr : Value} {h : Hp} (ho : OwnH w base vc vr h) : ∃ A n c R m d, vc = .slice A n c ∧ vr = .slice R m d := by
  obtain ⟨A, c, R, d, e1, e2, _⟩ := ho.form
  exact ⟨A, _, c, R, _, d, e1, e2⟩
namespace Hps
end Hps
end Go.Proofs.YtfgdenmlfloloaaDoor

namespace Go.Proofs.YtfgdenmlfloloaaDoor
open Go.RowKit
set_option maxRecDepth 100000
/-- a heap with counts of the call's own -/
structure OwnCt (w : World) (base : Nat) (vc vr vk : Value) (rvs : List Value) (h : Hp) (l : List Int) : Prop where
  heap : OwnHx w base vc vr rvs h
  cnts : OwnI w base vk l
  sep : ∀ u ∈ vc :: vr :: rvs, u.ownBlock = none ∨ u.ownBlock ≠ vk.ownBlock
def OwnC (w : World) (base : Nat) (vc vr vk : Value) (h : Hp) (l : List Int) : Prop := ∃ rvs, OwnCt w base vc vr vk rvs h l
section
variable {w w' : World} {bs bs' B g : Nat} {vc vr vk : Value} {rvs : List Value} {h : Hp} {l : List Int}
theorem OwnCt.below (o : OwnCt w bs vc vr vk rvs h l) (hb : Below B w w') (hB : w.heap.size ≤ B) : OwnCt w' bs vc vr vk rvs h l := ⟨o.heap.below hb hB, o.cnts.below hb hB, o.sep⟩
theorem OwnCt.base (o : OwnCt w bs vc vr vk rvs h l) (hb : bs' ≤ bs) : OwnCt w bs' vc vr vk rvs h l := ⟨o.heap.base hb, o.cnts.base hb, o.sep⟩
theorem OwnCt.blocks (o : OwnCt w bs vc vr vk rvs h l) {v : Value} (hv : v ∈ vc :: vr :: vk :: rvs) {k : Nat} (hk : v.ownBlock = some k) : bs ≤ k ∧ k < w.heap.size := by
  simp only [List.mem_cons] at hv
  rcases hv with rfl | rfl | rfl | hv
  · exact o.heap.blocks (v := v) (by simp) hk
  · exact o.heap.blocks (v := v) (by simp) hk
  · exact World.ownsRow.lt o.cnts k hk
  · exact o.heap.blocks (v := v) (by simp [hv]) hk
theorem OwnCt.apart_below (o : OwnCt w bs vc vr vk rvs h l) (hb : g < bs) : Apart (some g) (vc :: vr :: vk :: rvs) := fun v hv => by
  cases e : v.ownBlock with
  | none => exact .inl rfl
  | some k =>
    right
    intro e'
    have := (o.blocks hv e).1
    have := Option.some.inj e'
    omega
theorem OwnCt.apart_new (o : OwnCt w bs vc vr vk rvs h l) (hb : w.heap.size ≤ g) : Apart (some g) (vc :: vr :: vk :: rvs) := fun v hv => by
  cases e : v.ownBlock with
  | none => exact .inl rfl
  | some k =>
    right
    intro e'
    have := (o.blocks hv e).2
    have := Option.some.inj e'
    omega
theorem OwnCt.far {row : Option Nat} (o : OwnCt w bs vc vr vk rvs h l) (hg : w.grownBy w' row) (ha : Apart row (vc :: vr :: vk :: rvs)) : OwnCt w' bs vc vr vk rvs h l :=
  ⟨o.heap.far hg (fun v hv => ha v (by simp only [List.mem_cons] at hv ⊢; rcases hv with e | e | e <;> simp [e])), o.cnts.far hg (ha vk (by simp)), o.sep⟩
theorem OwnCt.put (o : OwnCt w bs vc vr vk rvs h l) (ha : Apart (some g) (vc :: vr :: vk :: rvs)) (i : Nat) (u : Value) : OwnCt (w.setCell ⟨g, i, none⟩ u) bs vc vr vk rvs h l := o.far (put_any w g i u) ha
theorem OwnCt.slices (o : OwnCt w bs vc vr vk rvs h l) : ∃ A c R d K q, vc = .slice A h.cs.length c ∧ vr = .slice R h.rt.length d ∧ vk = .slice K l.length q := by
  obtain ⟨A, c, R, d, e1, e2, _⟩ := o.heap.form
  obtain ⟨K, q, e3, _⟩ := o.cnts.form
  exact ⟨A, c, R, d, K, q, e1, e2, e3⟩
theorem OwnC.slices (ho : OwnC w bs vc vr vk h l) : ∃ A n c R m d K p q, vc = .slice A n c ∧ vr = .slice R m d ∧ vk = .slice K p q := by
  obtain ⟨rvs, o⟩ := ho
  obtain ⟨A, c, R, d, K, q, e1, e2, e3⟩ := o.slices
  exact ⟨A, _, c, R, _, d, K, _, q, e1, e2, e3⟩
theorem OwnC.below (ho : OwnC w bs vc vr vk h l) (hb : Below B w w') (hB : w.heap.size ≤ B) : OwnC w' bs vc vr vk h l := by
  obtain ⟨rvs, o⟩ := ho
  exact ⟨rvs, o.below hb hB⟩
theorem OwnC.base (ho : OwnC w bs vc vr vk h l) (hb : bs' ≤ bs) : OwnC w bs' vc vr vk h l := by
  obtain ⟨rvs, o⟩ := ho
  exact ⟨rvs, o.base hb⟩
theorem OwnC.heap (ho : OwnC w bs vc vr vk h l) : OwnH w bs vc vr h := by
  obtain ⟨rvs, o⟩ := ho
  exact ⟨rvs, o.heap⟩
/-- a heap with counts of the call's own goes into the box of a result -/
theorem OwnC.out {wr : World} (ho : OwnC wr bs vc vr vk h l) (hg : g < bs) (hb : Below w.heap.size w wr) (hw : w.heap.size ≤ g) :
    OwnC (((wr.setCell ⟨g, 0, none⟩ vc).setCell ⟨g, 1, none⟩ vr).setCell ⟨g, 2, none⟩ vk) w.heap.size vc vr vk h l ∧ Below w.heap.size w (((wr.setCell ⟨g, 0, none⟩ vc).setCell ⟨g, 1, none⟩ vr).setCell ⟨g, 2, none⟩ vk) := by
  obtain ⟨rvs, own⟩ := ho
  have ap := own.apart_below hg
  exact ⟨⟨rvs, (((own.put ap 0 vc).put ap 1 vr).put ap 2 vk).base (by omega)⟩, ((hb.setCell (p := ⟨g, 0, none⟩) hw vc).setCell (p := ⟨g, 1, none⟩) hw vr).setCell (p := ⟨g, 2, none⟩) hw vk⟩
/-- a heap and counts that were made one after the other are a heap with counts -/
theorem OwnHx.counted {w1 : World} (o : OwnHx w bs vc vr rvs h) (hb : Below w.heap.size w w1) (k : OwnI w1 w.heap.size vk l) (hbase : bs ≤ w.heap.size) : OwnCt w1 bs vc vr vk rvs h l := by
  refine ⟨o.below hb (Nat.le_refl _), k.base hbase, fun u hu => ?_⟩
  cases e : u.ownBlock with
  | none => exact .inl rfl
  | some j =>
    right
    intro e'
    have h1 := (o.blocks hu e).2
    have h2 := (World.ownsRow.lt k j e'.symm).1
    omega
theorem OwnC.of (ho : OwnH w bs vc vr h) {w1 : World} (hb : Below w.heap.size w w1) (k : OwnI w1 w.heap.size vk l) (hbase : bs ≤ w.heap.size) : OwnC w1 bs vc vr vk h l := by
  obtain ⟨rvs, o⟩ := ho
  exact ⟨rvs, o.counted hb k hbase⟩
end
end Go.Proofs.YtfgdenmlfloloaaDoor

namespace Go.Proofs.YtfgdenmlfloloaaDoor
open Go.RowKit
set_option maxRecDepth 100000
/-- a heap of the call's own, and what a pointer v leads to lies apart, once l -/
def OwnF (w : World) (base : Nat) (v : Value) (l : Bool) (vc vr : Value) (h : Hp) : Prop := ∃ rvs, OwnHx w base vc vr rvs h ∧ ∀ g, l = true → v = .pointer (some ⟨g, 0, none⟩) → Apart (some g) (vc :: vr :: rvs)
section
variable {w w' : World} {base : Nat} {v vc vr : Value} {l l' : Bool} {h : Hp}
theorem OwnF.own (ho : OwnF w base v l vc vr h) : OwnH w base vc vr h := by
  obtain ⟨rvs, o, _⟩ := ho
  exact ⟨rvs, o⟩
theorem OwnF.below (ho : OwnF w base v l vc vr h) (hb : Below w.heap.size w w') : OwnF w' base v l vc vr h := by
  obtain ⟨rvs, o, a⟩ := ho
  exact ⟨rvs, o.below hb (Nat.le_refl _), a⟩
theorem OwnF.alloc (ho : OwnF w base v l vc vr h) (ob : Obj) : OwnF (w.alloc ob) base (.pointer (some ⟨w.heap.size, 0, none⟩)) l' vc vr h := by
  obtain ⟨rvs, o, a⟩ := ho
  refine ⟨rvs, o.below ((Below.refl _ _).alloc (Nat.le_refl _) _) (Nat.le_refl _), fun g _ e => ?_⟩
  injection e with e
  injection e with e
  injection e with e
  subst e
  exact o.apart_new (Nat.le_refl _)
theorem OwnF.new (ho : OwnH w base vc vr h) (hv : ∀ g, l = true → v = .pointer (some ⟨g, 0, none⟩) → g < base) : OwnF w base v l vc vr h := by
  obtain ⟨rvs, o⟩ := ho
  exact ⟨rvs, o, fun g hl e => o.apart_below (hv g hl e)⟩
theorem OwnF.put {g : Nat} (ho : OwnF w base (.pointer (some ⟨g, 0, none⟩)) l vc vr h) (hl : l = true) (u u' : Value) : OwnF ((w.setCell ⟨g, 0, none⟩ u).setCell ⟨g, 1, none⟩ u') base (.pointer (some ⟨g, 0, none⟩)) l vc vr h := by
  obtain ⟨rvs, o, a⟩ := ho
  exact ⟨rvs, (o.far (put_any w g 0 u) (a g hl rfl)).far (put_any _ g 1 u') (a g hl rfl), a⟩
end
/-- while a program runs: the heap so far in the box b -/
structure RunSt (w wr : World) (b : Nat) (vc vr : Value) (h : Hp) : Prop where
  own : ∃ rvs, OwnHx wr (w.heap.size + 1) vc vr rvs h ∧ Apart (some b) (vc :: vr :: rvs)
  box : Rw wr b 26 #[vc, vr]
  res : Rw wr w.heap.size 26 #[.slice none 0 0, .slice none 0 0]
  bel : Below w.heap.size w wr
  lo : w.heap.size + 1 ≤ b
theorem RunSt.next {w wr w5 : World} {b : Nat} {vc vr vc' vr' : Value} {h h' : Hp} (S : RunSt w wr b vc vr h) (B : Below wr.heap.size wr w5) (o : OwnH w5 wr.heap.size vc' vr' h') :
    RunSt w ((w5.setCell ⟨b, 0, none⟩ vc').setCell ⟨b, 1, none⟩ vr') b vc' vr' h' := by
  have hb := S.box.lt
  have hlo := S.lo
  obtain ⟨rvs, own⟩ := o
  have ap : Apart (some b) (vc' :: vr' :: rvs) := own.apart_below hb
  have x1 := S.box.keep B hb
  have x2 := S.res.keep B S.res.lt
  refine ⟨⟨rvs, ((own.far (put_any w5 b 0 vc') ap).far (put_any _ b 1 vr') ap).base (by omega), ap⟩, (x1.put 0 vc').put 1 vr', (x2.other (by omega) _).other (by omega) _, ?_, hlo⟩
  exact ((S.bel.trans (B.mono S.bel.size)).setCell (p := ⟨b, 0, none⟩) (by show w.heap.size ≤ b; omega) _).setCell (p := ⟨b, 1, none⟩) (by show w.heap.size ≤ b; omega) _
end Go.Proofs.YtfgdenmlfloloaaDoor

namespace Go.Proofs.YtfgdenmlfloloaaDoor
open Go.RowKit
set_option maxRecDepth 100000
/-- a heap of the call's own in the box b; what was there before the world w0 is as it was -/
structure BoxSt (w0 wr : World) (b : Nat) (vc vr : Value) (rvs : List Value) (h : Hp) : Prop where
  own : OwnHx wr w0.heap.size vc vr rvs h
  apart : Apart (some b) (vc :: vr :: rvs)
  box : Rw wr b 26 #[vc, vr]
  low : Below w0.heap.size w0 wr
  lo : w0.heap.size ≤ b
section
variable {w0 wr w1 : World} {b g c d i k : Nat} {vc vr : Value} {rvs : List Value} {h : Hp} {cl : Cl}
theorem BoxSt.up (S : BoxSt w0 wr b vc vr rvs h) (hw : Below wr.heap.size wr w1) : BoxSt w0 w1 b vc vr rvs h :=
  ⟨S.own.below hw (Nat.le_refl _), S.apart, S.box.keep hw S.box.lt, S.low.trans (hw.mono S.low.size), S.lo⟩
theorem BoxSt.drew (S : BoxSt w0 wr b vc vr rvs h) : BoxSt w0 wr.drew b vc vr rvs h := S.up (Below.refl _ _).drew
theorem BoxSt.into (S : BoxSt w0 wr b vc vr rvs h) {v : Value} (hv : v ∈ vc :: vr :: rvs) (hg : v.ownBlock = some g) {rvs' : List Value} {h' : Hp} (u : Value)
    (ho : OwnHx (wr.setCell ⟨g, i, none⟩ u) w0.heap.size vc vr rvs' h') (ha : ∀ v ∈ rvs', v.ownBlock = none ∨ v.ownBlock ≠ some b) : BoxSt w0 (wr.setCell ⟨g, i, none⟩ u) b vc vr rvs' h' := by
  have h1 := S.own.blocks hv hg
  have h2 : b ≠ g := by
    rcases S.apart v hv with e | e
    · rw [hg] at e; cases e
    · intro e'; rw [hg] at e; exact e (by rw [e'])
  refine ⟨ho, ?_, S.box.other h2 u, S.low.setCell (p := ⟨g, i, none⟩) (by show w0.heap.size ≤ g; omega) u, S.lo⟩
  intro x hx
  simp only [List.mem_cons] at hx
  rcases hx with rfl | rfl | hx
  · exact S.apart x (by simp)
  · exact S.apart x (by simp)
  · exact ha x hx
theorem BoxSt.root {m : Nat} (S : BoxSt w0 wr b vc (.slice (some ⟨g, 0, none⟩) m d) rvs h) (hm : h.rt.length = m) (x : Int) : BoxSt w0 (wr.setCell ⟨g, i, none⟩ (.int .i64 x)) b vc (.slice (some ⟨g, 0, none⟩) m d) rvs ⟨h.cs, h.rt.set i x⟩ := by
  subst hm
  exact S.into (v := .slice (some ⟨g, 0, none⟩) h.rt.length d) (by simp) rfl _ (S.own.root x) fun v hv => S.apart v (by simp [hv])
theorem BoxSt.data {n : Nat} (S : BoxSt w0 wr b (.slice (some ⟨g, 0, none⟩) n d) vr rvs h) (hn : h.cs.length = n) (hc : h.cs[k]? = some cl) (x : Int) : BoxSt w0 (wr.setCell ⟨g, k * 3 + 1, none⟩ (.int .i64 x)) b (.slice (some ⟨g, 0, none⟩) n d) vr rvs ⟨h.cs.set k ⟨cl.u, x, cl.r⟩, h.rt⟩ := by
  subst hn
  exact S.into (v := .slice (some ⟨g, 0, none⟩) h.cs.length d) (by simp) rfl _ (S.own.data hc x) fun v hv => S.apart v (by simp [hv])
theorem BoxSt.snoc {v9 v8 : Value} (S : BoxSt w0 wr b vc vr rvs h) (hG : wr.grownBy w1 vc.ownBlock)
    (o9 : w1.ownsRow w0.heap.size 43 3 v9 (h.cs.length + 1) (flatC h.cs rvs ++ [.bool cl.u, .int .i64 cl.d, v8])) (q : v9.ownBlock = vc.ownBlock ∨ v9.ownBlock = some wr.heap.size)
    (o8 : OwnI wr w0.heap.size v8 cl.r) (hap : ∀ v ∈ vc :: vr :: rvs, v8.ownBlock = none ∨ v8.ownBlock ≠ v.ownBlock) (h8b : v8.ownBlock ≠ some b) :
    BoxSt w0 (w1.setCell ⟨b, 0, none⟩ v9) b v9 vr (rvs ++ [v8]) ⟨h.cs ++ [cl], h.rt⟩ := by
  have hn := S.own.snoc hG o9 q o8 hap
  have hlo := S.lo
  have hbl := S.box.lt
  have hvcb : some b ≠ vc.ownBlock := by
    rcases S.apart vc (by simp) with e | e
    · rw [e]; simp
    · exact fun h => e h.symm
  have ap : Apart (some b) (v9 :: vr :: (rvs ++ [v8])) := by
    intro v hv
    simp only [List.mem_cons, List.mem_append, List.not_mem_nil, or_false] at hv
    rcases hv with rfl | rfl | hv | rfl
    · right
      rcases q with e | e
      · rw [e]; exact fun h => hvcb h.symm
      · rw [e]; intro e'; injection e' with e'; omega
    · exact S.apart v (by simp)
    · exact S.apart v (by simp [hv])
    · exact .inr h8b
  refine ⟨hn.far (put_any w1 b 0 v9) ap, ap, (Rw.far S.box hG hvcb).put 0 v9, ?_, hlo⟩
  exact (S.low.grown hG S.low.size (fun kk hk => (S.own.blocks (v := vc) (by simp) hk).1)).setCell (p := ⟨b, 0, none⟩) (by show w0.heap.size ≤ b; omega) _
theorem BoxSt.cell {n : Nat} {rv : Value} {old : Cl} (S : BoxSt w0 wr b (.slice (some ⟨g, 0, none⟩) n c) vr rvs h) (hn : h.cs.length = n) (hc : h.cs[k]? = some old) (o : OwnI wr w0.heap.size rv cl.r) (hap : ∀ v ∈ (Value.slice (some ⟨g, 0, none⟩) n c) :: vr :: rvs, rv.ownBlock = none ∨ rv.ownBlock ≠ v.ownBlock) (h8b : rv.ownBlock = none ∨ rv.ownBlock ≠ some b) :
    BoxSt w0 (((wr.setCell ⟨g, k * 3, none⟩ (.bool cl.u)).setCell ⟨g, k * 3 + 1, none⟩ (.int .i64 cl.d)).setCell ⟨g, k * 3 + 2, none⟩ rv) b (.slice (some ⟨g, 0, none⟩) n c) vr (rvs.set k rv) ⟨h.cs.set k cl, h.rt⟩ := by
  subst hn
  have hm : (Value.slice (some ⟨g, 0, none⟩) h.cs.length c) ∈ (Value.slice (some ⟨g, 0, none⟩) h.cs.length c) :: vr :: rvs := by simp
  have h1 : w0.heap.size ≤ g ∧ g < wr.heap.size := S.own.blocks hm rfl
  have h2 : b ≠ g := by
    rcases S.apart _ hm with e | e
    · cases e
    · intro e'; exact e (by rw [e']; rfl)
  refine ⟨S.own.cell hc o hap, ?_, ((S.box.other h2 _).other h2 _).other h2 _, ?_, S.lo⟩
  · intro x hx
    simp only [List.mem_cons] at hx
    rcases hx with rfl | rfl | hx
    · exact S.apart _ (by simp)
    · exact S.apart x (by simp)
    · rcases List.mem_or_eq_of_mem_set hx with hx | rfl
      · exact S.apart x (by simp [hx])
      · exact h8b
  · exact ((S.low.setCell (p := ⟨g, k * 3, none⟩) (by show w0.heap.size ≤ g; omega) _).setCell (p := ⟨g, k * 3 + 1, none⟩) (by show w0.heap.size ≤ g; omega) _).setCell (p := ⟨g, k * 3 + 2, none⟩) (by show w0.heap.size ≤ g; omega) _
theorem BoxSt.of {w1 : World} (o : OwnH w1 w0.heap.size vc vr h) (hb : Below w0.heap.size w0 w1) : ∃ rvs, BoxSt w0 (w1.alloc (.cells #[vc, vr] 26)) w1.heap.size vc vr rvs h := by
  obtain ⟨rvs, own⟩ := o
  exact ⟨rvs, own.below ((Below.refl _ _).alloc (Nat.le_refl _) _) (Nat.le_refl _), own.apart_new (Nat.le_refl _), Rw.new _ _ _, hb.alloc hb.size _, hb.size⟩
end
end Go.Proofs.YtfgdenmlfloloaaDoor
namespace Go.Proofs.YtfgdenmlfloloaaDoor
open Go.RowKit
set_option maxRecDepth 100000
namespace Hps
end Hps
end Go.Proofs.YtfgdenmlfloloaaDoor
namespace Go.Proofs.YtfgdenmlfloloaaDoor
open Go.RowKit
set_option maxRecDepth 100000
theorem OwnO.slices {w : World} {base : Nat} {v : Value} {xs : List Bool} (h : OwnO w base v xs) : ∃ A n c, v = .slice A n c := by
  obtain ⟨A, c, e, -⟩ := h.form
  exact ⟨A, _, c, e⟩
theorem OwnH.put {w : World} {base g : Nat} {vc vr : Value} {h : Hp} (ho : OwnH w base vc vr h) (hg : g < base) (u u' : Value) : OwnH ((w.setCell ⟨g, 0, none⟩ u).setCell ⟨g, 1, none⟩ u') base vc vr h := by
  obtain ⟨rvs, own⟩ := ho
  have ap : Apart (some g) (vc :: vr :: rvs) := own.apart_below hg
  exact ⟨rvs, (own.far (put_any w g 0 u) ap).far (put_any _ g 1 u') ap⟩
end Go.Proofs.YtfgdenmlfloloaaDoor

namespace Go.Proofs.YtfgdenmlfloloaaDoor
namespace Hps
/-- the heap of the cells on a list, in this order -/
def moveH (h : Hp) (o : List Int) : Hp := ⟨o.map fun n => ⟨true, (cellAt h.cs n).d, (cellAt h.cs n).r.map (nameL o)⟩, h.rt.map (nameL o)⟩
/-- a list of just the cells that can be reached, each once -/
structure Lives (h : Hp) (o : List Int) : Prop where
  nodup : o.Nodup
  mem : ∀ n : Int, n ∈ o ↔ ∃ k : Nat, n = k ∧ Rch h.cs h.rt k
section
variable {h : Hp} {o : List Int}
theorem Lives.cell (L : Lives h o) (hv : validH h = true) {x : Nat} {n : Int} (hx : o[x]? = some n) : ∃ (k : Nat) (c : Cl), n = k ∧ Rch h.cs h.rt k ∧ h.cs[k]? = some c ∧ (moveH h o).cs[x]? = some ⟨true, c.d, c.r.map (nameL o)⟩ := by
  obtain ⟨k, rfl, hk⟩ := (L.mem n).1 (List.mem_of_getElem? hx)
  obtain ⟨c, hc, _⟩ := usedAt_iff.1 (hk.live hv)
  refine ⟨k, c, rfl, hk, hc, ?_⟩
  simp [moveH, hx, cellAt, hc]
theorem Lives.neg (L : Lives h o) : (-1 : Int) ∉ o := fun hm => by
  obtain ⟨k, e, _⟩ := (L.mem _).1 hm
  omega
/-- a reference that is none or leads to a reachable cell -/
theorem Lives.name (L : Lives h o) {n : Int} (hn : n = -1 ∨ ∃ k : Nat, n = k ∧ Rch h.cs h.rt k) : RR (fun k x => o[x]? = some (k : Int)) n (nameL o n) := by
  rcases hn with rfl | ⟨k, rfl, hk⟩
  · exact .inl ⟨rfl, nameL_none L.neg⟩
  · obtain ⟨x, hx⟩ := List.mem_iff_getElem?.1 ((L.mem _).2 ⟨k, rfl, hk⟩)
    exact .inr ⟨k, x, rfl, nameL_at L.nodup hx, hx⟩
theorem ref_live (hv : validH h = true) {k : Nat} {c : Cl} (hk : Rch h.cs h.rt k) (hc : h.cs[k]? = some c) {n : Int} (hn : n ∈ c.r) : n = -1 ∨ ∃ m : Nat, n = m ∧ Rch h.cs h.rt m := by
  have ok := okRefs_iff.1 (valid_refs hv c (List.mem_of_getElem? hc)) n hn
  by_cases h0 : 0 ≤ n
  · obtain ⟨m, rfl, _⟩ := okRef_nat ok h0
    exact .inr ⟨m, rfl, .step hk hc hn⟩
  · rcases okRef_iff.1 ok with e | ⟨e, _⟩
    · exact .inl e
    · omega
theorem root_live (hv : validH h = true) {n : Int} (hn : n ∈ h.rt) : n = -1 ∨ ∃ m : Nat, n = m ∧ Rch h.cs h.rt m := by
  have ok := okRefs_iff.1 (valid_iff.1 hv).2.2.2 n hn
  by_cases h0 : 0 ≤ n
  · obtain ⟨m, rfl, _⟩ := okRef_nat ok h0
    exact .inr ⟨m, rfl, .root hn⟩
  · rcases okRef_iff.1 ok with e | ⟨e, _⟩
    · exact .inl e
    · omega
theorem Lives.names (L : Lives h o) {ns : List Int} (hn : ∀ n ∈ ns, n = -1 ∨ ∃ k : Nat, n = k ∧ Rch h.cs h.rt k) : LR (fun k x => o[x]? = some (k : Int)) ns (ns.map (nameL o)) := by
  refine ⟨by simp, fun i n m h1 h2 => ?_⟩
  rw [List.getElem?_map, h1, Option.map_some, Option.some.injEq] at h2
  rw [← h2]
  exact L.name (hn n (List.mem_of_getElem? h1))
/-- a heap and the heap of its moved cells are related -/
theorem Lives.sim (L : Lives h o) (hv : validH h = true) : Sim h (moveH h o) (fun k x => o[x]? = some (k : Int)) := by
  refine ⟨fun k x y h1 h2 => ?_, fun k m x h1 h2 => ?_, L.names (fun n hn => root_live hv hn), fun {k x} hx => ?_⟩
  · have e1 := nameL_at L.nodup h1
    have e2 := nameL_at L.nodup h2
    omega
  · rw [h1] at h2
    have := Option.some.inj h2
    omega
  · obtain ⟨k', c, e, hk, hc, hm⟩ := L.cell hv hx
    have e : k = k' := by omega
    subst e
    exact ⟨c, _, hc, hm, rfl, L.names (fun n hn => ref_live hv hk hc hn)⟩
theorem Lives.len (L : Lives h o) (hv : validH h = true) : o.length ≤ h.cs.length := by
  refine few_numbers _ o L.nodup fun x hx => ?_
  obtain ⟨k, rfl, hk⟩ := (L.mem x).1 hx
  exact ⟨k, rfl, usedAt_lt (hk.live hv)⟩
theorem Lives.okRef (L : Lives h o) (hv : validH h = true) {n : Int} (hn : n = -1 ∨ ∃ k : Nat, n = k ∧ Rch h.cs h.rt k) : okRef (moveH h o).cs (nameL o n) = true := by
  rcases L.name hn with ⟨_, e⟩ | ⟨k, x, _, e, hx⟩
  · rw [e]
    exact okRef_none _
  · obtain ⟨_, c, _, _, _, hm⟩ := L.cell hv hx
    rw [e, okRef_iff]
    exact .inr ⟨by omega, usedAt_iff.2 ⟨_, by rw [Int.toNat_natCast]; exact hm, rfl⟩⟩
theorem Lives.valid (L : Lives h o) (hv : validH h = true) : validH (moveH h o) = true := by
  obtain ⟨h1, h2, h3, h4⟩ := valid_iff.1 hv
  refine valid_iff.2 ⟨fun c hc => ?_, ?_, ?_, ?_⟩
  · obtain ⟨x, hx⟩ := List.mem_iff_getElem?.1 hc
    have hxl := (List.getElem?_eq_some_iff.1 hx).1
    simp only [moveH, List.length_map] at hxl
    obtain ⟨k, d, e, hk, hd, hm⟩ := L.cell hv (List.getElem?_eq_getElem hxl)
    rw [hm] at hx
    have hx := Option.some.inj hx
    subst hx
    have ok := okCell_iff.1 (valid_cell hv hd)
    refine okCell_iff.2 ⟨.inl rfl, ok.2.1, by simpa using ok.2.2.1, okRefs_iff.2 fun n hn => ?_⟩
    obtain ⟨m, hm1, rfl⟩ := List.mem_map.1 hn
    exact L.okRef hv (ref_live hv hk hd hm1)
  · have := L.len hv
    simp only [moveH, List.length_map]
    omega
  · simpa [moveH] using h3
  · refine okRefs_iff.2 fun n hn => ?_
    obtain ⟨m, hm1, rfl⟩ := List.mem_map.1 hn
    exact L.okRef hv (root_live hv hm1)
/-- moved cells: a program sees the same -/
theorem Lives.view (L : Lives h o) (hv : validH h = true) : viewH (moveH h o) = viewH h := ((L.sim hv).view hv (L.valid hv)).symm
end
end Hps
end Go.Proofs.YtfgdenmlfloloaaDoor
namespace Go.Proofs.YtfgdenmlfloloaaDoor
open Go.RowKit
set_option maxRecDepth 100000
namespace Hps
end Hps
/-- the list so far, and marks that lie apart from it -/
structure SO (w wr : World) (ov lv : Value) (bs : List Bool) (l : List Int) : Prop where
  lst : OwnI wr (w.heap.size + 1) lv l
  mks : OwnO wr (w.heap.size + 1) ov bs
  sep : lv.ownBlock = none ∨ lv.ownBlock ≠ ov.ownBlock
  bel : Below w.heap.size w wr
  big : w.heap.size + 1 ≤ wr.heap.size
theorem SO.app {w wr w1 : World} {ov lv v5 : Value} {bs : List Bool} {l xs : List Int} {ob : Obj} (S : SO w wr ov lv bs l) (h : OwnI w1 (w.heap.size + 1) v5 (l ++ xs)) (hg : (wr.alloc ob).grownBy w1 lv.ownBlock) (hs : v5.ownBlock = lv.ownBlock ∨ v5.ownBlock = some (wr.alloc ob).heap.size) : SO w w1 ov v5 bs (l ++ xs) := by
  have hlo : ∀ k, lv.ownBlock = some k → w.heap.size + 1 ≤ k := fun k hk => (World.ownsRow.lt S.lst k hk).1
  have mk2 : OwnO (wr.alloc ob) (w.heap.size + 1) ov bs := World.ownsRow.alloc S.mks ob
  refine ⟨h, World.ownsRow.kept mk2 hg (sep_back S.sep), ?_, (S.bel.alloc S.bel.size ob).grown hg (by simp; have := S.bel.size; omega) (fun k hk => by have := hlo k hk; omega), by have := hg.size; have := S.big; simp at *; omega⟩
  rcases hs with e | e
  · rw [e]; exact S.sep
  · right
    rw [e]
    intro e'
    have := (World.ownsRow.lt S.mks _ e'.symm).2
    simp at this
    omega
end Go.Proofs.YtfgdenmlfloloaaDoor
namespace Go.Proofs.YtfgdenmlfloloaaDoor
open Go.RowKit
/-- a part of a slice of numbers -/
theorem IS.part {w : World} {B n i r : Nat} {g o : Nat} {xs : List Int} (h : IS w B (some ⟨g, o, none⟩) n xs) (hi : i + r ≤ n) : IS w B (some ⟨g, o + i, none⟩) r ((xs.drop i).take r) := by
  have hl := h.1
  refine ⟨by rw [List.length_take, List.length_drop]; omega, fun hr => ?_⟩
  obtain ⟨g', o', e, hb, hc⟩ := h.2 (by omega)
  have e := Option.some.inj e
  injection e with e1 e2
  subst e1 e2
  refine ⟨g, o + i, rfl, hb, fun k b hk => ?_⟩
  rw [List.getElem?_take] at hk
  split at hk
  · rw [List.getElem?_drop] at hk
    rw [Nat.add_assoc]
    exact hc _ _ hk
  · cases hk
section
variable {w0 wr w1 : World} {b : Nat} {vc vr v9 : Value} {rvs : List Value} {h : Hp} {x : Int}
end
end Go.Proofs.YtfgdenmlfloloaaDoor

namespace Go.Proofs.YtfgdenmlfloloaaDoor
open Go.RowKit
set_option maxRecDepth 100000
namespace Hps
theorem usedAt_of {cs : List Cl} {k : Nat} {c : Cl} (hc : cs[k]? = some c) : usedAt cs k = c.u := by rw [usedAt, hc]
end Hps
set_option maxHeartbeats 4000000 in
theorem mLeakedCells_any (A R : Option Addr) (n c m d : Nat) (h : Hp) (w : World) (hs : HS w w.heap.size A n R m h) (hn : n ≤ 1099511627776) (hm : m ≤ 1099511627776) :
    Calls Tryd.prog 38 #[heapV A n c R m d] w (GaveI w (Hps.leakH h)) := by
  have b0 : Below w.heap.size w ((w.alloc (.cells #[.slice A n c, .slice R m d] 26)).alloc (.cells #[] 3)) := ((Below.refl _ _).alloc (Nat.le_refl _) _).alloc (by simp) _
  have r0 := hs.up b0
  have q0 := (Rw.new w 26 #[.slice A n c, .slice R m d]).alloc (.cells #[] 3)
  have on := own_noneI (w.alloc (.cells #[.slice A n c, .slice R m d] 26)) (w.heap.size + 1) (by simp)
  rw [World.size_alloc] at on
  have hlc := hs.cells.1
  go_enter Tryd.func38, Tryd.ntmps38
  go_wp2_with fail
  refine (mReachable_any _ _ _ _ _ _ h _ r0 hn hm).mono ?_
  rintro e w1 ⟨v1, rfl, o1, b1⟩
  have bb1 := b0.trans (b1.mono b0.size)
  have q1 := q0.keep b1 q0.lt
  have on1 := on.below b1 (Nat.le_refl _)
  have hsz1 : w.heap.size + 1 < w1.heap.size := by have := b1.size; simp at this; omega
  cases hv : Hps.validH h
  · have HL := Lib.hid (show Hps.leakH h = [] by rw [Hps.leakH, if_neg (by rw [hv]; decide)])
    have hr : Hps.reachH h = [] := by rw [Hps.reachH, if_neg (by rw [hv]; decide)]
    rw [hr] at o1
    obtain ⟨A1, c1, rfl, -⟩ := o1.form
    clear hr hv o1 q0 on r0 b0 b1 q1
    go_wp2_with fail
    go_loopw [3, 5] (fun lv i wr => lv = .slice (some ⟨w.heap.size + 1, 0, none⟩) 0 0 ∧ i = .int .i64 0 ∧ wr = w1) (fun _ i _ => 0)
    case atStart => exact ⟨rfl, rfl, rfl⟩
    case round =>
      obtain ⟨rfl, rfl, rfl⟩ := hrel
      go_wp2_with fail
      go_ret
      exact ⟨_, rfl, by rw [HL.out]; exact on1.base (base' := w.heap.size) (Nat.le_succ _), bb1⟩
  have HL := Lib.hid (show Hps.leakH h = Hps.leakTo h n by rw [Hps.leakH, if_pos hv, ← hlc]; rfl)
  have hr : Hps.reachH h = Hps.reachL h.cs h.rt := by rw [Hps.reachH, if_pos hv]
  rw [hr] at o1
  have hn40 : n ≤ 40 := by have := (Hps.valid_iff.1 hv).2.1; omega
  obtain ⟨bs, hbs⟩ : ∃ bs, Hps.reachL h.cs h.rt = bs := ⟨_, rfl⟩
  have HBS := Lib.hid hbs
  have hbl : bs.length = n := by rw [← hbs, Hps.reachL_len]; exact hlc
  have HLC := Lib.hid hlc
  rw [hbs] at o1
  clear hbs hr hv hlc
  obtain ⟨AO, co, rfl, -⟩ := o1.form
  have hsz0 : ((w.alloc (.cells #[.slice A n c, .slice R m d] 26)).alloc (.cells #[] 3)).heap.size = w.heap.size + 2 := by simp
  have S0 : SO w w1 (.slice AO bs.length co) (.slice (some ⟨w.heap.size + 1, 0, none⟩) 0 0) bs [] := by
    refine ⟨on1, o1.base (by omega), .inr (fun e => ?_), bb1, by omega⟩
    have := (World.ownsRow.lt o1 (w.heap.size + 1) e.symm).1
    omega
  rw [hbl] at S0 ⊢
  have HBL := Lib.hid hbl
  have CS0 := Lib.hid hs.cells
  clear r0 on b0 b1 o1 hsz0 hbl q0 on1 bb1 hs
  go_wp2_with fail
  go_loopw [3, 5] (fun lv i wr => ∃ (k : Nat), k ≤ n ∧ i = .int .i64 k ∧ SO w wr (.slice AO n co) lv bs (Hps.leakTo h k) ∧ Rw wr w.heap.size 26 #[.slice A n c, .slice R m d]) (fun _ i _ => n - (intOf i).toNat)
  case atStart => exact ⟨0, Nat.zero_le _, rfl, S0, q1⟩
  case round =>
    clear S0 q1
    obtain ⟨k, hk, rfl, S, q1⟩ := hrel
    have x0 : wr.cell? ⟨w.heap.size, 0, none⟩ = some (.slice A n c) := q1.cell 0
    by_cases hlt : k < n
    · have hlt' : (k : Int) < n := by omega
      obtain ⟨g, o, cl, A', m', cc, e1, hg, hcl, d1, _, _, _, _⟩ := (CS0.out.below S.bel).at_ hlt
      subst e1
      obtain ⟨g2, o2, bo, e2, hg2, hb2, d2⟩ := S.mks.reads.at_ (k := k) hlt
      subst e2
      have hR : bo = true ↔ Hps.Rch h.cs h.rt k := by
        have := Hps.reachL_true (cs := h.cs) (a := h.rt) (k := k) (by rw [HLC.out]; exact hlt)
        rw [HBS.out, hb2] at this
        simpa using this
      have hyn : (Hps.leakTo h k).length + 1 ≤ 1099511627776 := by have := Hps.leakTo_len h k; omega
      have hU := Hps.usedAt_of hcl
      clear hb2 hcl
      cases hu : cl.u <;> rw [hu] at d1 hU
      · have HN := Lib.hid (Hps.leakTo_no (h := h) (k := k) (.inl hU))
        clear hu hR hU
        go_wp2_with fail
        go_roundw
        case rel => exact ⟨k + 1, by omega, by go_num, by rw [HN.out]; exact S, q1⟩
        case measure => simp [intOf]; omega
      cases bo
      · have HY := Lib.hid (Hps.leakTo_yes (h := h) (k := k) hU (fun q => by have := hR.2 q; cases this))
        have ow := World.ownsRow.alloc S.lst (.cells #[.int .i64 k] 3)
        have rr : IS (wr.alloc (.cells #[.int .i64 k] 3)) (wr.alloc (.cells #[.int .i64 k] 3)).heap.size (some ⟨wr.heap.size, 0, none⟩) 1 [(k : Int)] := (own_oneI wr _ 0 (Nat.zero_le _)).reads
        have hba : w.heap.size + 1 ≤ (wr.alloc (.cells #[.int .i64 k] 3)).heap.size := by have := S.big; simp; omega
        have q2 := q1.alloc (.cells #[.int .i64 k] 3)
        clear hR hU hu
        go_wp2_with (at_builtin; refine wpList_appendI rfl (.tmp 28) (.tmp 30) rfl (w.heap.size + 1) _ (Hps.leakTo h k) rfl ow (some ⟨wr.heap.size, 0, none⟩) 1 1 _ [(k : Int)] rfl rr hyn hba ?_; intro v5 w5 o5 g5 s5)
        go_roundw
        case rel => exact ⟨k + 1, by omega, by go_num, by rw [HY.out]; exact S.app o5 g5 s5, q2.far g5 (fun e => by have := (World.ownsRow.lt ow _ e.symm).1; omega)⟩
        case measure => simp [intOf]; omega
      · have HN := Lib.hid (Hps.leakTo_no (h := h) (k := k) (.inr (hR.1 rfl)))
        clear hu hR hU
        go_wp2_with fail
        go_roundw
        case rel => exact ⟨k + 1, by omega, by go_num, by rw [HN.out]; exact S, q1⟩
        case measure => simp [intOf]; omega
    · obtain rfl : k = n := by omega
      go_wp2_with fail
      go_ret
      exact ⟨_, rfl, by rw [HL.out]; exact S.lst.base (by omega), S.bel⟩
end Go.Proofs.YtfgdenmlfloloaaDoor

namespace Go.Proofs.YtfgdenmlfloloaaDoor
open Go.RowKit
/-- the table of math/bits lies as laid -/
def TzT (w : World) : Prop := 0 < w.heap.size ∧ ∀ i : Nat, i < 64 → w.cell? ⟨0, i, none⟩ = some (.int .u8 (Lib.deBruijn64tab.getD i 0 : Nat))
theorem TzT.below {w w' : World} (h : TzT w) (hb : Below w.heap.size w w') : TzT w' := ⟨Nat.lt_of_lt_of_le h.1 hb.size, fun i hi => (hb.cell (p := ⟨0, i, none⟩) h.1).trans (h.2 i hi)⟩
namespace Bm
theorem tz_key (x : Nat) (hx : x < 18446744073709551616) (hx0 : x ≠ 0) : ∃ idx : Nat, idx < 64 ∧ IntKind.u64.wrap (bits BinOp.and IntKind.u64 (x : Int) (IntKind.u64.wrap (-(x : Int))) * 285870213051353865) / 288230376151711744 = (idx : Int) ∧ Lib.deBruijn64tab.getD idx 0 = Lib.ctz 64 x ∧ Lib.ctz 64 x < 64 := by
  obtain ⟨hlow, hk⟩ := Lib.lowest_bit 64 x hx0 hx
  obtain ⟨hi, htab⟩ := Lib.deBruijn64_at _ hk
  refine ⟨_, hi, ?_, htab, hk⟩
  have e1 : IntKind.u64.wrap (-(x : Int)) = ((18446744073709551616 - x : Nat) : Int) := by rw [IntKind.wrap_u64]; omega
  have hl2 : x &&& (18446744073709551616 - x) = 2 ^ Lib.ctz 64 x := hlow
  rw [e1, u64_and_nat x _ hx (by omega), hl2, IntKind.wrap_u64]
  generalize 2 ^ Lib.ctz 64 x = a
  omega
end Bm
set_option maxHeartbeats 1000000 in
theorem tz64_any (x : Nat) (w : World) (hT : TzT w) (h0 : x ≠ 0) (h1 : x < 18446744073709551616) :
    Calls Tryd.prog 103 #[.int .u64 x] w fun e w' => e = .returned (.int .i64 (Lib.ctz 64 x)) ∧ w = w' := by
  obtain ⟨idx, hi, key, htab, hk⟩ := Bm.tz_key x h1 h0
  have hcell := hT.2 idx hi
  rw [htab] at hcell
  have hx0 : ((x : Int) == 0) = false := by rw [beq_eq_false_iff_ne]; omega
  obtain ⟨k, hkk⟩ : ∃ k, Lib.ctz 64 x = k := ⟨_, rfl⟩
  rw [hkk] at hcell hk ⊢
  clear htab hkk
  go_enter Tryd.func103, Tryd.ntmps103
  go_wp2_with (simp only [key])
  go_ret
  exact ⟨rfl, rfl⟩
end Go.Proofs.YtfgdenmlfloloaaDoor

namespace Go.Proofs.YtfgdenmlfloloaaDoor
open Go.RowKit
set_option maxRecDepth 100000
namespace Hps
/-- the numbers of the bits that are set, ascending -/
def numsB (V : Nat) : List Int := ((List.range 64).filter V.testBit).map fun (k : Nat) => (k : Int)
theorem filter_first {p : Nat → Bool} {k : Nat} (hp : p k = true) (hb : ∀ j, j < k → p j = false) : ∀ n, k < n → (List.range n).filter p = k :: (List.range n).filter (fun i => p i && decide (i ≠ k))
  | 0, h => by omega
  | n + 1, h => by
    have hnil : ∀ m, m ≤ k → ∀ q : Nat → Bool, (∀ j, j < k → q j = false) → (List.range m).filter q = [] := fun m hm q hq => by
      rw [List.filter_eq_nil_iff]
      intro a ha
      rw [hq a (by have := List.mem_range.1 ha; omega)]
      simp
    rw [List.range_succ, List.filter_append, List.filter_append]
    by_cases hk : k < n
    · rw [filter_first hp hb n hk]
      have e : (p n && decide (n ≠ k)) = p n := by rw [decide_eq_true (show n ≠ k by omega), Bool.and_true]
      rw [List.cons_append]
      congr 2
      rw [List.filter_cons, List.filter_cons, e, List.filter_nil, List.filter_nil]
    · obtain rfl : n = k := by omega
      rw [hnil n (Nat.le_refl _) p hb, hnil n (Nat.le_refl _) _ (fun j hj => by rw [hb j hj]; rfl)]
      simp [hp]
theorem clear_low {x : Nat} (h0 : x ≠ 0) (h : x < 18446744073709551616) (i : Nat) : (x &&& (x - 1)).testBit i = (x.testBit i && decide (i ≠ Lib.ctz 64 x)) := by
  obtain ⟨m, hm, hk⟩ := Lib.ctzFrom_spec 64 x (by omega) h
  have e : Lib.ctz 64 x = Lib.ctzFrom 64 x := by simp [Lib.ctz, h0]
  rw [e]
  obtain ⟨k, hkk⟩ : ∃ k, Lib.ctzFrom 64 x = k := ⟨_, rfl⟩
  rw [hkk] at hm ⊢
  have hp : 0 < 2 ^ k := Nat.two_pow_pos k
  have hx1 : x - 1 = (2 * m) * 2 ^ k + (2 ^ k - 1) := by
    have : 2 ^ k * (2 * m + 1) = (2 * m) * 2 ^ k + 2 ^ k := by rw [Nat.mul_add, Nat.mul_one, Nat.mul_comm]
    omega
  have hx : x = (2 * m + 1) * 2 ^ k := by rw [hm, Nat.mul_comm]
  have hdiv : (x - 1) / 2 ^ k = 2 * m := by
    rw [hx1, Nat.mul_comm, Nat.mul_add_div hp, Nat.div_eq_of_lt (show 2 ^ k - 1 < 2 ^ k by omega)]
    omega
  rw [Nat.testBit_and]
  rcases Nat.lt_trichotomy i k with h1 | h1 | h1
  · have : x.testBit i = false := by
      rw [hx, Nat.testBit_mul_two_pow]
      simp
      omega
    rw [this]
    rfl
  · subst h1
    have : (x - 1).testBit i = false := by
      rw [Nat.testBit, Nat.shiftRight_eq_div_pow, hdiv]
      simp
    rw [this]
    simp
  · have e1 : ∀ y, y.testBit i = (y / 2 ^ k).testBit (i - k) := fun y => by
      rw [← Nat.shiftRight_eq_div_pow, Nat.testBit_shiftRight]
      congr 1
      omega
    have e2 : x / 2 ^ k = 2 * m + 1 := by rw [hx, Nat.mul_div_cancel _ hp]
    obtain ⟨j, hj⟩ : ∃ j, i - k = j + 1 := ⟨i - k - 1, by omega⟩
    rw [e1 x, e1 (x - 1), hdiv, e2, hj, Nat.testBit_succ, Nat.testBit_succ, show (2 * m + 1) / 2 = m by omega, show 2 * m / 2 = m by omega, decide_eq_true (show i ≠ k by omega)]
    simp
theorem nums_zero : numsB 0 = [] := by simp [numsB]
theorem nums_next {x : Nat} (h0 : x ≠ 0) (h : x < 18446744073709551616) : numsB x = (Lib.ctz 64 x : Int) :: numsB (x &&& (x - 1)) := by
  obtain ⟨h1, h2⟩ := Bm.ctz_bit h0 h
  have h3 := (Lib.lowest_bit 64 x h0 h).2
  unfold numsB
  rw [filter_first h1 h2 64 h3, List.map_cons]
  congr 2
  exact List.filter_congr fun i _ => (clear_low h0 h i).symm
theorem nums_len (x : Nat) : (numsB x).length ≤ 64 := by
  unfold numsB
  rw [List.length_map]
  exact Nat.le_trans (List.length_filter_le _ _) (by simp)
end Hps
set_option maxHeartbeats 1000000 in
theorem numbers_any (S : Nat) (w : World) (hT : TzT w) (hS : S < 18446744073709551616) :
    Calls Tryd.prog 55 #[.int .u64 S] w (GaveI w (Hps.numsB S)) := by
  go_enter Tryd.func55, Tryd.ntmps55
  go_wp2_with fail
  go_loopw [3, 4] (fun xs rest wr => ∃ (ys : List Int) (V : Nat), rest = .int .u64 V ∧ V < 18446744073709551616 ∧ OwnI wr w.heap.size xs ys ∧ ys ++ Hps.numsB V = Hps.numsB S ∧ Below w.heap.size w wr) (fun _ rest _ => match rest with | .int _ V => V.toNat | _ => 0)
  case atStart => exact ⟨[], S, rfl, hS, World.ownsRow_nil _ _ _ _, rfl, Below.refl _ _⟩
  case round =>
    obtain ⟨ys, V, rfl, hV, ho, hnum, hb⟩ := hrel
    obtain ⟨A, c, rfl, -⟩ := ho.form
    by_cases h0 : V = 0
    · subst h0
      rw [Hps.nums_zero, List.append_nil] at hnum
      go_wp2_with fail
      go_ret
      exact ⟨_, rfl, OwnI.cast hnum ho, hb⟩
    · have hV0 : ((V : Int) == 0) = false := by rw [beq_eq_false_iff_ne]; omega
      have hlen : ys.length ≤ 64 := by
        have := congrArg List.length hnum
        rw [List.length_append] at this
        have := Hps.nums_len S
        omega
      have hand : bits .and .u64 (V : Int) ((V : Int) - 1) = ((V &&& (V - 1) : Nat) : Int) := by
        rw [show (V : Int) - 1 = ((V - 1 : Nat) : Int) by omega]
        exact u64_and_nat _ _ hV (by omega)
      have hle : V &&& (V - 1) ≤ V - 1 := Nat.and_le_right
      have HN := Lib.hid (show (ys ++ [(Lib.ctz 64 V : Int)]) ++ Hps.numsB (V &&& (V - 1)) = Hps.numsB S by rw [← hnum, Hps.nums_next h0 hV]; simp)
      obtain ⟨kk, hkk⟩ : ∃ kk, Lib.ctz 64 V = kk := ⟨_, rfl⟩
      have TZ := tz64_any V wr (hT.below hb) h0 hV
      rw [hkk] at TZ HN
      clear hnum hkk
      go_wp2_with fail
      refine TZ.mono ?_
      rintro e w1 ⟨rfl, rfl⟩
      have ow := World.ownsRow.alloc ho (.cells #[.int .i64 kk] 3)
      have rr : IS (wr.alloc (.cells #[.int .i64 kk] 3)) (wr.alloc (.cells #[.int .i64 kk] 3)).heap.size (some ⟨wr.heap.size, 0, none⟩) 1 [(kk : Int)] := (own_oneI wr kk 0 (Nat.zero_le _)).reads
      have hsz := hb.size
      have hw1 : w.heap.size ≤ (wr.alloc (.cells #[.int .i64 kk] 3)).heap.size := by simp; omega
      clear TZ
      go_wp2_with (at_builtin; refine wpList_appendI rfl (.tmp 12) (.tmp 15) rfl w.heap.size _ ys rfl ow (some ⟨wr.heap.size, 0, none⟩) 1 1 _ [(kk : Int)] rfl rr (by simp; omega) hw1 ?_; intro v5 w5 o5 g5 s5)
      have bn : Below w.heap.size w w5 := (hb.alloc hb.size _).grown g5 (by simp; omega) (fun k hk => (World.ownsRow.lt ho k hk).1)
      clear ow rr g5 s5 ho
      go_roundw
      case rel => exact ⟨ys ++ [(kk : Int)], V &&& (V - 1), rfl, by omega, o5, HN.out, bn⟩
      case measure => simp; omega
end Go.Proofs.YtfgdenmlfloloaaDoor

namespace Go.Proofs.YtfgdenmlfloloaaDoor
open Go.RowKit
set_option maxRecDepth 100000
namespace Hps
theorem filter_more (p : Nat → Bool) {n : Nat} (hp : ∀ i, n ≤ i → p i = false) : ∀ m, n ≤ m → (List.range m).filter p = (List.range n).filter p
  | 0, h => by obtain rfl : n = 0 := by omega
               rfl
  | m + 1, h => by
    rcases Nat.lt_or_ge m n with e | e
    · obtain rfl : n = m + 1 := by omega
      rfl
    · rw [List.range_succ, List.filter_append, filter_more p hp m e, List.filter_cons, hp m e, List.filter_nil, if_neg Bool.false_ne_true, List.append_nil]
open Classical in
theorem leak_nums {h : Hp} (hl : h.cs.length ≤ 64) : numsB (usedW h.cs &&& (18446744073709551615 - reachW h)) = leakL h := by
  have hR := reachW_lt (h := h) hl
  unfold numsB leakL
  congr 1
  rw [filter_more _ (n := h.cs.length) _ 64 hl]
  · refine List.filter_congr fun i hi => ?_
    have hin := List.mem_range.1 hi
    rw [Nat.testBit_and, show 18446744073709551615 - reachW h = 2 ^ 64 - (reachW h + 1) by omega, Nat.testBit_two_pow_sub_succ (by omega), usedW_bit]
    have hb : (reachW h).testBit i = decide (Rch h.cs h.rt i) := by
      unfold reachW
      rw [Bm.wordN_bit, reachL_at hin]
      exact decide_eq_decide.2 ⟨fun e => of_decide_eq_true (Option.some.inj e), fun e => by rw [decide_eq_true e]⟩
    rw [hb, decide_eq_true (show i < 64 by omega), Bool.true_and]
  · intro i hi
    rw [Nat.testBit_and, usedW_bit]
    have : usedAt h.cs i = false := by
      unfold usedAt
      rw [List.getElem?_eq_none hi]
    rw [this, Bool.false_and]
end Hps
set_option maxHeartbeats 4000000 in
theorem leakedCells_any (A R : Option Addr) (n c m d : Nat) (h : Hp) (w : World) (hT : TzT w) (hs : HS w w.heap.size A n R m h) (hn : n ≤ 1099511627776) (hm : m ≤ 1099511627776) (hnc : n ≤ c) (hmd : m ≤ d) :
    Calls Tryd.prog 14 #[heapV A n c R m d] w (GaveI w (Hps.leakH h)) := by
  have hlc := hs.cells.1
  have b0 : Below w.heap.size w (w.alloc (.cells #[.slice A n c, .slice R m d] 26)) := (Below.refl _ _).alloc (Nat.le_refl _) _
  have r0 := hs.up b0
  have hw0 := Rw.new w 26 #[.slice A n c, .slice R m d]
  have hT0 := hT.below b0
  cases hv : Hps.validH h
  · have HR := Lib.hid (show Hps.leakH h = [] by rw [Hps.leakH, hv]; rfl)
    have HV := Lib.hid hv
    clear hv
    go_enter Tryd.func14, Tryd.ntmps14
    go_wp2_with fail
    refine (heapValid_any _ _ _ _ _ _ h _ r0 hn hm hnc hmd).mono ?_
    rw [HV.out]
    rintro e w1 ⟨rfl, b1⟩
    have bb1 := b0.trans (b1.mono b0.size)
    go_wp2_with fail
    go_ret
    exact ⟨_, rfl, by rw [HR.out]; exact World.ownsRow_nil _ _ _ _, bb1⟩
  have h40 := (Hps.valid_iff.1 hv).2.1
  have HR := Lib.hid (show Hps.leakH h = Hps.numsB (Hps.usedW h.cs &&& (18446744073709551615 - Hps.reachW h)) by rw [Hps.leakH, hv, Hps.leak_nums (by omega)]; rfl)
  have HUL := Hps.usedW_lt (cs := h.cs) (by omega)
  have HRL := Hps.reachW_lt (h := h) (by omega)
  obtain ⟨U, hU⟩ : ∃ U, Hps.usedW h.cs = U := ⟨_, rfl⟩
  obtain ⟨RW, hRW⟩ : ∃ RW, Hps.reachW h = RW := ⟨_, rfl⟩
  rw [hU] at HUL HR
  rw [hRW] at HRL HR
  have HAN := Lib.hid (u64_andNot_nat U RW HUL HRL)
  have HU := Lib.hid hU
  have HRW := Lib.hid hRW
  have HV := Lib.hid hv
  have HLE : U &&& (18446744073709551615 - RW) < 18446744073709551616 := Nat.lt_of_le_of_lt Nat.and_le_left HUL
  obtain ⟨V, hV2⟩ : ∃ V, U &&& (18446744073709551615 - RW) = V := ⟨_, rfl⟩
  rw [hV2] at HAN HLE HR
  clear hv hU hRW hV2
  go_enter Tryd.func14, Tryd.ntmps14
  go_wp2_with fail
  refine (heapValid_any _ _ _ _ _ _ h _ r0 hn hm hnc hmd).mono ?_
  rw [HV.out]
  rintro e w2 ⟨rfl, b1⟩
  replace hT0 := hT0.below b1
  replace hw0 := hw0.keep b1 hw0.lt
  replace r0 := r0.up b1
  replace b0 := b0.trans (b1.mono b0.size)
  generalize hbq : w.heap.size = b at hw0 ⊢
  have HB := Lib.hid hbq
  clear hbq b1
  have hbl := hw0.lt
  have x0 : w2.cell? ⟨b, 0, none⟩ = some (.slice A n c) := hw0.cell 0
  have x1 : w2.cell? ⟨b, 1, none⟩ = some (.slice R m d) := hw0.cell 1
  go_upto_region 3 with fail
  refine wp_region_inv (by kernel_rfl) (by kernel_rfl) (fun L ac ww => ∃ t2 t6 t7 t8 t9 t10 t11 t12 : Value, ac = { tmps := #[heapV A n c R m d, Value.pointer (some { block := b, off := 0 }), t2, Value.agg #[Value.slice A n c, Value.slice R m d], Value.bool true, Value.bool false, t6, t7, t8, t9, t10, t11, t12], defers := [] } ∧ (Below w2.heap.size w2 ww) ∧ (L 0 = true → t6 = .pointer (some ⟨b, 0, none⟩)) ∧ (L 1 = true → t7 = .slice A n c) ∧ (L 2 = true → t8 = .int .u64 U) ∧ (L 3 = true → t9 = .agg #[.slice A n c, .slice R m d]) ∧ (L 4 = true → t10 = .int .u64 RW) ∧ (L 5 = true → t11 = .int .u64 V) ∧ (L 6 = true → OwnI ww w2.heap.size t12 (Hps.numsB V)) ∧ (L 7 = true → OwnI ww w2.heap.size t2 (Hps.numsB V))) ?h0 ?hstep ?hdone
  case h0 => exact ⟨_, _, _, _, _, _, _, _, rfl, (Below.refl _ _).drew, (fun h => absurd h Bool.false_ne_true), (fun h => absurd h Bool.false_ne_true), (fun h => absurd h Bool.false_ne_true), (fun h => absurd h Bool.false_ne_true), (fun h => absurd h Bool.false_ne_true), (fun h => absurd h Bool.false_ne_true), (fun h => absurd h Bool.false_ne_true), (fun h => absurd h Bool.false_ne_true)⟩
  case hstep =>
    rintro L ac ww i o ho hL hd ⟨t2, t6, t7, t8, t9, t10, t11, t12, rfl, I0, f0, f1, f2, f3, f4, f5, f6, f7⟩
    have hi : i < 8 := (Array.getElem?_eq_some_iff.1 ho).1
    obtain rfl | rfl | rfl | rfl | rfl | rfl | rfl | rfl : i = 0 ∨ i = 1 ∨ i = 2 ∨ i = 3 ∨ i = 4 ∨ i = 5 ∨ i = 6 ∨ i = 7 := by omega
    · obtain rfl := Option.some.inj ho
      refine wpOp_step rfl (fun K' hK => ?_)
      go_simp
      refine hK _ _ ?_
      exact ⟨_, _, _, _, _, _, _, _, rfl, (I0), (fun _ => rfl), (kp f1), (kp f2), (kp f3), (kp f4), (kp f5), (kp f6), (kp f7)⟩
    · obtain rfl := Option.some.inj ho
      have g0 := f0 (hd ⟨0, .data⟩ (by simp) rfl)
      subst g0
      have z0 : ww.cell? ⟨b, 0, none⟩ = some (.slice A n c) := (I0.cell (p := ⟨b, 0, none⟩) hbl).trans x0
      have z1 : ww.cell? ⟨b, 1, none⟩ = some (.slice R m d) := (I0.cell (p := ⟨b, 1, none⟩) hbl).trans x1
      refine wpOp_step rfl (fun K' hK => ?_)
      go_simp
      refine hK _ _ ?_
      exact ⟨_, _, _, _, _, _, _, _, rfl, (I0), (kp f0), (fun _ => rfl), (kp f2), (kp f3), (kp f4), (kp f5), (kp f6), (kp f7)⟩
    · obtain rfl := Option.some.inj ho
      have g1 := f1 (hd ⟨1, .data⟩ (by simp) rfl)
      subst g1
      refine wpOp_step rfl (fun K' hK => ?_)
      go_simp
      refine (usedSet_any _ _ _ _ ww (r0.up I0).cells (by omega)).mono ?_
      rw [HU.out]
      rintro e w' ⟨rfl, b5⟩
      refine hK _ _ ?_
      exact ⟨_, _, _, _, _, _, _, _, rfl, (I0.trans (b5.mono I0.size)), (kp f0), (kp f1), (fun _ => rfl), (kp f3), (kp f4), (kp f5), (fun h => (f6 (upd_ne h (by decide))).below b5 (Nat.le_refl _)), (fun h => (f7 (upd_ne h (by decide))).below b5 (Nat.le_refl _))⟩
    · obtain rfl := Option.some.inj ho
      have z0 : ww.cell? ⟨b, 0, none⟩ = some (.slice A n c) := (I0.cell (p := ⟨b, 0, none⟩) hbl).trans x0
      have z1 : ww.cell? ⟨b, 1, none⟩ = some (.slice R m d) := (I0.cell (p := ⟨b, 1, none⟩) hbl).trans x1
      refine wpOp_step rfl (fun K' hK => ?_)
      go_simp
      refine hK _ _ ?_
      exact ⟨_, _, _, _, _, _, _, _, rfl, (I0), (kp f0), (kp f1), (kp f2), (fun _ => rfl), (kp f4), (kp f5), (kp f6), (kp f7)⟩
    · obtain rfl := Option.some.inj ho
      have g3 := f3 (hd ⟨3, .data⟩ (by simp) rfl)
      subst g3
      refine wpOp_step rfl (fun K' hK => ?_)
      go_simp
      refine (reachedSet_any _ _ _ _ _ _ h ww (r0.up I0) HV.out).mono ?_
      rw [HRW.out]
      rintro e w' ⟨rfl, b5⟩
      refine hK _ _ ?_
      exact ⟨_, _, _, _, _, _, _, _, rfl, (I0.trans (b5.mono I0.size)), (kp f0), (kp f1), (kp f2), (kp f3), (fun _ => rfl), (kp f5), (fun h => (f6 (upd_ne h (by decide))).below b5 (Nat.le_refl _)), (fun h => (f7 (upd_ne h (by decide))).below b5 (Nat.le_refl _))⟩
    · obtain rfl := Option.some.inj ho
      have g2 := f2 (hd ⟨2, .data⟩ (by simp) rfl)
      have g4 := f4 (hd ⟨4, .data⟩ (by simp) rfl)
      subst g2
      subst g4
      have han := HAN.out
      refine wpOp_step rfl (fun K' hK => ?_)
      go_simp
      refine hK _ _ ?_
      exact ⟨_, _, _, _, _, _, _, _, rfl, (I0), (kp f0), (kp f1), (kp f2), (kp f3), (kp f4), (fun _ => rfl), (kp f6), (kp f7)⟩
    · obtain rfl := Option.some.inj ho
      have g5 := f5 (hd ⟨5, .data⟩ (by simp) rfl)
      subst g5
      refine wpOp_step rfl (fun K' hK => ?_)
      go_simp
      refine (numbers_any V ww (hT0.below I0) HLE).mono ?_
      rintro e w' ⟨v1, rfl, ow, b5⟩
      refine hK _ _ ?_
      exact ⟨_, _, _, _, _, _, _, _, rfl, (I0.trans (b5.mono I0.size)), (kp f0), (kp f1), (kp f2), (kp f3), (kp f4), (kp f5), (fun _ => ow.base I0.size), (fun h => (f7 (upd_ne h (by decide))).below b5 (Nat.le_refl _))⟩
    · obtain rfl := Option.some.inj ho
      have g6 := f6 (hd ⟨6, .data⟩ (by simp) rfl)
      have g6b := g6
      refine wpOp_step rfl (fun K' hK => ?_)
      go_simp
      refine hK _ _ ?_
      exact ⟨_, _, _, _, _, _, _, _, rfl, (I0), (kp f0), (kp f1), (kp f2), (kp f3), (kp f4), (kp f5), (kp f6), (fun _ => g6b)⟩
  case hdone =>
    rintro L ac ww hall ⟨t2, t6, t7, t8, t9, t10, t11, t12, rfl, I0, f0, f1, f2, f3, f4, f5, f6, f7⟩
    have e0 := f0 (hall 0 (by decide))
    have e1 := f1 (hall 1 (by decide))
    have e2 := f2 (hall 2 (by decide))
    have e3 := f3 (hall 3 (by decide))
    have e4 := f4 (hall 4 (by decide))
    have e5 := f5 (hall 5 (by decide))
    have e6 := f6 (hall 6 (by decide))
    have e7 := f7 (hall 7 (by decide))
    clear f0 f1 f2 f3 f4 f5 f6 f7
    have bbf := b0.trans (I0.mono b0.size)
    have hz := b0.size
    clear I0 e0 e1 e2 e3 e4 e5 e6 hall x0 x1 hw0 r0
    go_wp2_with fail
    go_ret
    exact ⟨_, rfl, by rw [HR.out]; exact e7.base hz, bbf⟩
end Go.Proofs.YtfgdenmlfloloaaDoor

namespace Go.Proofs.YtfgdenmlfloloaaDoor
open Go.RowKit
set_option maxRecDepth 100000
theorem leakH_small (h : Hp) (hz : h.cs.length ≤ 1048576) : (Hps.leakH h).length ≤ 1048576 := by
  unfold Hps.leakH
  split
  · rw [← Hps.leakTo_all]
    exact Nat.le_trans (Hps.leakTo_len h _) hz
  · exact Nat.zero_le _
theorem markKH_posC (h : Hp) : 0 ≤ markKH 1 h := by
  simp only [markKH, mkK]
  omega
set_option maxRecDepth 100000 in
set_option maxHeartbeats 4000000 in
theorem exactLeakedCells_walk (A R : Option Addr) (n c m d : Nat) (h : Hp) (w : World) (hs : HS w w.heap.size A n R m h) (hn : n ≤ 9223372036854775807) (hm : m ≤ 9223372036854775807) (hb : ∀ cl ∈ h.cs, cl.r.length ≤ 9223372036854775807) (hT : TzT w) :
    Calls Tryd.prog 8 #[heapV A n c R m d] w fun e w' => e = .returned (.bool true) ∧ Below w.heap.size w w' := by
  have b0 : Below w.heap.size w (w.alloc (.cells #[.slice A n c, .slice R m d] 55)) := (Below.refl _ _).alloc (Nat.le_refl _) _
  have s0 := hs.up b0
  have q0 := Rw.new w 55 #[.slice A n c, .slice R m d]
  have hlc := hs.cells.1
  have hlr := hs.roots.1
  go_enter Tryd.func8, Tryd.ntmps8
  go_wp2_with fail
  refine (szHeap_any _ _ _ _ _ _ h _ _ s0 (by omega) (by omega) hn hm hb).mono ?_
  rintro e w1 ⟨rfl, b1⟩
  replace q0 := q0.keep b1 q0.lt
  replace b0 := b0.trans (b1.mono b0.size)
  clear b1 s0
  by_cases hz : sizeH h ≤ 1048576
  case neg =>
    have HL : leftOf 1048576 (sizeH h) = -1 := by rw [leftOf, if_neg (by omega)]
    rw [HL]
    go_wp2_with fail
    go_ret
    exact ⟨rfl, b0⟩
  have HL : leftOf 1048576 (sizeH h) = 1048576 - (sizeH h : Int) := by rw [leftOf, if_pos (by omega)]
  rw [HL]
  obtain ⟨z1, z2, z3⟩ := small_size hz
  rw [hlc] at z1
  rw [hlr] at z2
  have Z3 := Lib.hid (fun cl (hcl : cl ∈ h.cs) => show cl.r.length ≤ 1099511627776 by have := z3 cl hcl; omega)
  obtain ⟨lz, hlz⟩ : ∃ lz : Int, (1048576 : Int) - (sizeH h : Int) = lz := ⟨_, rfl⟩
  have hlz0 : decide (lz < 0) = false := decide_eq_false (by omega)
  rw [hlz]
  have s1 := hs.up b0
  have x0 : w1.cell? ⟨w.heap.size, 0, none⟩ = some (.slice A n c) := q0.cell 0
  have x1 : w1.cell? ⟨w.heap.size, 1, none⟩ = some (.slice R m d) := q0.cell 1
  have ZL := Lib.hid (show h.cs.length ≤ 1048576 by rw [hlc]; exact z1)
  have HSZ := Lib.hid hz
  clear HL hlz hz z3 hb hlc hlr
  go_wp2_with fail
  refine (toHeap_any _ _ _ _ _ _ h _ s1 (by omega) (by omega) Z3.out).mono ?_
  rintro e w2 ⟨g1, g2, rfl, ⟨rvs, own⟩, b2⟩
  have r2 := own.reads
  have q2 := q0.keep b2 q0.lt
  have bb2 := b0.trans (b2.mono b0.size)
  clear own x0 x1 s1 b2
  go_wp2_with fail
  refine (mLeakedCells_any _ _ _ _ _ _ h _ r2 (by omega) (by omega)).mono ?_
  obtain ⟨xs, hxs⟩ : ∃ xs, Hps.leakH h = xs := ⟨_, rfl⟩
  have hxl : xs.length ≤ 1048576 := by rw [← hxs]; exact leakH_small h ZL.out
  rw [hxs]
  have HX := Lib.hid hxs
  clear hxs
  rintro e w3 ⟨v0, rfl, o0, b3⟩
  obtain ⟨A0, c0, rfl, -⟩ := o0.form
  have q3 := q2.keep b3 q2.lt
  have bb3 := bb2.trans (b3.mono bb2.size)
  have s3 := hs.up bb3
  have x0 : w3.cell? ⟨w.heap.size, 0, none⟩ = some (.slice A n c) := q3.cell 0
  have x1 : w3.cell? ⟨w.heap.size, 1, none⟩ = some (.slice R m d) := q3.cell 1
  clear r2 q2 b3 bb2 q0 b0
  go_wp2_with fail
  refine (toHeap_any _ _ _ _ _ _ h _ s3 (by omega) (by omega) Z3.out).mono ?_
  rintro e w4 ⟨g3, g4, rfl, ⟨rvs2, own⟩, b4⟩
  have bA : Below w4.heap.size w4 (w4.alloc (.cells #[.slice (some ⟨g3, 0, none⟩) n n, .slice (some ⟨g4, 0, none⟩) m m] 26)) := (Below.refl _ _).alloc (Nat.le_refl _) _
  have SX0 := Lib.hid (fun u (hu : u ∈ (Value.slice (some ⟨g3, 0, none⟩) n n) :: (Value.slice (some ⟨g4, 0, none⟩) m m) :: rvs2) => show (Value.slice A0 xs.length c0).ownBlock = none ∨ (Value.slice A0 xs.length c0).ownBlock ≠ u.ownBlock by
    cases e : (Value.slice A0 xs.length c0).ownBlock with
    | none => exact .inl rfl
    | some k =>
      right
      intro e'
      have h1 := (World.ownsRow.lt o0 k e).2
      have h2 := (own.blocks hu e'.symm).1
      omega)
  have SB := Lib.hid (fun u (hu : u ∈ (Value.slice (some ⟨g3, 0, none⟩) n n) :: (Value.slice (some ⟨g4, 0, none⟩) m m) :: rvs2) k (hk : u.ownBlock = some k) => own.blocks hu hk)
  have hw3 := bb3.size
  have hq3 := q3.lt
  have hw4 : w.heap.size < w4.heap.size := Nat.lt_of_lt_of_le hq3 b4.size
  have o5 := (o0.below b4 (Nat.le_refl _)).below bA (Nat.le_refl _)
  have own5 := own.below bA (Nat.le_refl _)
  have bx5 := Rw.new w4 26 #[.slice (some ⟨g3, 0, none⟩) n n, .slice (some ⟨g4, 0, none⟩) m m]
  have q5 := (q3.keep b4 q3.lt).alloc (.cells #[.slice (some ⟨g3, 0, none⟩) n n, .slice (some ⟨g4, 0, none⟩) m m] 26)
  have bb5 := (bb3.trans (b4.mono bb3.size)).trans (bA.mono (bb3.trans (b4.mono bb3.size)).size)
  have h45 : w4.heap.size ≤ (w4.alloc (.cells #[.slice (some ⟨g3, 0, none⟩) n n, .slice (some ⟨g4, 0, none⟩) m m] 26)).heap.size := by simp
  clear own x0 x1 s3 b4 q3 bb3 bA o0
  go_upto_region 7 with fail
  generalize w4.alloc (.cells #[.slice (some ⟨g3, 0, none⟩) n n, .slice (some ⟨g4, 0, none⟩) m m] 26) = w5 at o5 own5 bx5 q5 bb5 h45 ⊢
  have SBB := Lib.hid h45
  have SZ5 := Lib.hid hw4
  obtain ⟨b, hbe⟩ : ∃ b, w4.heap.size = b := ⟨_, rfl⟩
  rw [hbe] at bx5 ⊢
  clear h45 hbe
  have x0 : w5.cell? ⟨b, 0, none⟩ = some (.slice (some ⟨g3, 0, none⟩) n n) := bx5.cell 0
  have x1 : w5.cell? ⟨b, 1, none⟩ = some (.slice (some ⟨g4, 0, none⟩) m m) := bx5.cell 1
  have r5 := own5.reads
  go_wp2_with fail
  refine (leakedCells_any _ _ _ _ _ _ h _ (hT.below bb5) r5 (by omega) (by omega) (Nat.le_refl _) (Nat.le_refl _)).mono ?_
  rw [HX.out]
  rintro e w6 ⟨v1, rfl, o1, b6⟩
  obtain ⟨A1, c1, rfl, -⟩ := o1.form
  have SX1 := Lib.hid (fun u (hu : u ∈ (Value.slice (some ⟨g3, 0, none⟩) n n) :: (Value.slice (some ⟨g4, 0, none⟩) m m) :: rvs2) => show (Value.slice A1 xs.length c1).ownBlock = none ∨ (Value.slice A1 xs.length c1).ownBlock ≠ u.ownBlock by
    cases e : (Value.slice A1 xs.length c1).ownBlock with
    | none => exact .inl rfl
    | some k =>
      right
      intro e'
      have h1 := (World.ownsRow.lt o1 k e).1
      have h2 := (SB.out u hu k e'.symm).2
      have := SBB.out
      omega)
  have S01 := sep_ofI o5 o1 (Nat.le_refl _)
  have own6 := own5.below b6 (Nat.le_refl _)
  have o0 := o5.below b6 (Nat.le_refl _)
  have bx6 := bx5.keep b6 bx5.lt
  have q6 := q5.keep b6 q5.lt
  have bb6 := bb5.trans (b6.mono bb5.size)
  have h1b := Lib.hid (fun k (hk : (Value.slice A1 xs.length c1).ownBlock = some k) => show w.heap.size ≤ k by have := (World.ownsRow.lt o1 k hk).1; have := bb5.size; omega)
  clear r5 own5 bx5 q5 bb5 b6 x0 x1 o5
  go_wp2_with fail
  refine (eqIntS_any _ _ _ _ _ _ xs xs _ o1.reads o0.reads (by omega) (by omega)).mono ?_
  rw [decide_eq_true rfl]
  rintro e w7 ⟨rfl, b7⟩
  have own7 := own6.below b7 (Nat.le_refl _)
  have r6 := own7.reads
  replace o0 := o0.below b7 (Nat.le_refl _)
  replace o1 := o1.below b7 (Nat.le_refl _)
  have bx7 := bx6.keep b7 bx6.lt
  have q7 := q6.keep b7 q6.lt
  have bb7 := bb6.trans (b7.mono bb6.size)
  clear own6 bx6 q6 bb6 b7
  have hbl := bx7.lt
  have hql := q7.lt
  have x0 : w7.cell? ⟨b, 0, none⟩ = some (.slice (some ⟨g3, 0, none⟩) n n) := bx7.cell 0
  have x1 : w7.cell? ⟨b, 1, none⟩ = some (.slice (some ⟨g4, 0, none⟩) m m) := bx7.cell 1
  have y0 : w7.cell? ⟨w.heap.size, 0, none⟩ = some (.slice A n c) := q7.cell 0
  have y1 : w7.cell? ⟨w.heap.size, 1, none⟩ = some (.slice R m d) := q7.cell 1
  go_upto_region 10 with fail
  refine wp_region_inv (by kernel_rfl) (by kernel_rfl) (fun L ac ww => ∃ t27 t28 t29 t30 t31 : Value, ac = { tmps := #[heapV A n c R m d, Value.pointer (some { block := w.heap.size, off := 0 }), Value.bool false, Value.int IntKind.i64 lz, Value.slice A0 xs.length c0, Value.pointer (some { block := b, off := 0 }), Value.slice A1 xs.length c1, undef, undef, undef, undef, Value.agg #[Value.slice A n c, Value.slice R m d], Value.int IntKind.i64 1048576, Value.int IntKind.i64 lz, Value.int IntKind.i64 lz, Value.bool false, Value.agg #[Value.slice A n c, Value.slice R m d], heapV (some { block := g1, off := 0 }) n n (some { block := g2, off := 0 }) m m, Value.slice A0 xs.length c0, Value.agg #[Value.slice A n c, Value.slice R m d], heapV (some { block := g3, off := 0 }) n n (some { block := g4, off := 0 }) m m, Value.agg #[Value.slice (some { block := g3, off := 0 }) n n, Value.slice (some { block := g4, off := 0 }) m m], Value.slice A1 xs.length c1, Value.slice A1 xs.length c1, Value.slice A0 xs.length c0, Value.bool true, Value.bool false, t27, t28, t29, t30, t31, undef, undef, undef, undef, undef, undef, undef, undef, undef, undef, undef, undef, undef, undef, undef, undef, undef, undef, undef, undef, undef, undef, undef, undef, undef, undef, undef, undef, undef, undef, undef, undef, undef, undef, undef, undef, undef], defers := [] } ∧ (Below w7.heap.size w7 ww) ∧ (L 0 = true → t27 = .agg #[.slice (some ⟨g3, 0, none⟩) n n, .slice (some ⟨g4, 0, none⟩) m m]) ∧ (L 1 = true → t28 = .agg #[.slice A n c, .slice R m d]) ∧ (L 2 = true → ∃ u1 u2 : Nat, t29 = .agg #[.slice (some ⟨u1, 0, none⟩) n n, .slice (some ⟨u2, 0, none⟩) m m] ∧ HS ww ww.heap.size (some ⟨u1, 0, none⟩) n (some ⟨u2, 0, none⟩) m h) ∧ (L 3 = true → t30 = .bool true) ∧ (L 4 = true → t31 = .bool false)) ?h0 ?hstep ?hdone
  case h0 => exact ⟨_, _, _, _, _, rfl, (Below.refl _ _).drew, (fun h => absurd h Bool.false_ne_true), (fun h => absurd h Bool.false_ne_true), (fun h => absurd h Bool.false_ne_true), (fun h => absurd h Bool.false_ne_true), (fun h => absurd h Bool.false_ne_true)⟩
  case hstep =>
    rintro L ac ww i o ho hL hd ⟨t27, t28, t29, t30, t31, rfl, I0, f0, f1, f2, f3, f4⟩
    have hi : i < 5 := (Array.getElem?_eq_some_iff.1 ho).1
    obtain rfl | rfl | rfl | rfl | rfl : i = 0 ∨ i = 1 ∨ i = 2 ∨ i = 3 ∨ i = 4 := by omega
    · obtain rfl := Option.some.inj ho
      have y0 : ww.cell? ⟨b, 0, none⟩ = some (.slice (some ⟨g3, 0, none⟩) n n) := (I0.cell (p := ⟨b, 0, none⟩) hbl).trans x0
      have y1 : ww.cell? ⟨b, 1, none⟩ = some (.slice (some ⟨g4, 0, none⟩) m m) := (I0.cell (p := ⟨b, 1, none⟩) hbl).trans x1
      refine wpOp_step rfl (fun K' hK => ?_)
      go_simp
      refine hK _ _ ?_
      exact ⟨_, _, _, _, _, rfl, (I0), (fun _ => rfl), (kp f1), (kp f2), (kp f3), (kp f4)⟩
    · obtain rfl := Option.some.inj ho
      have z0 : ww.cell? ⟨w.heap.size, 0, none⟩ = some (.slice A n c) := (I0.cell (p := ⟨w.heap.size, 0, none⟩) hql).trans y0
      have z1 : ww.cell? ⟨w.heap.size, 1, none⟩ = some (.slice R m d) := (I0.cell (p := ⟨w.heap.size, 1, none⟩) hql).trans y1
      refine wpOp_step rfl (fun K' hK => ?_)
      go_simp
      refine hK _ _ ?_
      exact ⟨_, _, _, _, _, rfl, (I0), (kp f0), (fun _ => rfl), (kp f2), (kp f3), (kp f4)⟩
    · obtain rfl := Option.some.inj ho
      have g1 := f1 (hd ⟨1, .data⟩ (by simp) rfl)
      subst g1
      refine wpOp_step rfl (fun K' hK => ?_)
      go_simp
      refine (toHeap_any _ _ _ _ _ _ h ww (hs.up (bb7.trans (I0.mono bb7.size))) (by omega) (by omega) Z3.out).mono ?_
      rintro e w' ⟨u1, u2, rfl, ⟨rv, ow⟩, b5⟩
      have hr9 := ow.reads
      refine hK _ _ ?_
      exact ⟨_, _, _, _, _, rfl, (I0.trans (b5.mono I0.size)), (kp f0), (kp f1), (fun _ => ⟨u1, u2, rfl, hr9⟩), (kp f3), (kp f4)⟩
    · obtain rfl := Option.some.inj ho
      have g0 := f0 (hd ⟨0, .data⟩ (by simp) rfl)
      have g2 := f2 (hd ⟨2, .data⟩ (by simp) rfl)
      subst g0
      obtain ⟨u1, u2, rfl, hr9⟩ := g2
      refine wpOp_step rfl (fun K' hK => ?_)
      go_simp
      refine (eqHeap_any _ _ _ _ _ _ _ _ _ _ _ _ h h ww (r6.up I0) hr9 (by omega) (by omega) (by omega) (by omega) Z3.out Z3.out).mono ?_
      rw [decide_eq_true rfl]
      rintro e w' ⟨rfl, b5⟩
      refine hK _ _ ?_
      exact ⟨_, _, _, _, _, rfl, (I0.trans (b5.mono I0.size)), (kp f0), (kp f1), (fun _ => ⟨u1, u2, rfl, hr9.up b5⟩), (fun _ => rfl), (kp f4)⟩
    · obtain rfl := Option.some.inj ho
      have g3 := f3 (hd ⟨3, .data⟩ (by simp) rfl)
      subst g3
      refine wpOp_step rfl (fun K' hK => ?_)
      go_simp
      refine hK _ _ ?_
      exact ⟨_, _, _, _, _, rfl, (I0), (kp f0), (kp f1), (kp f2), (kp f3), (fun _ => rfl)⟩
  case hdone =>
    rintro L ac ww hall ⟨t27, t28, t29, t30, t31, rfl, I0, f0, f1, f2, f3, f4⟩
    have e0 := f0 (hall 0 (by decide))
    have e1 := f1 (hall 1 (by decide))
    have e2 := f2 (hall 2 (by decide))
    have e3 := f3 (hall 3 (by decide))
    have e4 := f4 (hall 4 (by decide))
    clear f0 f1 f2 f3 f4
    subst e3 e4
    clear e0 e1 e2
    have bb8 := bb7.trans (I0.mono bb7.size)
    replace o0 := o0.below I0 (Nat.le_refl _)
    replace o1 := o1.below I0 (Nat.le_refl _)
    have own8 := own7.below I0 (Nat.le_refl _)
    have bx8 := bx7.keep I0 bx7.lt
    have q8 := q7.keep I0 q7.lt
    have x0 : ww.cell? ⟨b, 0, none⟩ = some (.slice (some ⟨g3, 0, none⟩) n n) := bx8.cell 0
    have x1 : ww.cell? ⟨b, 1, none⟩ = some (.slice (some ⟨g4, 0, none⟩) m m) := bx8.cell 1
    clear I0 own7 bx7 q7 bb7 y0 y1 hbl r6
    go_wp2_with fail
    refine (markHeap_any _ _ rvs2 h _ _ _ own8 (by omega) (by omega) (by have := HSZ.out; omega)).mono ?_
    rintro e w9 ⟨rfl, m9, t9⟩
    clear m9
    have p0 := row_touched o0 t9 SX0.out
    have p1 := row_touched o1 t9 SX1.out
    have bb9 : Below w.heap.size w w9 := t9.below bb8 bb8.size (fun u hu k hk => by have := (SB.out u hu k hk).1; omega)
    have q9 := q8.touched t9 (fun u hu e => by have := (SB.out u hu _ e).1; omega)
    obtain ⟨kv, hkv⟩ : ∃ kv, markKH 1 h = kv := ⟨_, rfl⟩
    have hk0 : decide (kv < 0) = false := by rw [← hkv]; exact decide_eq_false (by have := markKH_posC h; omega)
    rw [hkv]
    have P0 : OwnI w9 w2.heap.size (.slice A0 xs.length c0) xs := p0
    have P1 : OwnI w9 w5.heap.size (.slice A1 xs.length c1) xs := p1
    clear hkv t9 own8 bx8 q8 bb8 o0 o1 p0 p1 x0 x1
    go_wp2_with fail
    refine (eqIntS_any _ _ _ _ _ _ xs xs _ P1.reads P0.reads (by omega) (by omega)).mono ?_
    rw [decide_eq_true rfl]
    rintro e w10 ⟨rfl, b10⟩
    replace P0 := P0.below b10 (Nat.le_refl _)
    replace P1 := P1.below b10 (Nat.le_refl _)
    have q10 := q9.keep b10 q9.lt
    have bb10 := bb9.trans (b10.mono bb9.size)
    clear b10 bb9 q9
    go_wp2_with fail
    refine (markIntS_any _ xs _ _ _ P1 (by omega) (by omega) (by omega)).mono ?_
    rintro e w11 ⟨rfl, m11, g11⟩
    replace P0 := P0.far g11 S01
    have bb11 : Below w.heap.size w w11 := bb10.grown g11 bb10.size h1b.out
    have q11 := q10.far g11 (fun e => by
      have h1 := (World.ownsRow.lt P1 _ e.symm).1
      have := SBB.out
      have := SZ5.out
      omega)
    have hq0 : decide ((1 : Int) + (xs.length : Int) < 0) = false := decide_eq_false (by omega)
    clear P1 g11 q10 bb10
    go_wp2_with fail
    refine (heldIntS_any _ _ _ _ _ m11.reads (by omega) (by omega) (by omega)).mono ?_
    rintro e w' ⟨rfl, rfl⟩
    have x0 : w11.cell? ⟨w.heap.size, 0, none⟩ = some (.slice A n c) := q11.cell 0
    have x1 : w11.cell? ⟨w.heap.size, 1, none⟩ = some (.slice R m d) := q11.cell 1
    go_wp2_with fail
    refine (toHeap_any _ _ _ _ _ _ h _ (hs.up bb11) (by omega) (by omega) Z3.out).mono ?_
    rintro e w12 ⟨g5, g6, rfl, ⟨rvs3, own⟩, b12⟩
    have bb12 := bb11.trans (b12.mono bb11.size)
    replace P0 := P0.below b12 (Nat.le_refl _)
    have m12 := m11.below b12 (Nat.le_refl _)
    have r12 := own.reads
    clear own m11 b12 x0 x1 q11 bb11
    go_wp2_with fail
    refine (leakedCells_any _ _ _ _ _ _ h _ (hT.below bb12) r12 (by omega) (by omega) (Nat.le_refl _) (Nat.le_refl _)).mono ?_
    rw [HX.out]
    rintro e w13 ⟨v2, rfl, o2, b13⟩
    obtain ⟨A2, c2, rfl, -⟩ := o2.form
    have bb13 := bb12.trans (b13.mono bb12.size)
    replace P0 := P0.below b13 (Nat.le_refl _)
    have m13 := m12.below b13 (Nat.le_refl _)
    clear r12 m12 b13 bb12
    go_wp2_with fail
    refine (eqIntS_any _ _ _ _ _ _ xs xs _ o2.reads P0.reads (by omega) (by omega)).mono ?_
    rw [decide_eq_true rfl]
    rintro e w14 ⟨rfl, b14⟩
    have bb14 := bb13.trans (b14.mono bb13.size)
    have m14 := m13.below b14 (Nat.le_refl _)
    clear m13 b14 bb13 o2 P0
    go_wp2_with fail
    refine (heldIntS_any _ _ _ _ _ m14.reads (by omega) (by omega) (by omega)).mono ?_
    rintro e w' ⟨rfl, rfl⟩
    go_wp2_with fail
    go_ret
    exact ⟨rfl, bb14⟩
end Go.Proofs.YtfgdenmlfloloaaDoor

namespace Go.Proofs.YtfgdenmlfloloaaDoor
open Go.ChangeShapes Go.WideShapes Go.ChangeAt Go.RowKit Go.Deep
section
variable {H : Type} {enc : TypeId × Value → H} {P : Program} {W : World}
/-- a slice of numbers -/
theorem nums_trod {t e : TypeId} {fuel : Nat} {v : Value} {x : DataW H × List MemPlace} (ht : P.underlying t = some (.slice e)) (he : P.underlying e = some (.int .i64)) (ce : P.cellsOf e = 1)
    (hf : DataW.trod enc P W 0 (fun _ => true) true fuel t [v] = some x) (hlt : ∀ y ∈ x.2, y.block < W.heap.size) :
    ∃ (A : Option Addr) (n c : Nat) (xs : List Int), v = .slice A n c ∧ n ≤ c ∧ n ≤ 9223372036854775807 ∧ IS W W.heap.size A n xs ∧ AllN xs := by
  rcases open_ints ht he ce hf with ⟨h0, _⟩ | ⟨a, len, cap, zs, hcs, hb, hl, hm, hz, hx, hi, hwf⟩
  · injection h0 with h0
    subst h0
    exact ⟨none, 0, 0, [], rfl, by omega, by omega, IS.none_ _ _ _, fun k v hv => by simp at hv⟩
  · injection hcs with hcs
    subst hcs
    simp only [if_true] at hz
    refine ⟨some a, len, cap, zs.take len, rfl, hl, by unfold maxLen at hm; omega, ⟨by rw [List.length_take]; omega, fun hn => ?_⟩, fun k v hv => i64_of_wf (hwf v (List.mem_of_mem_take (List.mem_of_getElem? hv)))⟩
    have h0 := hi 0 (by omega)
    simp [Addr.add] at h0
    have ha := addr_of_cell h0
    have hblt : a.block < W.heap.size := by
      apply hlt (.cell a.block a.off)
      rw [hx, hz, ha]
      simp [MemPlace.row]
      omega
    refine ⟨a.block, a.off, by rw [← ha], hblt, fun k y hk => ?_⟩
    have hkn := (List.getElem?_eq_some_iff.1 hk).1
    rw [List.length_take] at hkn
    rw [List.getElem?_take_of_lt (by omega)] at hk
    have hc := hi k (by omega)
    rw [ha, add_none, List.getD_eq_getElem?_getD, hk] at hc
    exact hc
/-- a slice of cells -/
theorem cells_trod {t e tb ti tr : TypeId} {f0 f1 f2 : Field} {fuel : Nat} {v : Value} {x : DataW H × List MemPlace} (ht : P.underlying t = some (.slice e)) (he : P.underlying e = some (.struct #[f0, f1, f2])) (ce : P.cellsOf e = 3)
    (t0 : f0.type = tb) (t1 : f1.type = ti) (t2 : f2.type = tr) (o0 : f0.offset = 0) (o1 : f1.offset = 1) (o2 : f2.offset = 2)
    (htb : P.underlying tb = some .bool) (hti : P.underlying ti = some (.int .i64)) (htr : P.underlying tr = some (.slice ti)) (cb : P.cellsOf tb = 1) (ci : P.cellsOf ti = 1) (cr : P.cellsOf tr = 1)
    (hf : DataW.trod enc P W 0 (fun _ => true) true fuel t [v] = some x) (hlt : ∀ y ∈ x.2, y.block < W.heap.size) :
    ∃ (A : Option Addr) (n c : Nat) (cs : List Cl), v = .slice A n c ∧ n ≤ c ∧ n ≤ 9223372036854775807 ∧ CS W W.heap.size A n cs ∧ ∀ cl ∈ cs, I64 cl.d ∧ AllN cl.r ∧ cl.r.length ≤ 9223372036854775807 := by
  rcases open_slice ht hf with ⟨h0, _⟩ | ⟨a, len, cap, m, n', D, Pl, hcs, hb, hl, hm, hmm, hx, hi⟩
  · injection h0 with h0
    subst h0
    exact ⟨none, 0, 0, [], rfl, by omega, by omega, CS.none_ _ _ _, fun cl hcl => by simp at hcl⟩
  · injection hcs with hcs
    subst hcs
    simp only [if_true] at hmm
    subst hmm
    have each : ∀ i, i < len → ∃ q : Cl × Option Addr × Nat × Nat, I64 q.1.d ∧ AllN q.1.r ∧ q.2.2.1 ≤ 9223372036854775807 ∧ W.cell? (a.add (i * 3)) = some (.bool q.1.u) ∧ W.cell? (a.add (i * 3 + 1)) = some (.int .i64 q.1.d) ∧ W.cell? (a.add (i * 3 + 2)) = some (.slice q.2.1 q.2.2.1 q.2.2.2) ∧ q.2.2.1 ≤ q.2.2.2 ∧ IS W W.heap.size q.2.1 q.2.2.1 q.1.r := by
      intro i hin
      obtain ⟨cs', h1, h2⟩ := hi i (by omega)
      rw [ce] at h1
      obtain ⟨_, hlen, hcell⟩ := World.cells?_some h1
      obtain ⟨ys, k, _, hys, _, hyl, hfd⟩ := DataW.trod_struct he h2
      match cs', hlen with
      | [v0, v1, v2], _ =>
        have g0 := hfd 0 f0 rfl
        have g1 := hfd 1 f1 rfl
        have g2 := hfd 2 f2 rfl
        rw [t0, o0, cb] at g0
        rw [t1, o1, ci] at g1
        rw [t2, o2, cr] at g2
        rw [List.getElem?_eq_getElem (by rw [hyl]; simp)] at g0 g1 g2
        obtain ⟨u, e0, _⟩ := DataW.trod_bool htb g0
        obtain ⟨n1, e1, _, w1⟩ := DataW.trod_int hti g1
        simp at e0 e1
        subst e0 e1
        have hlt2 : ∀ y ∈ (ys[2]'(by rw [hyl]; simp)).2, y.block < W.heap.size := fun y hy => by
          apply hlt
          rw [hx]
          apply List.mem_append_right
          rw [List.mem_flatMap]
          refine ⟨i, by simp; omega, ?_⟩
          have := congrArg Prod.snd hys
          simp only [] at this
          rw [this, List.mem_flatMap]
          exact ⟨_, List.getElem_mem _, hy⟩
        obtain ⟨A2, n2, c2, xs2, e2, hnc, hn2, hi2, ha2⟩ := nums_trod htr hti ci g2 hlt2
        subst e2
        have q0 := hcell 0 (by omega)
        have q1 := hcell 1 (by omega)
        have q2 := hcell 2 (by omega)
        rw [add_add] at q0 q1 q2
        exact ⟨(⟨u, n1, xs2⟩, A2, n2, c2), i64_of_wf w1, ha2, hn2, by simpa using q0, by simpa using q1, by simpa using q2, hnc, hi2⟩
    obtain ⟨F, hF⟩ := choose_lt each
    refine ⟨some a, len, _, (List.range len).map fun i => (F i).1, rfl, hl, by unfold maxLen at hm; omega, ⟨by simp, fun hn => ?_⟩, fun cl hcl => ?_⟩
    · have h0 := (hF 0 hn).2.2.2.1
      simp [Addr.add] at h0
      have ha := addr_of_cell h0
      have hblt : a.block < W.heap.size := by
        apply hlt (.cell a.block a.off)
        rw [hx, ce]
        apply List.mem_append_left
        rw [ha]
        simp [MemPlace.row]
        omega
      refine ⟨a.block, a.off, by rw [← ha], hblt, fun k c hk => ?_⟩
      have hkn : k < len := by
        have := (List.getElem?_eq_some_iff.1 hk).1
        simpa using this
      simp only [List.getElem?_map] at hk
      rw [List.getElem?_range hkn] at hk
      simp at hk
      subst hk
      obtain ⟨_, _, _, q1, q2, q3, q4, q5⟩ := hF k hkn
      rw [ha, add_none] at q1 q2 q3
      exact ⟨q1, by rw [Nat.add_assoc]; exact q2, _, _, _, by rw [Nat.add_assoc]; exact q3, q4, q5⟩
    · obtain ⟨i, hi', rfl⟩ := List.mem_map.1 hcl
      obtain ⟨q1, q2, q3, _, _, _, _, q5⟩ := hF i (by simpa using hi')
      exact ⟨q1, q2, by rw [q5.1]; exact q3⟩
/-- a heap -/
theorem open_heap {t tc tn e tb ti : TypeId} {h0 h1 f0 f1 f2 : Field} {r : Reach} {b0 : Nat} {v : Value} {d : DataW H} {ps : List MemPlace}
    (hh : P.underlying t = some (.struct #[h0, h1])) (ch : P.cellsOf t = 2) (s0 : h0.type = tc) (s1 : h1.type = tn) (p0 : h0.offset = 0) (p1 : h1.offset = 1) (ctc : P.cellsOf tc = 1) (ctn : P.cellsOf tn = 1)
    (htc : P.underlying tc = some (.slice e)) (htn : P.underlying tn = some (.slice ti)) (he : P.underlying e = some (.struct #[f0, f1, f2])) (ce : P.cellsOf e = 3)
    (t0 : f0.type = tb) (t1 : f1.type = ti) (t2 : f2.type = tn) (o0 : f0.offset = 0) (o1 : f1.offset = 1) (o2 : f2.offset = 2)
    (htb : P.underlying tb = some .bool) (hti : P.underlying ti = some (.int .i64)) (cb : P.cellsOf tb = 1) (ci : P.cellsOf ti = 1)
    (hval : Value.okWide P W r b0 t v) (h : DataW.Trod enc P W 0 (fun _ => true) true t v d ps) (hlt : ∀ x ∈ ps, x.block < W.heap.size) :
    ∃ (A R : Option Addr) (n c m dd : Nat) (hp : Hp), v = .agg #[.slice A n c, .slice R m dd] ∧ n ≤ 9223372036854775807 ∧ m ≤ 9223372036854775807 ∧ HS W W.heap.size A n R m hp ∧ AllN hp.rt ∧ ∀ cl ∈ hp.cs, I64 cl.d ∧ AllN cl.r ∧ cl.r.length ≤ 9223372036854775807 := by
  obtain ⟨cs, rfl, hsz⟩ := okWide_struct hh hval
  rw [ch] at hsz
  obtain ⟨fuel, hf⟩ := h
  obtain ⟨ys, k, _, hys, _, hyl, hfd⟩ := DataW.trod_struct hh hf
  obtain ⟨l⟩ := cs
  match l, hsz with
  | [v0, v1], _ =>
    have g0 := hfd 0 h0 rfl
    have g1 := hfd 1 h1 rfl
    rw [s0, p0, ctc] at g0
    rw [s1, p1, ctn] at g1
    rw [List.getElem?_eq_getElem (by rw [hyl]; simp)] at g0 g1
    simp [Value.cells] at g0 g1
    have hpl : ∀ (i : Nat) (hi : i < ys.length), ∀ y ∈ (ys[i]).2, y.block < W.heap.size := fun i hi y hy => by
      apply hlt
      have := congrArg Prod.snd hys
      simp only [] at this
      rw [this, List.mem_flatMap]
      exact ⟨_, List.getElem_mem _, hy⟩
    obtain ⟨A, n, c, cs, e0, _, hn, hC, ha⟩ := cells_trod htc he ce t0 t1 t2 o0 o1 o2 htb hti htn cb ci ctn g0 (hpl 0 _)
    obtain ⟨R, m, dd, xs, e1, _, hm, hI, hx⟩ := nums_trod htn hti ci g1 (hpl 1 _)
    subst e0 e1
    exact ⟨A, R, n, c, m, dd, ⟨cs, xs⟩, rfl, hn, hm, ⟨hC, hI⟩, hx, ha⟩
end
end Go.Proofs.YtfgdenmlfloloaaDoor

namespace Go.Proofs.YtfgdenmlfloloaaDoor
open Go.ChangeShapes Go.WideShapes Go.ChangeAt Go.RowKit Go.Deep
set_option maxRecDepth 100000
theorem open_lawsHeap {H : Type} {enc : TypeId × Value → H} {W : World} {r : Reach} {base : Nat} {v : Value} {d : DataW H} {ps : List MemPlace} (hval : Value.okWide Tryd.prog W r base 55 v) (h : DataW.Trod enc Tryd.prog W 0 (fun _ => true) true 55 v d ps) (hlt : ∀ x ∈ ps, x.block < W.heap.size) :
    ∃ (A R : Option Addr) (n c m dd : Nat) (hp : Hp), v = .agg #[.slice A n c, .slice R m dd] ∧ n ≤ 9223372036854775807 ∧ m ≤ 9223372036854775807 ∧ HS W W.heap.size A n R m hp ∧ AllN hp.rt ∧ ∀ cl ∈ hp.cs, I64 cl.d ∧ AllN cl.r ∧ cl.r.length ≤ 9223372036854775807 :=
  open_heap (tc := 53) (tn := 24) (e := 148) (tb := 4) (ti := 3) Tryd.underlying55 (by kernel_rfl) rfl rfl rfl rfl (by kernel_rfl) (by kernel_rfl) Tryd.underlying53 Tryd.underlying24 Tryd.underlying148 (by kernel_rfl) rfl rfl rfl rfl rfl rfl Tryd.underlying4 Tryd.underlying3 (by kernel_rfl) (by kernel_rfl) hval h hlt
end Go.Proofs.YtfgdenmlfloloaaDoor

namespace Go.Proofs.YtfgdenmlfloloaaDoor
open Go.ChangeShapes Go.WideShapes Go.ChangeAt Go.RowKit Go.Deep
theorem var_ltU {P : Program} {W : World} {n : String} {g : Nat} {cs : Array Value} (hg : P.globalNamed n = some g) (h : W.var? P n = some cs) : g < W.heap.size := by
  unfold World.var? at h
  simp only [hg, Option.bind_some] at h
  split at h
  · next h2 => exact (Array.getElem?_eq_some_iff.1 h2).1
  · cases h
theorem gTz : Tryd.prog.globalNamed "math/bits.deBruijn64tab" = some 0 := by kernel_rfl
theorem tab_cast : ∀ i : Nat, i < 64 → ([0, 1, 56, 2, 57, 49, 28, 3, 61, 58, 42, 50, 38, 29, 17, 4, 62, 47, 59, 36, 45, 43, 51, 22, 53, 39, 33, 30, 24, 18, 12, 5, 63, 55, 48, 27, 60, 41, 37, 16, 46, 35, 44, 21, 52, 32, 23, 11, 54, 26, 40, 15, 34, 20, 31, 10, 25, 14, 19, 9, 13, 8, 7, 6] : List Int).getD i 0 = (Lib.deBruijn64tab.getD i 0 : Nat) := by decide +kernel
theorem tzT_of_laid {W : World} (h : laidMetH Tryd.prog [("math/bits.deBruijn64tab", Rows.laid_math_bits_deBruijn64tab)] W) : TzT W := by
  rw [MakeChecks.laidMetH_plain _ _ _ (by kernel_rfl)] at h
  have hT : Lib.TabIs Tryd.prog W "math/bits.deBruijn64tab" .u8 [0, 1, 56, 2, 57, 49, 28, 3, 61, 58, 42, 50, 38, 29, 17, 4, 62, 47, 59, 36, 45, 43, 51, 22, 53, 39, 33, 30, 24, 18, 12, 5, 63, 55, 48, 27, 60, 41, 37, 16, 46, 35, 44, 21, 52, 32, 23, 11, 54, 26, 40, 15, 34, 20, 31, 10, 25, 14, 19, 9, 13, 8, 7, 6] :=
    Lib.tabIs_of_head (k := .u8) (zs := [0, 1, 56, 2, 57, 49, 28, 3, 61, 58, 42, 50, 38, 29, 17, 4, 62, 47, 59, 36, 45, 43, 51, 22, 53, 39, 33, 30, 24, 18, 12, 5, 63, 55, 48, 27, 60, 41, 37, 16, 46, 35, 44, 21, 52, 32, 23, 11, 54, 26, 40, 15, 34, 20, 31, 10, 25, 14, 19, 9, 13, 8, 7, 6]) (rest := []) (n := 64) (t := 156) (e := 5) gTz (by kernel_rfl) Tryd.underlying156 Tryd.underlying5 (by kernel_rfl) (by kernel_rfl) h
  exact ⟨var_ltU gTz hT, fun i hi => by
    rw [← tab_cast i hi]
    exact hT.cell gTz i (by simpa using hi)⟩
/-- the door's own heap meets the condition -/
theorem door_tz (os : Os) (args : Array Value) : laidMetH Tryd.prog [("math/bits.deBruijn64tab", Rows.laid_math_bits_deBruijn64tab)] ((World.doorLaid Tryd.prog 14 os).forCall (fun _ _ => 0) ⟨#[], args, []⟩).memory :=
  laidMetH_of_parts3 (fuel := 8) (laidMet_of_run' 8 (by kernel_rfl) (by kernel_rfl)) (by kernel_rfl) (by kernel_rfl)
end Go.Proofs.YtfgdenmlfloloaaDoor

