/- Orders and views of heaps in plain mathematics. No program, no conditions. Two heaps of which a program sees the same, in plain mathematics: they go on equally. No program, no conditions. The heap of a view, in plain mathematics: a list of numbers read as cells. No program, no conditions. What the model's l9Order, MetOrder and l9Name return: for every heap, and for every list of numbers. No conditions. What the model's ViewOf and SameView return: for all heaps. No conditions. -/
import Derived.Test.YtakdjiojahlnmaaGc
import Derived.Test.YtakdjiojahlnmaaHg
import Derived.Test.YtakdjiojahlnmaaHc
import Derived.Test.YtakdjiojahlnmaaHe
import Derived.Test.YtakdjiojahlnmaaKz
import Derived.Test.YtakdjiojahlnmaaHj
import Derived.BigRegion
import Derived.Deep.Cut
namespace Go.Proofs.Ytakdjiojahlnmaa
namespace Hps

/-- the numbers ns are met, in order: those that are none, or are there, are passed over -/
def meet1 (l : List Int) (n : Int) : List Int := if 0 ≤ n ∧ n ∉ l then l ++ [n] else l
def meet (l : List Int) (ns : List Int) : List Int := ns.foldl meet1 l
theorem meet_nil (l : List Int) : meet l [] = l := rfl
theorem meet_cons (l : List Int) (n : Int) (ns : List Int) : meet l (n :: ns) = meet (meet1 l n) ns := rfl
theorem meet_snoc (l : List Int) (ns : List Int) (n : Int) : meet l (ns ++ [n]) = meet1 (meet l ns) n := by simp [meet, List.foldl_append]
theorem meet1_prefix (l : List Int) (n : Int) : l <+: meet1 l n := by
  unfold meet1
  split
  · exact List.prefix_append _ _
  · exact List.prefix_refl _
theorem meet_prefix (ns : List Int) : ∀ l : List Int, l <+: meet l ns := by
  induction ns with
  | nil => intro l; exact List.prefix_refl _
  | cons n ns ih => intro l; rw [meet_cons]; exact (meet1_prefix l n).trans (ih _)
theorem mem_meet1 {l : List Int} {n m : Int} : m ∈ meet1 l n ↔ m ∈ l ∨ (0 ≤ n ∧ m = n) := by
  unfold meet1
  split
  · next h => simp; constructor
              · rintro (h1 | rfl)
                · exact .inl h1
                · exact .inr ⟨h.1, rfl⟩
              · rintro (h1 | ⟨_, h1⟩)
                · exact .inl h1
                · exact .inr h1
  · next h =>
    constructor
    · exact .inl
    · rintro (h1 | ⟨h0, rfl⟩)
      · exact h1
      · by_cases hm : m ∈ l
        · exact hm
        · exact absurd ⟨h0, hm⟩ h
theorem mem_meet {m : Int} (ns : List Int) : ∀ {l : List Int}, m ∈ meet l ns ↔ m ∈ l ∨ (0 ≤ m ∧ m ∈ ns) := by
  induction ns with
  | nil => intro l; simp [meet]
  | cons n ns ih =>
    intro l
    rw [meet_cons, ih, mem_meet1]
    constructor
    · rintro ((h | ⟨h0, rfl⟩) | ⟨h0, h⟩)
      · exact .inl h
      · exact .inr ⟨h0, by simp⟩
      · exact .inr ⟨h0, by simp [h]⟩
    · rintro (h | ⟨h0, h⟩)
      · exact .inl (.inl h)
      · rcases List.mem_cons.1 h with rfl | h
        · exact .inl (.inr ⟨h0, rfl⟩)
        · exact .inr ⟨h0, h⟩
theorem meet1_nodup {l : List Int} (h : l.Nodup) (n : Int) : (meet1 l n).Nodup := by
  unfold meet1
  split
  · next hn =>
    rw [List.nodup_append]
    refine ⟨h, by simp, fun a ha b hb => ?_⟩
    rw [List.mem_singleton] at hb
    rintro rfl
    exact hn.2 (hb ▸ ha)
  · exact h
theorem meet_nodup (ns : List Int) : ∀ {l : List Int}, l.Nodup → (meet l ns).Nodup := by
  induction ns with
  | nil => intro l h; exact h
  | cons n ns ih => intro l h; exact ih (meet1_nodup h n)

/-- the references of the cell with a number -/
def refsAt (cs : List Cl) (n : Int) : List Int := match cs[n.toNat]? with
  | some c => c.r
  | none => []
/-- the list from its place k on is worked off -/
def bfs (cs : List Cl) : Nat → Nat → List Int → List Int
  | 0, _, l => l
  | f + 1, k, l => match l[k]? with
    | none => l
    | some n => bfs cs f (k + 1) (meet l (refsAt cs n))
def orderL (cs : List Cl) (rt : List Int) : List Int := bfs cs (cs.length + 1) 0 (meet [] rt)
def orderH (h : Hp) : List Int := if validH h = true then orderL h.cs h.rt else []

/-- all that is on the list are numbers of cells -/
def InB (cs : List Cl) (l : List Int) : Prop := ∀ n ∈ l, ∃ k : Nat, n = k ∧ k < cs.length
theorem few_numbers : ∀ (n : Nat) (l : List Int), l.Nodup → (∀ x ∈ l, ∃ k : Nat, x = k ∧ k < n) → l.length ≤ n
  | 0, l, _, h => by
    cases l with
    | nil => exact Nat.le_refl _
    | cons x l =>
      obtain ⟨k, _, hk⟩ := h x (by simp)
      omega
  | n + 1, l, hd, h => by
    have h1 := few_numbers n (l.erase (n : Int)) (hd.erase _) (fun x hx => by
      rw [hd.mem_erase_iff] at hx
      obtain ⟨k, e, hk⟩ := h x hx.2
      exact ⟨k, e, by have := hx.1; omega⟩)
    by_cases hm : (n : Int) ∈ l
    · rw [List.length_erase_of_mem hm] at h1
      omega
    · rw [List.erase_of_not_mem hm] at h1
      omega
theorem InB.le {cs : List Cl} {l : List Int} (h : InB cs l) (hd : l.Nodup) : l.length ≤ cs.length := few_numbers _ l hd h
/-- a prefix's element is the list's -/
theorem prefix_at {l l' : List Int} (h : l <+: l') {i : Nat} {x : Int} (hx : l[i]? = some x) : l'[i]? = some x := by
  obtain ⟨h1, h2⟩ := List.getElem?_eq_some_iff.1 hx
  rw [List.prefix_iff_getElem?.1 h i h1, h2]
theorem prefix_back {l l' : List Int} (h : l <+: l') {i : Nat} {x : Int} (hi : i < l.length) (hx : l'[i]? = some x) : l[i]? = some x := by
  have := List.prefix_iff_getElem?.1 h i hi
  rw [this] at hx
  rw [List.getElem?_eq_getElem hi]
  exact hx
theorem InB.meet {cs : List Cl} {l ns : List Int} (h : InB cs l) (hn : okRefs cs ns = true) : InB cs (meet l ns) := by
  intro m hm
  rcases (mem_meet ns).1 hm with h1 | ⟨h0, h1⟩
  · exact h m h1
  · obtain ⟨k, e, hk, _⟩ := okRef_nat (okRefs_iff.1 hn m h1) h0
    exact ⟨k, e, hk⟩
theorem refsAt_ok {cs : List Cl} (hc : ∀ c ∈ cs, okRefs cs c.r = true) (n : Int) : okRefs cs (refsAt cs n) = true := by
  unfold refsAt
  cases e : cs[n.toNat]? with
  | none => simp [okRefs]
  | some c => exact hc c (List.mem_of_getElem? e)
/-- what holds while the list is worked off -/
structure Bf (cs : List Cl) (rt : List Int) (k : Nat) (l : List Int) : Prop where
  nodup : l.Nodup
  inb : InB cs l
  rch : ∀ n ∈ l, Rch cs rt n.toNat
  roots : ∀ n ∈ rt, 0 ≤ n → n ∈ l
  done : ∀ (i : Nat) (n : Int), i < k → l[i]? = some n → ∀ m ∈ refsAt cs n, 0 ≤ m → m ∈ l
theorem Bf.start {cs : List Cl} {rt : List Int} (hr : okRefs cs rt = true) : Bf cs rt 0 (meet [] rt) := by
  refine ⟨meet_nodup rt (by simp), InB.meet (fun n hn => by simp at hn) hr, fun n hn => ?_, fun n hn h0 => (mem_meet rt).2 (.inr ⟨h0, hn⟩), fun i n hi => by omega⟩
  rcases (mem_meet rt).1 hn with h1 | ⟨h0, h1⟩
  · simp at h1
  · exact .root (by rwa [Int.toNat_of_nonneg h0])
theorem Bf.next {cs : List Cl} {rt : List Int} {k : Nat} {l : List Int} (h : Bf cs rt k l) (hc : ∀ c ∈ cs, okRefs cs c.r = true) {n : Int} (hn : l[k]? = some n) : Bf cs rt (k + 1) (meet l (refsAt cs n)) := by
  have hp := meet_prefix (refsAt cs n) l
  have hlk := (List.getElem?_eq_some_iff.1 hn).1
  refine ⟨meet_nodup _ h.nodup, h.inb.meet (refsAt_ok hc n), fun m hm => ?_, fun m hm h0 => hp.subset (h.roots m hm h0), fun i m hi hm x hx h0 => ?_⟩
  · rcases (mem_meet _).1 hm with h1 | ⟨h0, h1⟩
    · exact h.rch m h1
    · unfold refsAt at h1
      cases e : cs[n.toNat]? with
      | none => rw [e] at h1; simp at h1
      | some c =>
        rw [e] at h1
        exact .step (h.rch n (List.mem_of_getElem? hn)) e (by rwa [Int.toNat_of_nonneg h0])
  · rcases Nat.lt_or_ge i k with h1 | h1
    · have hm' : l[i]? = some m := prefix_back hp (by omega) hm
      exact hp.subset (h.done i m h1 hm' x hx h0)
    · have hik : i = k := by omega
      subst hik
      have hm' : l[i]? = some m := prefix_back hp hlk hm
      rw [hn] at hm'
      obtain rfl := Option.some.inj hm'
      exact (mem_meet _).2 (.inr ⟨h0, hx⟩)
theorem bfs_fin {cs : List Cl} {rt : List Int} (hc : ∀ c ∈ cs, okRefs cs c.r = true) : ∀ (f k : Nat) (l : List Int), Bf cs rt k l → k ≤ l.length → cs.length + 1 ≤ f + k → ∃ k', Bf cs rt k' (bfs cs f k l) ∧ k' = (bfs cs f k l).length
  | 0, k, l, h, hk, hf => by
    have := h.inb.le h.nodup
    omega
  | f + 1, k, l, h, hk, hf => by
    unfold bfs
    cases e : l[k]? with
    | none =>
      have : l.length ≤ k := by simpa using e
      exact ⟨k, h, by simp; omega⟩
    | some n =>
      have hlk := (List.getElem?_eq_some_iff.1 e).1
      have hp := (meet_prefix (refsAt cs n) l).length_le
      exact bfs_fin hc f (k + 1) _ (h.next hc e) (by omega) (by omega)
theorem orderL_fin {cs : List Cl} {rt : List Int} (hc : ∀ c ∈ cs, okRefs cs c.r = true) (hr : okRefs cs rt = true) : Bf cs rt (orderL cs rt).length (orderL cs rt) := by
  obtain ⟨k, h, e⟩ := bfs_fin hc (cs.length + 1) 0 (meet [] rt) (.start hr) (Nat.zero_le _) (by omega)
  rw [← orderL] at h e
  rw [← e]
  exact h
theorem order_valid {h : Hp} (hv : validH h = true) : orderH h = orderL h.cs h.rt := by rw [orderH, if_pos hv]
theorem orderH_fin {h : Hp} (hv : validH h = true) : Bf h.cs h.rt (orderH h).length (orderH h) := by
  rw [order_valid hv]
  exact orderL_fin (valid_refs hv) (valid_iff.1 hv).2.2.2
theorem order_nodup (h : Hp) : (orderH h).Nodup := by
  cases hv : validH h
  · rw [orderH, if_neg (by rw [hv]; decide)]
    simp
  · exact (orderH_fin hv).nodup
theorem mem_order {h : Hp} (hv : validH h = true) {k : Nat} : (k : Int) ∈ orderH h ↔ Rch h.cs h.rt k := by
  have B := orderH_fin hv
  constructor
  · intro hk
    exact B.rch _ hk
  · intro hr
    refine Rch.inside (S := fun k : Nat => (k : Int) ∈ orderH h) (fun k hk => B.roots _ hk (by omega)) (fun k m c hk hc hm => ?_) hr
    obtain ⟨i, hi⟩ := List.mem_iff_getElem?.1 hk
    exact B.done i _ (List.getElem?_eq_some_iff.1 hi).1 hi m (by unfold refsAt; rw [Int.toNat_natCast, hc]; exact hm) (by omega)
theorem order_nat {h : Hp} {n : Int} (hn : n ∈ orderH h) : ∃ k : Nat, n = k ∧ k < h.cs.length := by
  cases hv : validH h
  · rw [orderH, if_neg (by rw [hv]; decide)] at hn
    simp at hn
  · exact (orderH_fin hv).inb n hn
theorem order_len (h : Hp) : (orderH h).length ≤ h.cs.length := InB.le (fun _ hn => order_nat hn) (order_nodup h)

/-- the place of a number on a list, or -1 -/
def nameL (l : List Int) (n : Int) : Int := if n ∈ l then (l.idxOf n : Int) else -1
theorem nameL_at {l : List Int} {n : Int} {i : Nat} (hd : l.Nodup) (h : l[i]? = some n) : nameL l n = i := by
  obtain ⟨h1, h2⟩ := List.getElem?_eq_some_iff.1 h
  rw [nameL, if_pos (List.mem_of_getElem? h), ← h2, hd.idxOf_getElem i h1]
theorem nameL_none {l : List Int} {n : Int} (h : n ∉ l) : nameL l n = -1 := by rw [nameL, if_neg h]
theorem nameL_lo (l : List Int) (n : Int) : -1 ≤ nameL l n := by
  unfold nameL
  split <;> omega
theorem nameL_neg {l : List Int} {n : Int} (h : nameL l n = -1) : n ∉ l := by
  intro hm
  rw [nameL, if_pos hm] at h
  omega
theorem nameL_get {l : List Int} {n : Int} {i : Nat} (h : nameL l n = i) : l[i]? = some n := by
  by_cases hm : n ∈ l
  · rw [nameL, if_pos hm] at h
    have e : l.idxOf n = i := by omega
    have hlt := List.idxOf_lt_length_of_mem hm
    rw [List.getElem?_eq_some_iff]
    refine ⟨by omega, ?_⟩
    subst e
    exact List.getElem_idxOf hlt
  · rw [nameL_none hm] at h
    omega
/-- what is seen of one cell -/
def cellV (l : List Int) (c : Cl) : List Int := c.d :: (c.r.length : Int) :: c.r.map (nameL l)
def cellAt (cs : List Cl) (n : Int) : Cl := (cs[n.toNat]?).getD ⟨false, 0, []⟩
def viewH (h : Hp) : List Int := if validH h = true then h.rt.map (nameL (orderH h)) ++ ((orderH h).map fun n => cellV (orderH h) (cellAt h.cs n)).flatten else []
theorem view_valid {h : Hp} (hv : validH h = true) : viewH h = h.rt.map (nameL (orderH h)) ++ ((orderH h).map fun n => cellV (orderH h) (cellAt h.cs n)).flatten := by rw [viewH, if_pos hv]
theorem view_not {h : Hp} (hv : validH h = false) : viewH h = [] := by rw [viewH, if_neg (by rw [hv]; decide)]
theorem view_len {h : Hp} (hv : validH h = true) : 4 ≤ (viewH h).length := by
  rw [view_valid hv, List.length_append, List.length_map, (valid_iff.1 hv).2.2.1]
  omega
theorem view_nil {h : Hp} : viewH h = [] ↔ validH h = false := by
  constructor
  · intro e
    cases hv : validH h
    · rfl
    · have := view_len hv
      rw [e] at this
      simp at this
  · exact view_not
def sameV (a b : Hp) : Bool := validH a && decide (viewH a = viewH b)
theorem sameV_iff {a b : Hp} : sameV a b = true ↔ validH a = true ∧ validH b = true ∧ viewH a = viewH b := by
  unfold sameV
  rw [Bool.and_eq_true, decide_eq_true_eq]
  constructor
  · rintro ⟨h1, h2⟩
    refine ⟨h1, ?_, h2⟩
    cases hv : validH b
    · rw [view_not hv, view_nil] at h2
      rw [h1] at h2
      cases h2
    · rfl
  · rintro ⟨h1, _, h2⟩
    exact ⟨h1, h2⟩
theorem sameV_comm (a b : Hp) : sameV a b = sameV b a := by
  rw [Bool.eq_iff_iff, sameV_iff, sameV_iff]
  constructor <;> (rintro ⟨h1, h2, h3⟩; exact ⟨h2, h1, h3.symm⟩)
end Hps
end Go.Proofs.Ytakdjiojahlnmaa

namespace Go.Proofs.Ytakdjiojahlnmaa
namespace Hps

/-- references that are related: none of both, or related cells -/
def RR (R : Nat → Nat → Prop) (n m : Int) : Prop := (n = -1 ∧ m = -1) ∨ ∃ k x : Nat, n = k ∧ m = x ∧ R k x
theorem RR.mono {R R' : Nat → Nat → Prop} (h : ∀ k x, R k x → R' k x) {n m : Int} (hr : RR R n m) : RR R' n m := by
  rcases hr with h1 | ⟨k, x, e1, e2, h1⟩
  · exact .inl h1
  · exact .inr ⟨k, x, e1, e2, h _ _ h1⟩
/-- lists of related references -/
def LR (R : Nat → Nat → Prop) (la lb : List Int) : Prop := la.length = lb.length ∧ ∀ (i : Nat) (n m : Int), la[i]? = some n → lb[i]? = some m → RR R n m
theorem LR.nil (R : Nat → Nat → Prop) : LR R [] [] := ⟨rfl, fun i n m h => by simp at h⟩
theorem LR.mono {R R' : Nat → Nat → Prop} (h : ∀ k x, R k x → R' k x) {la lb : List Int} (hr : LR R la lb) : LR R' la lb := ⟨hr.1, fun i n m h1 h2 => (hr.2 i n m h1 h2).mono h⟩
theorem LR.set {R : Nat → Nat → Prop} {la lb : List Int} (h : LR R la lb) (i : Nat) {n m : Int} (hr : RR R n m) : LR R (la.set i n) (lb.set i m) := by
  refine ⟨by simp [h.1], fun j x y h1 h2 => ?_⟩
  rw [List.getElem?_set] at h1 h2
  by_cases e : i = j
  · subst e
    rw [if_pos rfl] at h1 h2
    split at h1
    · split at h2
      · rw [← Option.some.inj h1, ← Option.some.inj h2]
        exact hr
      · cases h2
    · cases h1
  · rw [if_neg e] at h1 h2
    exact h.2 j x y h1 h2
theorem LR.cons {R : Nat → Nat → Prop} {n m : Int} {la lb : List Int} (h : LR R (n :: la) (m :: lb)) : RR R n m ∧ LR R la lb := by
  refine ⟨h.2 0 n m rfl rfl, by simpa using h.1, fun i x y h1 h2 => h.2 (i + 1) x y (by simpa using h1) (by simpa using h2)⟩
theorem LR.get {R : Nat → Nat → Prop} {la lb : List Int} (h : LR R la lb) (i : Nat) : RR R ((la[i]?).getD (-1)) ((lb[i]?).getD (-1)) := by
  rcases Nat.lt_or_ge i la.length with h1 | h1
  · have a1 := List.getElem?_eq_getElem h1
    have a2 := List.getElem?_eq_getElem (show i < lb.length by rw [← h.1]; exact h1)
    rw [a1, a2]
    exact h.2 i _ _ a1 a2
  · rw [List.getElem?_eq_none h1, List.getElem?_eq_none (by rw [← h.1]; exact h1)]
    exact .inl ⟨rfl, rfl⟩

/-- cells of two heaps that are related by turns: what a program sees of them is the same -/
structure Sim (a b : Hp) (R : Nat → Nat → Prop) : Prop where
  one : ∀ k x y : Nat, R k x → R k y → x = y
  back : ∀ k m x : Nat, R k x → R m x → k = m
  roots : LR R a.rt b.rt
  cell : ∀ {k x : Nat}, R k x → ∃ c c', a.cs[k]? = some c ∧ b.cs[x]? = some c' ∧ c.d = c'.d ∧ LR R c.r c'.r

section
variable {a b : Hp} {R : Nat → Nat → Prop}
/-- lists of related cells -/
def CR (R : Nat → Nat → Prop) (la lb : List Int) : Prop := la.length = lb.length ∧ ∀ (i : Nat) (n m : Int), la[i]? = some n → lb[i]? = some m → ∃ k x : Nat, n = k ∧ m = x ∧ R k x
theorem CR.mem (one : ∀ k x y : Nat, R k x → R k y → x = y) {la lb : List Int} (h : CR R la lb) {k x : Nat} (hr : R k x) (hm : (k : Int) ∈ la) : (x : Int) ∈ lb := by
  obtain ⟨i, hi⟩ := List.mem_iff_getElem?.1 hm
  have hl := (List.getElem?_eq_some_iff.1 hi).1
  have hb := List.getElem?_eq_getElem (show i < lb.length by rw [← h.1]; exact hl)
  obtain ⟨k', x', e1, e2, hr'⟩ := h.2 i _ _ hi hb
  have e1 : k = k' := by omega
  subst e1
  have := one _ _ _ hr hr'
  subst this
  rw [← e2]
  exact List.getElem_mem _
theorem CR.mem' (back : ∀ k m x : Nat, R k x → R m x → k = m) {la lb : List Int} (h : CR R la lb) {k x : Nat} (hr : R k x) (hm : (x : Int) ∈ lb) : (k : Int) ∈ la := by
  obtain ⟨i, hi⟩ := List.mem_iff_getElem?.1 hm
  have hl := (List.getElem?_eq_some_iff.1 hi).1
  have hb := List.getElem?_eq_getElem (show i < la.length by rw [h.1]; exact hl)
  obtain ⟨k', x', e1, e2, hr'⟩ := h.2 i _ _ hb hi
  have e2 : x = x' := by omega
  subst e2
  have := back _ _ _ hr hr'
  subst this
  rw [← e1]
  exact List.getElem_mem _
theorem CR.snoc {la lb : List Int} (h : CR R la lb) {k x : Nat} (hr : R k x) : CR R (la ++ [(k : Int)]) (lb ++ [(x : Int)]) := by
  refine ⟨by simp [h.1], fun i n m h1 h2 => ?_⟩
  rcases Nat.lt_or_ge i la.length with hi | hi
  · rw [List.getElem?_append_left hi] at h1
    rw [List.getElem?_append_left (by rw [← h.1]; exact hi)] at h2
    exact h.2 i n m h1 h2
  · rw [List.getElem?_append_right hi] at h1
    rw [List.getElem?_append_right (by rw [← h.1]; exact hi), ← h.1] at h2
    have hz : i - la.length = 0 := by
      have := (List.getElem?_eq_some_iff.1 h1).1
      simp at this
      omega
    rw [hz] at h1 h2
    exact ⟨k, x, by simpa using h1.symm, by simpa using h2.symm, hr⟩
theorem Sim.meet1 (S : Sim a b R) {la lb : List Int} (h : CR R la lb) {n m : Int} (hr : RR R n m) : CR R (meet1 la n) (meet1 lb m) := by
  unfold Hps.meet1
  rcases hr with ⟨rfl, rfl⟩ | ⟨k, x, rfl, rfl, hr⟩
  · rw [if_neg (by omega), if_neg (by omega)]
    exact h
  · by_cases hm : (k : Int) ∈ la
    · have hm' := h.mem S.one hr hm
      rw [if_neg (fun q => q.2 hm), if_neg (fun q => q.2 hm')]
      exact h
    · have hm' : (x : Int) ∉ lb := fun q => hm (h.mem' S.back hr q)
      rw [if_pos ⟨by omega, hm⟩, if_pos ⟨by omega, hm'⟩]
      exact h.snoc hr
theorem Sim.meet (S : Sim a b R) : ∀ (ns ms : List Int) {la lb : List Int}, CR R la lb → LR R ns ms → CR R (meet la ns) (meet lb ms)
  | [], [], la, lb, h, _ => h
  | [], _ :: _, _, _, _, h => by have := h.1; simp at this
  | _ :: _, [], _, _, _, h => by have := h.1; simp at this
  | n :: ns, m :: ms, la, lb, h, hl => by
    obtain ⟨h1, h2⟩ := hl.cons
    rw [meet_cons, meet_cons]
    exact S.meet ns ms (S.meet1 h h1) h2
theorem Sim.bfs (S : Sim a b R) : ∀ (f k : Nat) {la lb : List Int}, CR R la lb → CR R (bfs a.cs f k la) (bfs b.cs f k lb)
  | 0, _, _, _, h => h
  | f + 1, k, la, lb, h => by
    unfold Hps.bfs
    rcases Nat.lt_or_ge k la.length with h1 | h1
    · have a1 := List.getElem?_eq_getElem h1
      have a2 := List.getElem?_eq_getElem (show k < lb.length by rw [← h.1]; exact h1)
      obtain ⟨q, x, e1, e2, hr⟩ := h.2 k _ _ a1 a2
      rw [a1, a2]
      simp only
      obtain ⟨c, c', hc, hc', _, hl⟩ := S.cell hr
      have r1 : refsAt a.cs la[k] = c.r := by rw [e1, refsAt, Int.toNat_natCast, hc]
      have r2 : refsAt b.cs (lb[k]'(by rw [← h.1]; exact h1)) = c'.r := by rw [e2, refsAt, Int.toNat_natCast, hc']
      rw [r1, r2]
      exact S.bfs f (k + 1) (S.meet _ _ h hl)
    · rw [List.getElem?_eq_none h1, List.getElem?_eq_none (by rw [← h.1]; exact h1)]
      exact h
end

/-- more fuel than enough changes nothing -/
theorem bfs_more {cs : List Cl} {rt : List Int} (hc : ∀ c ∈ cs, okRefs cs c.r = true) : ∀ (f k : Nat) (l : List Int), Bf cs rt k l → cs.length + 1 ≤ f + k → bfs cs (f + 1) k l = bfs cs f k l
  | 0, k, l, h, hf => by
    have hl := h.inb.le h.nodup
    unfold bfs
    rw [List.getElem?_eq_none (by omega)]
  | f + 1, k, l, h, hf => by
    rw [bfs, bfs]
    cases e : l[k]? with
    | none => rfl
    | some n => exact bfs_more hc f (k + 1) _ (h.next hc e) (by omega)
theorem bfs_enough {cs : List Cl} {rt : List Int} (hc : ∀ c ∈ cs, okRefs cs c.r = true) (hr : okRefs cs rt = true) : ∀ g, bfs cs (cs.length + 1 + g) 0 (meet [] rt) = orderL cs rt
  | 0 => rfl
  | g + 1 => by
    rw [← Nat.add_assoc, bfs_more hc _ 0 _ (.start hr) (by omega)]
    exact bfs_enough hc hr g
theorem order_fuel {h : Hp} (hv : validH h = true) : orderH h = bfs h.cs 41 0 (meet [] h.rt) := by
  have hl := (valid_iff.1 hv).2.1
  rw [order_valid hv, ← bfs_enough (valid_refs hv) (valid_iff.1 hv).2.2.2 (40 - h.cs.length)]
  congr 1
  omega
theorem Sim.order {a b : Hp} {R : Nat → Nat → Prop} (S : Sim a b R) (ha : validH a = true) (hb : validH b = true) : CR R (orderH a) (orderH b) := by
  rw [order_fuel ha, order_fuel hb]
  exact S.bfs 41 0 (S.meet _ _ ⟨rfl, fun i n m h => by simp at h⟩ S.roots)
theorem Sim.name {a b : Hp} {R : Nat → Nat → Prop} (S : Sim a b R) (ha : validH a = true) (hb : validH b = true) {n m : Int} (hr : RR R n m) : nameL (orderH a) n = nameL (orderH b) m := by
  have C := S.order ha hb
  have neg : ∀ h : Hp, (-1 : Int) ∉ orderH h := fun h hm => by
    obtain ⟨k, e, _⟩ := order_nat hm
    omega
  rcases hr with ⟨rfl, rfl⟩ | ⟨k, x, rfl, rfl, hr⟩
  · rw [nameL_none (neg a), nameL_none (neg b)]
  · by_cases hm : (k : Int) ∈ orderH a
    · obtain ⟨i, hi⟩ := List.mem_iff_getElem?.1 hm
      have hl := (List.getElem?_eq_some_iff.1 hi).1
      have hb' := List.getElem?_eq_getElem (show i < (orderH b).length by rw [← C.1]; exact hl)
      obtain ⟨k', x', e1, e2, hr'⟩ := C.2 i _ _ hi hb'
      have e1 : k = k' := by omega
      subst e1
      have := S.one _ _ _ hr hr'
      subst this
      rw [nameL_at (order_nodup a) hi, nameL_at (order_nodup b) (hb'.trans (by rw [e2]))]
    · rw [nameL_none hm, nameL_none (fun q => hm (C.mem' S.back hr q))]
theorem Sim.names {a b : Hp} {R : Nat → Nat → Prop} (S : Sim a b R) (ha : validH a = true) (hb : validH b = true) {ns ms : List Int} (h : LR R ns ms) : ns.map (nameL (orderH a)) = ms.map (nameL (orderH b)) := by
  apply List.ext_getElem?
  intro i
  rw [List.getElem?_map, List.getElem?_map]
  rcases Nat.lt_or_ge i ns.length with h1 | h1
  · have a1 := List.getElem?_eq_getElem h1
    have a2 := List.getElem?_eq_getElem (show i < ms.length by rw [← h.1]; exact h1)
    rw [a1, a2, Option.map_some, Option.map_some, S.name ha hb (h.2 i _ _ a1 a2)]
  · rw [List.getElem?_eq_none h1, List.getElem?_eq_none (by rw [← h.1]; exact h1)]
    rfl
/-- related heaps: a program sees the same -/
theorem Sim.view {a b : Hp} {R : Nat → Nat → Prop} (S : Sim a b R) (ha : validH a = true) (hb : validH b = true) : viewH a = viewH b := by
  rw [view_valid ha, view_valid hb, S.names ha hb S.roots]
  congr 2
  have C := S.order ha hb
  apply List.ext_getElem?
  intro i
  rw [List.getElem?_map, List.getElem?_map]
  rcases Nat.lt_or_ge i (orderH a).length with h1 | h1
  · have a1 := List.getElem?_eq_getElem h1
    have a2 := List.getElem?_eq_getElem (show i < (orderH b).length by rw [← C.1]; exact h1)
    obtain ⟨k, x, e1, e2, hr⟩ := C.2 i _ _ a1 a2
    obtain ⟨c, c', hc, hc', hd, hl⟩ := S.cell hr
    rw [a1, a2, Option.map_some, Option.map_some, e1, e2, cellAt, cellAt, Int.toNat_natCast, Int.toNat_natCast, hc, hc', Option.getD_some, Option.getD_some, cellV, cellV, hd, hl.1, S.names ha hb hl]
  · rw [List.getElem?_eq_none h1, List.getElem?_eq_none (by rw [← C.1]; exact h1)]
    rfl

/-- a part of a view: it tells its length -/
def SegOK (s : List Int) : Prop := ∃ (d : Int) (xs : List Int), s = d :: (xs.length : Int) :: xs
theorem segs_eq : ∀ (ss ts : List (List Int)), (∀ s ∈ ss, SegOK s) → (∀ t ∈ ts, SegOK t) → ss.flatten = ts.flatten → ss = ts
  | [], [], _, _, _ => rfl
  | [], t :: ts, _, h2, h => by
    obtain ⟨d, xs, rfl⟩ := h2 t (by simp)
    simp at h
  | s :: ss, [], h1, _, h => by
    obtain ⟨d, xs, rfl⟩ := h1 s (by simp)
    simp at h
  | s :: ss, t :: ts, h1, h2, h => by
    obtain ⟨d, xs, rfl⟩ := h1 s (by simp)
    obtain ⟨e, ys, rfl⟩ := h2 t (by simp)
    simp only [List.flatten_cons, List.cons_append, List.cons.injEq] at h
    obtain ⟨q1, q2, q3⟩ := h
    have q2 : xs.length = ys.length := by omega
    obtain ⟨q4, q5⟩ := List.append_inj q3 q2
    rw [q1, q4, segs_eq ss ts (fun x hx => h1 x (by simp [hx])) (fun x hx => h2 x (by simp [hx])) q5]
theorem seg_cell (l : List Int) (c : Cl) : SegOK (cellV l c) := ⟨c.d, c.r.map (nameL l), by simp [cellV]⟩
theorem segs_cells (l : List Int) (f : Int → Cl) (o : List Int) : ∀ s ∈ o.map (fun n => cellV l (f n)), SegOK s := by
  intro s hs
  obtain ⟨n, _, rfl⟩ := List.mem_map.1 hs
  exact seg_cell _ _

/-- cells at the same place of the orders -/
def SameAt (a b : Hp) (k x : Nat) : Prop := ∃ i : Nat, (orderH a)[i]? = some (k : Int) ∧ (orderH b)[i]? = some (x : Int)
/-- references with the same name lead to cells at the same place -/
theorem same_name {a b : Hp} {n m : Int} (ho : nameL (orderH a) n = nameL (orderH b) m) (hn : n = -1 ∨ (0 ≤ n ∧ n ∈ orderH a)) (hm : m = -1 ∨ (0 ≤ m ∧ m ∈ orderH b)) : RR (SameAt a b) n m := by
  have neg : ∀ h : Hp, (-1 : Int) ∉ orderH h := fun h hm => by
    obtain ⟨k, e, _⟩ := order_nat hm
    omega
  rcases hn with rfl | ⟨n0, hn⟩
  · rcases hm with rfl | ⟨m0, hm⟩
    · exact .inl ⟨rfl, rfl⟩
    · rw [nameL_none (neg a)] at ho
      exact absurd hm (nameL_neg ho.symm)
  · obtain ⟨i, hi⟩ := List.mem_iff_getElem?.1 hn
    rw [nameL_at (order_nodup a) hi] at ho
    have hj := nameL_get ho.symm
    obtain ⟨k, rfl, _⟩ := order_nat (List.mem_of_getElem? hi)
    obtain ⟨x, rfl, _⟩ := order_nat (List.mem_of_getElem? hj)
    exact .inr ⟨k, x, rfl, rfl, i, hi, hj⟩
theorem ref_met {h : Hp} (hv : validH h = true) {k : Nat} {c : Cl} (hk : (k : Int) ∈ orderH h) (hc : h.cs[k]? = some c) {n : Int} (hn : n ∈ c.r) : n = -1 ∨ (0 ≤ n ∧ n ∈ orderH h) := by
  have ok := okRefs_iff.1 (valid_refs hv c (List.mem_of_getElem? hc)) n hn
  by_cases h0 : 0 ≤ n
  · obtain ⟨m, rfl, _⟩ := okRef_nat ok h0
    exact .inr ⟨h0, (mem_order hv).2 (.step ((mem_order hv).1 hk) hc hn)⟩
  · rcases okRef_iff.1 ok with e | ⟨e, _⟩
    · exact .inl e
    · omega
theorem root_met {h : Hp} (hv : validH h = true) {n : Int} (hn : n ∈ h.rt) : n = -1 ∨ (0 ≤ n ∧ n ∈ orderH h) := by
  have ok := okRefs_iff.1 (valid_iff.1 hv).2.2.2 n hn
  by_cases h0 : 0 ≤ n
  · obtain ⟨m, rfl, _⟩ := okRef_nat ok h0
    exact .inr ⟨h0, (mem_order hv).2 (.root hn)⟩
  · rcases okRef_iff.1 ok with e | ⟨e, _⟩
    · exact .inl e
    · omega
theorem names_same {a b : Hp} {ns ms : List Int} (he : ns.map (nameL (orderH a)) = ms.map (nameL (orderH b))) (hn : ∀ n ∈ ns, n = -1 ∨ (0 ≤ n ∧ n ∈ orderH a)) (hm : ∀ m ∈ ms, m = -1 ∨ (0 ≤ m ∧ m ∈ orderH b)) : LR (SameAt a b) ns ms := by
  have hl : ns.length = ms.length := by simpa using congrArg List.length he
  refine ⟨hl, fun i n m h1 h2 => same_name ?_ (hn n (List.mem_of_getElem? h1)) (hm m (List.mem_of_getElem? h2))⟩
  have := congrArg (fun l => l[i]?) he
  simp only [List.getElem?_map, h1, h2, Option.map_some, Option.some.injEq] at this
  exact this
/-- heaps of which a program sees the same are related -/
theorem sim_of_view {a b : Hp} (ha : validH a = true) (hb : validH b = true) (he : viewH a = viewH b) : Sim a b (SameAt a b) := by
  rw [view_valid ha, view_valid hb] at he
  obtain ⟨e1, e2⟩ := List.append_inj he (by simp [(valid_iff.1 ha).2.2.1, (valid_iff.1 hb).2.2.1])
  have e3 := segs_eq _ _ (segs_cells _ _ _) (segs_cells _ _ _) e2
  refine ⟨?_, ?_, names_same e1 (fun n hn => root_met ha hn) (fun n hn => root_met hb hn), ?_⟩
  · rintro k x y ⟨i, h1, h2⟩ ⟨j, h3, h4⟩
    have e := nameL_at (order_nodup a) h1
    rw [nameL_at (order_nodup a) h3] at e
    have e : j = i := by omega
    subst e
    rw [h2] at h4
    have := Option.some.inj h4
    omega
  · rintro k m x ⟨i, h1, h2⟩ ⟨j, h3, h4⟩
    have e := nameL_at (order_nodup b) h2
    rw [nameL_at (order_nodup b) h4] at e
    have e : j = i := by omega
    subst e
    rw [h1] at h3
    have := Option.some.inj h3
    omega
  · rintro k x ⟨i, h1, h2⟩
    obtain ⟨k', ek, hk⟩ := order_nat (List.mem_of_getElem? h1)
    obtain ⟨x', ex, hx⟩ := order_nat (List.mem_of_getElem? h2)
    have ek : k = k' := by omega
    have ex : x = x' := by omega
    subst ek ex
    have hc := List.getElem?_eq_getElem hk
    have hc' := List.getElem?_eq_getElem hx
    have := congrArg (fun l => l[i]?) e3
    simp only [List.getElem?_map, h1, h2, Option.map_some, Option.some.injEq, cellAt, Int.toNat_natCast, hc, hc', Option.getD_some, cellV, List.cons.injEq] at this
    exact ⟨_, _, hc, hc', this.1, names_same this.2.2 (fun n hn => ref_met ha (List.mem_of_getElem? h1) hc hn) (fun n hn => ref_met hb (List.mem_of_getElem? h2) hc' hn)⟩
theorem Sim.lt {a b : Hp} {R : Nat → Nat → Prop} (S : Sim a b R) {k x : Nat} (h : R k x) : k < a.cs.length ∧ x < b.cs.length := by
  obtain ⟨c, c', h1, h2, _⟩ := S.cell h
  exact ⟨(List.getElem?_eq_some_iff.1 h1).1, (List.getElem?_eq_some_iff.1 h2).1⟩

/-! what an instruction does to related heaps -/
section
variable {a b : Hp} {R : Nat → Nat → Prop}
theorem Sim.setRoot (S : Sim a b R) (i : Nat) {n m : Int} (hr : RR R n m) : Sim ⟨a.cs, a.rt.set i n⟩ ⟨b.cs, b.rt.set i m⟩ R := ⟨S.one, S.back, S.roots.set i hr, S.cell⟩
theorem Sim.setCell (S : Sim a b R) {k x : Nat} (hr : R k x) {c c' : Cl} (hd : c.d = c'.d) (hl : LR R c.r c'.r) : Sim ⟨a.cs.set k c, a.rt⟩ ⟨b.cs.set x c', b.rt⟩ R := by
  refine ⟨S.one, S.back, S.roots, fun {m y} hm => ?_⟩
  obtain ⟨h1, h2⟩ := S.lt hr
  by_cases e : k = m
  · subst e
    have := S.one _ _ _ hr hm
    subst this
    exact ⟨c, c', by simp [h1], by simp [h2], hd, hl⟩
  · have e' : x ≠ y := fun q => e (S.back _ _ _ hr (q ▸ hm))
    obtain ⟨q, q', g1, g2, g3⟩ := S.cell hm
    exact ⟨q, q', by simp [e, g1], by simp [e', g2], g3⟩
theorem Sim.snoc (S : Sim a b R) {c c' : Cl} (hd : c.d = c'.d) (hl : LR (fun _ _ => False) c.r c'.r) (i : Nat) :
    Sim ⟨a.cs ++ [c], a.rt.set i (a.cs.length : Int)⟩ ⟨b.cs ++ [c'], b.rt.set i (b.cs.length : Int)⟩ (fun k x => R k x ∨ (k = a.cs.length ∧ x = b.cs.length)) := by
  refine ⟨?_, ?_, ?_, ?_⟩
  · rintro k x y (h1 | ⟨rfl, rfl⟩) (h2 | ⟨e, e2⟩)
    · exact S.one _ _ _ h1 h2
    · have := (S.lt h1).1; omega
    · have := (S.lt h2).1; omega
    · omega
  · rintro k m x (h1 | ⟨rfl, rfl⟩) (h2 | ⟨e, e2⟩)
    · exact S.back _ _ _ h1 h2
    · have := (S.lt h1).2; omega
    · have := (S.lt h2).2; omega
    · omega
  · exact (S.roots.mono (fun _ _ h => .inl h)).set i (.inr ⟨_, _, rfl, rfl, .inr ⟨rfl, rfl⟩⟩)
  · rintro k x (h1 | ⟨rfl, rfl⟩)
    · obtain ⟨q, q', g1, g2, g3, g4⟩ := S.cell h1
      obtain ⟨l1, l2⟩ := S.lt h1
      exact ⟨q, q', by rw [List.getElem?_append_left l1]; exact g1, by rw [List.getElem?_append_left l2]; exact g2, g3, g4.mono (fun _ _ h => .inl h)⟩
    · exact ⟨c, c', by simp, by simp, hd, hl.mono (fun _ _ h => h.elim)⟩
theorem Sim.rootAt (S : Sim a b R) (i : Int) : RR R (rootAt a i) (rootAt b i) := S.roots.get i.toNat
theorem Sim.place (S : Sim a b R) {n m : Int} (hr : RR R n m) (p : Int) : placeH a.cs n p = placeH b.cs m p := by
  rcases hr with ⟨rfl, rfl⟩ | ⟨k, x, rfl, rfl, hr⟩
  · rfl
  · obtain ⟨c, c', h1, h2, _, hl⟩ := S.cell hr
    simp [placeH, h1, h2, hl.1]
theorem Sim.refAt (S : Sim a b R) {n m : Int} (hr : RR R n m) (hn : 0 ≤ n) (p : Int) : RR R (refAt a.cs n p) (refAt b.cs m p) := by
  rcases hr with ⟨rfl, rfl⟩ | ⟨k, x, rfl, rfl, hr⟩
  · omega
  · obtain ⟨c, c', h1, h2, _, hl⟩ := S.cell hr
    simp only [Hps.refAt, Int.toNat_natCast, h1, h2]
    exact hl.get _
theorem Sim.can (S : Sim a b R) (ha : validH a = true) (hb : validH b = true) (o : Cm) : canH a o = canH b o := by
  unfold canH
  rw [ha, hb, S.place (S.rootAt o.b), S.place (S.rootAt o.a)]
  have : decide (0 ≤ Hps.rootAt a o.a) = decide (0 ≤ Hps.rootAt b o.a) := by
    rw [decide_eq_decide]
    rcases S.rootAt o.a with ⟨e1, e2⟩ | ⟨k, x, e1, e2, _⟩ <;> omega
  rw [this]
theorem Sim.does (S : Sim a b R) {o : Cm} (hc : canH a o = true) : ∃ R', Sim (doH a o a.cs.length) (doH b o b.cs.length) R' := by
  obtain ⟨⟨hv, ho⟩, hc⟩ : (validH a = true ∧ okCm o = true) ∧ _ := by
    unfold canH at hc
    rw [Bool.and_eq_true, Bool.and_eq_true] at hc
    exact hc
  unfold doH
  by_cases h1 : o.op = 1
  · rw [if_pos h1, if_pos h1, putCl, if_pos rfl, putCl, if_pos rfl]
    refine ⟨_, S.snoc (c := newCl o) (c' := newCl o) rfl ⟨rfl, fun i n m h1 h2 => .inl ?_⟩ _⟩
    have e1 := List.mem_of_getElem? h1
    have e2 := List.mem_of_getElem? h2
    simp only [newCl, List.mem_replicate] at e1 e2
    exact ⟨e1.2, e2.2⟩
  rw [if_neg h1, if_neg h1]
  by_cases h2 : o.op = 2
  · rw [if_pos h2, if_pos h2]
    rw [if_pos h2] at hc
    obtain ⟨k, c, e, _⟩ := placeH_iff.1 hc
    exact ⟨R, S.setRoot _ (S.refAt (S.rootAt o.b) (by omega) _)⟩
  rw [if_neg h2, if_neg h2]
  by_cases h3 : o.op = 3
  · rw [if_pos h3, if_pos h3]
    rw [if_neg h2, if_pos h3] at hc
    obtain ⟨k, c, e, hk, _⟩ := placeH_iff.1 hc
    rcases S.rootAt o.a with ⟨e1, e2⟩ | ⟨k', x, e1, e2, hr⟩
    · omega
    · obtain ⟨c1, c2, g1, g2, g3, g4⟩ := S.cell hr
      rw [e1, e2, Int.toNat_natCast, Int.toNat_natCast, setRef, setRef, g1, g2]
      exact ⟨R, S.setCell hr (c := ⟨c1.u, c1.d, _⟩) (c' := ⟨c2.u, c2.d, _⟩) g3 (g4.set _ (S.rootAt o.b))⟩
  rw [if_neg h3, if_neg h3]
  by_cases h4 : o.op = 4
  · rw [if_pos h4, if_pos h4]
    exact ⟨R, S.setRoot _ (S.rootAt o.b)⟩
  rw [if_neg h4, if_neg h4]
  by_cases h5 : o.op = 5
  · rw [if_pos h5, if_pos h5]
    exact ⟨R, S.setRoot _ (.inl ⟨rfl, rfl⟩)⟩
  rw [if_neg h5, if_neg h5]
  by_cases h6 : o.op = 6
  · rw [if_pos h6, if_pos h6]
    rw [if_neg h2, if_neg h3, if_pos h6] at hc
    have hc := of_decide_eq_true hc
    rcases S.rootAt o.a with ⟨e1, e2⟩ | ⟨k', x, e1, e2, hr⟩
    · omega
    · obtain ⟨c1, c2, g1, g2, g3, g4⟩ := S.cell hr
      rw [e1, e2, Int.toNat_natCast, Int.toNat_natCast, setDat, setDat, g1, g2]
      exact ⟨R, S.setCell hr (c := ⟨c1.u, o.b, _⟩) (c' := ⟨c2.u, o.b, _⟩) rfl g4⟩
  rw [if_neg h6, if_neg h6]
  exact ⟨R, S⟩
theorem Sim.step (S : Sim a b R) (ha : validH a = true) (hb : validH b = true) {o : Cm} (ho : okCm o = true) (la : a.cs.length ≠ 40) (lb : b.cs.length ≠ 40) : ∃ R', Sim (stepH a o).1 (stepH b o).1 R' := by
  have hcan := S.can ha hb o
  cases hc : canH a o
  · rw [hc] at hcan
    have e1 : stepH a o = (a, false) := by simp [stepH, ha, ho, hc]
    have e2 : stepH b o = (b, false) := by simp [stepH, hb, ho, ← hcan]
    rw [e1, e2]
    exact ⟨R, S⟩
  · rw [hc] at hcan
    have e1 : stepH a o = (doH a o a.cs.length, true) := by simp [stepH, ha, ho, hc, la]
    have e2 : stepH b o = (doH b o b.cs.length, true) := by simp [stepH, hb, ho, ← hcan, lb]
    rw [e1, e2]
    exact S.does hc
end
/-- equal views go on equally -/
theorem same_step {a b : Hp} {o : Cm} (h : sameV a b = true) (ho : okCm o = true) (la : a.cs.length ≠ 40) (lb : b.cs.length ≠ 40) : sameV (stepH a o).1 (stepH b o).1 = true := by
  obtain ⟨ha, hb, he⟩ := sameV_iff.1 h
  obtain ⟨R, S⟩ := (sim_of_view ha hb he).step ha hb ho la lb
  have va := stepH_valid ha ho
  have vb := stepH_valid hb ho
  exact sameV_iff.2 ⟨va, vb, S.view va vb⟩
end Hps
end Go.Proofs.Ytakdjiojahlnmaa

namespace Go.Proofs.Ytakdjiojahlnmaa
namespace Hps

/-- numbers read as cells: data, number of references, references -/
def parseF : Nat → List Int → Option (List Cl)
  | 0, _ => none
  | _ + 1, [] => some []
  | _ + 1, [_] => none
  | f + 1, d :: n :: rest => if 0 ≤ n ∧ n ≤ 3 ∧ n.toNat ≤ rest.length then (parseF f (rest.drop n.toNat)).map (fun cs => ⟨true, d, rest.take n.toNat⟩ :: cs) else none
theorem parse_more : ∀ (f g : Nat) (l : List Int), l.length < f → l.length < g → parseF f l = parseF g l
  | 0, _, _, h, _ => by omega
  | _ + 1, 0, _, _, h => by omega
  | _ + 1, _ + 1, [], _, _ => rfl
  | _ + 1, _ + 1, [_], _, _ => rfl
  | f + 1, g + 1, d :: n :: rest, h1, h2 => by
    simp only [parseF]
    split
    · rw [parse_more f g _ (by simp at h1 ⊢; omega) (by simp at h2 ⊢; omega)]
    · rfl
def parseV (l : List Int) : Option (List Cl) := parseF (l.length + 1) l
theorem parseV_nil : parseV [] = some [] := rfl
theorem parseV_one (x : Int) : parseV [x] = none := rfl
theorem parseV_cons (d n : Int) (rest : List Int) : parseV (d :: n :: rest) = if 0 ≤ n ∧ n ≤ 3 ∧ n.toNat ≤ rest.length then (parseV (rest.drop n.toNat)).map (fun cs => ⟨true, d, rest.take n.toNat⟩ :: cs) else none := by
  unfold parseV
  rw [List.length_cons, List.length_cons]
  simp only [parseF]
  split
  · rw [parse_more _ ((rest.drop n.toNat).length + 1) _ (by simp; omega) (by simp)]
  · rfl
/-- the numbers of a cell -/
def rawV (c : Cl) : List Int := c.d :: (c.r.length : Int) :: c.r
theorem parse_flat : ∀ (f : Nat) (l : List Int) (cs : List Cl), parseF f l = some cs → l = (cs.map rawV).flatten ∧ ∀ c ∈ cs, c.u = true
  | 0, _, _, h => by simp [parseF] at h
  | _ + 1, [], cs, h => by
    simp only [parseF, Option.some.injEq] at h
    subst h
    simp
  | _ + 1, [_], _, h => by simp [parseF] at h
  | f + 1, d :: n :: rest, cs, h => by
    simp only [parseF] at h
    split at h
    · next hn =>
      cases e : parseF f (rest.drop n.toNat) with
      | none => rw [e] at h; cases h
      | some ds =>
        rw [e, Option.map_some, Option.some.injEq] at h
        obtain ⟨h1, h2⟩ := parse_flat f _ ds e
        subst h
        refine ⟨?_, fun c hc => ?_⟩
        · have hl : (rest.take n.toNat).length = n.toNat := by rw [List.length_take]; omega
          rw [List.map_cons, List.flatten_cons, ← h1, rawV, hl]
          simp only [List.cons_append, List.take_append_drop, List.cons.injEq, true_and, and_true]
          omega
        · rcases List.mem_cons.1 hc with rfl | hc
          · rfl
          · exact h2 c hc
    · cases h
def heapOfV (v : List Int) : Hp × Bool :=
  if v.length < 4 then (zeroH, false) else
  match parseV (v.drop 4) with
  | none => (zeroH, false)
  | some cs => if viewH ⟨cs, v.take 4⟩ = v then (⟨cs, v.take 4⟩, true) else (zeroH, false)
theorem heapOf_short {v : List Int} (h : v.length < 4) : heapOfV v = (zeroH, false) := by rw [heapOfV, if_pos h]
theorem heapOf_none {v : List Int} (h4 : ¬ v.length < 4) (h : parseV (v.drop 4) = none) : heapOfV v = (zeroH, false) := by rw [heapOfV, if_neg h4, h]
theorem heapOf_some {v : List Int} (h4 : ¬ v.length < 4) {cs : List Cl} (h : parseV (v.drop 4) = some cs) : heapOfV v = if viewH ⟨cs, v.take 4⟩ = v then (⟨cs, v.take 4⟩, true) else (zeroH, false) := by rw [heapOfV, if_neg h4, h]
theorem heapOf_cases (v : List Int) : heapOfV v = (zeroH, false) ∨ ∃ cs, heapOfV v = (⟨cs, v.take 4⟩, true) ∧ 4 ≤ v.length ∧ parseV (v.drop 4) = some cs ∧ viewH ⟨cs, v.take 4⟩ = v := by
  by_cases h4 : v.length < 4
  · exact .inl (heapOf_short h4)
  · cases e : parseV (v.drop 4) with
    | none => exact .inl (heapOf_none h4 e)
    | some cs =>
      rw [heapOf_some h4 e]
      split
      · next h => exact .inr ⟨cs, rfl, by omega, rfl, h⟩
      · exact .inl rfl
/-- a list of different numbers below its length has all of them -/
theorem all_numbers {n : Nat} {l : List Int} (hd : l.Nodup) (hb : ∀ x ∈ l, ∃ k : Nat, x = k ∧ k < n) (hl : l.length = n) {k : Nat} (hk : k < n) : (k : Int) ∈ l := by
  by_cases hm : (k : Int) ∈ l
  · exact hm
  · have := few_numbers n ((k : Int) :: l) (List.nodup_cons.2 ⟨hm, hd⟩) (fun x hx => by
      rcases List.mem_cons.1 hx with rfl | hx
      · exact ⟨k, rfl, hk⟩
      · exact hb x hx)
    rw [List.length_cons] at this
    omega
/-- all cells of the heap of a view can be reached -/
theorem heapOf_true {v : List Int} (h : (heapOfV v).2 = true) : validH (heapOfV v).1 = true ∧ viewH (heapOfV v).1 = v ∧ (∀ c ∈ (heapOfV v).1.cs, c.u = true) ∧ ∀ k, k < (heapOfV v).1.cs.length → Rch (heapOfV v).1.cs (heapOfV v).1.rt k := by
  rcases heapOf_cases v with e | ⟨cs, e, h4, hp, hv⟩
  · rw [e] at h
    cases h
  · rw [e]
    simp only
    have hvv : validH ⟨cs, v.take 4⟩ = true := by
      cases q : validH ⟨cs, v.take 4⟩
      · rw [view_not q] at hv
        rw [← hv] at h4
        simp at h4
      · rfl
    obtain ⟨f1, f2⟩ := parse_flat _ _ _ hp
    have hq := view_valid hvv
    rw [hv] at hq
    have h4' : (v.take 4).length = 4 := by rw [List.length_take]; omega
    have hd : v.drop 4 = ((orderH ⟨cs, v.take 4⟩).map fun n => cellV (orderH ⟨cs, v.take 4⟩) (cellAt cs n)).flatten := by
      have hsp : v.take 4 ++ v.drop 4 = v := List.take_append_drop 4 v
      exact (List.append_inj (hsp.trans hq) (by rw [List.length_map])).2
    rw [f1] at hd
    have he := segs_eq _ _ (fun s hs => by
      obtain ⟨c, _, rfl⟩ := List.mem_map.1 hs
      exact ⟨c.d, c.r, rfl⟩) (segs_cells _ _ _) hd
    have hl : (orderH ⟨cs, v.take 4⟩).length = cs.length := by
      have := congrArg List.length he
      simpa using this.symm
    exact ⟨hvv, hv, f2, fun k hk => (mem_order hvv).1 (all_numbers (order_nodup _) (fun x hx => order_nat hx) hl hk)⟩
theorem usedTo_all {cs : List Cl} (h : ∀ c ∈ cs, c.u = true) : ∀ n, n ≤ cs.length → usedTo cs n = n
  | 0, _ => by simp [usedTo]
  | n + 1, hn => by
    have hc := List.getElem?_eq_getElem (show n < cs.length by omega)
    rw [usedTo_succ hc, usedTo_all h n (by omega), if_pos (h _ (List.getElem_mem _))]
theorem liveTo_all {m : List Bool} : ∀ n, (∀ k, k < n → m[k]? = some true) → liveTo m n = n
  | 0, _ => by simp [liveTo]
  | n + 1, h => by
    rw [liveTo_succ (h n (by omega)), liveTo_all n (fun k hk => h k (by omega)), if_pos rfl]
/-- the heap of a view: all cells are used and can be reached -/
theorem heapOf_used {v : List Int} (h : (heapOfV v).2 = true) : usedH (heapOfV v).1 = (((heapOfV v).1.cs.length : Int), ((heapOfV v).1.cs.length : Int)) := by
  obtain ⟨hv, _, hu, hr⟩ := heapOf_true h
  rw [usedH, if_pos hv, usedTo_all hu _ (Nat.le_refl _), liveTo_all _ (fun k hk => (reachL_true hk).2 (hr k hk))]
end Hps
end Go.Proofs.Ytakdjiojahlnmaa

namespace Go.Proofs.Ytakdjiojahlnmaa
open Go.RowKit
set_option maxRecDepth 100000

/-- the list of the cells that were met, the marks in a block of their own, the heap's box -/
structure RO (w wr : World) (box : Array Value) (n : Nat) (lv : Value) (cs : List Cl) (outs : List Bool) (l : List Int) : Prop where
  own : OwnO wr w.heap.size (.slice (some ⟨w.heap.size + 2, 0, none⟩) n n) outs
  lst : OwnI wr (w.heap.size + 1) lv l
  ne : lv.ownBlock = none ∨ lv.ownBlock ≠ some (w.heap.size + 2)
  box : Rw wr w.heap.size 26 box
  bel : Below w.heap.size w wr
  len : outs.length = n
  mem : ∀ k : Nat, outs[k]? = some true ↔ (k : Int) ∈ l
  nodup : l.Nodup
  inb : Hps.InB cs l
  cells : cs.length = n
  big : w.heap.size + 3 ≤ wr.heap.size
section
variable {w wr w5 : World} {box : Array Value} {n y : Nat} {lv v5 : Value} {cs : List Cl} {outs : List Bool} {l : List Int}
theorem RO.draws (h : RO w wr box n lv cs outs l) (k : Nat) : RO w (wr.drewN k) box n lv cs outs l :=
  ⟨h.own, h.lst, h.ne, h.box, below_drewN h.bel k, h.len, h.mem, h.nodup, h.inb, h.cells, h.big⟩
theorem RO.le (h : RO w wr box n lv cs outs l) : l.length ≤ n := by
  rw [← h.cells]
  exact h.inb.le h.nodup
theorem RO.pre (h : RO w wr box n lv cs outs l) (y : Nat) : OwnI ((wr.setCell ⟨w.heap.size + 2, y, none⟩ (.bool true)).alloc (.cells #[.int .i64 y] 3)) (w.heap.size + 1) lv l :=
  World.ownsRow.alloc (h.lst.far (only_put (World.grownBy.refl _ _) y (.bool true)) h.ne) _
/-- one more is met -/
theorem RO.mark (h : RO w wr box n lv cs outs l) (hy : outs[y]? = some false) (ho : OwnI w5 (w.heap.size + 1) v5 (l ++ [(y : Int)])) (hg : ((wr.setCell ⟨w.heap.size + 2, y, none⟩ (.bool true)).alloc (.cells #[.int .i64 y] 3)).grownBy w5 lv.ownBlock)
    (hs : v5.ownBlock = lv.ownBlock ∨ v5.ownBlock = some ((wr.setCell ⟨w.heap.size + 2, y, none⟩ (.bool true)).alloc (.cells #[.int .i64 y] 3)).heap.size) : RO w w5 box n v5 cs (outs.set y true) (Hps.meet1 l (y : Int)) := by
  have hlv : ∀ k, lv.ownBlock = some k → w.heap.size + 1 ≤ k := fun k hk => (World.ownsRow.lt h.lst k hk).1
  obtain ⟨hyl, hye⟩ := List.getElem?_eq_some_iff.1 hy
  have hyn : (y : Int) ∉ l := fun hm => by
    have := (h.mem y).2 hm
    rw [hy] at this
    cases this
  have hm1 : Hps.meet1 l (y : Int) = l ++ [(y : Int)] := by rw [Hps.meet1, if_pos ⟨by omega, hyn⟩]
  have o1 := h.own.put' (j := y) h.len true
  have o2 := World.ownsRow.alloc o1 (.cells #[.int .i64 y] 3)
  have o3 : OwnO w5 w.heap.size (.slice (some ⟨w.heap.size + 2, 0, none⟩) n n) (outs.set y true) := World.ownsRow.kept o2 hg (by
    right
    intro e
    rcases h.ne with e' | e'
    · rw [e'] at e; cases e
    · exact e' e.symm)
  have b1 := (h.bel.setCell (p := ⟨w.heap.size + 2, y, none⟩) (by simp) (.bool true)).alloc (by simp; have := h.bel.size; omega) (.cells #[.int .i64 y] 3)
  have hbig := h.big
  refine ⟨o3, by rw [hm1]; exact ho, ?_, ?_, b1.grown hg (by simp; have := h.bel.size; omega) (fun k hk => by have := hlv k hk; omega), by simp [h.len], fun k => ?_, Hps.meet1_nodup h.nodup _, fun x hx => ?_, h.cells, ?_⟩
  · rcases hs with e | e
    · rw [e]; exact h.ne
    · right
      rw [e]
      intro e'
      have := Option.some.inj e'
      simp at this
      omega
  · exact Rw.far ((Rw.other (w := wr) h.box (by omega) _).alloc _) hg (fun e => by have := hlv w.heap.size e.symm; omega)
  · rw [Hps.mem_meet1, ← h.mem, List.getElem?_set]
    by_cases e : y = k
    · subst e
      simp [hyl]
    · rw [if_neg e]
      constructor
      · exact .inl
      · rintro (h1 | ⟨_, h1⟩)
        · exact h1
        · omega
  · rcases Hps.mem_meet1.1 hx with h1 | ⟨_, rfl⟩
    · exact h.inb x h1
    · exact ⟨y, rfl, by rw [h.cells, ← h.len]; exact hyl⟩
  · have := hg.size
    simp at *
    omega
/-- a number that is none, or has been met -/
theorem RO.same (_h : RO w wr box n lv cs outs l) {x : Int} (hx : ¬ 0 ≤ x ∨ x ∈ l) : Hps.meet1 l x = l := by
  rw [Hps.meet1, if_neg]
  rintro ⟨h0, h1⟩
  rcases hx with h2 | h2
  · exact h2 h0
  · exact h1 h2
end

namespace Hps
theorem nameL_found {l : List Int} {x : Int} {k : Nat} (hp : x ∉ l.take k) (hk : l[k]? = some x) : nameL l x = k := by
  have hl := (List.getElem?_eq_some_iff.1 hk).1
  have hm := List.mem_of_getElem? hk
  rw [nameL, if_pos hm]
  have e : l.idxOf x = k := by
    have h1 : l = l.take k ++ l.drop k := (List.take_append_drop k l).symm
    rw [h1, List.idxOf_append, if_neg hp]
    have h2 : l.drop k = x :: l.drop (k + 1) := by
      rw [List.drop_eq_getElem_cons hl]
      have := (List.getElem?_eq_some_iff.1 hk).2
      rw [this]
    rw [h2, List.idxOf_cons_self, List.length_take]
    omega
  rw [e]
end Hps
end Go.Proofs.Ytakdjiojahlnmaa

namespace Go.Proofs.Ytakdjiojahlnmaa
open Go.RowKit
set_option maxRecDepth 100000

theorem own_twoI (w : World) (a b : Int) (base : Nat) (hb : base ≤ w.heap.size) : OwnI (w.alloc (.cells #[.int .i64 a, .int .i64 b] 3)) base (.slice (some ⟨w.heap.size, 0, none⟩) 2 2) [a, b] :=
  World.ownsRow_lit (base := base) (e := 3) (size := 1) w #[.int .i64 a, .int .i64 b] 2 hb (by unfold maxLen; omega) rfl

/-- the view so far, the order, the heap's box -/
structure VS (w wr : World) (box : Array Value) (ov : Value) (o : List Int) (lv : Value) (l : List Int) : Prop where
  lst : OwnI wr (w.heap.size + 1) lv l
  ord : OwnI wr (w.heap.size + 1) ov o
  sep : lv.ownBlock = none ∨ lv.ownBlock ≠ ov.ownBlock
  box : Rw wr w.heap.size 26 box
  bel : Below w.heap.size w wr
section
variable {w wr w1 : World} {box : Array Value} {ov lv v5 : Value} {o l xs : List Int}
theorem VS.up (S : VS w wr box ov o lv l) (hb : Below wr.heap.size wr w1) : VS w w1 box ov o lv l :=
  ⟨S.lst.below hb (Nat.le_refl _), S.ord.below hb (Nat.le_refl _), S.sep, S.box.keep hb S.box.lt, S.bel.trans (hb.mono S.bel.size)⟩
theorem VS.app (S : VS w wr box ov o lv l) (h : OwnI w1 (w.heap.size + 1) v5 (l ++ xs)) (hg : wr.grownBy w1 lv.ownBlock) (hs : v5.ownBlock = lv.ownBlock ∨ v5.ownBlock = some wr.heap.size) : VS w w1 box ov o v5 (l ++ xs) := by
  have hlo : ∀ k, lv.ownBlock = some k → w.heap.size + 1 ≤ k := fun k hk => (World.ownsRow.lt S.lst k hk).1
  refine ⟨h, S.ord.far hg (sep_back S.sep), ?_, Rw.far S.box hg (fun e => by have := hlo _ e.symm; omega), S.bel.grown hg S.bel.size (fun k hk => by have := hlo k hk; omega)⟩
  rcases hs with e | e
  · rw [e]; exact S.sep
  · right
    rw [e]
    intro e'
    have := (World.ownsRow.lt S.ord _ e'.symm).2
    omega
end

namespace Hps
theorem flat_small {b : Nat} : ∀ ss : List (List Int), (∀ s ∈ ss, s.length ≤ b) → ss.flatten.length ≤ b * ss.length
  | [], _ => by simp
  | s :: ss, h => by
    have h1 := flat_small ss (fun t ht => h t (by simp [ht]))
    have h2 := h s (by simp)
    rw [List.flatten_cons, List.length_append, List.length_cons, Nat.mul_succ]
    omega
theorem view_small (h : Hp) : (viewH h).length ≤ 1000 := by
  cases hv : validH h
  · rw [view_not hv]
    simp
  · obtain ⟨s1, s2, s3⟩ := valid_small hv
    have hl := order_len h
    have := flat_small (b := 5) ((orderH h).map fun n => cellV (orderH h) (cellAt h.cs n)) (fun s hs => by
      obtain ⟨n, _, rfl⟩ := List.mem_map.1 hs
      have : (cellAt h.cs n).r.length ≤ 3 := by
        unfold cellAt
        cases e : h.cs[n.toNat]? with
        | none => simp
        | some c => exact s3 c (List.mem_of_getElem? e)
      simp [cellV]
      omega)
    rw [List.length_map] at this
    rw [view_valid hv, List.length_append, List.length_map, s2]
    omega
theorem flat_snoc {α : Type} (f : α → List Int) (l : List α) {k : Nat} {x : α} (h : l[k]? = some x) : ((l.take (k + 1)).map f).flatten = ((l.take k).map f).flatten ++ f x := by
  rw [List.take_add_one, h]
  simp
theorem map_snoc {α : Type} (f : α → Int) (l : List α) {k : Nat} {x : α} (h : l[k]? = some x) : (l.take (k + 1)).map f = (l.take k).map f ++ [f x] := by
  rw [List.take_add_one, h]
  simp
end Hps

namespace Hps
theorem take_ne {xs ys : List Int} {k : Nat} {x y : Int} (hx : xs[k]? = some x) (hy : ys[k]? = some y) (hne : ¬ x = y) : xs ≠ ys := fun e => hne (by
  rw [e, hy] at hx
  exact (Option.some.inj hx).symm)
end Hps
end Go.Proofs.Ytakdjiojahlnmaa
