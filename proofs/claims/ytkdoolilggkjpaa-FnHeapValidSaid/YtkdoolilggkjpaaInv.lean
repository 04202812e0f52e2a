/- A region whose order is drawn, walked by what holds between its operations: each operation once, whatever the order. Tables of numbers that a call has laid. No conditions. -/
import Derived.Test.YtkdoolilggkjpaaDraw
import Derived.RegionTactic
namespace Go.Proofs.Ytkdoolilggkjpaa
open Go.RowKit

def upd (L : Nat → Bool) (i k : Nat) : Bool := if k = i then true else L k
theorem upd_ne {L : Nat → Bool} {i k : Nat} (h : upd L i k = true) (hne : k ≠ i) : L k = true := by
  unfold upd at h
  rw [if_neg hne] at h
  exact h
theorem upd_other {L : Nat → Bool} {i k : Nat} (hne : k ≠ i) : upd L i k = L k := by
  unfold upd
  rw [if_neg hne]
theorem upd_self {L : Nat → Bool} {i : Nat} : upd L i i = true := by simp [upd]

def depsB (ops : Array Oper) : Bool := (List.range ops.size).all fun i => ((ops[i]?).map (·.after.all fun e => !Region.binds .any e || decide (e.on < i))).getD true

section
variable {P : Program} {ops : Array Oper} {Q : Exit → Act → World → Prop}

def unl (listed : Array Bool) (n : Nat) : List Nat := (List.range n).filter fun i => !listed.getD i true

theorem ready_unl {listed : Array Bool} {i : Nat} (h : i ∈ Region.ready .any ops listed) : i ∈ unl listed ops.size := by
  unfold Region.ready at h
  unfold unl
  rw [List.mem_filter] at h ⊢
  refine ⟨h.1, ?_⟩
  have := h.2
  simp at this
  simp [this.1]

theorem all_listed (hd : depsB ops = true) {listed : Array Bool} (hs : listed.size = ops.size) (hr : Region.ready .any ops listed = []) : ∀ i, i < ops.size → listed.getD i false = true := by
  intro i
  induction i using Nat.strongRecOn with
  | _ i ih =>
    intro hi
    cases hl : listed.getD i false
    · exfalso
      have hmem : i ∈ Region.ready .any ops listed := by
        unfold Region.ready
        rw [List.mem_filter]
        refine ⟨by simpa using hi, ?_⟩
        have e1 : listed.getD i true = false := by
          rw [Array.getD_eq_getD_getElem?] at hl ⊢
          rw [Array.getElem?_eq_getElem (by omega)] at hl ⊢
          simpa using hl
        rw [e1]
        simp only [Bool.not_false, Bool.true_and]
        unfold depsB at hd
        rw [List.all_eq_true] at hd
        have := hd i (by simpa using hi)
        rw [Array.getElem?_eq_getElem hi] at this ⊢
        simp only [Option.map_some, Option.getD_some] at this ⊢
        rw [Array.all_eq_true_iff_forall_mem] at this ⊢
        intro e he
        have hb := this e he
        cases hbi : Region.binds .any e
        · rfl
        · rw [hbi] at hb
          simp at hb
          simp only [Bool.not_true, Bool.false_or]
          exact ih e.on hb (by omega)
      rw [hr] at hmem
      cases hmem
    · rfl

theorem unl_set {listed : Array Bool} {n i : Nat} (h : i ∈ unl listed n) (hs : listed.size = n) : (unl (listed.setIfInBounds i true) n).length < (unl listed n).length := by
  have hsub : unl (listed.setIfInBounds i true) n = (unl listed n).filter (fun j => decide (j ≠ i)) := by
    unfold unl
    rw [List.filter_filter]
    apply List.filter_congr
    intro j hj
    have hj' : j < n := by simpa using hj
    rw [Array.getD_eq_getD_getElem?, Array.getD_eq_getD_getElem?, Array.getElem?_setIfInBounds]
    by_cases e : i = j
    · subst e
      simp [hs, hj']
    · rw [if_neg e]
      have e' : ¬ j = i := fun h => e h.symm
      simp [e']
  rw [hsub]
  exact List.length_filter_lt_length_iff_exists.2 ⟨i, h, by simp⟩

theorem wpAny_inv (hd : depsB ops = true) (Inv : (Nat → Bool) → Act → World → Prop)
    (hstep : ∀ (L : Nat → Bool) (a : Act) (w : World) (i : Nat) (o : Oper), ops[i]? = some o → L i = false → (∀ e ∈ o.after, Region.binds .any e = true → L e.on = true) → Inv L a w → wpOp P ops Q i (Inv (upd L i)) a w)
    (hdone : ∀ (L : Nat → Bool) (a : Act) (w : World), (∀ i, i < ops.size → L i = true) → Inv L a w → Q .normal a w) :
    ∀ (fuel : Nat) (listed : Array Bool) (a : Act) (w : World), listed.size = ops.size → (unl listed ops.size).length ≤ fuel → Inv (fun i => listed.getD i false) a w → wpAny P .any ops Q fuel listed a w
  | 0, listed, a, w, hs, hf, hI => by
    have hr : Region.ready .any ops listed = [] := by
      cases h : Region.ready .any ops listed with
      | nil => rfl
      | cons i is =>
        have := ready_unl (ops := ops) (listed := listed) (i := i) (by rw [h]; simp)
        have hz : unl listed ops.size = [] := List.eq_nil_of_length_eq_zero (by omega)
        rw [hz] at this
        cases this
    exact ⟨hr, hdone _ a w (all_listed hd hs hr) hI⟩
  | fuel + 1, listed, a, w, hs, hf, hI => by
    refine ⟨fun hr => hdone _ a w (all_listed hd hs hr) hI, fun i hi => ?_⟩
    have hu := ready_unl hi
    have hlt := unl_set hu hs
    unfold Region.ready at hi
    rw [List.mem_filter] at hi
    obtain ⟨hi1, hi2⟩ := hi
    have hi1' : i < ops.size := by simpa using hi1
    rw [Array.getElem?_eq_getElem hi1'] at hi2
    simp only [Option.map_some, Option.getD_some, Bool.and_eq_true, Bool.not_eq_true'] at hi2
    refine wpOp_mono (K := Inv (upd (fun i => listed.getD i false) i)) (fun a' w' h' => ?_) (hstep _ a w i ops[i] (Array.getElem?_eq_getElem hi1') ?_ ?_ hI)
    · refine wpAny_inv hd Inv hstep hdone fuel _ a' w' (by simpa using hs) (by omega) ?_
      have e : (fun j => (listed.setIfInBounds i true).getD j false) = upd (fun i => listed.getD i false) i := by
        funext j
        unfold upd
        rw [Array.getD_eq_getD_getElem?, Array.getElem?_setIfInBounds]
        by_cases e : i = j
        · subst e
          simp [hs, hi1']
        · rw [if_neg e, if_neg (fun h => e h.symm), ← Array.getD_eq_getD_getElem?]
      rw [e]
      exact h'
    · have := hi2.1
      rw [Array.getD_eq_getD_getElem?, Array.getElem?_eq_getElem (by omega)] at this ⊢
      simpa using this
    · intro e he hb
      have := (Array.all_eq_true_iff_forall_mem.1 hi2.2) e he
      rw [hb] at this
      simpa using this

/-- a region, by what holds between its operations -/
theorem wp_region_inv {id : Nat} {a : Act} {w : World} (hm : P.follows .mixedOrders = true) (hd : depsB ops = true) (Inv : (Nat → Bool) → Act → World → Prop)
    (h0 : Inv (fun _ => false) a w.drew)
    (hstep : ∀ (L : Nat → Bool) (a : Act) (w : World) (i : Nat) (o : Oper), ops[i]? = some o → L i = false → (∀ e ∈ o.after, Region.binds .any e = true → L e.on = true) → Inv L a w → wpOp P ops Q i (Inv (upd L i)) a w)
    (hdone : ∀ (L : Nat → Bool) (a : Act) (w : World), (∀ i, i < ops.size → L i = true) → Inv L a w → Q .normal a w) : (Code.region id ops true).wp P Q a w := by
  refine wp_region_any hm (wpAny_inv hd Inv hstep hdone _ _ _ _ (by simp) ?_ ?_)
  · unfold unl
    exact Nat.le_trans (List.length_filter_le _ _) (by simp)
  · have e : (fun i => (Array.replicate ops.size false).getD i false) = fun _ => false := by
      funext j
      rw [Array.getD_eq_getD_getElem?]
      rcases Nat.lt_or_ge j ops.size with h | h
      · simp [h]
      · rw [Array.getElem?_eq_none (by simpa using h)]
        rfl
    rw [e]
    exact h0
end

/-- a row of n numbers in lo..hi, in block g, which is not the reader's -/
def Tbl (w : World) (gr g n : Nat) (lo hi : Int) : Prop := g ≠ gr ∧ g < w.heap.size ∧ ∀ j, j < n → ∃ q : Int, w.cell? ⟨g, j, none⟩ = some (.int .i64 q) ∧ lo ≤ q ∧ q ≤ hi

theorem Tbl.alloc {w : World} {gr g n : Nat} {lo hi : Int} (h : Tbl w gr g n lo hi) (o : Obj) : Tbl (w.alloc o) gr g n lo hi := by
  refine ⟨h.1, by have := h.2.1; simp; omega, fun j hj => ?_⟩
  obtain ⟨q, hq, hb⟩ := h.2.2 j hj
  exact ⟨q, (((Below.refl w.heap.size w).alloc (Nat.le_refl _) o).cell (p := ⟨g, j, none⟩) h.2.1).trans hq, hb⟩
theorem Tbl.pick {w w' : World} {gr g n : Nat} {lo hi : Int} (h : Tbl w gr g n lo hi) (hg : w.grownBy w' (some gr)) : Tbl w' gr g n lo hi := by
  refine ⟨h.1, Nat.lt_of_lt_of_le h.2.1 hg.size, fun j hj => ?_⟩
  obtain ⟨q, hq, hb⟩ := h.2.2 j hj
  exact ⟨q, (World.cell?_of_block (hg.block g h.2.1 (fun e => h.1 (by injection e)))).trans hq, hb⟩
theorem Tbl.new (w : World) (gr : Nat) (t : TypeId) (qs : List Int) (lo hi : Int) (hgr : gr < w.heap.size) (h : ∀ q ∈ qs, lo ≤ q ∧ q ≤ hi) (cs : Array Value) (hc : cs = (qs.map (Value.int .i64)).toArray) : Tbl (w.alloc (.cells cs t)) gr w.heap.size qs.length lo hi := by
  subst hc
  refine ⟨by omega, by simp, fun j hj => ⟨qs[j], ?_, h _ (List.getElem_mem hj)⟩⟩
  rw [(Rw.new w t _).cell j]
  simp [hj]

/-- the relations that a slot's value may bear -/
def IntIn (lo hi : Int) (v : Value) : Prop := ∃ q : Int, v = .int .i64 q ∧ lo ≤ q ∧ q ≤ hi
def TblOf (w : World) (gr n : Nat) (lo hi : Int) (v : Value) : Prop := ∃ g, v = .slice (some ⟨g, 0, none⟩) n n ∧ Tbl w gr g n lo hi
def PtrOf (w : World) (gr n : Nat) (lo hi : Int) (v : Value) : Prop := ∃ g j, v = .pointer (some ⟨g, j, none⟩) ∧ j < n ∧ Tbl w gr g n lo hi
theorem TblOf.alloc {w : World} {gr n : Nat} {lo hi : Int} {v : Value} (h : TblOf w gr n lo hi v) (o : Obj) : TblOf (w.alloc o) gr n lo hi v := by
  obtain ⟨g, e, h⟩ := h
  exact ⟨g, e, h.alloc o⟩
theorem TblOf.pick {w w' : World} {gr n : Nat} {lo hi : Int} {v : Value} (h : TblOf w gr n lo hi v) (hg : w.grownBy w' (some gr)) : TblOf w' gr n lo hi v := by
  obtain ⟨g, e, h⟩ := h
  exact ⟨g, e, h.pick hg⟩
theorem PtrOf.alloc {w : World} {gr n : Nat} {lo hi : Int} {v : Value} (h : PtrOf w gr n lo hi v) (o : Obj) : PtrOf (w.alloc o) gr n lo hi v := by
  obtain ⟨g, j, e, hj, h⟩ := h
  exact ⟨g, j, e, hj, h.alloc o⟩
theorem PtrOf.pick {w w' : World} {gr n : Nat} {lo hi : Int} {v : Value} (h : PtrOf w gr n lo hi v) (hg : w.grownBy w' (some gr)) : PtrOf w' gr n lo hi v := by
  obtain ⟨g, j, e, hj, h⟩ := h
  exact ⟨g, j, e, hj, h.pick hg⟩
end Go.Proofs.Ytkdoolilggkjpaa
