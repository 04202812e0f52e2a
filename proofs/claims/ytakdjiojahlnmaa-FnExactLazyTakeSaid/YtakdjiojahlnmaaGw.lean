/- Heaps whose cells are moved, in plain mathematics: copies and slid heaps show the same. No program, no conditions. What the model's l16Order returns: for every valid heap. No conditions. A heap of the call's own in a box, to which a root is appended; a part of a slice of numbers. No conditions. -/
import Derived.Test.YtakdjiojahlnmaaGv
import Derived.Test.YtakdjiojahlnmaaGf
namespace Go.Proofs.Ytakdjiojahlnmaa
namespace Hps

/-- the heap of the cells on a list, in this order -/
def moveH (h : Hp) (o : List Int) : Hp := ⟨o.map fun n => ⟨true, (cellAt h.cs n).d, (cellAt h.cs n).r.map (nameL o)⟩, h.rt.map (nameL o)⟩
def copyH (h : Hp) : Hp := if validH h = true then moveH h (orderH h) else ⟨[], []⟩
open Classical in
/-- the reachable cells, ascending -/
noncomputable def slideL (h : Hp) : List Int := ((List.range h.cs.length).filter fun k => decide (Rch h.cs h.rt k)).map fun (k : Nat) => (k : Int)
noncomputable def slideH (h : Hp) : Hp := if validH h = true then moveH h (slideL h) else ⟨[], []⟩

/-- a list of just the cells that can be reached, each once -/
structure Lives (h : Hp) (o : List Int) : Prop where
  nodup : o.Nodup
  mem : ∀ n : Int, n ∈ o ↔ ∃ k : Nat, n = k ∧ Rch h.cs h.rt k
theorem lives_order {h : Hp} (hv : validH h = true) : Lives h (orderH h) := by
  refine ⟨order_nodup h, fun n => ⟨fun hn => ?_, ?_⟩⟩
  · obtain ⟨k, rfl, _⟩ := order_nat hn
    exact ⟨k, rfl, (mem_order hv).1 hn⟩
  · rintro ⟨k, rfl, hk⟩
    exact (mem_order hv).2 hk
theorem lives_slide {h : Hp} (hv : validH h = true) : Lives h (slideL h) := by
  refine ⟨?_, fun n => ?_⟩
  · refine List.pairwise_map.2 ?_
    refine List.Pairwise.imp (fun {a b} hab => ?_) (List.Pairwise.filter _ List.nodup_range)
    omega
  · unfold slideL
    rw [List.mem_map]
    constructor
    · rintro ⟨k, hk, rfl⟩
      rw [List.mem_filter] at hk
      exact ⟨k, rfl, by simpa using hk.2⟩
    · rintro ⟨k, rfl, hk⟩
      refine ⟨k, ?_, rfl⟩
      rw [List.mem_filter, List.mem_range]
      exact ⟨usedAt_lt (hk.live hv), by simpa using hk⟩
section
variable {h : Hp} {o : List Int}
theorem Lives.cell (L : Lives h o) (hv : validH h = true) {x : Nat} {n : Int} (hx : o[x]? = some n) : ∃ (k : Nat) (c : Cl), n = k ∧ Rch h.cs h.rt k ∧ h.cs[k]? = some c ∧ (moveH h o).cs[x]? = some ⟨true, c.d, c.r.map (nameL o)⟩ := by
  obtain ⟨k, rfl, hk⟩ := (L.mem n).1 (List.mem_of_getElem? hx)
  obtain ⟨c, hc, _⟩ := usedAt_iff.1 (hk.live hv)
  refine ⟨k, c, rfl, hk, hc, ?_⟩
  simp [moveH, hx, cellAt, hc]
theorem Lives.neg (L : Lives h o) : (-1 : Int) ∉ o := fun hm => by
  obtain ⟨k, e, _⟩ := (L.mem _).1 hm
  omega
/-- a reference that is none or leads to a reachable cell -/
theorem Lives.name (L : Lives h o) {n : Int} (hn : n = -1 ∨ ∃ k : Nat, n = k ∧ Rch h.cs h.rt k) : RR (fun k x => o[x]? = some (k : Int)) n (nameL o n) := by
  rcases hn with rfl | ⟨k, rfl, hk⟩
  · exact .inl ⟨rfl, nameL_none L.neg⟩
  · obtain ⟨x, hx⟩ := List.mem_iff_getElem?.1 ((L.mem _).2 ⟨k, rfl, hk⟩)
    exact .inr ⟨k, x, rfl, nameL_at L.nodup hx, hx⟩
theorem ref_live (hv : validH h = true) {k : Nat} {c : Cl} (hk : Rch h.cs h.rt k) (hc : h.cs[k]? = some c) {n : Int} (hn : n ∈ c.r) : n = -1 ∨ ∃ m : Nat, n = m ∧ Rch h.cs h.rt m := by
  have ok := okRefs_iff.1 (valid_refs hv c (List.mem_of_getElem? hc)) n hn
  by_cases h0 : 0 ≤ n
  · obtain ⟨m, rfl, _⟩ := okRef_nat ok h0
    exact .inr ⟨m, rfl, .step hk hc hn⟩
  · rcases okRef_iff.1 ok with e | ⟨e, _⟩
    · exact .inl e
    · omega
theorem root_live (hv : validH h = true) {n : Int} (hn : n ∈ h.rt) : n = -1 ∨ ∃ m : Nat, n = m ∧ Rch h.cs h.rt m := by
  have ok := okRefs_iff.1 (valid_iff.1 hv).2.2.2 n hn
  by_cases h0 : 0 ≤ n
  · obtain ⟨m, rfl, _⟩ := okRef_nat ok h0
    exact .inr ⟨m, rfl, .root hn⟩
  · rcases okRef_iff.1 ok with e | ⟨e, _⟩
    · exact .inl e
    · omega
theorem Lives.names (L : Lives h o) {ns : List Int} (hn : ∀ n ∈ ns, n = -1 ∨ ∃ k : Nat, n = k ∧ Rch h.cs h.rt k) : LR (fun k x => o[x]? = some (k : Int)) ns (ns.map (nameL o)) := by
  refine ⟨by simp, fun i n m h1 h2 => ?_⟩
  rw [List.getElem?_map, h1, Option.map_some, Option.some.injEq] at h2
  rw [← h2]
  exact L.name (hn n (List.mem_of_getElem? h1))
/-- a heap and the heap of its moved cells are related -/
theorem Lives.sim (L : Lives h o) (hv : validH h = true) : Sim h (moveH h o) (fun k x => o[x]? = some (k : Int)) := by
  refine ⟨fun k x y h1 h2 => ?_, fun k m x h1 h2 => ?_, L.names (fun n hn => root_live hv hn), fun {k x} hx => ?_⟩
  · have e1 := nameL_at L.nodup h1
    have e2 := nameL_at L.nodup h2
    omega
  · rw [h1] at h2
    have := Option.some.inj h2
    omega
  · obtain ⟨k', c, e, hk, hc, hm⟩ := L.cell hv hx
    have e : k = k' := by omega
    subst e
    exact ⟨c, _, hc, hm, rfl, L.names (fun n hn => ref_live hv hk hc hn)⟩
theorem Lives.len (L : Lives h o) (hv : validH h = true) : o.length ≤ h.cs.length := by
  refine few_numbers _ o L.nodup fun x hx => ?_
  obtain ⟨k, rfl, hk⟩ := (L.mem x).1 hx
  exact ⟨k, rfl, usedAt_lt (hk.live hv)⟩
theorem Lives.okRef (L : Lives h o) (hv : validH h = true) {n : Int} (hn : n = -1 ∨ ∃ k : Nat, n = k ∧ Rch h.cs h.rt k) : okRef (moveH h o).cs (nameL o n) = true := by
  rcases L.name hn with ⟨_, e⟩ | ⟨k, x, _, e, hx⟩
  · rw [e]
    exact okRef_none _
  · obtain ⟨_, c, _, _, _, hm⟩ := L.cell hv hx
    rw [e, okRef_iff]
    exact .inr ⟨by omega, usedAt_iff.2 ⟨_, by rw [Int.toNat_natCast]; exact hm, rfl⟩⟩
theorem Lives.valid (L : Lives h o) (hv : validH h = true) : validH (moveH h o) = true := by
  obtain ⟨h1, h2, h3, h4⟩ := valid_iff.1 hv
  refine valid_iff.2 ⟨fun c hc => ?_, ?_, ?_, ?_⟩
  · obtain ⟨x, hx⟩ := List.mem_iff_getElem?.1 hc
    have hxl := (List.getElem?_eq_some_iff.1 hx).1
    simp only [moveH, List.length_map] at hxl
    obtain ⟨k, d, e, hk, hd, hm⟩ := L.cell hv (List.getElem?_eq_getElem hxl)
    rw [hm] at hx
    have hx := Option.some.inj hx
    subst hx
    have ok := okCell_iff.1 (valid_cell hv hd)
    refine okCell_iff.2 ⟨.inl rfl, ok.2.1, by simpa using ok.2.2.1, okRefs_iff.2 fun n hn => ?_⟩
    obtain ⟨m, hm1, rfl⟩ := List.mem_map.1 hn
    exact L.okRef hv (ref_live hv hk hd hm1)
  · have := L.len hv
    simp only [moveH, List.length_map]
    omega
  · simpa [moveH] using h3
  · refine okRefs_iff.2 fun n hn => ?_
    obtain ⟨m, hm1, rfl⟩ := List.mem_map.1 hn
    exact L.okRef hv (root_live hv hm1)
/-- moved cells: a program sees the same -/
theorem Lives.view (L : Lives h o) (hv : validH h = true) : viewH (moveH h o) = viewH h := ((L.sim hv).view hv (L.valid hv)).symm
end
theorem copy_valid {h : Hp} (hv : validH h = true) : validH (copyH h) = true := by rw [copyH, if_pos hv]; exact (lives_order hv).valid hv
theorem copy_view {h : Hp} (hv : validH h = true) : viewH (copyH h) = viewH h := by rw [copyH, if_pos hv]; exact (lives_order hv).view hv
theorem slide_valid {h : Hp} (hv : validH h = true) : validH (slideH h) = true := by rw [slideH, if_pos hv]; exact (lives_slide hv).valid hv
theorem slide_view {h : Hp} (hv : validH h = true) : viewH (slideH h) = viewH h := by rw [slideH, if_pos hv]; exact (lives_slide hv).view hv
end Hps
end Go.Proofs.Ytakdjiojahlnmaa

namespace Go.Proofs.Ytakdjiojahlnmaa
open Go.RowKit
set_option maxRecDepth 100000

namespace Hps
open Classical in
theorem slide_snoc (h : Hp) (k : Nat) : (((List.range (k + 1)).filter fun k => decide (Rch h.cs h.rt k)).map fun (k : Nat) => (k : Int)) = (((List.range k).filter fun k => decide (Rch h.cs h.rt k)).map fun (k : Nat) => (k : Int)) ++ (if Rch h.cs h.rt k then [(k : Int)] else []) := by
  rw [List.range_succ, List.filter_append, List.map_append]
  congr 1
  by_cases hk : Rch h.cs h.rt k
  · simp [hk]
  · simp [hk]
open Classical in
noncomputable def slideTo (h : Hp) (k : Nat) : List Int := ((List.range k).filter fun k => decide (Rch h.cs h.rt k)).map fun (k : Nat) => (k : Int)
theorem slideTo_yes {h : Hp} {k : Nat} (hk : Rch h.cs h.rt k) : slideTo h (k + 1) = slideTo h k ++ [(k : Int)] := by
  rw [slideTo, slide_snoc, if_pos hk]
  rfl
theorem slideTo_no {h : Hp} {k : Nat} (hk : ¬ Rch h.cs h.rt k) : slideTo h (k + 1) = slideTo h k := by
  rw [slideTo, slide_snoc, if_neg hk, List.append_nil]
  rfl
theorem slideTo_len (h : Hp) (k : Nat) : (slideTo h k).length ≤ k := by
  unfold slideTo
  rw [List.length_map]
  exact Nat.le_trans (List.length_filter_le _ _) (by simp)
end Hps

/-- the list so far, and marks that lie apart from it -/
structure SO (w wr : World) (ov lv : Value) (bs : List Bool) (l : List Int) : Prop where
  lst : OwnI wr (w.heap.size + 1) lv l
  mks : OwnO wr (w.heap.size + 1) ov bs
  sep : lv.ownBlock = none ∨ lv.ownBlock ≠ ov.ownBlock
  bel : Below w.heap.size w wr
  big : w.heap.size + 1 ≤ wr.heap.size
theorem SO.app {w wr w1 : World} {ov lv v5 : Value} {bs : List Bool} {l xs : List Int} {ob : Obj} (S : SO w wr ov lv bs l) (h : OwnI w1 (w.heap.size + 1) v5 (l ++ xs)) (hg : (wr.alloc ob).grownBy w1 lv.ownBlock) (hs : v5.ownBlock = lv.ownBlock ∨ v5.ownBlock = some (wr.alloc ob).heap.size) : SO w w1 ov v5 bs (l ++ xs) := by
  have hlo : ∀ k, lv.ownBlock = some k → w.heap.size + 1 ≤ k := fun k hk => (World.ownsRow.lt S.lst k hk).1
  have mk2 : OwnO (wr.alloc ob) (w.heap.size + 1) ov bs := World.ownsRow.alloc S.mks ob
  refine ⟨h, World.ownsRow.kept mk2 hg (sep_back S.sep), ?_, (S.bel.alloc S.bel.size ob).grown hg (by simp; have := S.bel.size; omega) (fun k hk => by have := hlo k hk; omega), by have := hg.size; have := S.big; simp at *; omega⟩
  rcases hs with e | e
  · rw [e]; exact S.sep
  · right
    rw [e]
    intro e'
    have := (World.ownsRow.lt S.mks _ e'.symm).2
    simp at this
    omega

end Go.Proofs.Ytakdjiojahlnmaa

namespace Go.Proofs.Ytakdjiojahlnmaa
open Go.RowKit

/-- a part of a slice of numbers -/
theorem IS.part {w : World} {B n i r : Nat} {g o : Nat} {xs : List Int} (h : IS w B (some ⟨g, o, none⟩) n xs) (hi : i + r ≤ n) : IS w B (some ⟨g, o + i, none⟩) r ((xs.drop i).take r) := by
  have hl := h.1
  refine ⟨by rw [List.length_take, List.length_drop]; omega, fun hr => ?_⟩
  obtain ⟨g', o', e, hb, hc⟩ := h.2 (by omega)
  have e := Option.some.inj e
  injection e with e1 e2
  subst e1 e2
  refine ⟨g, o + i, rfl, hb, fun k b hk => ?_⟩
  rw [List.getElem?_take] at hk
  split at hk
  · rw [List.getElem?_drop] at hk
    rw [Nat.add_assoc]
    exact hc _ _ hk
  · cases hk
theorem IS.front {w : World} {B n r : Nat} {A : Option Addr} {xs : List Int} (h : IS w B A n xs) (hr : r ≤ n) : IS w B A r (xs.take r) := by
  refine ⟨by rw [List.length_take, h.1]; omega, fun h0 => ?_⟩
  obtain ⟨g, o, e, hb, hc⟩ := h.2 (by omega)
  refine ⟨g, o, e, hb, fun k b hk => ?_⟩
  rw [List.getElem?_take] at hk
  split at hk
  · exact hc _ _ hk
  · cases hk

section
variable {w0 wr w1 : World} {b : Nat} {vc vr v9 : Value} {rvs : List Value} {h : Hp} {x : Int}
/-- a root behind the last one, and the box holds the new slice -/
theorem BoxSt.rootSnoc (S : BoxSt w0 wr b vc vr rvs h) (hG : wr.grownBy w1 vr.ownBlock) (o9 : OwnI w1 w0.heap.size v9 (h.rt ++ [x])) (q : v9.ownBlock = vr.ownBlock ∨ v9.ownBlock = some wr.heap.size) :
    BoxSt w0 (w1.setCell ⟨b, 1, none⟩ v9) b vc v9 rvs ⟨h.cs, h.rt ++ [x]⟩ := by
  have hlo := S.lo
  have hbl := S.box.lt
  have hsp := S.own.sep
  unfold Sep at hsp
  rw [List.pairwise_cons, List.pairwise_cons] at hsp
  obtain ⟨sp1, sp2, sp3⟩ := hsp
  have hvrb : some b ≠ vr.ownBlock := by
    rcases S.apart vr (by simp) with e | e
    · rw [e]; simp
    · exact fun h => e h.symm
  have hnew : ∀ v ∈ vc :: rvs, v.ownBlock = none ∨ v.ownBlock ≠ v9.ownBlock := fun v hv => by
    rcases q with e | e
    · rw [e]
      rcases List.mem_cons.1 hv with rfl | hv
      · exact sp1 vr (by simp)
      · exact sep_back (sp2 v hv)
    · cases ev : v.ownBlock with
      | none => exact .inl rfl
      | some k =>
        right
        rw [e]
        intro e'
        have e' := Option.some.inj e'
        have := (S.own.blocks (v := v) (by rcases List.mem_cons.1 hv with rfl | hv <;> simp [*]) ev).2
        omega
  have own1 : OwnHx w1 w0.heap.size vc v9 rvs ⟨h.cs, h.rt ++ [x]⟩ := by
    refine ⟨S.own.len, World.ownsRow.kept S.own.row hG (sp1 vr (by simp)), fun k c v hc hv => (S.own.refs k c v hc hv).far hG (sep_back (sp2 v (List.mem_of_getElem? hv))), o9, ?_⟩
    unfold Sep
    rw [List.pairwise_cons, List.pairwise_cons]
    refine ⟨fun v hv => ?_, fun v hv => sep_back (hnew v (by simp [hv])), sp3⟩
    rcases List.mem_cons.1 hv with rfl | hv
    · exact hnew vc (by simp)
    · exact sp1 v (by simp [hv])
  have ap : Apart (some b) (vc :: v9 :: rvs) := by
    intro v hv
    rcases List.mem_cons.1 hv with rfl | hv
    · exact S.apart _ (by simp)
    rcases List.mem_cons.1 hv with rfl | hv
    · right
      rcases q with e | e
      · rw [e]; exact fun h => hvrb h.symm
      · rw [e]; intro e'; have e' := Option.some.inj e'; omega
    · exact S.apart v (by simp [hv])
  refine ⟨own1.far (put_any w1 b 1 v9) ap, ap, (Rw.far S.box hG hvrb).put 1 v9, ?_, hlo⟩
  exact (S.low.grown hG S.low.size (fun kk hk => (S.own.blocks (v := vr) (by simp) hk).1)).setCell (p := ⟨b, 1, none⟩) (by show w0.heap.size ≤ b; omega) _
end
end Go.Proofs.Ytakdjiojahlnmaa
