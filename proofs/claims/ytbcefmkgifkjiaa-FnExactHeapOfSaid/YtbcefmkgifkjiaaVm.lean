/- A heap of the call's own in a box, to which a root is appended; a part of a slice of numbers. No conditions. -/
import Derived.Test.YtbcefmkgifkjiaaVz
import Derived.Test.YtbcefmkgifkjiaaGf
namespace Go.Proofs.Ytbcefmkgifkjiaa
open Go.RowKit

/-- a part of a slice of numbers -/
theorem IS.part {w : World} {B n i r : Nat} {g o : Nat} {xs : List Int} (h : IS w B (some ⟨g, o, none⟩) n xs) (hi : i + r ≤ n) : IS w B (some ⟨g, o + i, none⟩) r ((xs.drop i).take r) := by
  have hl := h.1
  refine ⟨by rw [List.length_take, List.length_drop]; omega, fun hr => ?_⟩
  obtain ⟨g', o', e, hb, hc⟩ := h.2 (by omega)
  have e := Option.some.inj e
  injection e with e1 e2
  subst e1 e2
  refine ⟨g, o + i, rfl, hb, fun k b hk => ?_⟩
  rw [List.getElem?_take] at hk
  split at hk
  · rw [List.getElem?_drop] at hk
    rw [Nat.add_assoc]
    exact hc _ _ hk
  · cases hk
theorem IS.front {w : World} {B n r : Nat} {A : Option Addr} {xs : List Int} (h : IS w B A n xs) (hr : r ≤ n) : IS w B A r (xs.take r) := by
  refine ⟨by rw [List.length_take, h.1]; omega, fun h0 => ?_⟩
  obtain ⟨g, o, e, hb, hc⟩ := h.2 (by omega)
  refine ⟨g, o, e, hb, fun k b hk => ?_⟩
  rw [List.getElem?_take] at hk
  split at hk
  · exact hc _ _ hk
  · cases hk

section
variable {w0 wr w1 : World} {b : Nat} {vc vr v9 : Value} {rvs : List Value} {h : Hp} {x : Int}
/-- a root behind the last one, and the box holds the new slice -/
theorem BoxSt.rootSnoc (S : BoxSt w0 wr b vc vr rvs h) (hG : wr.grownBy w1 vr.ownBlock) (o9 : OwnI w1 w0.heap.size v9 (h.rt ++ [x])) (q : v9.ownBlock = vr.ownBlock ∨ v9.ownBlock = some wr.heap.size) :
    BoxSt w0 (w1.setCell ⟨b, 1, none⟩ v9) b vc v9 rvs ⟨h.cs, h.rt ++ [x]⟩ := by
  have hlo := S.lo
  have hbl := S.box.lt
  have hsp := S.own.sep
  unfold Sep at hsp
  rw [List.pairwise_cons, List.pairwise_cons] at hsp
  obtain ⟨sp1, sp2, sp3⟩ := hsp
  have hvrb : some b ≠ vr.ownBlock := by
    rcases S.apart vr (by simp) with e | e
    · rw [e]; simp
    · exact fun h => e h.symm
  have hnew : ∀ v ∈ vc :: rvs, v.ownBlock = none ∨ v.ownBlock ≠ v9.ownBlock := fun v hv => by
    rcases q with e | e
    · rw [e]
      rcases List.mem_cons.1 hv with rfl | hv
      · exact sp1 vr (by simp)
      · exact sep_back (sp2 v hv)
    · cases ev : v.ownBlock with
      | none => exact .inl rfl
      | some k =>
        right
        rw [e]
        intro e'
        have e' := Option.some.inj e'
        have := (S.own.blocks (v := v) (by rcases List.mem_cons.1 hv with rfl | hv <;> simp [*]) ev).2
        omega
  have own1 : OwnHx w1 w0.heap.size vc v9 rvs ⟨h.cs, h.rt ++ [x]⟩ := by
    refine ⟨S.own.len, World.ownsRow.kept S.own.row hG (sp1 vr (by simp)), fun k c v hc hv => (S.own.refs k c v hc hv).far hG (sep_back (sp2 v (List.mem_of_getElem? hv))), o9, ?_⟩
    unfold Sep
    rw [List.pairwise_cons, List.pairwise_cons]
    refine ⟨fun v hv => ?_, fun v hv => sep_back (hnew v (by simp [hv])), sp3⟩
    rcases List.mem_cons.1 hv with rfl | hv
    · exact hnew vc (by simp)
    · exact sp1 v (by simp [hv])
  have ap : Apart (some b) (vc :: v9 :: rvs) := by
    intro v hv
    rcases List.mem_cons.1 hv with rfl | hv
    · exact S.apart _ (by simp)
    rcases List.mem_cons.1 hv with rfl | hv
    · right
      rcases q with e | e
      · rw [e]; exact fun h => hvrb h.symm
      · rw [e]; intro e'; have e' := Option.some.inj e'; omega
    · exact S.apart v (by simp [hv])
  refine ⟨own1.far (put_any w1 b 1 v9) ap, ap, (Rw.far S.box hG hvrb).put 1 v9, ?_, hlo⟩
  exact (S.low.grown hG S.low.size (fun kk hk => (S.own.blocks (v := vr) (by simp) hk).1)).setCell (p := ⟨b, 1, none⟩) (by show w0.heap.size ≤ b; omega) _
end
end Go.Proofs.Ytbcefmkgifkjiaa
