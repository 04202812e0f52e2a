/- What the model's l16Order returns: for every valid heap. No conditions. -/
import Derived.Test.YtbcefmkgifkjiaaGv
import Derived.Test.YtbcefmkgifkjiaaVy
namespace Go.Proofs.Ytbcefmkgifkjiaa
open Go.RowKit
set_option maxRecDepth 100000

namespace Hps
open Classical in
theorem slide_snoc (h : Hp) (k : Nat) : (((List.range (k + 1)).filter fun k => decide (Rch h.cs h.rt k)).map fun (k : Nat) => (k : Int)) = (((List.range k).filter fun k => decide (Rch h.cs h.rt k)).map fun (k : Nat) => (k : Int)) ++ (if Rch h.cs h.rt k then [(k : Int)] else []) := by
  rw [List.range_succ, List.filter_append, List.map_append]
  congr 1
  by_cases hk : Rch h.cs h.rt k
  · simp [hk]
  · simp [hk]
open Classical in
noncomputable def slideTo (h : Hp) (k : Nat) : List Int := ((List.range k).filter fun k => decide (Rch h.cs h.rt k)).map fun (k : Nat) => (k : Int)
theorem slideTo_yes {h : Hp} {k : Nat} (hk : Rch h.cs h.rt k) : slideTo h (k + 1) = slideTo h k ++ [(k : Int)] := by
  rw [slideTo, slide_snoc, if_pos hk]
  rfl
theorem slideTo_no {h : Hp} {k : Nat} (hk : ¬ Rch h.cs h.rt k) : slideTo h (k + 1) = slideTo h k := by
  rw [slideTo, slide_snoc, if_neg hk, List.append_nil]
  rfl
theorem slideTo_len (h : Hp) (k : Nat) : (slideTo h k).length ≤ k := by
  unfold slideTo
  rw [List.length_map]
  exact Nat.le_trans (List.length_filter_le _ _) (by simp)
end Hps

/-- the list so far, and marks that lie apart from it -/
structure SO (w wr : World) (ov lv : Value) (bs : List Bool) (l : List Int) : Prop where
  lst : OwnI wr (w.heap.size + 1) lv l
  mks : OwnO wr (w.heap.size + 1) ov bs
  sep : lv.ownBlock = none ∨ lv.ownBlock ≠ ov.ownBlock
  bel : Below w.heap.size w wr
  big : w.heap.size + 1 ≤ wr.heap.size
theorem SO.app {w wr w1 : World} {ov lv v5 : Value} {bs : List Bool} {l xs : List Int} {ob : Obj} (S : SO w wr ov lv bs l) (h : OwnI w1 (w.heap.size + 1) v5 (l ++ xs)) (hg : (wr.alloc ob).grownBy w1 lv.ownBlock) (hs : v5.ownBlock = lv.ownBlock ∨ v5.ownBlock = some (wr.alloc ob).heap.size) : SO w w1 ov v5 bs (l ++ xs) := by
  have hlo : ∀ k, lv.ownBlock = some k → w.heap.size + 1 ≤ k := fun k hk => (World.ownsRow.lt S.lst k hk).1
  have mk2 : OwnO (wr.alloc ob) (w.heap.size + 1) ov bs := World.ownsRow.alloc S.mks ob
  refine ⟨h, World.ownsRow.kept mk2 hg (sep_back S.sep), ?_, (S.bel.alloc S.bel.size ob).grown hg (by simp; have := S.bel.size; omega) (fun k hk => by have := hlo k hk; omega), by have := hg.size; have := S.big; simp at *; omega⟩
  rcases hs with e | e
  · rw [e]; exact S.sep
  · right
    rw [e]
    intro e'
    have := (World.ownsRow.lt S.mks _ e'.symm).2
    simp at this
    omega

set_option maxHeartbeats 2000000 in
theorem l16Order_any (A R : Option Addr) (n c m d : Nat) (h : Hp) (w : World) (hs : HS w w.heap.size A n R m h) (hv : Hps.validH h = true) :
    Calls Try.prog 82 #[heapV A n c R m d] w (GaveI w (Hps.slideL h)) := by
  have hlc := hs.cells.1
  have hlr := hs.roots.1
  obtain ⟨s1, s2, s3⟩ := Hps.valid_small hv
  have b0 : Below w.heap.size w ((w.alloc (.cells #[.slice A n c, .slice R m d] 26)).alloc (.cells #[] 3)) := ((Below.refl _ _).alloc (Nat.le_refl _) _).alloc (by simp) _
  have r0 := hs.up b0
  have on := own_noneI (w.alloc (.cells #[.slice A n c, .slice R m d] 26)) (w.heap.size + 1) (by simp)
  rw [World.size_alloc] at on
  have HRF := Lib.hid (Hps.valid_refs hv)
  have HRO := Lib.hid (Hps.valid_iff.1 hv).2.2.2
  have HS3 := Lib.hid s3
  clear hv s3
  go_enter Try.func82, Try.ntmps82
  go_wp2_with fail
  refine (l7Reach_any _ _ _ _ _ _ _ _ _ h _ _ r0 r0.roots (by omega) (by omega) HRO.out HRF.out (fun cl hcl => by have := HS3.out cl hcl; omega)).mono ?_
  rintro e w1 ⟨v1, rfl, o1, b1⟩
  obtain ⟨bs, hbs⟩ : ∃ bs, Hps.reachL h.cs h.rt = bs := ⟨_, rfl⟩
  have HBS := Lib.hid hbs
  have hbl : bs.length = n := by rw [← hbs, Hps.reachL_len]; exact hlc
  rw [hbs] at o1
  clear hbs
  obtain ⟨AO, co, rfl, -⟩ := o1.form
  have hsz0 : ((w.alloc (.cells #[.slice A n c, .slice R m d] 26)).alloc (.cells #[] 3)).heap.size = w.heap.size + 2 := by simp
  have S0 : SO w w1 (.slice AO bs.length co) (.slice (some ⟨w.heap.size + 1, 0, none⟩) 0 0) bs [] := by
    refine ⟨on.below b1 (Nat.le_refl _), o1.base (by omega), .inr (fun e => ?_), b0.trans (b1.mono b0.size), by have := b1.size; omega⟩
    have := (World.ownsRow.lt o1 (w.heap.size + 1) e.symm).1
    omega
  rw [hbl] at S0 ⊢
  have HBL := Lib.hid hbl
  have hn40 : n ≤ 40 := by omega
  clear r0 on b0 b1 o1 hsz0 hbl s1
  go_wp2_with fail
  go_loopw [3, 5] (fun lv i wr => ∃ (k : Nat), k ≤ n ∧ i = .int .i64 k ∧ SO w wr (.slice AO n co) lv bs (Hps.slideTo h k)) (fun _ i _ => n - (intOf i).toNat)
  case atStart => exact ⟨0, Nat.zero_le _, rfl, S0⟩
  case round =>
    clear S0
    obtain ⟨k, hk, rfl, S⟩ := hrel
    by_cases hlt : k < n
    · have hlt' : (k : Int) < n := by omega
      obtain ⟨g, o, bo, e1, hg, hb, d1⟩ := S.mks.reads.at_ (k := k) hlt
      subst e1
      have hR : bo = true ↔ Hps.Rch h.cs h.rt k := by
        have := Hps.reachL_true (cs := h.cs) (a := h.rt) (k := k) (by omega)
        rw [HBS.out, hb] at this
        simpa using this
      have hyn : (Hps.slideTo h k).length + 1 ≤ 1099511627776 := by have := Hps.slideTo_len h k; omega
      cases bo
      · have HN := Lib.hid (Hps.slideTo_no (h := h) (k := k) (fun q => by have := hR.2 q; cases this))
        clear hb hR
        go_wp2_with fail
        go_roundw
        case rel => exact ⟨k + 1, by omega, by go_num, by rw [HN.out]; exact S⟩
        case measure => simp [intOf]; omega
      · have HY := Lib.hid (Hps.slideTo_yes (h := h) (k := k) (hR.1 rfl))
        have ow := World.ownsRow.alloc S.lst (.cells #[.int .i64 k] 3)
        have rr : IS (wr.alloc (.cells #[.int .i64 k] 3)) (wr.alloc (.cells #[.int .i64 k] 3)).heap.size (some ⟨wr.heap.size, 0, none⟩) 1 [(k : Int)] := (own_oneI wr _ 0 (Nat.zero_le _)).reads
        have hba : w.heap.size + 1 ≤ (wr.alloc (.cells #[.int .i64 k] 3)).heap.size := by have := S.big; simp; omega
        clear hb hR
        go_wp2_with (at_builtin; refine wpList_appendI rfl (.tmp 21) (.tmp 23) rfl (w.heap.size + 1) _ (Hps.slideTo h k) rfl ow (some ⟨wr.heap.size, 0, none⟩) 1 1 _ [(k : Int)] rfl rr hyn hba ?_; intro v5 w5 o5 g5 s5)
        go_roundw
        case rel => exact ⟨k + 1, by omega, by go_num, by rw [HY.out]; exact S.app o5 g5 s5⟩
        case measure => simp [intOf]; omega
    · obtain rfl : k = n := by omega
      have HE := Lib.hid (show Hps.slideL h = Hps.slideTo h k by rw [Hps.slideL, hlc]; rfl)
      go_wp2_with fail
      go_ret
      exact ⟨_, rfl, by rw [HE.out]; exact S.lst.base (by omega), S.bel⟩
end Go.Proofs.Ytbcefmkgifkjiaa
