/- For every list of bytes the law FnMarkDepth returns true (P62), over the program's contracts. No conditions. -/
import Derived.Test.YtmjejcfifkbkoaaQm
import Derived.Test.YtmjejcfifkbkoaaQi
import Derived.Test.YtmjejcfifkbkoaaQf
import Derived.Test.YtmjejcfifkbkoaaHs
import Derived.Test.YtmjejcfifkbkoaaGx
import Derived.Test.YtmjejcfifkbkoaaHx
import Derived.Deep.Cut
namespace Go.Proofs.Ytmjejcfifkbkoaa
open Go.RowKit
set_option maxRecDepth 100000

namespace Hps
theorem depth_marks {h : Hp} (hv : validH h = true) {outs : List Bool} (hl : outs.length = h.cs.length) (hm : ∀ j : Nat, outs[j]? = some true ↔ (j : Int) ∈ depthH h) : outs = reachH h := by
  rw [reachH, if_pos hv]
  exact reachL_eq hl fun k _ => (hm k).trans (mem_depth hv)
theorem take_notin2 {l : List Int} (hd : l.Nodup) {k : Nat} {x : Int} (hx : l[k]? = some x) : x ∉ l.take k := by
  intro hm
  obtain ⟨i, hi⟩ := List.mem_iff_getElem?.1 hm
  rw [List.getElem?_take] at hi
  split at hi
  · next h1 =>
    obtain ⟨a1, a2⟩ := List.getElem?_eq_some_iff.1 hi
    obtain ⟨b1, b2⟩ := List.getElem?_eq_some_iff.1 hx
    have := List.pairwise_iff_getElem.1 hd i k a1 b1 h1
    exact this (a2.trans b2.symm)
  · cases hi
end Hps

set_option maxRecDepth 100000 in
set_option maxHeartbeats 8000000 in
theorem markDepthLaw_walk (A : Option Addr) (n c : Nat) (w : World) (h : Bytes w w.heap.size A n) (hc : n ≤ c) (hn : n ≤ 9223372036854775807) :
    Calls Try.prog 6 #[.slice A n c] w fun e w' => e = .returned (.bool true) ∧ Below w.heap.size w w' := by
  by_cases hs : n ≤ 1048576
  case neg =>
    have hs' : (1048576 : Int) < (n : Int) := by omega
    go_enter Try.func6, Try.ntmps6
    go_wp2
    go_ret
    exact ⟨rfl, Below.refl _ _⟩
  have hs' : decide ((1048576 : Int) < (n : Int)) = false := by simp; omega
  go_enter Try.func6, Try.ntmps6
  go_wp2_with fail
  refine (drawMarkDepth_any _ _ _ _ h hc hn).mono ?_
  rintro e w1 ⟨A1, nn, c1, R1, m, d1, hh, rfl, hc1, hd1, hsH, hsm, b1⟩
  have hn41 : nn ≤ 41 := by rw [← hsH.cells.1]; exact hsm.1
  have hm4 : m ≤ 4 := by rw [← hsH.roots.1]; exact hsm.2.1
  have bA : Below w1.heap.size w1 (w1.alloc (.cells #[.slice A1 nn c1, .slice R1 m d1] 28)) := (Below.refl _ _).alloc (Nat.le_refl _) _
  have hs2 := hsH.up bA
  have bx := Rw.new w1 28 #[.slice A1 nn c1, .slice R1 m d1]
  have bb := b1.trans (bA.mono b1.size)
  clear hsH bA hsm b1
  go_upto_region 4 with fail
  generalize w1.alloc (.cells #[.slice A1 nn c1, .slice R1 m d1] 28) = w2 at hs2 bx bb ⊢
  generalize w1.heap.size = b at bx ⊢
  have x0 : w2.cell? ⟨b, 0, none⟩ = some (.slice A1 nn c1) := bx.cell 0
  have x1 : w2.cell? ⟨b, 1, none⟩ = some (.slice R1 m d1) := bx.cell 1
  obtain ⟨xs, hxs⟩ : ∃ xs, Hps.depthH hh = xs := ⟨_, rfl⟩
  have HX := Lib.hid hxs
  have hxl : xs.length ≤ 41 := by rw [← hxs]; have := Hps.depth_le hh; have := hs2.cells.1; omega
  clear hxs
  go_wp2_with fail
  refine (markDepth_any _ _ _ _ _ _ hh _ hs2 (by omega) (by omega) hc1 hd1).mono ?_
  rw [HX.out]
  rintro e w3 ⟨v, rfl, ov, b3⟩
  obtain ⟨Av, cv, rfl, -⟩ := ov.form
  have bx3 := bx.keep b3 bx.lt
  have hs3 := hs2.up b3
  have bb3 := bb.trans (b3.mono bb.size)
  have y0 : w3.cell? ⟨b, 0, none⟩ = some (.slice A1 nn c1) := bx3.cell 0
  have y1 : w3.cell? ⟨b, 1, none⟩ = some (.slice R1 m d1) := bx3.cell 1
  have hr3 := ov.reads
  clear hs2 bx x0 x1 ov b3 bb
  go_wp2_with fail
  refine (mMarkDepth_any _ _ _ _ _ _ hh _ hs3 (by omega) (by omega)).mono ?_
  rw [HX.out]
  rintro e w4 ⟨v, rfl, ov4, b4⟩
  obtain ⟨Aw, cw, rfl, -⟩ := ov4.form
  have bx4 := bx3.keep b4 bx3.lt
  have hs4 := hs3.up b4
  have bb4 := bb3.trans (b4.mono bb3.size)
  have hr4 := hr3.up b4
  have hr4' := ov4.reads
  clear hs3 bx3 y0 y1 ov4 b4 bb3 hr3
  go_wp2_with fail
  refine (sameInts_any _ _ _ _ _ _ xs xs _ hr4 hr4' (by omega) (by omega)).mono ?_
  rw [decide_eq_true rfl]
  rintro e w5 ⟨rfl, b5⟩
  have bx5 := bx4.keep b5 bx4.lt
  have hs5 := hs4.up b5
  have bb5 := bb4.trans (b5.mono bb4.size)
  have hr5 := hr4.up b5
  have y0 : w5.cell? ⟨b, 0, none⟩ = some (.slice A1 nn c1) := bx5.cell 0
  have y1 : w5.cell? ⟨b, 1, none⟩ = some (.slice R1 m d1) := bx5.cell 1
  clear hs4 bx4 hr4' b5 bb4 hr4
  go_wp2_with fail
  refine (mHeapValid_any _ _ _ _ _ _ hh _ hs5 (by omega) (by omega)).mono ?_
  cases hv : Hps.validH hh
  · rintro e w6 ⟨rfl, b6⟩
    have bb6 := bb5.trans (b6.mono bb5.size)
    have hx0 : xs = [] := by rw [← HX.out, Hps.depth_not hv]
    subst hx0
    clear HX hv hr5
    go_wp2_with fail
    refine (alive_any _).mono ?_
    rintro e w7 ⟨rfl, b7⟩
    have bb7 := bb6.trans (b7.mono bb6.size)
    go_wp2_with fail
    go_ret
    exact ⟨rfl, bb7⟩
  rintro e w6 ⟨rfl, b6⟩
  have bx6 := bx5.keep b6 bx5.lt
  have hs6 := hs5.up b6
  have bb6 := bb5.trans (b6.mono bb5.size)
  have hr6 := hr5.up b6
  have hlc := hs6.cells.1
  have hlr := hs6.roots.1
  have HM4 := Lib.hid (show m = 4 by rw [← hlr]; exact (Hps.valid_iff.1 hv).2.2.1)
  have HV := Lib.hid hv
  have HIN : Hid (∀ x ∈ xs, ∃ k : Nat, x = k ∧ k < nn) := Lib.hid (by rw [← HX.out, ← hlc]; exact fun x hx => Hps.depth_nat hx)
  have HND : Hid xs.Nodup := Lib.hid (by rw [← HX.out]; exact Hps.depth_nodup hh)
  have HLC := Lib.hid hlc
  have x0 : w6.cell? ⟨b, 0, none⟩ = some (.slice A1 nn c1) := bx6.cell 0
  have hmk := makeO w6 nn (by omega)
  have ow := own_madeO w6 nn (by omega)
  have bM : Below w6.heap.size w6 (w6.alloc (.cells (Array.replicate nn (.bool false)) 4)) := (Below.refl _ _).alloc (Nat.le_refl _) _
  obtain ⟨w7, hw7⟩ : ∃ w7, w6.alloc (.cells (Array.replicate nn (.bool false)) 4) = w7 := ⟨_, rfl⟩
  rw [hw7] at hmk ow bM
  have HS6 := Lib.hid hs6
  have HR6 := Lib.hid hr6
  have BX := Lib.hid bx6
  have hbb := bx6.lt
  clear hw7 hs5 bx5 b6 bb5 hr5 y0 y1 hv hs6 hr6 bx6 hlr
  go_wp2_with fail
  clear hmk x0
  have hwm : w6.heap.size < w7.heap.size := (World.ownsRow.lt ow w6.heap.size (by rfl)).2
  go_loopw [6] (fun i wr => ∃ (k : Nat) (outs : List Bool), k ≤ xs.length ∧ i = .int .i64 k ∧ OwnO wr w6.heap.size (.slice (some ⟨w6.heap.size, 0, none⟩) nn nn) outs ∧ outs.length = nn ∧ Hid (∀ j : Nat, outs[j]? = some true ↔ (j : Int) ∈ xs.take k) ∧ Below w6.heap.size w6 wr) (fun i _ => xs.length - (intOf i).toNat)
  case atStart => exact ⟨0, _, Nat.zero_le _, rfl, ow, by simp, Lib.hid (fun j => by simp [List.getElem?_replicate]), bM⟩
  case round =>
    clear ow bM
    obtain ⟨k, outs, hk, rfl, ow, hol, HM, bw⟩ := hrel
    by_cases hlt : k < xs.length
    · have hlt' : (k : Int) < xs.length := by omega
      obtain ⟨gl, ol, x, e1, hgl, hx, d1⟩ := (HR6.out.below bw).at_ hlt
      subst e1
      obtain ⟨y, rfl, hy⟩ := HIN.out x (List.mem_of_getElem? hx)
      have hyt : (y : Int) ∉ xs.take k := Hps.take_notin2 HND.out hx
      obtain ⟨g', o', bo, e2, _, hbk, d2⟩ := ow.reads.at_ (k := y) hy
      injection e2 with e2
      injection e2 with e3 e4
      subst e3 e4
      rw [Nat.zero_add] at d2
      have hbo : bo = false := by
        cases bo
        · rfl
        · exact absurd ((HM.out y).1 hbk) hyt
      subst hbo
      have fz : wr.frozen? ⟨w6.heap.size, y, none⟩ = false := ow.frozen hol y
      have hneg : decide ((y : Int) < 0) = false := decide_eq_false (by omega)
      have hge : decide ((nn : Int) ≤ (y : Int)) = false := decide_eq_false (by omega)
      have hyn : (y : Int) < nn := by omega
      have ow2 := ow.put' (j := y) hol true
      have HM2 : Hid (∀ j : Nat, (outs.set y true)[j]? = some true ↔ (j : Int) ∈ xs.take (k + 1)) := Lib.hid (fun j => by
        rw [List.take_add_one, hx, List.mem_append, ← HM.out j, List.getElem?_set]
        by_cases e : y = j
        · subst e
          simp [hol, hy]
        · rw [if_neg e]
          simp
          omega)
      have bw2 := bw.setCell (p := ⟨w6.heap.size, y, none⟩) (Nat.le_refl _) (.bool true)
      clear hx hbk hyt ow
      go_wp2_with fail
      go_roundw
      case rel => exact ⟨k + 1, _, by omega, by go_num, ow2, by simp [hol], HM2, bw2⟩
      case measure => simp [intOf]; omega
    · obtain rfl : k = xs.length := by omega
      have HE := Lib.hid (show outs = Hps.reachH hh from Hps.depth_marks HV.out (by rw [hol, HLC.out]) (fun j => by
        have := HM.out j
        rw [List.take_of_length_le (Nat.le_refl _)] at this
        rw [HX.out]
        exact this))
      have hs7 := HS6.out.up bw
      have bx7 := BX.out.keep bw hbb
      have bb7 := bb6.trans (bw.mono bb6.size)
      have x0 : wr.cell? ⟨b, 0, none⟩ = some (.slice A1 nn c1) := bx7.cell 0
      have x1 : wr.cell? ⟨b, 1, none⟩ = some (.slice R1 m d1) := bx7.cell 1
      have HOL := Lib.hid (show (Hps.orderH hh).length = xs.length by rw [← HX.out]; exact (Hps.depth_len hh).symm)
      have ro := ow.reads
      clear ow HM bw HS6 HR6 BX HIN HND
      go_wp2_with fail
      refine (reachable_any _ _ _ _ _ _ hh _ hs7 (by omega) (by omega) hc1 hd1).mono ?_
      rw [← HE.out]
      rintro e w8 ⟨v8, rfl, o8, b8⟩
      obtain ⟨A8, c8, e8, -⟩ := o8.form
      rw [hol] at e8
      subst e8
      have bx8 := bx7.keep b8 bx7.lt
      have hs8 := hs7.up b8
      have bb8 := bb7.trans (b8.mono bb7.size)
      have ro8 := ro.up b8
      have r8 := o8.reads
      clear bx7 hs7 bb7 ro x0 x1 b8 o8
      go_wp2_with fail
      refine (sameFlags_any _ _ _ _ _ _ outs outs _ ro8 r8 (by omega) (by omega)).mono ?_
      rw [decide_eq_true rfl]
      rintro e w9 ⟨rfl, b9⟩
      have bx9 := bx8.keep b9 bx8.lt
      have hs9 := hs8.up b9
      have bb9 := bb8.trans (b9.mono bb8.size)
      have x0 : w9.cell? ⟨b, 0, none⟩ = some (.slice A1 nn c1) := bx9.cell 0
      have x1 : w9.cell? ⟨b, 1, none⟩ = some (.slice R1 m d1) := bx9.cell 1
      clear bx8 hs8 bb8 ro8 r8 b9
      go_wp2_with fail
      refine (metOrder_any _ _ _ _ _ _ hh _ hs9 (by omega) (by omega) hc1 hd1).mono ?_
      rintro e w10 ⟨v10, rfl, o10, b10⟩
      obtain ⟨A10, c10, e10, -⟩ := o10.form
      rw [HOL.out] at e10
      subst e10
      have bb10 := bb9.trans (b10.mono bb9.size)
      go_wp2_with fail
      go_ret
      exact ⟨rfl, bb10⟩
end Go.Proofs.Ytmjejcfifkbkoaa
