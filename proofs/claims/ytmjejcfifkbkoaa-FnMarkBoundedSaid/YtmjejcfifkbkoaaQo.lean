/- For every list of bytes the law FnMarkBounded returns true (P3), over the program's contracts. No conditions. -/
import Derived.Test.YtmjejcfifkbkoaaQm
import Derived.Test.YtmjejcfifkbkoaaQk
import Derived.Test.YtmjejcfifkbkoaaHs
import Derived.Test.YtmjejcfifkbkoaaHx
import Derived.Deep.Cut
namespace Go.Proofs.Ytmjejcfifkbkoaa
open Go.RowKit
set_option maxRecDepth 100000

set_option maxHeartbeats 8000000 in
theorem markBoundedLaw_walk (A0 : Option Addr) (n0 c0 : Nat) (w : World) (hby : Bytes w w.heap.size A0 n0) (hc0 : n0 ≤ c0) (hn0 : n0 ≤ 9223372036854775807) :
    Calls Try.prog 7 #[.slice A0 n0 c0] w fun e w' => e = .returned (.bool true) ∧ Below w.heap.size w w' := by
  by_cases hs : n0 ≤ 1048576
  case neg =>
    have hs' : (1048576 : Int) < (n0 : Int) := by omega
    go_enter Try.func7, Try.ntmps7
    go_wp2
    go_ret
    exact ⟨rfl, Below.refl _ _⟩
  have hs' : decide ((1048576 : Int) < (n0 : Int)) = false := by simp; omega
  go_enter Try.func7, Try.ntmps7
  go_wp2_with fail
  refine (drawMarkBounded_any _ _ _ _ hby hc0 hn0).mono ?_
  rintro e w1 ⟨A, nn, c, R, m, d, h, x, rfl, hnc, hmd, hsr, hsm, b1⟩
  have hlc := hsr.cells.1
  have hlr := hsr.roots.1
  have hn41 : nn ≤ 41 := by have := hsm.1; omega
  have hm4 : m ≤ 4 := by have := hsm.2.1; omega
  have bA : Below w1.heap.size w1 (w1.alloc (.cells #[.slice A nn c, .slice R m d] 28)) := (Below.refl _ _).alloc (Nat.le_refl _) _
  have bx := Rw.new w1 28 #[.slice A nn c, .slice R m d]
  replace hsr := hsr.up bA
  have bb := b1.trans (bA.mono b1.size)
  have HLC := Lib.hid hlc
  clear bA b1 hsm hlc hlr hby
  go_upto_region 4 with fail
  generalize w1.alloc (.cells #[.slice A nn c, .slice R m d] 28) = w2 at bx hsr bb ⊢
  generalize w1.heap.size = b at bx ⊢
  obtain ⟨xs, hxs⟩ : ∃ xs, (Hps.boundH h x).1 = xs := ⟨_, rfl⟩
  obtain ⟨y, hy⟩ : ∃ y, (Hps.boundH h x).2 = y := ⟨_, rfl⟩
  have HX := Lib.hid hxs
  have HY := Lib.hid hy
  have hxl : xs.length ≤ 41 := by
    rw [← hxs]
    by_cases hok : Hps.validH h = true ∧ 1 ≤ x ∧ x ≤ 40
    · rw [(Hps.bound_marks hok.1 hok.2.1 hok.2.2).1, Hps.reachH, if_pos hok.1, Hps.reachL_len, HLC.out]
      exact hn41
    · rw [Hps.bound_no hok]
      simp
  clear hxs hy
  have x0 : w2.cell? ⟨b, 0, none⟩ = some (.slice A nn c) := bx.cell 0
  have x1 : w2.cell? ⟨b, 1, none⟩ = some (.slice R m d) := bx.cell 1
  have HP := Lib.hid (fun (A R : Option Addr) (n c m d : Nat) (w : World) (hs : HS w w.heap.size A n R m h) (hn : n ≤ 1099511627776) (hm : m ≤ 1099511627776) (hnc : n ≤ c) (hmd : m ≤ d) => show Calls Try.prog 41 #[heapV A n c R m d, .int .i64 x] w (GaveOI w xs y) from by rw [← HX.out, ← HY.out]; exact markBounded_any A R n c m d x h w hs hn hm hnc hmd)
  have HM := Lib.hid (fun (A R : Option Addr) (n c m d : Nat) (w : World) (hs : HS w w.heap.size A n R m h) (hn : n ≤ 1099511627776) (hm : m ≤ 1099511627776) => show Calls Try.prog 42 #[heapV A n c R m d, .int .i64 x] w (GaveOI w xs y) from by rw [← HX.out, ← HY.out]; exact mMarkBounded_any A R n c m d x h w hs hn hm)
  go_wp2_with fail
  refine (HP.out _ _ _ _ _ _ _ hsr (by omega) (by omega) hnc hmd).mono ?_
  rintro e w3 ⟨v1, rfl, o1, b3⟩
  obtain ⟨A1, c1, rfl, -⟩ := o1.form
  replace bx := bx.keep b3 bx.lt
  replace hsr := hsr.up b3
  replace bb := bb.trans (b3.mono bb.size)
  clear x0 x1 b3
  have x0 : w3.cell? ⟨b, 0, none⟩ = some (.slice A nn c) := bx.cell 0
  have x1 : w3.cell? ⟨b, 1, none⟩ = some (.slice R m d) := bx.cell 1
  go_wp2_with fail
  refine (HM.out _ _ _ _ _ _ _ hsr (by omega) (by omega)).mono ?_
  rintro e w4 ⟨v2, rfl, o2, b3⟩
  obtain ⟨A2, c2, rfl, -⟩ := o2.form
  replace o1 := o1.below b3 (Nat.le_refl _)
  replace bx := bx.keep b3 bx.lt
  replace hsr := hsr.up b3
  replace bb := bb.trans (b3.mono bb.size)
  clear x0 x1 b3
  have hyy : (y != y) = false := by simp
  go_wp2_with fail
  refine (sameFlags_any _ _ _ _ _ _ xs xs _ o1.reads o2.reads (by omega) (by omega)).mono ?_
  rw [decide_eq_true rfl]
  rintro e w5 ⟨rfl, b3⟩
  replace o1 := o1.below b3 (Nat.le_refl _)
  replace bx := bx.keep b3 bx.lt
  replace hsr := hsr.up b3
  replace bb := bb.trans (b3.mono bb.size)
  clear b3 o2
  by_cases hok : Hps.validH h = true ∧ 1 ≤ x ∧ x ≤ 40
  · obtain ⟨hv, hx1, hx2⟩ := hok
    obtain ⟨e1, e2, e3⟩ := Hps.bound_marks hv hx1 hx2
    have HR := Lib.hid (show Hps.reachH h = xs by rw [← HX.out]; exact e1.symm)
    have H1 := Lib.hid (Hps.bound_one hv)
    rw [HY.out] at e2 e3
    rw [HLC.out] at e3
    have hy0 : ¬ y < 0 := by omega
    have hy1 : y ≥ 1 := by omega
    have hy2 : y ≤ (nn : Int) + 1 := by omega
    have x0 : w5.cell? ⟨b, 0, none⟩ = some (.slice A nn c) := bx.cell 0
    have x1 : w5.cell? ⟨b, 1, none⟩ = some (.slice R m d) := bx.cell 1
    clear e1 e2 e3 hv hx1 hx2 HP HM
    go_wp2_with fail
    refine (markBounded_any _ _ _ _ _ _ 40 h _ hsr (by omega) (by omega) hnc hmd).mono ?_
    rw [H1.out]
    rintro e w6 ⟨v6, rfl, o6, b3⟩
    replace o1 := o1.below b3 (Nat.le_refl _)
    replace bx := bx.keep b3 bx.lt
    replace hsr := hsr.up b3
    replace bb := bb.trans (b3.mono bb.size)
    clear x0 x1 b3 o6
    have x0 : w6.cell? ⟨b, 0, none⟩ = some (.slice A nn c) := bx.cell 0
    have x1 : w6.cell? ⟨b, 1, none⟩ = some (.slice R m d) := bx.cell 1
    go_wp2_with fail
    refine (reachable_any _ _ _ _ _ _ h _ hsr (by omega) (by omega) hnc hmd).mono ?_
    rw [HR.out]
    rintro e w7 ⟨v7, rfl, o7, b3⟩
    obtain ⟨A7, c7, rfl, -⟩ := o7.form
    replace o1 := o1.below b3 (Nat.le_refl _)
    replace bx := bx.keep b3 bx.lt
    replace bb := bb.trans (b3.mono bb.size)
    clear x0 x1 b3 hsr
    go_wp2_with fail
    refine (sameFlags_any _ _ _ _ _ _ xs xs _ o1.reads o7.reads (by omega) (by omega)).mono ?_
    rw [decide_eq_true rfl]
    rintro e w8 ⟨rfl, b3⟩
    replace bx := bx.keep b3 bx.lt
    replace bb := bb.trans (b3.mono bb.size)
    have x0 : w8.cell? ⟨b, 0, none⟩ = some (.slice A nn c) := bx.cell 0
    clear b3 o1 o7
    have hw1 : IntKind.i64.wrap ((nn : Int) + 1) = (nn : Int) + 1 := IntWalk.i64_in _ (by omega)
    go_wp2_with fail
    go_ret
    exact ⟨rfl, bb⟩
  · have hb := Hps.bound_no hok
    obtain rfl : xs = [] := by rw [← HX.out, hb]
    obtain rfl : y = -1 := by rw [← HY.out, hb]
    clear hb HP HM HX HY
    go_wp2_with fail
    refine (alive_any _).mono ?_
    rintro e w7 ⟨rfl, b7⟩
    have bb7 := bb.trans (b7.mono bb.size)
    go_wp2_with fail
    go_ret
    exact ⟨rfl, bb7⟩
end Go.Proofs.Ytmjejcfifkbkoaa
