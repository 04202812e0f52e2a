/- For every list of bytes the law FnUsedCells returns true (P45), over the program's contracts, in every memory in which the table of math/bits lies as laid. -/
import Derived.Test.YtoilajjdpncikaaDoorKo
import Derived.Test.YtoilajjdpncikaaDoorPi
import Derived.Test.YtoilajjdpncikaaDoorGx
import Derived.Deep.Cut
namespace Go.Proofs.YtoilajjdpncikaaDoor
open Go.RowKit
set_option maxRecDepth 100000

set_option maxHeartbeats 8000000 in
theorem usedCellsLaw_walk (A0 : Option Addr) (n0 c0 : Nat) (w : World) (hby : Bytes w w.heap.size A0 n0) (hc0 : n0 ≤ c0) (hn0 : n0 ≤ 9223372036854775807) (hT : TzT w) :
    Calls Tryd.prog 3 #[.slice A0 n0 c0] w fun e w' => e = .returned (.bool true) ∧ Below w.heap.size w w' := by
  by_cases hs : n0 ≤ 1048576
  case neg =>
    have hs' : (1048576 : Int) < (n0 : Int) := by omega
    go_enter Tryd.func3, Tryd.ntmps3
    go_wp2
    go_ret
    exact ⟨rfl, Below.refl _ _⟩
  have hs' : decide ((1048576 : Int) < (n0 : Int)) = false := by simp; omega
  go_enter Tryd.func3, Tryd.ntmps3
  go_wp2_with fail
  refine (drawUsedCells_any _ _ _ _ hby hc0 hn0).mono ?_
  rintro e w1 ⟨A, nn, c, R, m, d, h, rfl, hnc, hmd, hsr, hsm, b1⟩
  have hlc := hsr.cells.1
  have hlr := hsr.roots.1
  have hn41 : nn ≤ 41 := by have := hsm.1; omega
  have hm4 : m ≤ 4 := by have := hsm.2.1; omega
  have bA : Below w1.heap.size w1 (w1.alloc (.cells #[.slice A nn c, .slice R m d] 26)) := (Below.refl _ _).alloc (Nat.le_refl _) _
  have bx := Rw.new w1 26 #[.slice A nn c, .slice R m d]
  replace hsr := hsr.up bA
  have bb := b1.trans (bA.mono b1.size)
  have hT2 := hT.below bb
  have HLC := Lib.hid hlc
  obtain ⟨U, hU⟩ : ∃ U, (Hps.usedH h).1 = U := ⟨_, rfl⟩
  obtain ⟨Lv, hLv⟩ : ∃ Lv, (Hps.usedH h).2 = Lv := ⟨_, rfl⟩
  have HU := Lib.hid hU
  have HL := Lib.hid hLv
  clear hU hLv bA b1 hsm hlc hlr hby
  go_upto_region 4 with fail
  generalize w1.alloc (.cells #[.slice A nn c, .slice R m d] 26) = w2 at bx hsr bb hT2 ⊢
  generalize w1.heap.size = b at bx ⊢
  have x0 : w2.cell? ⟨b, 0, none⟩ = some (.slice A nn c) := bx.cell 0
  have x1 : w2.cell? ⟨b, 1, none⟩ = some (.slice R m d) := bx.cell 1
  go_wp2_with fail
  refine (usedCells_any _ _ _ _ _ _ h _ hsr (by omega) (by omega) hnc hmd).mono ?_
  rw [HU.out, HL.out]
  rintro e w3 ⟨rfl, b3⟩
  replace bx := bx.keep b3 bx.lt
  replace hsr := hsr.up b3
  replace hT2 := hT2.below b3
  replace bb := bb.trans (b3.mono bb.size)
  clear x0 x1 b3
  have x0 : w3.cell? ⟨b, 0, none⟩ = some (.slice A nn c) := bx.cell 0
  have x1 : w3.cell? ⟨b, 1, none⟩ = some (.slice R m d) := bx.cell 1
  go_wp2_with fail
  refine (mUsedCells_any _ _ _ _ _ _ h _ hsr (by omega) (by omega)).mono ?_
  rw [HU.out, HL.out]
  rintro e w4 ⟨rfl, b3⟩
  replace bx := bx.keep b3 bx.lt
  replace hsr := hsr.up b3
  replace hT2 := hT2.below b3
  replace bb := bb.trans (b3.mono bb.size)
  clear x0 x1 b3
  have x0 : w4.cell? ⟨b, 0, none⟩ = some (.slice A nn c) := bx.cell 0
  have x1 : w4.cell? ⟨b, 1, none⟩ = some (.slice R m d) := bx.cell 1
  have e1 : (U != U) = false := by simp
  have e2 : (Lv != Lv) = false := by simp
  cases hv : Hps.validH h
  · have hu := HU.out
    have hl := HL.out
    rw [Hps.usedH, if_neg (by rw [hv]; decide)] at hu hl
    obtain rfl : (-1 : Int) = U := hu
    obtain rfl : (-1 : Int) = Lv := hl
    clear hv
    go_wp2_with fail
    refine (alive_any _).mono ?_
    rintro e w5 ⟨rfl, b5⟩
    go_wp2_with fail
    go_ret
    exact ⟨rfl, bb.trans (b5.mono bb.size)⟩
  obtain ⟨p1, p2, p3, p4⟩ := Hps.used_leak hv
  rw [HU.out, HL.out] at p1 p4
  rw [HU.out] at p2
  rw [HL.out] at p3
  rw [HLC.out] at p2
  have hp0 : 0 ≤ Lv := by omega
  have hu0 : decide (U < 0) = false := decide_eq_false (by omega)
  have hl1 : decide (Lv ≤ U) = true := decide_eq_true p1
  have hl2 : decide (U ≤ (nn : Int)) = true := decide_eq_true p2
  have hwr : IntKind.i64.wrap (U - Lv) = U - Lv := IntWalk.i64_in _ (by omega)
  have P3 := Lib.hid p3
  have P4 := Lib.hid p4
  clear hv p1 p2 p3 p4
  go_wp2_with fail
  refine (metOrder_any _ _ _ _ _ _ h _ hsr (by omega) (by omega) hnc hmd).mono ?_
  rintro e w5 ⟨v1, rfl, o1, b5⟩
  obtain ⟨A5, c5, rfl, -⟩ := o1.form
  replace bx := bx.keep b5 bx.lt
  replace hsr := hsr.up b5
  replace hT2 := hT2.below b5
  replace bb := bb.trans (b5.mono bb.size)
  have q3 : (Lv == ((Hps.orderH h).length : Int)) = true := by rw [P3.out]; simp
  generalize (Hps.orderH h).length = lo at q3 ⊢
  clear x0 x1 b5 o1
  have x0 : w5.cell? ⟨b, 0, none⟩ = some (.slice A nn c) := bx.cell 0
  have x1 : w5.cell? ⟨b, 1, none⟩ = some (.slice R m d) := bx.cell 1
  go_wp2_with fail
  refine (leakedCells_any _ _ _ _ _ _ h _ hT2 hsr (by omega) (by omega) hnc hmd).mono ?_
  rintro e w6 ⟨v2, rfl, o2, b6⟩
  obtain ⟨A6, c6, rfl, -⟩ := o2.form
  have bbf := bb.trans (b6.mono bb.size)
  have q4 : (U - Lv == ((Hps.leakH h).length : Int)) = true := by rw [P4.out]; simp
  generalize (Hps.leakH h).length = ll at q4 ⊢
  clear x0 x1 b6 o2
  go_wp2_with fail
  go_ret
  exact ⟨rfl, bbf⟩
end Go.Proofs.YtoilajjdpncikaaDoor
