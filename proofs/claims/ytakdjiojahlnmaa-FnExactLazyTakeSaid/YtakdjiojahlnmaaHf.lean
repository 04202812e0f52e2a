/- What the model's Reachable, UsedCells and RefCounts return: for every heap. -/
import Derived.Test.YtakdjiojahlnmaaHe
namespace Go.Proofs.Ytakdjiojahlnmaa
open Go.RowKit

namespace Hps
theorem valid_small {h : Hp} (hv : validH h = true) : h.cs.length ≤ 40 ∧ h.rt.length = 4 ∧ ∀ cl ∈ h.cs, cl.r.length ≤ 3 :=
  ⟨(valid_iff.1 hv).2.1, (valid_iff.1 hv).2.2.1, fun cl hcl => (okCell_iff.1 ((valid_iff.1 hv).1 cl hcl)).2.2.1⟩
end Hps

set_option maxHeartbeats 1000000 in
theorem mReachable_any (A R : Option Addr) (n c m d : Nat) (h : Hp) (w : World) (hs : HS w w.heap.size A n R m h) (hn : n ≤ 1099511627776) (hm : m ≤ 1099511627776) :
    Calls Try.prog 44 #[heapV A n c R m d] w (GaveO w (Hps.reachH h)) := by
  have hlc := hs.cells.1
  have hlr := hs.roots.1
  have b0 : Below w.heap.size w (w.alloc (.cells #[.slice A n c, .slice R m d] 26)) := (Below.refl _ _).alloc (Nat.le_refl _) _
  have r0 := hs.up b0
  have hw0 := Rw.new w 26 #[.slice A n c, .slice R m d]
  cases hv : Hps.validH h
  · have HR := Lib.hid (show Hps.reachH h = [] by rw [Hps.reachH, hv]; rfl)
    have HV := Lib.hid hv
    clear hv
    go_enter Try.func44, Try.ntmps44
    go_wp2_with fail
    refine (mHeapValid_any _ _ _ _ _ _ h _ r0 hn hm).mono ?_
    rw [HV.out]
    rintro e w1 ⟨rfl, b1⟩
    have bb1 := b0.trans (b1.mono b0.size)
    have on := own_noneO w1 w.heap.size bb1.size
    have bl := bb1.alloc bb1.size (.cells #[] 4)
    go_wp2_with fail
    go_ret
    exact ⟨_, rfl, by rw [HR.out]; exact on, bl⟩
  · have HR := Lib.hid (show Hps.reachH h = Hps.reachL h.cs h.rt by rw [Hps.reachH, hv]; rfl)
    have HV := Lib.hid hv
    obtain ⟨s1, s2, s3⟩ := Hps.valid_small hv
    have HRF := Lib.hid (Hps.valid_refs hv)
    have HRO := Lib.hid (Hps.valid_iff.1 hv).2.2.2
    have HS3 := Lib.hid s3
    clear hv s3
    go_enter Try.func44, Try.ntmps44
    go_wp2_with fail
    refine (mHeapValid_any _ _ _ _ _ _ h _ r0 hn hm).mono ?_
    rw [HV.out]
    rintro e w1 ⟨rfl, b1⟩
    have bb1 := b0.trans (b1.mono b0.size)
    have r1 := r0.up b1
    have hw1 := hw0.keep b1 (by simp)
    have z0 : w1.cell? ⟨w.heap.size, 0, none⟩ = some (.slice A n c) := hw1.cell 0
    have z1 : w1.cell? ⟨w.heap.size, 1, none⟩ = some (.slice R m d) := hw1.cell 1
    clear r0 hw0
    go_wp2_with fail
    refine (l7Reach_any _ _ _ _ _ _ _ _ _ h h.rt _ r1 r1.roots (by omega) (by omega) HRO.out HRF.out (fun cl hcl => by have := HS3.out cl hcl; omega)).mono ?_
    rintro e w2 ⟨v2, rfl, o2, b2⟩
    go_wp2_with fail
    go_ret
    exact ⟨_, rfl, by rw [HR.out]; exact o2.base bb1.size, bb1.trans (b2.mono bb1.size)⟩
end Go.Proofs.Ytakdjiojahlnmaa
