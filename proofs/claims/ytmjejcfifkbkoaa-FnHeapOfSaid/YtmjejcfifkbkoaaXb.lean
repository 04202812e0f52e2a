/- For every list of bytes the law FnHeapOf returns true (P54). No conditions. -/
import Derived.Test.YtmjejcfifkbkoaaXa
import Derived.Test.YtmjejcfifkbkoaaVh
import Derived.Test.YtmjejcfifkbkoaaVw
import Derived.Test.YtmjejcfifkbkoaaKw
import Derived.Test.YtmjejcfifkbkoaaHx
namespace Go.Proofs.Ytmjejcfifkbkoaa
open Go.RowKit
set_option maxRecDepth 100000

theorem heapOf_few (xs : List Int) : (Hps.heapOfV xs).1.cs.length ≤ 40 ∧ (Hps.heapOfV xs).1.rt.length ≤ 4 ∧ ∀ cl ∈ (Hps.heapOfV xs).1.cs, cl.r.length ≤ 3 := by
  cases e : (Hps.heapOfV xs).2
  · rcases Hps.heapOf_cases xs with h | ⟨cs, h, -⟩
    · rw [h]
      exact ⟨by decide, by decide, fun cl hcl => by simp [Hps.zeroH] at hcl⟩
    · rw [h] at e
      cases e
  · obtain ⟨s1, s2, s3⟩ := Hps.valid_small (Hps.heapOf_true e).1
    exact ⟨s1, by omega, s3⟩

set_option maxHeartbeats 8000000 in
theorem heapOfLaw_walk (A : Option Addr) (n c : Nat) (w : World) (h : Bytes w w.heap.size A n) (hc : n ≤ c) (hn : n ≤ 9223372036854775807) :
    Calls Try.prog 5 #[.slice A n c] w fun e w' => e = .returned (.bool true) ∧ Below w.heap.size w w' := by
  by_cases hs : n ≤ 1048576
  case neg =>
    have hs' : (1048576 : Int) < (n : Int) := by omega
    go_enter Try.func5, Try.ntmps5
    go_wp2
    go_ret
    exact ⟨rfl, Below.refl _ _⟩
  have hs' : decide ((1048576 : Int) < (n : Int)) = false := by simp; omega
  go_enter Try.func5, Try.ntmps5
  go_wp2_with fail
  refine (drawHeapOf_any _ _ _ _ h hc hn).mono ?_
  rintro e w1 ⟨A1, p, c1, xs, rfl, hpc, hp, r1, b1⟩
  have T := heapOf_few xs
  obtain ⟨hh, hhe⟩ : ∃ hh, (Hps.heapOfV xs).1 = hh := ⟨_, rfl⟩
  obtain ⟨vb, hvb⟩ : ∃ vb, (Hps.heapOfV xs).2 = vb := ⟨_, rfl⟩
  have HM := Lib.hid (mHeapOf_any A1 p c1 xs)
  have HP := Lib.hid (heapOf_any A1 p c1 xs)
  rw [hhe] at T
  rw [hhe, hvb] at HM HP
  have HH := Lib.hid hhe
  have HVB := Lib.hid hvb
  have hvv : (vb != vb) = false := by cases vb <;> rfl
  obtain ⟨nn, hnn⟩ : ∃ nn, hh.cs.length = nn := ⟨_, rfl⟩
  obtain ⟨mm, hmm⟩ : ∃ mm, hh.rt.length = mm := ⟨_, rfl⟩
  have hn40 : nn ≤ 40 := by have := T.1; omega
  have hm4 : mm ≤ 4 := by have := T.2.1; omega
  have HT := Lib.hid T
  have E0 := Lib.hid hnn
  have E4 := Lib.hid hmm
  clear T hhe hvb hnn hmm
  go_wp2_with fail
  refine (HP.out _ r1 (by omega) hpc).mono ?_
  rintro e w2 ⟨vc0, vr0, rfl, ⟨rvs0, own0⟩, b2⟩
  obtain ⟨A0, c0, R0, d0, rfl, rfl, hc0, hd0, -⟩ := own0.form
  rw [E0.out] at hc0
  rw [E4.out] at hd0
  rw [E0.out, E4.out] at own0 ⊢
  have bA : Below w2.heap.size w2 (w2.alloc (.cells #[.slice A0 nn c0, .slice R0 mm d0] 28)) := (Below.refl _ _).alloc (Nat.le_refl _) _
  have o0 := (own0.below bA (Nat.le_refl _)).reads
  have x0 := Rw.new w2 28 #[.slice A0 nn c0, .slice R0 mm d0]
  have r2 := (r1.up b2).up bA
  have bb := (b1.trans (b2.mono b1.size)).trans (bA.mono (b1.trans (b2.mono b1.size)).size)
  clear own0 r1 b2 b1 bA
  go_upto_region 5 with fail
  generalize w2.alloc (.cells #[.slice A0 nn c0, .slice R0 mm d0] 28) = w3 at o0 x0 r2 bb ⊢
  obtain ⟨s2, hs2⟩ : ∃ s2, w2.heap.size = s2 := ⟨_, rfl⟩
  rw [hs2] at x0 ⊢
  clear hs2
  go_wp2_with fail
  refine (HM.out _ r2 (by omega) hpc).mono ?_
  rintro e w4 ⟨vc1, vr1, rfl, ⟨rvs1, own1⟩, b4⟩
  obtain ⟨A2, c2, R2, d2, rfl, rfl, -⟩ := own1.form
  rw [E0.out, E4.out] at own1 ⊢
  have bA : Below w4.heap.size w4 (w4.alloc (.cells #[.slice A2 nn c2, .slice R2 mm d2] 28)) := (Below.refl _ _).alloc (Nat.le_refl _) _
  have o1 := (own1.below bA (Nat.le_refl _)).reads
  have x1 := Rw.new w4 28 #[.slice A2 nn c2, .slice R2 mm d2]
  have r4 := (r2.up b4).up bA
  replace o0 := (o0.up b4).up bA
  replace x0 := (x0.keep b4 x0.lt).alloc (.cells #[.slice A2 nn c2, .slice R2 mm d2] 28)
  replace bb := (bb.trans (b4.mono bb.size)).trans (bA.mono (bb.trans (b4.mono bb.size)).size)
  clear own1 r2 b4 bA
  go_upto_region 6 with fail
  generalize w4.alloc (.cells #[.slice A2 nn c2, .slice R2 mm d2] 28) = w5 at o0 x0 o1 x1 r4 bb ⊢
  generalize w4.heap.size = s4 at x1 ⊢
  have y0 : w5.cell? ⟨s2, 0, none⟩ = some (.slice A0 nn c0) := x0.cell 0
  have y1 : w5.cell? ⟨s2, 1, none⟩ = some (.slice R0 mm d0) := x0.cell 1
  have y2 : w5.cell? ⟨s4, 0, none⟩ = some (.slice A2 nn c2) := x1.cell 0
  have y3 : w5.cell? ⟨s4, 1, none⟩ = some (.slice R2 mm d2) := x1.cell 1
  go_wp2_with fail
  refine (sameHeap_same _ _ _ _ _ _ _ _ _ _ hh _ o0 o1 (by omega) (by omega) (fun cl hcl => by have := HT.out.2.2 cl hcl; omega)).mono ?_
  rintro e w6 ⟨rfl, b6⟩
  replace x0 := x0.keep b6 x0.lt
  replace r4 := r4.up b6
  replace o0 := o0.up b6
  replace bb := bb.trans (b6.mono bb.size)
  clear y0 y1 y2 y3 o1 x1 b6
  have y0 : w6.cell? ⟨s2, 0, none⟩ = some (.slice A0 nn c0) := x0.cell 0
  have y1 : w6.cell? ⟨s2, 1, none⟩ = some (.slice R0 mm d0) := x0.cell 1
  cases vb
  · have hz : hh = Hps.zeroH := by
      rcases Hps.heapOf_cases xs with h | ⟨cs, h, -⟩
      · rw [← HH.out, h]
      · have := HVB.out
        rw [h] at this
        cases this
    have hm0 : mm = 0 := by rw [← E4.out, hz]; rfl
    subst hm0
    clear hz
    go_wp2_with fail
    refine (alive_any _).mono ?_
    rintro e w7 ⟨rfl, b7⟩
    have bb7 := bb.trans (b7.mono bb.size)
    go_wp2_with fail
    go_ret
    exact ⟨rfl, bb7⟩
  have HVW := Lib.hid (show Hps.viewH hh = xs by rw [← HH.out]; exact (Hps.heapOf_true HVB.out).2.1)
  have HU := Lib.hid (show Hps.usedH hh = ((nn : Int), (nn : Int)) by rw [← E0.out, ← HH.out]; exact Hps.heapOf_used HVB.out)
  go_wp2_with fail
  refine (usedCells_any _ _ _ _ _ _ hh _ o0 (by omega) (by omega) hc0 hd0).mono ?_
  rw [HU.out]
  rintro e w7 ⟨rfl, b7⟩
  replace x0 := x0.keep b7 x0.lt
  replace r4 := r4.up b7
  replace o0 := o0.up b7
  replace bb := bb.trans (b7.mono bb.size)
  clear y0 y1 b7
  have y0 : w7.cell? ⟨s2, 0, none⟩ = some (.slice A0 nn c0) := x0.cell 0
  have y1 : w7.cell? ⟨s2, 1, none⟩ = some (.slice R0 mm d0) := x0.cell 1
  go_wp2_with fail
  refine (viewOf_any _ _ _ _ _ _ hh _ o0 (by omega) (by omega) hc0 hd0).mono ?_
  rw [HVW.out]
  rintro e w8 ⟨v, rfl, ov, b8⟩
  obtain ⟨A8, c8, rfl, -⟩ := ov.form
  have r8 := ov.reads
  have hxl := r4.1
  rw [hxl] at r8 ⊢
  replace x0 := x0.keep b8 x0.lt
  replace r4 := r4.up b8
  replace bb := bb.trans (b8.mono bb.size)
  clear y0 y1 b8 ov hxl
  have y0 : w8.cell? ⟨s2, 0, none⟩ = some (.slice A0 nn c0) := x0.cell 0
  go_wp2_with fail
  refine (sameInts_any _ _ _ _ _ _ xs xs _ r8 r4 (by omega) (by omega)).mono ?_
  rw [decide_eq_true rfl]
  rintro e w9 ⟨rfl, b9⟩
  replace x0 := x0.keep b9 x0.lt
  replace bb := bb.trans (b9.mono bb.size)
  clear y0 b9
  have y0 : w9.cell? ⟨s2, 0, none⟩ = some (.slice A0 nn c0) := x0.cell 0
  go_wp2_with fail
  go_ret
  exact ⟨rfl, bb⟩
end Go.Proofs.Ytmjejcfifkbkoaa
