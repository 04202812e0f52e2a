/- The exact laws of Fragmented, SlideBlocks and TakeSliding return true: for every slice of blocks and all numbers. No conditions. -/
import Derived.Test.YtkejbggffbkdaaaFrd
namespace Go.Proofs.Ytkejbggffbkdaaa
open Go.RowKit

set_option maxHeartbeats 1000000 in
theorem exactFragmented_walk (A : Option Addr) (n c : Nat) (xs : List Bl) (a1 : Int) (w : World) (h : BS w w.heap.size A n xs) (hn : n ≤ 9223372036854775807) :
    Calls Try.prog 7 #[.slice A n c, .int .i64 a1] w fun e w' => e = .returned (.bool true) ∧ Below w.heap.size w w' := by
  by_cases hs : n ≤ 1048576
  · have hlen := h.1
    have hi := h.2.1
    subst hlen
    go_enter Try.func7, Try.ntmps7
    go_wp2_with fail
    refine (szBlockS_in _ _ _ _ _ (by omega) (by omega) (by omega) (by omega)).mono ?_
    rintro e w' ⟨rfl, rfl⟩
    go_wp2_with fail
    refine (toBlockS_any _ _ _ xs _ h (by omega)).mono ?_
    intro e w1 hm
    obtain ⟨rfl, h1, b1⟩ := hm.reads hi
    go_wp2_with fail
    refine (mFragmented_any _ _ _ xs _ _ h1 (by omega)).mono ?_
    rintro e w2 ⟨rfl, b2⟩
    have bb2 := b1.trans (b2.mono b1.size)
    go_wp2_with fail
    refine (toBlockS_any _ _ _ xs _ (h.up bb2) (by omega)).mono ?_
    intro e w3 hm3
    obtain ⟨rfl, h3, b3⟩ := hm3.reads hi
    have bb3 := bb2.trans (b3.mono bb2.size)
    go_wp2_with fail
    refine (fragmented_any _ _ _ xs _ _ h3 (by omega)).mono ?_
    rintro e w4 ⟨rfl, b4⟩
    have bb4 := bb3.trans (b4.mono bb3.size)
    go_wp2_with fail
    refine (toBlockS_any _ _ _ xs _ (h.up bb4) (by omega)).mono ?_
    intro e w5 hm5
    obtain ⟨rfl, h5, b5⟩ := hm5.reads hi
    have bb5 := bb4.trans (b5.mono bb4.size)
    go_wp2_with fail
    refine (eqBlockS_any _ _ _ _ _ _ xs xs _ ((h3.up b4).up b5) h5 (by omega) (by omega)).mono ?_
    rintro e w6 ⟨rfl, b6⟩
    have bb6 := bb5.trans (b6.mono bb5.size)
    go_wp2_with fail
    go_ret
    exact ⟨rfl, bb6⟩
  · go_enter Try.func7, Try.ntmps7
    go_wp2_with fail
    refine (szBlockS_out _ _ _ _ _ (by omega) (by omega) (by omega) (by omega)).mono ?_
    rintro e w' ⟨rfl, rfl⟩
    go_wp2_with fail
    go_ret
    exact ⟨rfl, Below.refl _ _⟩

set_option maxRecDepth 100000 in
set_option maxHeartbeats 2000000 in
theorem exactSlideBlocks_walk (A : Option Addr) (n c : Nat) (xs : List Bl) (a1 : Int) (w : World) (h : BS w w.heap.size A n xs) (hn : n ≤ 9223372036854775807) :
    Calls Try.prog 8 #[.slice A n c, .int .i64 a1] w fun e w' => e = .returned (.bool true) ∧ Below w.heap.size w w' := by
  by_cases hs : n ≤ 1048576
  · have hlen := h.1
    have hi := h.2.1
    subst hlen
    obtain ⟨ys, hys⟩ : ∃ ys, Bks.slideW xs a1 = ys := ⟨_, rfl⟩
    obtain ⟨ok, hok⟩ : ∃ ok, Bks.movW xs a1 = ok := ⟨_, rfl⟩
    have ha : AllI ys := by rw [← hys]; exact (Bks.slide_all xs a1).1
    have hl : ys.length ≤ 256 := by rw [← hys]; exact (Bks.slide_all xs a1).2
    have HY := Lib.hid hys
    have HO := Lib.hid hok
    have HA := Lib.hid ha
    have HI := Lib.hid hi
    clear hys hok ha hi
    go_enter Try.func8, Try.ntmps8
    go_wp2_with fail
    refine (szBlockS_in _ _ _ _ _ (by omega) (by omega) (by omega) (by omega)).mono ?_
    rintro e w' ⟨rfl, rfl⟩
    go_wp2_with fail
    refine (toBlockS_any _ _ _ xs _ h (by omega)).mono ?_
    intro e w1 hm
    obtain ⟨rfl, h1, b1⟩ := hm.reads HI.out
    clear hm
    go_wp2_with fail
    refine (mSlideBlocks_any _ _ _ xs _ _ h1 (by omega)).mono ?_
    rw [HY.out, HO.out]
    rintro e w2 ⟨v0, rfl, o0, b2⟩
    have bb2 := b1.trans (b2.mono b1.size)
    clear h1
    go_wp2_with fail
    refine (toBlockS_any _ _ _ xs _ (h.up bb2) (by omega)).mono ?_
    intro e w3 hm3
    obtain ⟨rfl, ox, b3⟩ := hm3.own (by omega)
    clear hm3
    have bb3 := bb2.trans (b3.mono bb2.size)
    have p0 := o0.below b3 (Nat.le_refl _)
    have s0x := sep_of o0 ox (Nat.le_refl _)
    go_wp2_with fail
    refine (slideBlocks_any _ _ _ xs _ _ (ox.reads HI.out) (by omega) (Nat.le_refl _)).mono ?_
    rw [HY.out, HO.out]
    rintro e w4 ⟨v1, rfl, o1, b4⟩
    have bb4 := bb3.trans (b4.mono bb3.size)
    have sx1 := sep_of ox o1 (Nat.le_refl _)
    have s01 := sep_of p0 o1 (Nat.le_refl _)
    have p0 := p0.below b4 (Nat.le_refl _)
    have px := ox.below b4 (Nat.le_refl _)
    obtain ⟨A0, c0, rfl, f0⟩ := o0.form
    obtain ⟨A1, c1, rfl, f1⟩ := o1.form
    clear f0 f1
    go_wp2_with fail
    refine (eqBlockS_any _ _ _ _ _ _ ys ys _ (o1.reads HA.out) (p0.reads HA.out) (by omega) (by omega)).mono ?_
    rw [decide_eq_true rfl]
    rintro e w5 ⟨rfl, b5⟩
    have bb5 := bb4.trans (b5.mono bb4.size)
    have p0 := p0.below b5 (Nat.le_refl _)
    have px := px.below b5 (Nat.le_refl _)
    have p1 := o1.below b5 (Nat.le_refl _)
    go_wp2_with fail
    refine (toBlockS_any _ _ _ xs _ (h.up bb5) (by omega)).mono ?_
    intro e w6 hm6
    obtain ⟨rfl, h6, b6⟩ := hm6.reads HI.out
    clear hm6
    have bb6 := bb5.trans (b6.mono bb5.size)
    have p0 := p0.below b6 (Nat.le_refl _)
    have px := px.below b6 (Nat.le_refl _)
    have p1 := p1.below b6 (Nat.le_refl _)
    go_wp2_with fail
    refine (eqBlockS_any _ _ _ _ _ _ xs xs _ (px.reads HI.out) h6 (by omega) (by omega)).mono ?_
    rw [decide_eq_true rfl]
    rintro e w7 ⟨rfl, b7⟩
    have bb7 := bb6.trans (b7.mono bb6.size)
    have p0 := p0.below b7 (Nat.le_refl _)
    have px := px.below b7 (Nat.le_refl _)
    have p1 := p1.below b7 (Nat.le_refl _)
    clear h6
    go_wp2_with fail
    refine (markBlockS_any _ xs _ _ _ px (by omega) (by omega) (by omega)).mono ?_
    rintro e w8 ⟨rfl, m8, g8⟩
    have p0 := p0.far g8 s0x
    have p1 := p1.far g8 (sep_swap sx1)
    have bb8 : Below w.heap.size w w8 := bb7.grown g8 bb7.size (fun k hk => Nat.le_trans bb2.size (World.ownsRow.lt ox k hk).1)
    clear m8 g8 px
    go_wp2_with fail
    refine (eqBlockS_any _ _ _ _ _ _ ys ys _ (p1.reads HA.out) (p0.reads HA.out) (by omega) (by omega)).mono ?_
    rw [decide_eq_true rfl]
    rintro e w9 ⟨rfl, b9⟩
    have bb9 := bb8.trans (b9.mono bb8.size)
    have p0 := p0.below b9 (Nat.le_refl _)
    have p1 := p1.below b9 (Nat.le_refl _)
    go_wp2_with fail
    refine (markBlockS_any _ ys _ _ _ p1 (by omega) (by omega) (by omega)).mono ?_
    rintro e w10 ⟨rfl, m10, g10⟩
    have p0 := p0.far g10 s01
    have bb10 : Below w.heap.size w w10 := bb9.grown g10 bb9.size (fun k hk => Nat.le_trans bb3.size (World.ownsRow.lt o1 k hk).1)
    have hmall := Lib.hid (marks_all 1 ys.length (by omega) (by omega) (by omega))
    go_wp2_with fail
    refine (heldBlockS_any _ _ _ _ _ (m10.reads hmall.out) (by omega) (by omega) (by omega)).mono ?_
    rintro e w' ⟨rfl, rfl⟩
    go_wp2_with fail
    refine (toBlockS_any _ _ _ xs _ (h.up bb10) (by omega)).mono ?_
    intro e w11 hm11
    obtain ⟨rfl, h11, b11⟩ := hm11.reads HI.out
    clear hm11
    have bb11 := bb10.trans (b11.mono bb10.size)
    have p0 := p0.below b11 (Nat.le_refl _)
    have m11 := m10.below b11 (Nat.le_refl _)
    go_wp2_with fail
    refine (slideBlocks_any _ _ _ xs _ _ h11 (by omega) (Nat.le_refl _)).mono ?_
    rw [HY.out, HO.out]
    rintro e w12 ⟨v2, rfl, o2, b12⟩
    have bb12 := bb11.trans (b12.mono bb11.size)
    have p0 := p0.below b12 (Nat.le_refl _)
    have m12 := m11.below b12 (Nat.le_refl _)
    obtain ⟨A2, c2, rfl, f2⟩ := o2.form
    clear f2 h11
    go_wp2_with fail
    refine (eqBlockS_any _ _ _ _ _ _ ys ys _ (o2.reads HA.out) (p0.reads HA.out) (by omega) (by omega)).mono ?_
    rw [decide_eq_true rfl]
    rintro e w13 ⟨rfl, b13⟩
    have bb13 := bb12.trans (b13.mono bb12.size)
    have m13 := m12.below b13 (Nat.le_refl _)
    go_wp2_with fail
    refine (heldBlockS_any _ _ _ _ _ (m13.reads hmall.out) (by omega) (by omega) (by omega)).mono ?_
    rintro e w' ⟨rfl, rfl⟩
    go_wp2_with fail
    go_ret
    exact ⟨rfl, bb13⟩
  · go_enter Try.func8, Try.ntmps8
    go_wp2_with fail
    refine (szBlockS_out _ _ _ _ _ (by omega) (by omega) (by omega) (by omega)).mono ?_
    rintro e w' ⟨rfl, rfl⟩
    go_wp2_with fail
    go_ret
    exact ⟨rfl, Below.refl _ _⟩

set_option maxRecDepth 100000 in
set_option maxHeartbeats 2000000 in
theorem exactTakeSliding_walk (A : Option Addr) (n c : Nat) (xs : List Bl) (a1 a2 : Int) (w : World) (h : BS w w.heap.size A n xs) (hn : n ≤ 9223372036854775807) :
    Calls Try.prog 9 #[.slice A n c, .int .i64 a1, .int .i64 a2] w fun e w' => e = .returned (.bool true) ∧ Below w.heap.size w w' := by
  by_cases hs : n ≤ 1048576
  · have hlen := h.1
    have hi := h.2.1
    subst hlen
    obtain ⟨ys, hys⟩ : ∃ ys, Bks.tsW xs a1 a2 = ys := ⟨_, rfl⟩
    obtain ⟨ok, hok⟩ : ∃ ok, Bks.tsOk xs a1 a2 = ok := ⟨_, rfl⟩
    have ha : AllI ys := by rw [← hys]; exact (Bks.ts_all xs a1 a2).1
    have hl : ys.length ≤ 256 := by rw [← hys]; exact (Bks.ts_all xs a1 a2).2
    have HY := Lib.hid hys
    have HO := Lib.hid hok
    have HA := Lib.hid ha
    have HI := Lib.hid hi
    clear hys hok ha hi
    go_enter Try.func9, Try.ntmps9
    go_wp2_with fail
    refine (szBlockS_in _ _ _ _ _ (by omega) (by omega) (by omega) (by omega)).mono ?_
    rintro e w' ⟨rfl, rfl⟩
    go_wp2_with fail
    refine (toBlockS_any _ _ _ xs _ h (by omega)).mono ?_
    intro e w1 hm
    obtain ⟨rfl, h1, b1⟩ := hm.reads HI.out
    clear hm
    go_wp2_with fail
    refine (mTakeSliding_any _ _ _ xs _ _ _ h1 (by omega) (Nat.le_refl _)).mono ?_
    rw [HY.out, HO.out]
    rintro e w2 ⟨v0, rfl, o0, b2⟩
    have bb2 := b1.trans (b2.mono b1.size)
    clear h1
    go_wp2_with fail
    refine (toBlockS_any _ _ _ xs _ (h.up bb2) (by omega)).mono ?_
    intro e w3 hm3
    obtain ⟨rfl, ox, b3⟩ := hm3.own (by omega)
    clear hm3
    have bb3 := bb2.trans (b3.mono bb2.size)
    have p0 := o0.below b3 (Nat.le_refl _)
    have s0x := sep_of o0 ox (Nat.le_refl _)
    go_wp2_with fail
    refine (takeSliding_any _ _ _ xs _ _ _ (ox.reads HI.out) (by omega) (Nat.le_refl _)).mono ?_
    rw [HY.out, HO.out]
    rintro e w4 ⟨v1, rfl, o1, b4⟩
    have bb4 := bb3.trans (b4.mono bb3.size)
    have sx1 := sep_of ox o1 (Nat.le_refl _)
    have s01 := sep_of p0 o1 (Nat.le_refl _)
    have p0 := p0.below b4 (Nat.le_refl _)
    have px := ox.below b4 (Nat.le_refl _)
    obtain ⟨A0, c0, rfl, f0⟩ := o0.form
    obtain ⟨A1, c1, rfl, f1⟩ := o1.form
    clear f0 f1
    go_wp2_with fail
    refine (eqBlockS_any _ _ _ _ _ _ ys ys _ (o1.reads HA.out) (p0.reads HA.out) (by omega) (by omega)).mono ?_
    rw [decide_eq_true rfl]
    rintro e w5 ⟨rfl, b5⟩
    have bb5 := bb4.trans (b5.mono bb4.size)
    have p0 := p0.below b5 (Nat.le_refl _)
    have px := px.below b5 (Nat.le_refl _)
    have p1 := o1.below b5 (Nat.le_refl _)
    go_wp2_with fail
    refine (toBlockS_any _ _ _ xs _ (h.up bb5) (by omega)).mono ?_
    intro e w6 hm6
    obtain ⟨rfl, h6, b6⟩ := hm6.reads HI.out
    clear hm6
    have bb6 := bb5.trans (b6.mono bb5.size)
    have p0 := p0.below b6 (Nat.le_refl _)
    have px := px.below b6 (Nat.le_refl _)
    have p1 := p1.below b6 (Nat.le_refl _)
    go_wp2_with fail
    refine (eqBlockS_any _ _ _ _ _ _ xs xs _ (px.reads HI.out) h6 (by omega) (by omega)).mono ?_
    rw [decide_eq_true rfl]
    rintro e w7 ⟨rfl, b7⟩
    have bb7 := bb6.trans (b7.mono bb6.size)
    have p0 := p0.below b7 (Nat.le_refl _)
    have px := px.below b7 (Nat.le_refl _)
    have p1 := p1.below b7 (Nat.le_refl _)
    clear h6
    go_wp2_with fail
    refine (markBlockS_any _ xs _ _ _ px (by omega) (by omega) (by omega)).mono ?_
    rintro e w8 ⟨rfl, m8, g8⟩
    have p0 := p0.far g8 s0x
    have p1 := p1.far g8 (sep_swap sx1)
    have bb8 : Below w.heap.size w w8 := bb7.grown g8 bb7.size (fun k hk => Nat.le_trans bb2.size (World.ownsRow.lt ox k hk).1)
    clear m8 g8 px
    go_wp2_with fail
    refine (eqBlockS_any _ _ _ _ _ _ ys ys _ (p1.reads HA.out) (p0.reads HA.out) (by omega) (by omega)).mono ?_
    rw [decide_eq_true rfl]
    rintro e w9 ⟨rfl, b9⟩
    have bb9 := bb8.trans (b9.mono bb8.size)
    have p0 := p0.below b9 (Nat.le_refl _)
    have p1 := p1.below b9 (Nat.le_refl _)
    go_wp2_with fail
    refine (markBlockS_any _ ys _ _ _ p1 (by omega) (by omega) (by omega)).mono ?_
    rintro e w10 ⟨rfl, m10, g10⟩
    have p0 := p0.far g10 s01
    have bb10 : Below w.heap.size w w10 := bb9.grown g10 bb9.size (fun k hk => Nat.le_trans bb3.size (World.ownsRow.lt o1 k hk).1)
    have hmall := Lib.hid (marks_all 1 ys.length (by omega) (by omega) (by omega))
    go_wp2_with fail
    refine (heldBlockS_any _ _ _ _ _ (m10.reads hmall.out) (by omega) (by omega) (by omega)).mono ?_
    rintro e w' ⟨rfl, rfl⟩
    go_wp2_with fail
    refine (toBlockS_any _ _ _ xs _ (h.up bb10) (by omega)).mono ?_
    intro e w11 hm11
    obtain ⟨rfl, h11, b11⟩ := hm11.reads HI.out
    clear hm11
    have bb11 := bb10.trans (b11.mono bb10.size)
    have p0 := p0.below b11 (Nat.le_refl _)
    have m11 := m10.below b11 (Nat.le_refl _)
    go_wp2_with fail
    refine (takeSliding_any _ _ _ xs _ _ _ h11 (by omega) (Nat.le_refl _)).mono ?_
    rw [HY.out, HO.out]
    rintro e w12 ⟨v2, rfl, o2, b12⟩
    have bb12 := bb11.trans (b12.mono bb11.size)
    have p0 := p0.below b12 (Nat.le_refl _)
    have m12 := m11.below b12 (Nat.le_refl _)
    obtain ⟨A2, c2, rfl, f2⟩ := o2.form
    clear f2 h11
    go_wp2_with fail
    refine (eqBlockS_any _ _ _ _ _ _ ys ys _ (o2.reads HA.out) (p0.reads HA.out) (by omega) (by omega)).mono ?_
    rw [decide_eq_true rfl]
    rintro e w13 ⟨rfl, b13⟩
    have bb13 := bb12.trans (b13.mono bb12.size)
    have m13 := m12.below b13 (Nat.le_refl _)
    go_wp2_with fail
    refine (heldBlockS_any _ _ _ _ _ (m13.reads hmall.out) (by omega) (by omega) (by omega)).mono ?_
    rintro e w' ⟨rfl, rfl⟩
    go_wp2_with fail
    go_ret
    exact ⟨rfl, bb13⟩
  · go_enter Try.func9, Try.ntmps9
    go_wp2_with fail
    refine (szBlockS_out _ _ _ _ _ (by omega) (by omega) (by omega) (by omega)).mono ?_
    rintro e w' ⟨rfl, rfl⟩
    go_wp2_with fail
    go_ret
    exact ⟨rfl, Below.refl _ _⟩
end Go.Proofs.Ytkejbggffbkdaaa
