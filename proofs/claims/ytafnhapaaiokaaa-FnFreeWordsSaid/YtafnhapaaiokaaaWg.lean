/- What DrawNewBlocks, sameBlocks and alive return, and that the law of NewBlocks (P16) returns true; for every list of bytes. -/
import Derived.Test.YtafnhapaaiokaaaDraw
namespace Go.Proofs.Ytafnhapaaiokaaa
open Go.RowKit

/-- a number between lo and hi -/
def SomeInt (w : World) (lo hi : Int) (e : Ending) (w' : World) : Prop := ∃ t : Int, e = .returned (.int .i64 t) ∧ lo ≤ t ∧ t ≤ hi ∧ Below w.heap.size w w'

theorem grown_cell {w w' : World} {g : Nat} (hg : w.grownBy w' (some g)) (b o : Nat) (hb : b < w.heap.size) (hne : b ≠ g) : w'.cell? ⟨b, o, none⟩ = w.cell? ⟨b, o, none⟩ :=
  World.cell?_of_block (hg.block b hb (fun e => hne (by injection e)))

set_option maxHeartbeats 2000000 in
theorem drawNewBlocks_any (A : Option Addr) (n c : Nat) (w : World) (h : Bytes w w.heap.size A n) (hc : n ≤ c) (hn : n ≤ 9223372036854775807) :
    Calls Try.prog 16 #[.slice A n c] w (SomeInt w (-1) 257) := by
  go_enter Try.func16, Try.ntmps16
  go_wp2_with fail
  refine (open_any _ _ _ _ h hc hn).mono ?_
  rintro e w1 ⟨rfl, hr1, b1⟩
  go_wp2_with fail
  refine (pick_any _ _ _ _ hr1 (by omega) (by omega)).mono ?_
  rintro e w2 ⟨r, rfl, r0, r1, hr2, g2⟩
  have r2 : r < 256 := by omega
  have hs2 := g2.size
  have hlt := hr1.lt
  have bb2 : Below w.heap.size w w2 := b1.grown g2 b1.size (fun k hk => by injection hk; omega)
  clear r1
  go_wp2_with fail
  have hrw : Rd ((w2.alloc (.cells #[.int .i64 (1 + r), .int .i64 0, .int .i64 257, .int .i64 (-1)] 3)).alloc (.cells #[.int .i64 0, .int .i64 0, .int .i64 0, .int .i64 0, .int .i64 1, .int .i64 2, .int .i64 3] 3)) w.heap.size 1 :=
    hr2.below (((Below.refl w2.heap.size w2).alloc (Nat.le_refl _) _).alloc (by simp) _) (by omega)
  have bb3 : Below w.heap.size w ((w2.alloc (.cells #[.int .i64 (1 + r), .int .i64 0, .int .i64 257, .int .i64 (-1)] 3)).alloc (.cells #[.int .i64 0, .int .i64 0, .int .i64 0, .int .i64 0, .int .i64 1, .int .i64 2, .int .i64 3] 3)) :=
    (bb2.alloc bb2.size _).alloc (by simp; omega) _
  refine (pick_any _ _ _ _ hrw (by omega) (by omega)).mono ?_
  rintro e w3 ⟨q, rfl, q0, q1, hr3, g3⟩
  have k1 := fun o => grown_cell g3 w2.heap.size o (by simp <;> omega) (by omega)
  have k2 := fun o => grown_cell g3 (w2.heap.size + 1) o (by simp <;> omega) (by omega)
  have bb4 : Below w.heap.size w w3 := bb3.grown g3 bb3.size (fun k hk => by injection hk; omega)
  have a0 := k1 0
  have a1 := k1 1
  have a2 := k1 2
  have a3 := k1 3
  have b0 := k2 0
  have b1' := k2 1
  have b2 := k2 2
  have b3 := k2 3
  have b4 := k2 4
  have b5 := k2 5
  have b6 := k2 6
  clear k1 k2 g3 hrw bb3
  simp at a0 a1 a2 a3 b0 b1' b2 b3 b4 b5 b6
  obtain rfl | rfl | rfl | rfl | rfl | rfl | rfl : q = 0 ∨ q = 1 ∨ q = 2 ∨ q = 3 ∨ q = 4 ∨ q = 5 ∨ q = 6 := by omega
  all_goals
    go_wp2
    go_ret
    exact ⟨_, rfl, by omega, by omega, bb4⟩

/-- '!=' on two blocks -/
theorem run_neq_block (x y : Bl) (w : World) : (binOp .neq 29 (.agg #[.int .i64 x.s, .int .i64 x.z, .bool x.u]) (.agg #[.int .i64 y.s, .int .i64 y.z, .bool y.u])).run Try.prog w = .ok (.bool (!eqB x y)) w := by
  have u3 := Try.underlying3
  have a3 := Try.isAgg3
  have z3 := Try.sizeOf3
  have u4 := Try.underlying4
  have a4 := Try.isAgg4
  have z4 := Try.sizeOf4
  have hS : Try.prog.underlying 29 = some (.struct (Try.prog.fieldsOf 29)) := by kernel_rfl
  have hp : Try.prog.stoodInHeld 29 = false := by kernel_rfl
  rw [run_neq_struct, show (10000 : Nat) = 9999 + 1 from rfl, run_equalIn_agg w 9999 29 _ _ hS hp, eqB_eq]
  simp only [Program.fieldsOf, Try.underlying29]
  go_simp
  by_cases h1 : x.s = y.s <;> by_cases h2 : x.z = y.z <;> by_cases h3 : x.u = y.u <;> simp [h1, h2, h3]

theorem sameBlocks_any (A B : Option Addr) (n m c d : Nat) (xs ys : List Bl) (w : World) (h : BS w w.heap.size A n xs) (h' : BS w w.heap.size B m ys) (hn : n ≤ 1099511627776) (hm : m ≤ 1099511627776) :
    Calls Try.prog 18 #[.slice A n c, .slice B m d] w fun e w' => e = .returned (.bool (decide (xs = ys))) ∧ Below w.heap.size w w' := by
  have HL := Lib.hid h.1
  have HL' := Lib.hid h'.1
  by_cases hnm : n = m
  · subst hnm
    go_enter Try.func18, Try.ntmps18
    go_wp2
    go_loopw [5] (fun i wr => ∃ (k : Nat), k ≤ n ∧ i = .int .i64 k ∧ Hid (xs.take k = ys.take k) ∧ Below w.heap.size w wr) (fun i _ => n - (intOf i).toNat)
    case atStart => exact ⟨0, Nat.zero_le _, rfl, by simp [Hid], Below.refl _ _⟩
    case round =>
      obtain ⟨k, hk, rfl, hpre, hb⟩ := hrel
      by_cases hlt : k < n
      · obtain ⟨g, o, x, rfl, hg, hx, ⟨i1, i2⟩, ⟨i3, i4⟩, c1, c2, c3⟩ := (h.below hb).at_ hlt
        obtain ⟨g', o', y, rfl, hg', hx', ⟨i1', i2'⟩, ⟨i3', i4'⟩, c1', c2', c3'⟩ := (h'.below hb).at_ hlt
        have HX := Lib.hid hx
        have HX' := Lib.hid hx'
        have hlt' : (k : Int) < n := by omega
        clear hx hx'
        have hneq := fun W => run_neq_block x y W
        cases he : eqB x y
        all_goals
          rw [he] at hneq
          have HE := Lib.hid he
          clear he
          go_wp2_with fail
          go_quiet (fail)
          clear hneq
          go_wp2
        · go_ret
          exact ⟨ret_bool (ne_of_at HX.out HX'.out HE.out).symm, below_drewN hb _⟩
        · go_roundw
          case rel => exact ⟨k + 1, by omega, by go_num, Lib.hid (take_eq_succ hpre.out HX.out HX'.out HE.out), below_drewN hb _⟩
          case measure => simp [intOf]; omega
      · have hkn : k = n := by omega
        have HK := Lib.hid hkn
        clear hkn
        go_wp2
        go_ret
        refine ⟨ret_bool ?_, hb⟩
        have hp := hpre.out
        rw [HK.out, List.take_of_length_le (by rw [HL.out]; omega), List.take_of_length_le (by rw [HL'.out]; omega)] at hp
        simp [hp]
  · have hne : ((n : Int) != m) = true := by rw [bne_iff_ne]; omega
    have HN := Lib.hid hnm
    clear hnm
    go_enter Try.func18, Try.ntmps18
    go_wp2
    go_ret
    refine ⟨ret_bool ?_, Below.refl _ _⟩
    simp
    rintro rfl
    exact HN.out (HL.out.symm.trans HL'.out)

theorem alive_any (w : World) : Calls Try.prog 15 #[] w fun e w' => e = .returned (.bool true) ∧ Below w.heap.size w w' := by
  have ho := own_one w 0 3 false w.heap.size (Nat.le_refl _)
  have hi : AllI [⟨0, 3, false⟩] := by
    intro k x hx
    match k, hx with
    | 0, hx =>
      simp at hx
      subst hx
      unfold I64
      constructor <;> constructor <;> simp
    | k + 1, hx => simp at hx
  have hf : Bks.freeW [⟨0, 3, false⟩] 3 = 3 := by decide
  have HF := Lib.hid hf
  clear hf
  go_enter Try.func15, Try.ntmps15
  go_wp2_with fail
  refine (freeWords_any _ _ _ [⟨0, 3, false⟩] _ _ (ho.reads hi) (by omega)).mono ?_
  rw [HF.out]
  rintro e w1 ⟨rfl, b1⟩
  go_wp2_with fail
  go_ret
  exact ⟨rfl, ((Below.refl w.heap.size w).alloc (Nat.le_refl _) _).trans (b1.mono (by simp))⟩

theorem one_valid (t : Int) (h1 : 1 ≤ t) (h2 : t ≤ 256) : Bks.validB [⟨0, t, false⟩] t = true := by
  rw [Bks.valid_iff]
  refine ⟨fun k hk => ?_, h1, h2, by simp [Bks.offs]⟩
  have : k = 0 := by simpa using hk
  subst this
  rw [Bks.stepOk_iff _ 0 ⟨0, t, false⟩ rfl]
  exact ⟨by simp [Bks.offs], h1, h2, .inl rfl⟩

set_option maxHeartbeats 2000000 in
theorem newBlocksLaw_walk (A : Option Addr) (n c : Nat) (w : World) (h : Bytes w w.heap.size A n) (hc : n ≤ c) (hn : n ≤ 9223372036854775807) :
    Calls Try.prog 4 #[.slice A n c] w fun e w' => e = .returned (.bool true) ∧ Below w.heap.size w w' := by
  by_cases hs : n ≤ 1048576
  · go_enter Try.func4, Try.ntmps4
    go_wp2_with fail
    refine (drawNewBlocks_any _ _ _ _ h hc hn).mono ?_
    rintro e w1 ⟨t, rfl, t0, t1, b1⟩
    have hl := newB_len t
    have ha := newB_all t
    generalize hx : newB t = xs at hl ha
    have HX := Lib.hid hx
    clear hx
    go_wp2_with fail
    refine (newBlocks_any _ _).mono ?_
    rw [HX.out]
    rintro e w2 ⟨v1, rfl, o1, b2⟩
    have bb2 := b1.trans (b2.mono b1.size)
    go_wp2_with fail
    refine (mNewBlocks_any _ _).mono ?_
    rw [HX.out]
    rintro e w3 ⟨v0, rfl, o0, b3⟩
    have bb3 := bb2.trans (b3.mono bb2.size)
    have o1' := o1.below b3 (Nat.le_refl _)
    obtain ⟨A0, c0, rfl, f0⟩ := o0.form
    obtain ⟨A1, c1, rfl, f1⟩ := o1.form
    clear f0 f1
    go_wp2_with fail
    refine (sameBlocks_any _ _ _ _ _ _ xs xs _ (o1'.reads ha) (o0.reads ha) (by omega) (by omega)).mono ?_
    rw [decide_eq_true rfl]
    rintro e w4 ⟨rfl, b4⟩
    have bb4 := bb3.trans (b4.mono bb3.size)
    have o1'' := o1'.below b4 (Nat.le_refl _)
    by_cases ht : 1 ≤ t ∧ t ≤ 256
    · have hx1 : xs = [⟨0, t, false⟩] := by rw [← HX.out]; simp [newB, ht]
      subst hx1
      obtain ⟨u1, u2⟩ := ht
      have HV := Lib.hid (one_valid t u1 u2)
      have HF := Lib.hid (show Bks.freeW [⟨0, t, false⟩] t = t by simp [Bks.freeW, HV.out, Bks.freeTo])
      have HG := Lib.hid (show Bks.largeW [⟨0, t, false⟩] t = t by simp [Bks.largeW, HV.out, Bks.maxTo]; omega)
      go_wp2_with fail
      refine (blocksValid_any _ _ _ [⟨0, t, false⟩] _ _ (o1''.reads ha) (by simp)).mono ?_
      rw [HV.out]
      rintro e w5 ⟨rfl, b5⟩
      have bb5 := bb4.trans (b5.mono bb4.size)
      have p1 := o1''.below b5 (Nat.le_refl _)
      go_wp2_with fail
      refine (freeWords_any _ _ _ [⟨0, t, false⟩] _ _ (p1.reads ha) (by simp)).mono ?_
      rw [HF.out]
      rintro e w6 ⟨rfl, b6⟩
      have bb6 := bb5.trans (b6.mono bb5.size)
      have p2 := p1.below b6 (Nat.le_refl _)
      go_wp2_with fail
      refine (largestFree_any _ _ _ [⟨0, t, false⟩] _ _ (p2.reads ha) (by simp)).mono ?_
      rw [HG.out]
      rintro e w7 ⟨rfl, b7⟩
      have bb7 := bb6.trans (b7.mono bb6.size)
      go_wp2_with fail
      go_ret
      exact ⟨rfl, bb7⟩
    · have hx1 : xs = [] := by rw [← HX.out]; simp [newB, ht]
      subst hx1
      by_cases u1 : t < 1
      · go_wp2_with fail
        refine (alive_any _).mono ?_
        rintro e w5 ⟨rfl, b5⟩
        go_wp2_with fail
        go_ret
        exact ⟨rfl, bb4.trans (b5.mono bb4.size)⟩
      · have u2 : 256 < t := by omega
        go_wp2_with fail
        refine (alive_any _).mono ?_
        rintro e w5 ⟨rfl, b5⟩
        go_wp2_with fail
        go_ret
        exact ⟨rfl, bb4.trans (b5.mono bb4.size)⟩
  · go_enter Try.func4, Try.ntmps4
    go_wp2
    go_ret
    exact ⟨rfl, Below.refl _ _⟩
end Go.Proofs.Ytafnhapaaiokaaa
