/- The law of BlockAt (P19) returns true: for every list of bytes. -/
import Derived.Test.YtafnhapaaiokaaaWl
namespace Go.Proofs.Ytafnhapaaiokaaa
open Go.RowKit

/-- blocks and a word have been drawn for a law -/
def Drawn3 (w : World) (e : Ending) (w' : World) : Prop :=
  ∃ (v : Value) (xs : List Bl) (T q : Int), e = .returned (.tuple #[v, .int .i64 T, .int .i64 q]) ∧ OwnB w' w.heap.size v xs ∧ AllI xs ∧ 1 ≤ xs.length ∧ xs.length ≤ 300 ∧ 1 ≤ T ∧ T ≤ 65 ∧ -1 ≤ q ∧ q ≤ T ∧ Below w.heap.size w w'

theorem drawBlockAt_any (A : Option Addr) (n c : Nat) (w : World) (h : Bytes w w.heap.size A n) (hc : n ≤ c) (hn : n ≤ 9223372036854775807) :
    Calls Try.prog 25 #[.slice A n c] w (Drawn3 w) := by
  go_enter Try.func25, Try.ntmps25
  go_wp2_with fail
  refine (open_any _ _ _ _ h hc hn).mono ?_
  rintro e w1 ⟨rfl, hr1, b1⟩
  go_wp2_with fail
  refine (l20Blocks_any _ _ _ _ hr1 (by omega) (by omega) (by omega)).mono ?_
  rintro e w2 ⟨v, xs, T, rfl, ho, ha, h1, h2, h3, h4, hr2, hg⟩
  have hlt := hr1.lt
  have HA := Lib.hid ha
  clear ha
  go_wp2_with fail
  refine (pick_any _ _ _ _ hr2 (by omega) (by omega)).mono ?_
  rintro e w3 ⟨r, rfl, r0, r1, hr3, g3⟩
  have r2 : r < T + 2 := by omega
  clear r1
  have b2 : Below w.heap.size w w2 := b1.grown hg b1.size (fun k hk => by injection hk; omega)
  have b3 : Below w.heap.size w w3 := b2.grown g3 b2.size (fun k hk => by injection hk; omega)
  have o3 : OwnB w3 w.heap.size v xs := (ho.far g3 (by
    right
    intro e
    have := (World.ownsRow.lt ho _ e).1
    omega)).base b1.size
  clear hr2 hr3 g3 hg ho
  go_wp2_with fail
  go_ret3
  exact ⟨v, xs, T, _, rfl, o3, HA.out, h1, h2, h3, h4, by omega, by omega, b3⟩

theorem next_block {xs : List Bl} {t q : Int} {k : Nat} (hv : Bks.validB xs t = true) (h1 : q + 1 < t) (hk : k < xs.length) (h2 : Bks.offs xs k ≤ q) (h3 : q < Bks.offs xs (k + 1)) (h0 : 0 ≤ q) : Bks.atW xs t (q + 1) = k ∨ Bks.atW xs t (q + 1) = k + 1 := by
  rw [atW_yes ⟨hv, by omega, h1⟩]
  have hl := Bks.valid_len hv
  rcases Int.lt_or_le (q + 1) (Bks.offs xs (k + 1)) with hh | hh
  · rw [Bks.cnt_at hv hk (by omega) hh]
    left
    omega
  · have hk2 : k + 1 < xs.length := by
      rcases Nat.lt_or_ge (k + 1) xs.length with e | e
      · exact e
      · have : k + 1 = xs.length := by omega
        rw [this] at h3 hh
        omega
    have hm := Bks.offs_mono hv (i := k + 1) (j := k + 1 + 1) (by omega) (by omega)
    rw [Bks.cnt_at (k := k + 1) hv hk2 (by omega) (by omega)]
    right
    omega

set_option maxRecDepth 100000 in
set_option maxHeartbeats 4000000 in
theorem blockAtLaw_walk (A : Option Addr) (n c : Nat) (w : World) (h : Bytes w w.heap.size A n) (hc : n ≤ c) (hn : n ≤ 9223372036854775807) :
    Calls Try.prog 6 #[.slice A n c] w fun e w' => e = .returned (.bool true) ∧ Below w.heap.size w w' := by
  by_cases hs : n ≤ 1048576
  · have hs' : decide ((1048576 : Int) < (n : Int)) = false := by simp; omega
    go_enter Try.func6, Try.ntmps6
    go_wp2_with fail
    refine (drawBlockAt_any _ _ _ _ h hc hn).mono ?_
    rintro e w1 ⟨v, xs, T, q, rfl, o1, ha, l1, l2, t1, t2, q1, q2, b1⟩
    obtain ⟨A1, c1, rfl, f1⟩ := o1.form
    clear f1
    go_wp2_with fail
    refine (blockAt_any _ _ _ xs _ _ _ (o1.reads ha) (by omega)).mono ?_
    rintro e w2 ⟨rfl, b2⟩
    have bb2 := b1.trans (b2.mono b1.size)
    have o2 := o1.below b2 (Nat.le_refl _)
    go_wp2_with fail
    refine (mBlockAt_any _ _ _ xs _ _ _ (o2.reads ha) (by omega)).mono ?_
    rintro e w3 ⟨rfl, b3⟩
    have bb3 := bb2.trans (b3.mono bb2.size)
    have o3 := o2.below b3 (Nat.le_refl _)
    clear o1 o2 b1 b2 b3 bb2
    cases hv : Bks.validB xs T
    · have e1 : Bks.atW xs T q = -1 := atW_not (fun hh => by rw [hv] at hh; cases hh.1)
      rw [e1]
      have HV := Lib.hid hv
      clear e1 hv
      go_wp2_with fail
      refine (mBlocksValid_any _ _ _ xs _ _ (o3.reads ha) (by omega)).mono ?_
      rw [HV.out]
      rintro e w4 ⟨rfl, b4⟩
      have bb4 := bb3.trans (b4.mono bb3.size)
      go_wp2_with fail
      refine (alive_any _).mono ?_
      rintro e w5 ⟨rfl, b5⟩
      go_wp2_with fail
      go_ret
      exact ⟨rfl, bb4.trans (b5.mono bb4.size)⟩
    · by_cases hq : 0 ≤ q ∧ q < T
      · obtain ⟨k, x, hx, hat, hcn, k1, k2, hk⟩ := Bks.block_of hv hq.1 hq.2
        rw [hat]
        have HX := Lib.hid hx
        have HV := Lib.hid hv
        obtain ⟨z0, z1, z2, z3, z4, z5, z6⟩ := Bks.valid_at hv hx
        have y1 : x.s ≤ q := by omega
        have y2 : q < x.s + x.z := by omega
        have y0 : 0 ≤ x.s := by omega
        have HNX := Lib.hid (fun hh => next_block hv hh hk k1 k2 hq.1)
        have HN1 := Lib.hid (fun hh : q + 1 = T => atW_not (xs := xs) (t := T) (v := q + 1) (fun hh' => by omega))
        obtain ⟨p0, p1⟩ := hq
        clear hv hx hat hcn k1 k2 z0 z5
        go_wp2_with fail
        refine (mBlocksValid_any _ _ _ xs _ _ (o3.reads ha) (by omega)).mono ?_
        rw [HV.out]
        rintro e w4 ⟨rfl, b4⟩
        have bb4 := bb3.trans (b4.mono bb3.size)
        have o4 := o3.below b4 (Nat.le_refl _)
        clear o3 b4 bb3
        go_wp2_with fail
        refine (blockAt_any _ _ _ xs _ _ _ (o4.reads ha) (by omega)).mono ?_
        rintro e w5 ⟨rfl, b5⟩
        have bb5 := bb4.trans (b5.mono bb4.size)
        have o5 := o4.below b5 (Nat.le_refl _)
        obtain ⟨g', o', x', rfl, _, hx', _, _, d1, d2, d3⟩ := (o5.reads ha).at_ hk
        have hxe : x' = x := Option.some.inj (hx'.symm.trans HX.out)
        subst hxe
        clear hx' o4 b5 bb4 d3
        have HO5 := Lib.hid o5
        have HA := Lib.hid ha
        clear o5 ha
        have hk' : (k : Int) < xs.length := by omega
        have u1 : IntKind.i64.wrap (x'.s + x'.z) = x'.s + x'.z := IntWalk.i64_in _ (by omega)
        have u2 : IntKind.i64.wrap (q + 1) = q + 1 := IntWalk.i64_in _ (by omega)
        have u3 : IntKind.i64.wrap ((k : Int) + 1) = (k : Int) + 1 := IntWalk.i64_in _ (by omega)
        by_cases hl : q + 1 = T
        · rw [HN1.out hl]
          have m1 : (q + 1 == T) = true := by rw [beq_iff_eq]; exact hl
          clear hl
          go_wp2_with fail
          go_quiet (fail)
          go_wp2
          go_ret
          exact ⟨rfl, below_drewN bb5 _⟩
        · have m1 : (q + 1 == T) = false := by rw [beq_eq_false_iff_ne]; exact hl
          have m2 : q + 1 < T := by omega
          rcases HNX.out m2 with e5 | e5
          · rw [e5]
            clear hl e5
            go_wp2_with fail
            go_quiet (fail)
            go_wp2
            go_ret
            exact ⟨rfl, below_drewN bb5 _⟩
          · rw [e5]
            have m3 : ((k : Int) + 1 == (k : Int)) = false := by rw [beq_eq_false_iff_ne]; omega
            clear hl e5
            go_wp2_with fail
            go_quiet (fail)
            go_wp2
            go_ret
            exact ⟨rfl, below_drewN bb5 _⟩
      · have e1 : Bks.atW xs T q = -1 := atW_not (fun hh => hq hh.2)
        rw [e1]
        have HV := Lib.hid hv
        clear e1 hv
        by_cases hq0 : q < 0
        · go_wp2_with fail
          refine (mBlocksValid_any _ _ _ xs _ _ (o3.reads ha) (by omega)).mono ?_
          rw [HV.out]
          rintro e w4 ⟨rfl, b4⟩
          go_wp2_with fail
          go_ret
          exact ⟨rfl, bb3.trans (b4.mono bb3.size)⟩
        · have hq1 : T ≤ q := by omega
          go_wp2_with fail
          refine (mBlocksValid_any _ _ _ xs _ _ (o3.reads ha) (by omega)).mono ?_
          rw [HV.out]
          rintro e w4 ⟨rfl, b4⟩
          go_wp2_with fail
          go_ret
          exact ⟨rfl, bb3.trans (b4.mono bb3.size)⟩
  · go_enter Try.func6, Try.ntmps6
    go_wp2
    go_ret
    exact ⟨rfl, Below.refl _ _⟩
end Go.Proofs.Ytafnhapaaiokaaa
