/- The law of BuddyFree (P28) returns true: for every list of bytes. -/
import Derived.Test.YthihaclhlmpioaaYi
import Derived.Test.YthihaclhlmpioaaYe
import Derived.Test.YthihaclhlmpioaaBud9
namespace Go.Proofs.Ythihaclhlmpioaa
open Go.RowKit

set_option maxRecDepth 100000 in
set_option maxHeartbeats 16000000 in
theorem buddyFreeLaw_walk (A : Option Addr) (n c : Nat) (w : World) (h : Bytes w w.heap.size A n) (hc : n ≤ c) (hn : n ≤ 9223372036854775807) :
    Calls Try.prog 7 #[.slice A n c] w fun e w' => e = .returned (.bool true) ∧ Below w.heap.size w w' := by
  by_cases hs : n ≤ 1048576
  · have hs' : decide ((1048576 : Int) < (n : Int)) = false := by simp; omega
    go_enter Try.func7, Try.ntmps7
    go_wp2_with fail
    refine (drawBuddyFree_any _ _ _ _ h hc hn).mono ?_
    rintro e w1 ⟨v, xs, T, rfl, o1, ha, l1, l2, t1, t2, b1⟩
    obtain ⟨A1, c1, rfl, f1⟩ := o1.form
    clear f1
    have HA := Lib.hid ha
    clear ha
    obtain ⟨r, hr⟩ : ∃ r, Bud.freeYW xs T = r := ⟨_, rfl⟩
    have hlaw := fun hh : 0 ≤ Bud.freeYW xs T => Bud.free_law hh
    have hneg := fun hh : Bud.freeYW xs T < 0 => Bud.freeYW_neg hh
    rw [hr] at hlaw hneg
    have HLAW := Lib.hid hlaw
    have HNEG := Lib.hid hneg
    have HR := Lib.hid hr
    clear hr hlaw hneg
    go_wp2_with fail
    refine (buddyFree_any _ _ _ xs _ _ (o1.reads HA.out) (by omega)).mono ?_
    rw [HR.out]
    rintro e w2 ⟨rfl, b2⟩
    have bb2 := b1.trans (b2.mono b1.size)
    have o2 := o1.below b2 (Nat.le_refl _)
    go_wp2_with fail
    refine (mBuddyFree_any _ _ _ xs _ _ (o2.reads HA.out) (by omega)).mono ?_
    rw [HR.out]
    rintro e w3 ⟨rfl, b3⟩
    have bb3 := bb2.trans (b3.mono bb2.size)
    have o3 := o2.below b3 (Nat.le_refl _)
    clear o1 o2 b1 b2 b3 bb2
    by_cases h0 : r < 0
    · obtain rfl := HNEG.out h0
      go_wp2_with fail
      refine (alive_any _).mono ?_
      rintro e w4 ⟨rfl, b4⟩
      go_wp2_with fail
      go_ret
      exact ⟨rfl, bb3.trans (b4.mono bb3.size)⟩
    · obtain ⟨P, rfl, hP, hle, hus, _⟩ := HLAW.out (by omega)
      have HUS := Lib.hid hus
      have OO := Lib.hid o3
      have h0' : decide (r < 0) = false := decide_eq_false h0
      clear hus o3 HLAW HNEG
      have n0 := own_noneY w3 w3.heap.size (Nat.le_refl _)
      have m0 : Below w3.heap.size w3 (w3.alloc (.cells #[] 40)) := (Below.refl _ _).alloc (Nat.le_refl _) _
      go_wp2_with fail
      go_loopw [6, 7] (fun u i wr => ∃ k : Nat, k ≤ xs.length ∧ i = .int .i64 k ∧ OwnY wr w3.heap.size u (Bud.usedY (xs.take k)) ∧ Below w3.heap.size w3 wr) (fun _ i _ => xs.length - (intOf i).toNat)
      case atStart => exact ⟨0, Nat.zero_le _, rfl, n0, m0⟩
      case round =>
        clear n0 m0
        obtain ⟨k, hk, rfl, hu, hb⟩ := hrel
        by_cases hlt : k < xs.length
        · have o5 := OO.out.below hb (Nat.le_refl _)
          obtain ⟨g, o, x, e1, hg, hx, ⟨i1, i2⟩, ⟨i3, i4⟩, d1, d2, _⟩ := (o5.reads HA.out).at_ hlt
          subst e1
          have HX := Lib.hid hx
          have hlt' : (k : Int) < xs.length := by omega
          clear hx
          go_wp2_with fail
          have ow : OwnY (wr.alloc (.cells #[.int .i64 x.s, .int .i64 x.z, .bool true] 40)).drew w3.heap.size u6 (Bud.usedY (xs.take k)) := World.ownsRow.drew (World.ownsRow.alloc hu _)
          have rw0 : BS (wr.alloc (.cells #[.int .i64 x.s, .int .i64 x.z, .bool true] 40)).drew (wr.heap.size + 1) (some ⟨wr.heap.size, 0, none⟩) 1 [⟨x.s, x.z, true⟩] := by
            have := ((own_oneY wr x.s x.z true 0 (Nat.zero_le _)).reads (allI_one (by omega) (by omega) (by omega) (by omega))).below (Below.refl _ _).drew
            simpa using this
          have hnn : (Bud.usedY (xs.take k)).length + 1 ≤ 1099511627776 := by rw [Bud.usedY_len, List.length_take]; omega
          have hsz := hb.size
          have hbz : w3.heap.size ≤ ((wr.alloc (.cells #[.int .i64 x.s, .int .i64 x.z, .bool true] 40)).drew).heap.size := by simp; omega
          go_region_law (refine step_appendY rfl (.tmp 38) (.tmp 50) rfl w3.heap.size u6 _ rfl ow (some ⟨wr.heap.size, 0, none⟩) 1 1 _ _ rfl rw0 hnn hbz ?_; intro v5 w5 o6 g5)
          all_goals
            have bk : Below w3.heap.size w3 w5 := ((hb.alloc hb.size _).drew).grown g5 (by simp; omega) (fun k hk => (World.ownsRow.lt hu k hk).1)
            have ok := OwnY.cast (Bud.usedY_succ HX.out).symm o6
            clear ow rw0 hnn hbz g5 o6 d1 d2
            go_wp2
            go_roundw
            case rel => exact ⟨k + 1, by omega, by go_num, ok, bk⟩
            case measure => simp [intOf]; omega
        · obtain rfl : k = xs.length := by omega
          rw [List.take_length] at hu
          obtain ⟨A6, c6, rfl, f6⟩ := hu.form
          clear f6
          have hul := Bud.usedY_len xs
          have AU := Lib.hid (Bud.usedY_allI HA.out)
          obtain ⟨us, hus⟩ : ∃ us, Bud.usedY xs = us := ⟨_, rfl⟩
          rw [hus] at hu hul AU HUS ⊢
          clear hus
          have RU := hu.reads AU.out
          rw [hul] at RU
          have HRU := Lib.hid RU
          clear RU
          obtain ⟨wp1, wp2⟩ := wrap_pow hP
          have hpn : ¬ ((P : Int) < 0) := by omega
          go_wp2_with fail
          refine (buddyFree_any _ _ _ us _ _ HRU.out (by omega)).mono ?_
          rw [HUS.out]
          rintro e w5 ⟨rfl, b5⟩
          clear wp1 wp2
          go_wp2
          go_ret
          exact ⟨rfl, bb3.trans ((hb.trans (b5.mono hb.size)).mono bb3.size)⟩
  · go_enter Try.func7, Try.ntmps7
    go_wp2
    go_ret
    exact ⟨rfl, Below.refl _ _⟩
end Go.Proofs.Ythihaclhlmpioaa
