/- What l20Buddies draws: buddies that a call owns and a power; nothing else is known of them. -/
import Derived.Test.YthihaclhlmpioaaYf
import Derived.Test.YthihaclhlmpioaaBud8
import Derived.Test.YthihaclhlmpioaaWj
namespace Go.Proofs.Ythihaclhlmpioaa
open Go.RowKit

/-- buddies and a power have been drawn -/
def DrewY (w : World) (gr N : Nat) (e : Ending) (w' : World) : Prop :=
  ∃ (v : Value) (xs : List Bl) (T : Int), e = .returned (.tuple #[v, .int .i64 T]) ∧ OwnY w' w.heap.size v xs ∧ AllI xs ∧ 1 ≤ xs.length ∧ xs.length ≤ 300 ∧ -1 ≤ T ∧ T ≤ 9 ∧ Rd w' gr (N + 100) ∧ w.grownBy w' (some gr)

/-- what is known while buddies are drawn -/
structure DrawSY (w : World) (gr N : Nat) (T : Int) (wr : World) (v : Value) (xs : List Bl) : Prop where
  own : OwnY wr w.heap.size v xs
  valid : Bud.validY xs T = true
  rd : Rd wr gr N
  grown : w.grownBy wr (some gr)
theorem DrawSY.size {w wr : World} {gr N : Nat} {T : Int} {v : Value} {xs : List Bl} (h : DrawSY w gr N T wr v xs) : w.heap.size ≤ wr.heap.size := h.grown.size
theorem DrawSY.pick {w wr w' : World} {gr N : Nat} {T : Int} {v : Value} {xs : List Bl} (h : DrawSY w gr N T wr v xs) (hgr : gr < w.heap.size) (hr : Rd w' gr (N + 1)) (hg : wr.grownBy w' (some gr)) : DrawSY w gr (N + 1) T w' v xs := by
  refine ⟨h.own.far hg ?_, h.valid, hr, World.grownBy.trans h.grown hg⟩
  right
  intro e
  have := (World.ownsRow.lt h.own gr e).1
  omega
theorem DrawSY.next {w wr w' : World} {gr N : Nat} {T : Int} {v v' : Value} {xs ys : List Bl} (h : DrawSY w gr N T wr v xs) (ho : OwnY w' wr.heap.size v' ys) (hv : Bud.validY ys T = true) (hb : Below wr.heap.size wr w') : DrawSY w gr N T w' v' ys :=
  ⟨ho.base h.size, hv, h.rd.below hb h.rd.lt, World.grownBy.trans h.grown (only_below hb _)⟩
theorem DrawSY.more {w wr : World} {gr N N' : Nat} {T : Int} {v : Value} {xs : List Bl} (h : DrawSY w gr N T wr v xs) (hN : N ≤ N') : DrawSY w gr N' T wr v xs := ⟨h.own, h.valid, h.rd.more hN, h.grown⟩

theorem one_validY (p : Nat) (h : p ≤ 8) : Bud.validY [⟨0, p, false⟩] p = true := by
  have := Bud.valid_of_tree (P := p) (t := .leaf false) h trivial trivial
  simpa [Bud.leaves] using this

theorem allI_takeY {xs : List Bl} (h : AllI xs) (k : Nat) : AllI (xs.take k) := by
  intro i x hx
  rw [List.getElem?_take] at hx
  split at hx
  · exact h i x hx
  · cases hx
theorem allI_dropY {xs : List Bl} (h : AllI xs) (k : Nat) : AllI (xs.drop k) := by
  intro i x hx
  rw [List.getElem?_drop] at hx
  exact h _ x hx

set_option maxRecDepth 100000 in
set_option maxHeartbeats 8000000 in
theorem l20Buddies_any (gr N : Nat) (n : Int) (w : World) (h : Rd w gr N) (hN : N ≤ 1000000) (hn1 : 1 ≤ n) (hn : n ≤ 1000000) :
    Calls Try.prog 43 #[.pointer (some ⟨gr, 0, none⟩), .int .i64 n] w (DrewY w gr N) := by
  have hgl := h.lt
  go_enter Try.func43, Try.ntmps43
  go_wp2_with fail
  refine (pick_any _ _ _ _ h (by omega) (by omega)).mono ?_
  rintro e w1 ⟨r1, rfl, a1, b1, hr1, g1⟩
  have c1 : r1 < 9 := by omega
  clear b1
  obtain ⟨p, rfl⟩ := Int.eq_ofNat_of_zero_le a1
  have hp8 : p ≤ 8 := by omega
  clear a1 c1
  have o2 := own_oneY w1 0 p false w.heap.size g1.size
  have b2 : Below w1.heap.size w1 (w1.alloc (.cells #[.int .i64 0, .int .i64 p, .bool false] 40)) := (Below.refl _ _).alloc (Nat.le_refl _) _
  have st2 : DrawSY w gr (N + 1) p _ _ _ := ⟨o2, one_validY p hp8, hr1.below b2 hr1.lt, World.grownBy.trans g1 (only_below b2 _)⟩
  clear o2 b2 g1 hr1
  go_wp2_with fail
  refine (pick_any _ _ _ _ st2.rd (by omega) (by omega)).mono ?_
  rintro e w3 ⟨r3, rfl, a3, b3, hr3, g3⟩
  have c3 : r3 < 16 := by omega
  have st3 := (st2.pick hgl hr3 g3).more (N' := N + 70 - 4 * r3.toNat) (by omega)
  clear st2 hr3 g3 b3
  obtain ⟨q, rfl⟩ := Int.eq_ofNat_of_zero_le a3
  simp only [Int.toNat_natCast] at st3
  clear a3
  go_wp2_with fail
  go_loopw [7, 8] (fun v i wr => ∃ (k : Nat) (xs : List Bl), k < 16 ∧ i = .int .i64 k ∧ DrawSY w gr (N + 70 - 4 * k) p wr v xs) (fun _ i _ => (intOf i).toNat)
  case atStart => exact ⟨q, _, by omega, rfl, st3⟩
  case round =>
    clear st3
    obtain ⟨k, xs, hk, rfl, st⟩ := hrel
    obtain ⟨v1, v2', _, _, _, _⟩ := Bud.validY_len st.valid
    obtain ⟨A, c, rfl, hA⟩ := st.own.form
    obtain ⟨g, rfl, hg1, hg2⟩ := hA v1
    clear hA
    have hcap := st.own.cap.2
    by_cases hk0 : 0 < k
    · go_wp2_with fail
      refine (pick_any _ _ _ _ st.rd (by omega) (by omega)).mono ?_
      rintro e w4 ⟨r4, rfl, a4, b4, hr4, g4⟩
      have st4 := st.pick hgl hr4 g4
      clear st b4 hr4 g4
      by_cases h4 : r4 = 0
      · have h4' : (r4 == 0) = true := by rw [beq_iff_eq]; exact h4
        clear h4
        go_wp2_with fail
        refine (pick_any _ _ _ _ st4.rd (by omega) (by omega)).mono ?_
        rintro e w5 ⟨r5, rfl, a5, b5, hr5, g5⟩
        have st5 := st4.pick hgl hr5 g5
        have c5 : r5 < xs.length := by omega
        clear st4 b5 hr5 g5
        obtain ⟨j, rfl⟩ := Int.eq_ofNat_of_zero_le a5
        have hj : j < xs.length := by omega
        have hj' : (j : Int) < xs.length := by omega
        clear a5 c5
        have bs5 := st5.own.reads (Bud.valid_allI st5.valid)
        obtain ⟨g', o', x, e', _, hx, _, _, d1, d2, d3⟩ := bs5.at_ hj
        injection e' with e'
        injection e' with e1 e2
        subst e1 e2
        simp only [Nat.zero_add] at d1
        clear hx d2 d3
        go_wp2_with fail
        refine (mBuddyGive_any _ _ _ xs _ _ _ bs5 (by omega)).mono ?_
        rintro e w6 ⟨v6, rfl, o6, b6⟩
        rw [if_pos st5.valid] at o6
        have st6 := (st5.next o6 (Bud.giveY_valid st5.valid) b6).more (N' := N + 70 - 4 * (k - 1)) (by omega)
        clear st5 o6 b6 bs5 d1
        go_wp2
        go_roundw
        case rel => exact ⟨k - 1, _, by omega, int_eq (by omega), st6⟩
        case measure => simp [intOf]; omega
      · have h4' : (r4 == 0) = false := by rw [beq_eq_false_iff_ne]; exact h4
        clear h4
        go_wp2_with fail
        refine (pick_any _ _ _ _ st4.rd (by omega) (by omega)).mono ?_
        rintro e w5 ⟨r5, rfl, a5, b5, hr5, g5⟩
        have st5 := st4.pick hgl hr5 g5
        have c5 : r5 < 7 := by omega
        clear st4 b5 hr5 g5
        obtain ⟨j, rfl⟩ := Int.eq_ofNat_of_zero_le a5
        have hj8 : j ≤ 8 := by omega
        obtain ⟨w1', w2'⟩ := wrap_pow hj8
        have hpw := Bud.two_pow_le hj8
        have tb : (2 : Int) ^ j ≤ 256 := by rw [pow_int]; omega
        have tc : 1 ≤ (2 : Int) ^ j := by rw [pow_int]; omega
        have hjn : ¬ ((j : Int) < 0) := by omega
        clear a5 hpw
        go_wp2_with fail
        refine (pick_any _ _ _ _ st5.rd (by omega) (by omega)).mono ?_
        rintro e w6 ⟨r6, rfl, a6, b6, hr6, g6⟩
        have st6 := st5.pick hgl hr6 g6
        have c6 : r6 < 256 := by omega
        clear st5 b6 hr6 g6 w1' w2'
        go_wp2_with fail
        refine (mBuddyTake_any _ _ _ xs _ _ _ (st6.own.reads (Bud.valid_allI st6.valid)) (by omega) hcap).mono ?_
        rintro e w7 ⟨v7, rfl, o7, b7⟩
        rw [if_pos st6.valid] at o7
        have st7 := (st6.next o7 (Bud.takeY_valid st6.valid) b7).more (N' := N + 70 - 4 * (k - 1)) (by omega)
        clear st6 o7 b7
        go_wp2
        go_roundw
        case rel => exact ⟨k - 1, _, by omega, int_eq (by omega), st7⟩
        case measure => simp [intOf]; omega
    · obtain rfl : k = 0 := by omega
      go_wp2_with fail
      refine (odd_any _ _ _ _ st.rd (by omega) hn1 (by omega)).mono ?_
      rintro e w4 ⟨b, rfl, hr4, g4⟩
      have st4 := st.pick hgl hr4 g4
      clear st hr4 g4
      cases b
      · go_wp2_with fail
        go_ret2
        exact ⟨_, xs, p, rfl, st4.own, Bud.valid_allI st4.valid, v1, by omega, by omega, by omega, st4.rd.more (by omega), st4.grown⟩
      · go_wp2_with fail
        refine (pick_any _ _ _ _ st4.rd (by omega) (by omega)).mono ?_
        rintro e w5 ⟨r5, rfl, a5, b5, hr5, g5⟩
        have st5 := st4.pick hgl hr5 g5
        have c5 : r5 < xs.length := by omega
        clear st4 b5 hr5 g5
        obtain ⟨j, rfl⟩ := Int.eq_ofNat_of_zero_le a5
        have hj : j < xs.length := by omega
        have hj' : (j : Int) < xs.length := by omega
        clear a5
        go_wp2_with fail
        refine (pick_any _ _ _ _ st5.rd (by omega) (by omega)).mono ?_
        rintro e w6 ⟨r6, rfl, a6, b6, hr6, g6⟩
        have st6 := st5.pick hgl hr6 g6
        have c6 : r6 < 4 := by omega
        clear st5 b6 hr6 g6
        obtain ⟨x, hx⟩ : ∃ x, xs[j]? = some x := ⟨_, List.getElem?_eq_getElem hj⟩
        obtain ⟨xs', xz, z1, z2, _, z4, z5, _⟩ := Bud.valid_mult st6.valid hx
        have z6 := Nat.two_pow_pos xz
        have y1 : xs' ≤ 256 := by omega
        have hl : (xs.length : Int) ≤ 256 := by omega
        have HX := Lib.hid hx
        obtain ⟨f1, f2, f3⟩ := flat_at xs j x hx
        have d1 := (World.ownsRow.cellAt st6.own (j * 3) (by omega)).trans f1
        have d2 := (World.ownsRow.cellAt st6.own (j * 3 + 1) (by omega)).trans f2
        have d3 := (World.ownsRow.cellAt st6.own (j * 3 + 2) (by omega)).trans f3
        have e1 := World.ownsRow.frozenAt st6.own (j * 3)
        have e2 := World.ownsRow.frozenAt st6.own (j * 3 + 1)
        rw [z1] at d1
        rw [z2] at d2
        have HA := Lib.hid (Bud.valid_allI st6.valid)
        have HZ1 := Lib.hid z1
        have HZ2 := Lib.hid z2
        clear hx f1 f2 f3 z1 z2 z4 z6
        obtain rfl | rfl | rfl | rfl : r6 = 0 ∨ r6 = 1 ∨ r6 = 2 ∨ r6 = 3 := by omega
        · go_wp2_with fail
          go_ret2
          exact ⟨_, _, p, rfl, st6.own.put_s HX.out, HA.out.put (y := ⟨(xs' : Int) + 1, x.z, x.u⟩) (show I64 ((xs' : Int) + 1) from ⟨by omega, by omega⟩) (show I64 x.z by rw [HZ2.out]; exact ⟨by omega, by omega⟩), by rw [List.length_set]; exact v1, by rw [List.length_set]; omega, by omega, by omega,
            (st6.rd.below ((Below.refl w.heap.size w6).setCell hg1 _) hgl).more (by omega), grown_new st6.grown hg1 _⟩
        · go_wp2_with fail
          go_ret2
          exact ⟨_, _, p, rfl, st6.own.put_z HX.out, HA.out.put (y := ⟨x.s, (xz : Int) + 1, x.u⟩) (show I64 x.s by rw [HZ1.out]; exact ⟨by omega, by omega⟩) (show I64 ((xz : Int) + 1) from ⟨by omega, by omega⟩), by rw [List.length_set]; exact v1, by rw [List.length_set]; omega, by omega, by omega,
            (st6.rd.below ((Below.refl w.heap.size w6).setCell hg1 _) hgl).more (by omega), grown_new st6.grown hg1 _⟩
        · go_wp2_with fail
          have b7 : Below w6.heap.size w6 (w6.alloc (.cells #[.int .i64 (-1), .int .i64 9, .int .i64 ((p : Int) + 1)] 3)) := (Below.refl _ _).alloc (Nat.le_refl _) _
          have hgl6 := st6.rd.lt
          refine (pick_any _ _ _ _ (st6.rd.below b7 hgl6) (by omega) (by omega)).mono ?_
          rintro e w7 ⟨r7, rfl, a7, b7', hr7, g7⟩
          have s7 : (w6.alloc (.cells #[.int .i64 (-1), .int .i64 9, .int .i64 ((p : Int) + 1)] 3)).heap.size = w6.heap.size + 1 := by simp
          have m0 : w7.cell? ⟨w6.heap.size, 0, none⟩ = some (.int .i64 (-1)) := (grown_cell' g7 _ _ (by omega) (fun e => by injection e; omega)).trans (by simp)
          have m1 : w7.cell? ⟨w6.heap.size, 1, none⟩ = some (.int .i64 9) := (grown_cell' g7 _ _ (by omega) (fun e => by injection e; omega)).trans (by simp)
          have m2 : w7.cell? ⟨w6.heap.size, 2, none⟩ = some (.int .i64 ((p : Int) + 1)) := (grown_cell' g7 _ _ (by omega) (fun e => by injection e; omega)).trans (by simp)
          have o7 : OwnY w7 w.heap.size _ xs := OwnY.far (World.ownsRow.alloc st6.own (.cells #[.int .i64 (-1), .int .i64 9, .int .i64 ((p : Int) + 1)] 3)) g7 (.inr fun e => by
            have := (World.ownsRow.lt st6.own gr e).1
            omega)
          have gg7 := World.grownBy.trans (World.grownBy.trans st6.grown (World.grownBy_alloc w6 (.cells #[.int .i64 (-1), .int .i64 9, .int .i64 ((p : Int) + 1)] 3) _)) g7
          have c7 : r7 < 3 := by omega
          clear b7' d1 d2 d3 e1 e2
          obtain rfl | rfl | rfl : r7 = 0 ∨ r7 = 1 ∨ r7 = 2 := by omega
          all_goals
            go_wp2_with fail
            go_ret2
            exact ⟨_, xs, _, rfl, o7, HA.out, v1, by omega, by omega, by omega, hr7.more (by omega), gg7⟩
        · have hxs6 := st6.size
          have ow := fun o => World.ownsRow.alloc st6.own o
          by_cases hz0 : xz = 0
          · subst hz0
            go_wp2_with fail
            go_ret2
            exact ⟨_, xs, p, rfl, World.ownsRow.alloc st6.own _, HA.out, v1, by omega, by omega, by omega, (st6.rd.below ((Below.refl w6.heap.size w6).alloc (Nat.le_refl _) _) st6.rd.lt).more (by omega), World.grownBy.trans st6.grown (World.grownBy_alloc w6 _ _)⟩
          · have hz1 : (0 : Int) < xz := by omega
            cases hxu : x.u
            · rw [hxu] at d3
              obtain ⟨d, rfl⟩ : ∃ d, xz = d + 1 := ⟨xz - 1, by omega⟩
              go_wp2_with fail
              have hd8 : d ≤ 8 := by omega
              have hpw := Bud.two_pow_le hd8
              have tb : (2 : Int) ^ d ≤ 256 := by rw [pow_int]; omega
              have tc : 1 ≤ (2 : Int) ^ d := by rw [pow_int]; omega
              clear hpw
              obtain ⟨W0, hW0⟩ : ∃ W0, W0 = (w6.alloc (.cells #[.int .i64 xs', .int .i64 ((d : Int) + 1), .bool false] 40)).drew := ⟨_, rfl⟩
              have b60 : Below w6.heap.size w6 W0 := by rw [hW0]; exact ((Below.refl _ _).alloc (Nat.le_refl _) _).drew
              have s60 : W0.heap.size = w6.heap.size + 1 := by rw [hW0]; simp
              have h0W : (w6.alloc (.cells #[.int .i64 xs', .int .i64 ((d : Int) + 1), .bool false] 40)).drew = W0 := hW0.symm
              have m0 : W0.cell? ⟨w6.heap.size, 0, none⟩ = some (.int .i64 xs') := by rw [hW0]; simp
              have m1 : W0.cell? ⟨w6.heap.size, 1, none⟩ = some (.int .i64 ((d : Int) + 1)) := by rw [hW0]; simp
              have HC := Lib.hid (fun w' (hw' : Below W0.heap.size W0 w') => (show w'.cell? ⟨w6.heap.size, 0, none⟩ = some (.int .i64 xs') ∧ w'.cell? ⟨w6.heap.size, 1, none⟩ = some (.int .i64 ((d : Int) + 1)) from
                ⟨(hw'.cell (p := ⟨w6.heap.size, 0, none⟩) (by show w6.heap.size < _; omega)).trans m0, (hw'.cell (p := ⟨w6.heap.size, 1, none⟩) (by show w6.heap.size < _; omega)).trans m1⟩))
              have HR6 := Lib.hid (st6.own.reads HA.out)
              have HR0 := Lib.hid (HR6.out.up b60)
              have HO2 := Lib.hid (show OwnY (W0.alloc (.cells #[.int .i64 xs', .int .i64 d, .bool false, .int .i64 ((xs' : Int) + 2 ^ d), .int .i64 d, .bool false] 40)) W0.heap.size (.slice (some ⟨W0.heap.size, 0, none⟩) 2 2) [(⟨xs', d, false⟩ : Bl), ⟨(xs' : Int) + 2 ^ d, d, false⟩] from
                World.ownsRow_lit (base := W0.heap.size) (e := 40) (size := 3) W0 #[.int .i64 xs', .int .i64 d, .bool false, .int .i64 ((xs' : Int) + 2 ^ d), .int .i64 d, .bool false] 2 (Nat.le_refl _) (by unfold maxLen; omega) rfl)
              have HA2 := Lib.hid (show AllI [(⟨xs', d, false⟩ : Bl), ⟨(xs' : Int) + 2 ^ d, d, false⟩] from AllI.append (xs := [_]) (ys := [_]) (allI_one (by omega) (by omega) (by omega) (by omega)) (allI_one (by omega) (by omega) (by omega) (by omega)))
              clear hW0 m0 m1 d1 d2 d3 e1 e2 ow s60
              have v1' : (j : Int) + 1 ≤ xs.length := by omega
              have v2 : (j : Int) + 1 ≤ c := by omega
              have v3 : (j : Int) ≤ c := by omega
              have v5 : ((j : Int) + 1).toNat = j + 1 := by omega
              have v6 : 0 ≤ (j : Int) + 1 := by omega
              by_cases hcc : c = j + 1
              · have HD := Lib.hid (show xs.drop (j + 1) = [] from List.drop_eq_nil_of_le (by omega))
                have hln : xs.length = j + 1 := by omega
                subst hcc
                simp only [hln, Int.natCast_add, Int.natCast_one]
                have v7 : (j : Int) ≤ (j : Int) + 1 := by omega
                have HTL := Lib.hid (fun W' (_ : Below W0.heap.size W0 W') => BS.none_ W' W0.heap.size (some (⟨g, 0, none⟩ : Addr)))
                refine wp_region_inv (by kernel_rfl) (by kernel_rfl) (fun L ac ww => ∃ t11 t74 t75 t76 t77 t78 t79 t80 t81 t82 t83 t84 t85 t86 t87 t88 t89 t90 t91 t92 t93 t94 t95 t96 : Value, ac = { tmps := #[Value.pointer (some ⟨gr, 0, none⟩), Value.int IntKind.i64 n, undef, undef, Value.slice none 0 0, Value.int IntKind.i64 0, Value.int IntKind.i64 ↑p, Value.slice (some ⟨g, 0, none⟩) (j + 1) (j + 1), Value.int IntKind.i64 0, Value.int IntKind.i64 ↑j, Value.pointer (some ⟨w6.heap.size, 0, none⟩), t11, Value.pointer (some ⟨gr, 0, none⟩), Value.int IntKind.i64 ↑p, Value.int IntKind.i64 ↑p, Value.agg #[Value.int IntKind.i64 0, Value.int IntKind.i64 ↑p, Value.bool false], Value.slice (some ⟨w1.heap.size, 0, none⟩) 1 1, Value.pointer (some ⟨gr, 0, none⟩), Value.int IntKind.i64 ↑q, Value.int IntKind.i64 0, Value.bool false, u21, u22, u23, u24, u25, u26, u27, u28, u29, u30, u31, u32, u33, u34, u35, u36, u37, u38, u39, u40, u41, u42, u43, u44, u45, u46, u47, u48, u49, u50, u51, u52, Value.pointer (some ⟨gr, 0, none⟩), Value.int IntKind.i64 n, Value.bool true, Value.pointer (some ⟨gr, 0, none⟩), Value.slice (some ⟨g, 0, none⟩) (j + 1) (j + 1), Value.int IntKind.i64 ((j : Int) + 1), Value.int IntKind.i64 ↑j, Value.pointer (some ⟨gr, 0, none⟩), Value.int IntKind.i64 3, Value.slice (some ⟨g, 0, none⟩) (j + 1) (j + 1), Value.int IntKind.i64 ↑j, Value.pointer (some ⟨g, j * 3, none⟩), Value.agg #[Value.int IntKind.i64 ↑xs', Value.int IntKind.i64 (↑d + 1), Value.bool false], Value.pointer (some ⟨w6.heap.size, 1, none⟩), Value.int IntKind.i64 (↑d + 1), Value.bool true, Value.bool true, Value.pointer (some ⟨w6.heap.size, 2, none⟩), Value.bool false, Value.bool true, Value.bool true, t74, t75, t76, t77, t78, t79, t80, t81, t82, t83, t84, t85, t86, t87, t88, t89, t90, t91, t92, t93, t94, t95, t96, undef, undef, undef, undef, undef, undef, undef, Value.bool false, Value.bool false, undef, undef, undef, undef, undef, undef, undef, undef, undef, undef, Value.bool false, Value.bool false, undef, undef, undef, undef, undef, undef, undef, undef, undef, undef, Value.bool false, Value.bool false, undef, undef, undef, undef, undef, undef, undef, undef, undef], defers := [] } ∧ (L 17 = false → ww = W0) ∧ (L 22 = true → L 17 = true) ∧ (Below W0.heap.size W0 ww) ∧ (L 0 = true → t74 = .pointer (some ⟨w6.heap.size, 0, none⟩)) ∧ (L 1 = true → t75 = .int .i64 xs') ∧ (L 2 = true → t76 = .pointer (some ⟨w6.heap.size, 1, none⟩)) ∧ (L 3 = true → t77 = .int .i64 ((d : Int) + 1)) ∧ (L 4 = true → t78 = .int .i64 d) ∧ (L 5 = true → t79 = .agg #[.int .i64 xs', .int .i64 d, .bool false]) ∧ (L 6 = true → t80 = .pointer (some ⟨w6.heap.size, 0, none⟩)) ∧ (L 7 = true → t81 = .int .i64 xs') ∧ (L 8 = true → t82 = .pointer (some ⟨w6.heap.size, 1, none⟩)) ∧ (L 9 = true → t83 = .int .i64 ((d : Int) + 1)) ∧ (L 10 = true → t84 = .int .i64 d) ∧ (L 11 = true → t85 = .int .i64 (2 ^ d)) ∧ (L 12 = true → t86 = .int .i64 ((xs' : Int) + 2 ^ d)) ∧ (L 13 = true → t87 = .pointer (some ⟨w6.heap.size, 1, none⟩)) ∧ (L 14 = true → t88 = .int .i64 ((d : Int) + 1)) ∧ (L 15 = true → t89 = .int .i64 d) ∧ (L 16 = true → t90 = .agg #[.int .i64 ((xs' : Int) + 2 ^ d), .int .i64 d, .bool false]) ∧ (L 17 = true → t91 = .slice (some ⟨W0.heap.size, 0, none⟩) 2 2 ∧ (L 22 = false → ww = W0.alloc (.cells #[.int .i64 xs', .int .i64 d, .bool false, .int .i64 ((xs' : Int) + 2 ^ d), .int .i64 d, .bool false] 40))) ∧ (L 18 = true → t92 = .slice (some ⟨g, 0, none⟩) (j + 1) (j + 1)) ∧ (L 19 = true → t93 = .int .i64 j) ∧ (L 20 = true → t94 = .int .i64 ((j : Int) + 1)) ∧ (L 21 = true → t95 = .slice (some ⟨g, 0, none⟩) 0 0) ∧ (L 22 = true → OwnY ww W0.heap.size t96 ([(⟨xs', d, false⟩ : Bl), ⟨((xs' : Int) + 2 ^ d), d, false⟩] ++ [])) ∧ (L 23 = true → L 22 = true ∧ t11 = t96)) ?h0 ?hstep ?hdone
                case h0 => exact ⟨_, _, _, _, _, _, _, _, _, _, _, _, _, _, _, _, _, _, _, _, _, _, _, _, rfl, fun _ => h0W, (fun h => absurd h Bool.false_ne_true), by rw [h0W]; exact Below.refl _ _, (fun h => absurd h Bool.false_ne_true), (fun h => absurd h Bool.false_ne_true), (fun h => absurd h Bool.false_ne_true), (fun h => absurd h Bool.false_ne_true), (fun h => absurd h Bool.false_ne_true), (fun h => absurd h Bool.false_ne_true), (fun h => absurd h Bool.false_ne_true), (fun h => absurd h Bool.false_ne_true), (fun h => absurd h Bool.false_ne_true), (fun h => absurd h Bool.false_ne_true), (fun h => absurd h Bool.false_ne_true), (fun h => absurd h Bool.false_ne_true), (fun h => absurd h Bool.false_ne_true), (fun h => absurd h Bool.false_ne_true), (fun h => absurd h Bool.false_ne_true), (fun h => absurd h Bool.false_ne_true), (fun h => absurd h Bool.false_ne_true), (fun h => absurd h Bool.false_ne_true), (fun h => absurd h Bool.false_ne_true), (fun h => absurd h Bool.false_ne_true), (fun h => absurd h Bool.false_ne_true), (fun h => absurd h Bool.false_ne_true), (fun h => absurd h Bool.false_ne_true), (fun h => absurd h Bool.false_ne_true)⟩
                case hstep =>
                  rintro L ac ww i o ho hL hd ⟨t11, t74, t75, t76, t77, t78, t79, t80, t81, t82, t83, t84, t85, t86, t87, t88, t89, t90, t91, t92, t93, t94, t95, t96, rfl, I0, I1, I2, f0, f1, f2, f3, f4, f5, f6, f7, f8, f9, f10, f11, f12, f13, f14, f15, f16, f17, f18, f19, f20, f21, f22, f23⟩
                  have hi : i < 24 := (Array.getElem?_eq_some_iff.1 ho).1
                  obtain rfl | rfl | rfl | rfl | rfl | rfl | rfl | rfl | rfl | rfl | rfl | rfl | rfl | rfl | rfl | rfl | rfl | rfl | rfl | rfl | rfl | rfl | rfl | rfl : i = 0 ∨ i = 1 ∨ i = 2 ∨ i = 3 ∨ i = 4 ∨ i = 5 ∨ i = 6 ∨ i = 7 ∨ i = 8 ∨ i = 9 ∨ i = 10 ∨ i = 11 ∨ i = 12 ∨ i = 13 ∨ i = 14 ∨ i = 15 ∨ i = 16 ∨ i = 17 ∨ i = 18 ∨ i = 19 ∨ i = 20 ∨ i = 21 ∨ i = 22 ∨ i = 23 := by omega
                  · obtain rfl := Option.some.inj ho
                    refine wpOp_step rfl (fun K' hK => ?_)
                    go_simp
                    refine hK _ _ ?_
                    exact ⟨_, _, _, _, _, _, _, _, _, _, _, _, _, _, _, _, _, _, _, _, _, _, _, _, rfl, (fun h => I0 (by rw [upd_other (by decide)] at h; exact h)), (fun h => upd_mono (I1 (upd_ne h (by decide)))), (I2), (fun _ => rfl), (fun h => f1 (upd_ne h (by decide))), (fun h => f2 (upd_ne h (by decide))), (fun h => f3 (upd_ne h (by decide))), (fun h => f4 (upd_ne h (by decide))), (fun h => f5 (upd_ne h (by decide))), (fun h => f6 (upd_ne h (by decide))), (fun h => f7 (upd_ne h (by decide))), (fun h => f8 (upd_ne h (by decide))), (fun h => f9 (upd_ne h (by decide))), (fun h => f10 (upd_ne h (by decide))), (fun h => f11 (upd_ne h (by decide))), (fun h => f12 (upd_ne h (by decide))), (fun h => f13 (upd_ne h (by decide))), (fun h => f14 (upd_ne h (by decide))), (fun h => f15 (upd_ne h (by decide))), (fun h => f16 (upd_ne h (by decide))), (fun h => ⟨(f17 (upd_ne h (by decide))).1, fun h22 => (f17 (upd_ne h (by decide))).2 (by rw [upd_other (by decide)] at h22; exact h22)⟩), (fun h => f18 (upd_ne h (by decide))), (fun h => f19 (upd_ne h (by decide))), (fun h => f20 (upd_ne h (by decide))), (fun h => f21 (upd_ne h (by decide))), (fun h => f22 (upd_ne h (by decide))), (fun h => ⟨upd_mono (f23 (upd_ne h (by decide))).1, (f23 (upd_ne h (by decide))).2⟩)⟩
                  · obtain rfl := Option.some.inj ho
                    have g0 := f0 (hd ⟨0, .data⟩ (by simp) rfl)
                    subst g0
                    obtain ⟨n0, n1⟩ := HC.out ww I2
                    refine wpOp_step rfl (fun K' hK => ?_)
                    go_simp
                    refine hK _ _ ?_
                    exact ⟨_, _, _, _, _, _, _, _, _, _, _, _, _, _, _, _, _, _, _, _, _, _, _, _, rfl, (fun h => I0 (by rw [upd_other (by decide)] at h; exact h)), (fun h => upd_mono (I1 (upd_ne h (by decide)))), (I2), (fun h => f0 (upd_ne h (by decide))), (fun _ => rfl), (fun h => f2 (upd_ne h (by decide))), (fun h => f3 (upd_ne h (by decide))), (fun h => f4 (upd_ne h (by decide))), (fun h => f5 (upd_ne h (by decide))), (fun h => f6 (upd_ne h (by decide))), (fun h => f7 (upd_ne h (by decide))), (fun h => f8 (upd_ne h (by decide))), (fun h => f9 (upd_ne h (by decide))), (fun h => f10 (upd_ne h (by decide))), (fun h => f11 (upd_ne h (by decide))), (fun h => f12 (upd_ne h (by decide))), (fun h => f13 (upd_ne h (by decide))), (fun h => f14 (upd_ne h (by decide))), (fun h => f15 (upd_ne h (by decide))), (fun h => f16 (upd_ne h (by decide))), (fun h => ⟨(f17 (upd_ne h (by decide))).1, fun h22 => (f17 (upd_ne h (by decide))).2 (by rw [upd_other (by decide)] at h22; exact h22)⟩), (fun h => f18 (upd_ne h (by decide))), (fun h => f19 (upd_ne h (by decide))), (fun h => f20 (upd_ne h (by decide))), (fun h => f21 (upd_ne h (by decide))), (fun h => f22 (upd_ne h (by decide))), (fun h => ⟨upd_mono (f23 (upd_ne h (by decide))).1, (f23 (upd_ne h (by decide))).2⟩)⟩
                  · obtain rfl := Option.some.inj ho
                    refine wpOp_step rfl (fun K' hK => ?_)
                    go_simp
                    refine hK _ _ ?_
                    exact ⟨_, _, _, _, _, _, _, _, _, _, _, _, _, _, _, _, _, _, _, _, _, _, _, _, rfl, (fun h => I0 (by rw [upd_other (by decide)] at h; exact h)), (fun h => upd_mono (I1 (upd_ne h (by decide)))), (I2), (fun h => f0 (upd_ne h (by decide))), (fun h => f1 (upd_ne h (by decide))), (fun _ => rfl), (fun h => f3 (upd_ne h (by decide))), (fun h => f4 (upd_ne h (by decide))), (fun h => f5 (upd_ne h (by decide))), (fun h => f6 (upd_ne h (by decide))), (fun h => f7 (upd_ne h (by decide))), (fun h => f8 (upd_ne h (by decide))), (fun h => f9 (upd_ne h (by decide))), (fun h => f10 (upd_ne h (by decide))), (fun h => f11 (upd_ne h (by decide))), (fun h => f12 (upd_ne h (by decide))), (fun h => f13 (upd_ne h (by decide))), (fun h => f14 (upd_ne h (by decide))), (fun h => f15 (upd_ne h (by decide))), (fun h => f16 (upd_ne h (by decide))), (fun h => ⟨(f17 (upd_ne h (by decide))).1, fun h22 => (f17 (upd_ne h (by decide))).2 (by rw [upd_other (by decide)] at h22; exact h22)⟩), (fun h => f18 (upd_ne h (by decide))), (fun h => f19 (upd_ne h (by decide))), (fun h => f20 (upd_ne h (by decide))), (fun h => f21 (upd_ne h (by decide))), (fun h => f22 (upd_ne h (by decide))), (fun h => ⟨upd_mono (f23 (upd_ne h (by decide))).1, (f23 (upd_ne h (by decide))).2⟩)⟩
                  · obtain rfl := Option.some.inj ho
                    have g2 := f2 (hd ⟨2, .data⟩ (by simp) rfl)
                    subst g2
                    obtain ⟨n0, n1⟩ := HC.out ww I2
                    refine wpOp_step rfl (fun K' hK => ?_)
                    go_simp
                    refine hK _ _ ?_
                    exact ⟨_, _, _, _, _, _, _, _, _, _, _, _, _, _, _, _, _, _, _, _, _, _, _, _, rfl, (fun h => I0 (by rw [upd_other (by decide)] at h; exact h)), (fun h => upd_mono (I1 (upd_ne h (by decide)))), (I2), (fun h => f0 (upd_ne h (by decide))), (fun h => f1 (upd_ne h (by decide))), (fun h => f2 (upd_ne h (by decide))), (fun _ => rfl), (fun h => f4 (upd_ne h (by decide))), (fun h => f5 (upd_ne h (by decide))), (fun h => f6 (upd_ne h (by decide))), (fun h => f7 (upd_ne h (by decide))), (fun h => f8 (upd_ne h (by decide))), (fun h => f9 (upd_ne h (by decide))), (fun h => f10 (upd_ne h (by decide))), (fun h => f11 (upd_ne h (by decide))), (fun h => f12 (upd_ne h (by decide))), (fun h => f13 (upd_ne h (by decide))), (fun h => f14 (upd_ne h (by decide))), (fun h => f15 (upd_ne h (by decide))), (fun h => f16 (upd_ne h (by decide))), (fun h => ⟨(f17 (upd_ne h (by decide))).1, fun h22 => (f17 (upd_ne h (by decide))).2 (by rw [upd_other (by decide)] at h22; exact h22)⟩), (fun h => f18 (upd_ne h (by decide))), (fun h => f19 (upd_ne h (by decide))), (fun h => f20 (upd_ne h (by decide))), (fun h => f21 (upd_ne h (by decide))), (fun h => f22 (upd_ne h (by decide))), (fun h => ⟨upd_mono (f23 (upd_ne h (by decide))).1, (f23 (upd_ne h (by decide))).2⟩)⟩
                  · obtain rfl := Option.some.inj ho
                    have g3 := f3 (hd ⟨3, .data⟩ (by simp) rfl)
                    subst g3
                    have hw : IntKind.i64.wrap (d : Int) = d := IntWalk.i64_in _ (by omega)
                    refine wpOp_step rfl (fun K' hK => ?_)
                    go_simp
                    refine hK _ _ ?_
                    clear hw
                    exact ⟨_, _, _, _, _, _, _, _, _, _, _, _, _, _, _, _, _, _, _, _, _, _, _, _, rfl, (fun h => I0 (by rw [upd_other (by decide)] at h; exact h)), (fun h => upd_mono (I1 (upd_ne h (by decide)))), (I2), (fun h => f0 (upd_ne h (by decide))), (fun h => f1 (upd_ne h (by decide))), (fun h => f2 (upd_ne h (by decide))), (fun h => f3 (upd_ne h (by decide))), (fun _ => rfl), (fun h => f5 (upd_ne h (by decide))), (fun h => f6 (upd_ne h (by decide))), (fun h => f7 (upd_ne h (by decide))), (fun h => f8 (upd_ne h (by decide))), (fun h => f9 (upd_ne h (by decide))), (fun h => f10 (upd_ne h (by decide))), (fun h => f11 (upd_ne h (by decide))), (fun h => f12 (upd_ne h (by decide))), (fun h => f13 (upd_ne h (by decide))), (fun h => f14 (upd_ne h (by decide))), (fun h => f15 (upd_ne h (by decide))), (fun h => f16 (upd_ne h (by decide))), (fun h => ⟨(f17 (upd_ne h (by decide))).1, fun h22 => (f17 (upd_ne h (by decide))).2 (by rw [upd_other (by decide)] at h22; exact h22)⟩), (fun h => f18 (upd_ne h (by decide))), (fun h => f19 (upd_ne h (by decide))), (fun h => f20 (upd_ne h (by decide))), (fun h => f21 (upd_ne h (by decide))), (fun h => f22 (upd_ne h (by decide))), (fun h => ⟨upd_mono (f23 (upd_ne h (by decide))).1, (f23 (upd_ne h (by decide))).2⟩)⟩
                  · obtain rfl := Option.some.inj ho
                    have g1 := f1 (hd ⟨1, .data⟩ (by simp) rfl)
                    have g4 := f4 (hd ⟨4, .data⟩ (by simp) rfl)
                    subst g1
                    subst g4
                    refine wpOp_step rfl (fun K' hK => ?_)
                    go_simp
                    refine hK _ _ ?_
                    exact ⟨_, _, _, _, _, _, _, _, _, _, _, _, _, _, _, _, _, _, _, _, _, _, _, _, rfl, (fun h => I0 (by rw [upd_other (by decide)] at h; exact h)), (fun h => upd_mono (I1 (upd_ne h (by decide)))), (I2), (fun h => f0 (upd_ne h (by decide))), (fun h => f1 (upd_ne h (by decide))), (fun h => f2 (upd_ne h (by decide))), (fun h => f3 (upd_ne h (by decide))), (fun h => f4 (upd_ne h (by decide))), (fun _ => rfl), (fun h => f6 (upd_ne h (by decide))), (fun h => f7 (upd_ne h (by decide))), (fun h => f8 (upd_ne h (by decide))), (fun h => f9 (upd_ne h (by decide))), (fun h => f10 (upd_ne h (by decide))), (fun h => f11 (upd_ne h (by decide))), (fun h => f12 (upd_ne h (by decide))), (fun h => f13 (upd_ne h (by decide))), (fun h => f14 (upd_ne h (by decide))), (fun h => f15 (upd_ne h (by decide))), (fun h => f16 (upd_ne h (by decide))), (fun h => ⟨(f17 (upd_ne h (by decide))).1, fun h22 => (f17 (upd_ne h (by decide))).2 (by rw [upd_other (by decide)] at h22; exact h22)⟩), (fun h => f18 (upd_ne h (by decide))), (fun h => f19 (upd_ne h (by decide))), (fun h => f20 (upd_ne h (by decide))), (fun h => f21 (upd_ne h (by decide))), (fun h => f22 (upd_ne h (by decide))), (fun h => ⟨upd_mono (f23 (upd_ne h (by decide))).1, (f23 (upd_ne h (by decide))).2⟩)⟩
                  · obtain rfl := Option.some.inj ho
                    refine wpOp_step rfl (fun K' hK => ?_)
                    go_simp
                    refine hK _ _ ?_
                    exact ⟨_, _, _, _, _, _, _, _, _, _, _, _, _, _, _, _, _, _, _, _, _, _, _, _, rfl, (fun h => I0 (by rw [upd_other (by decide)] at h; exact h)), (fun h => upd_mono (I1 (upd_ne h (by decide)))), (I2), (fun h => f0 (upd_ne h (by decide))), (fun h => f1 (upd_ne h (by decide))), (fun h => f2 (upd_ne h (by decide))), (fun h => f3 (upd_ne h (by decide))), (fun h => f4 (upd_ne h (by decide))), (fun h => f5 (upd_ne h (by decide))), (fun _ => rfl), (fun h => f7 (upd_ne h (by decide))), (fun h => f8 (upd_ne h (by decide))), (fun h => f9 (upd_ne h (by decide))), (fun h => f10 (upd_ne h (by decide))), (fun h => f11 (upd_ne h (by decide))), (fun h => f12 (upd_ne h (by decide))), (fun h => f13 (upd_ne h (by decide))), (fun h => f14 (upd_ne h (by decide))), (fun h => f15 (upd_ne h (by decide))), (fun h => f16 (upd_ne h (by decide))), (fun h => ⟨(f17 (upd_ne h (by decide))).1, fun h22 => (f17 (upd_ne h (by decide))).2 (by rw [upd_other (by decide)] at h22; exact h22)⟩), (fun h => f18 (upd_ne h (by decide))), (fun h => f19 (upd_ne h (by decide))), (fun h => f20 (upd_ne h (by decide))), (fun h => f21 (upd_ne h (by decide))), (fun h => f22 (upd_ne h (by decide))), (fun h => ⟨upd_mono (f23 (upd_ne h (by decide))).1, (f23 (upd_ne h (by decide))).2⟩)⟩
                  · obtain rfl := Option.some.inj ho
                    have g6 := f6 (hd ⟨6, .data⟩ (by simp) rfl)
                    subst g6
                    obtain ⟨n0, n1⟩ := HC.out ww I2
                    refine wpOp_step rfl (fun K' hK => ?_)
                    go_simp
                    refine hK _ _ ?_
                    exact ⟨_, _, _, _, _, _, _, _, _, _, _, _, _, _, _, _, _, _, _, _, _, _, _, _, rfl, (fun h => I0 (by rw [upd_other (by decide)] at h; exact h)), (fun h => upd_mono (I1 (upd_ne h (by decide)))), (I2), (fun h => f0 (upd_ne h (by decide))), (fun h => f1 (upd_ne h (by decide))), (fun h => f2 (upd_ne h (by decide))), (fun h => f3 (upd_ne h (by decide))), (fun h => f4 (upd_ne h (by decide))), (fun h => f5 (upd_ne h (by decide))), (fun h => f6 (upd_ne h (by decide))), (fun _ => rfl), (fun h => f8 (upd_ne h (by decide))), (fun h => f9 (upd_ne h (by decide))), (fun h => f10 (upd_ne h (by decide))), (fun h => f11 (upd_ne h (by decide))), (fun h => f12 (upd_ne h (by decide))), (fun h => f13 (upd_ne h (by decide))), (fun h => f14 (upd_ne h (by decide))), (fun h => f15 (upd_ne h (by decide))), (fun h => f16 (upd_ne h (by decide))), (fun h => ⟨(f17 (upd_ne h (by decide))).1, fun h22 => (f17 (upd_ne h (by decide))).2 (by rw [upd_other (by decide)] at h22; exact h22)⟩), (fun h => f18 (upd_ne h (by decide))), (fun h => f19 (upd_ne h (by decide))), (fun h => f20 (upd_ne h (by decide))), (fun h => f21 (upd_ne h (by decide))), (fun h => f22 (upd_ne h (by decide))), (fun h => ⟨upd_mono (f23 (upd_ne h (by decide))).1, (f23 (upd_ne h (by decide))).2⟩)⟩
                  · obtain rfl := Option.some.inj ho
                    refine wpOp_step rfl (fun K' hK => ?_)
                    go_simp
                    refine hK _ _ ?_
                    exact ⟨_, _, _, _, _, _, _, _, _, _, _, _, _, _, _, _, _, _, _, _, _, _, _, _, rfl, (fun h => I0 (by rw [upd_other (by decide)] at h; exact h)), (fun h => upd_mono (I1 (upd_ne h (by decide)))), (I2), (fun h => f0 (upd_ne h (by decide))), (fun h => f1 (upd_ne h (by decide))), (fun h => f2 (upd_ne h (by decide))), (fun h => f3 (upd_ne h (by decide))), (fun h => f4 (upd_ne h (by decide))), (fun h => f5 (upd_ne h (by decide))), (fun h => f6 (upd_ne h (by decide))), (fun h => f7 (upd_ne h (by decide))), (fun _ => rfl), (fun h => f9 (upd_ne h (by decide))), (fun h => f10 (upd_ne h (by decide))), (fun h => f11 (upd_ne h (by decide))), (fun h => f12 (upd_ne h (by decide))), (fun h => f13 (upd_ne h (by decide))), (fun h => f14 (upd_ne h (by decide))), (fun h => f15 (upd_ne h (by decide))), (fun h => f16 (upd_ne h (by decide))), (fun h => ⟨(f17 (upd_ne h (by decide))).1, fun h22 => (f17 (upd_ne h (by decide))).2 (by rw [upd_other (by decide)] at h22; exact h22)⟩), (fun h => f18 (upd_ne h (by decide))), (fun h => f19 (upd_ne h (by decide))), (fun h => f20 (upd_ne h (by decide))), (fun h => f21 (upd_ne h (by decide))), (fun h => f22 (upd_ne h (by decide))), (fun h => ⟨upd_mono (f23 (upd_ne h (by decide))).1, (f23 (upd_ne h (by decide))).2⟩)⟩
                  · obtain rfl := Option.some.inj ho
                    have g8 := f8 (hd ⟨8, .data⟩ (by simp) rfl)
                    subst g8
                    obtain ⟨n0, n1⟩ := HC.out ww I2
                    refine wpOp_step rfl (fun K' hK => ?_)
                    go_simp
                    refine hK _ _ ?_
                    exact ⟨_, _, _, _, _, _, _, _, _, _, _, _, _, _, _, _, _, _, _, _, _, _, _, _, rfl, (fun h => I0 (by rw [upd_other (by decide)] at h; exact h)), (fun h => upd_mono (I1 (upd_ne h (by decide)))), (I2), (fun h => f0 (upd_ne h (by decide))), (fun h => f1 (upd_ne h (by decide))), (fun h => f2 (upd_ne h (by decide))), (fun h => f3 (upd_ne h (by decide))), (fun h => f4 (upd_ne h (by decide))), (fun h => f5 (upd_ne h (by decide))), (fun h => f6 (upd_ne h (by decide))), (fun h => f7 (upd_ne h (by decide))), (fun h => f8 (upd_ne h (by decide))), (fun _ => rfl), (fun h => f10 (upd_ne h (by decide))), (fun h => f11 (upd_ne h (by decide))), (fun h => f12 (upd_ne h (by decide))), (fun h => f13 (upd_ne h (by decide))), (fun h => f14 (upd_ne h (by decide))), (fun h => f15 (upd_ne h (by decide))), (fun h => f16 (upd_ne h (by decide))), (fun h => ⟨(f17 (upd_ne h (by decide))).1, fun h22 => (f17 (upd_ne h (by decide))).2 (by rw [upd_other (by decide)] at h22; exact h22)⟩), (fun h => f18 (upd_ne h (by decide))), (fun h => f19 (upd_ne h (by decide))), (fun h => f20 (upd_ne h (by decide))), (fun h => f21 (upd_ne h (by decide))), (fun h => f22 (upd_ne h (by decide))), (fun h => ⟨upd_mono (f23 (upd_ne h (by decide))).1, (f23 (upd_ne h (by decide))).2⟩)⟩
                  · obtain rfl := Option.some.inj ho
                    have g9 := f9 (hd ⟨9, .data⟩ (by simp) rfl)
                    subst g9
                    have hw : IntKind.i64.wrap (d : Int) = d := IntWalk.i64_in _ (by omega)
                    refine wpOp_step rfl (fun K' hK => ?_)
                    go_simp
                    refine hK _ _ ?_
                    clear hw
                    exact ⟨_, _, _, _, _, _, _, _, _, _, _, _, _, _, _, _, _, _, _, _, _, _, _, _, rfl, (fun h => I0 (by rw [upd_other (by decide)] at h; exact h)), (fun h => upd_mono (I1 (upd_ne h (by decide)))), (I2), (fun h => f0 (upd_ne h (by decide))), (fun h => f1 (upd_ne h (by decide))), (fun h => f2 (upd_ne h (by decide))), (fun h => f3 (upd_ne h (by decide))), (fun h => f4 (upd_ne h (by decide))), (fun h => f5 (upd_ne h (by decide))), (fun h => f6 (upd_ne h (by decide))), (fun h => f7 (upd_ne h (by decide))), (fun h => f8 (upd_ne h (by decide))), (fun h => f9 (upd_ne h (by decide))), (fun _ => rfl), (fun h => f11 (upd_ne h (by decide))), (fun h => f12 (upd_ne h (by decide))), (fun h => f13 (upd_ne h (by decide))), (fun h => f14 (upd_ne h (by decide))), (fun h => f15 (upd_ne h (by decide))), (fun h => f16 (upd_ne h (by decide))), (fun h => ⟨(f17 (upd_ne h (by decide))).1, fun h22 => (f17 (upd_ne h (by decide))).2 (by rw [upd_other (by decide)] at h22; exact h22)⟩), (fun h => f18 (upd_ne h (by decide))), (fun h => f19 (upd_ne h (by decide))), (fun h => f20 (upd_ne h (by decide))), (fun h => f21 (upd_ne h (by decide))), (fun h => f22 (upd_ne h (by decide))), (fun h => ⟨upd_mono (f23 (upd_ne h (by decide))).1, (f23 (upd_ne h (by decide))).2⟩)⟩
                  · obtain rfl := Option.some.inj ho
                    have g10 := f10 (hd ⟨10, .data⟩ (by simp) rfl)
                    subst g10
                    obtain ⟨w1, w2⟩ := wrap_pow hd8
                    have hneg : ¬ ((d : Int) < 0) := by omega
                    refine wpOp_step rfl (fun K' hK => ?_)
                    go_simp
                    refine hK _ _ ?_
                    clear w1 w2
                    exact ⟨_, _, _, _, _, _, _, _, _, _, _, _, _, _, _, _, _, _, _, _, _, _, _, _, rfl, (fun h => I0 (by rw [upd_other (by decide)] at h; exact h)), (fun h => upd_mono (I1 (upd_ne h (by decide)))), (I2), (fun h => f0 (upd_ne h (by decide))), (fun h => f1 (upd_ne h (by decide))), (fun h => f2 (upd_ne h (by decide))), (fun h => f3 (upd_ne h (by decide))), (fun h => f4 (upd_ne h (by decide))), (fun h => f5 (upd_ne h (by decide))), (fun h => f6 (upd_ne h (by decide))), (fun h => f7 (upd_ne h (by decide))), (fun h => f8 (upd_ne h (by decide))), (fun h => f9 (upd_ne h (by decide))), (fun h => f10 (upd_ne h (by decide))), (fun _ => rfl), (fun h => f12 (upd_ne h (by decide))), (fun h => f13 (upd_ne h (by decide))), (fun h => f14 (upd_ne h (by decide))), (fun h => f15 (upd_ne h (by decide))), (fun h => f16 (upd_ne h (by decide))), (fun h => ⟨(f17 (upd_ne h (by decide))).1, fun h22 => (f17 (upd_ne h (by decide))).2 (by rw [upd_other (by decide)] at h22; exact h22)⟩), (fun h => f18 (upd_ne h (by decide))), (fun h => f19 (upd_ne h (by decide))), (fun h => f20 (upd_ne h (by decide))), (fun h => f21 (upd_ne h (by decide))), (fun h => f22 (upd_ne h (by decide))), (fun h => ⟨upd_mono (f23 (upd_ne h (by decide))).1, (f23 (upd_ne h (by decide))).2⟩)⟩
                  · obtain rfl := Option.some.inj ho
                    have g7 := f7 (hd ⟨7, .data⟩ (by simp) rfl)
                    have g11 := f11 (hd ⟨11, .data⟩ (by simp) rfl)
                    subst g7
                    subst g11
                    have hw : IntKind.i64.wrap ((xs' : Int) + 2 ^ d) = ((xs' : Int) + 2 ^ d) := IntWalk.i64_in _ (by omega)
                    refine wpOp_step rfl (fun K' hK => ?_)
                    go_simp
                    refine hK _ _ ?_
                    clear hw
                    exact ⟨_, _, _, _, _, _, _, _, _, _, _, _, _, _, _, _, _, _, _, _, _, _, _, _, rfl, (fun h => I0 (by rw [upd_other (by decide)] at h; exact h)), (fun h => upd_mono (I1 (upd_ne h (by decide)))), (I2), (fun h => f0 (upd_ne h (by decide))), (fun h => f1 (upd_ne h (by decide))), (fun h => f2 (upd_ne h (by decide))), (fun h => f3 (upd_ne h (by decide))), (fun h => f4 (upd_ne h (by decide))), (fun h => f5 (upd_ne h (by decide))), (fun h => f6 (upd_ne h (by decide))), (fun h => f7 (upd_ne h (by decide))), (fun h => f8 (upd_ne h (by decide))), (fun h => f9 (upd_ne h (by decide))), (fun h => f10 (upd_ne h (by decide))), (fun h => f11 (upd_ne h (by decide))), (fun _ => rfl), (fun h => f13 (upd_ne h (by decide))), (fun h => f14 (upd_ne h (by decide))), (fun h => f15 (upd_ne h (by decide))), (fun h => f16 (upd_ne h (by decide))), (fun h => ⟨(f17 (upd_ne h (by decide))).1, fun h22 => (f17 (upd_ne h (by decide))).2 (by rw [upd_other (by decide)] at h22; exact h22)⟩), (fun h => f18 (upd_ne h (by decide))), (fun h => f19 (upd_ne h (by decide))), (fun h => f20 (upd_ne h (by decide))), (fun h => f21 (upd_ne h (by decide))), (fun h => f22 (upd_ne h (by decide))), (fun h => ⟨upd_mono (f23 (upd_ne h (by decide))).1, (f23 (upd_ne h (by decide))).2⟩)⟩
                  · obtain rfl := Option.some.inj ho
                    refine wpOp_step rfl (fun K' hK => ?_)
                    go_simp
                    refine hK _ _ ?_
                    exact ⟨_, _, _, _, _, _, _, _, _, _, _, _, _, _, _, _, _, _, _, _, _, _, _, _, rfl, (fun h => I0 (by rw [upd_other (by decide)] at h; exact h)), (fun h => upd_mono (I1 (upd_ne h (by decide)))), (I2), (fun h => f0 (upd_ne h (by decide))), (fun h => f1 (upd_ne h (by decide))), (fun h => f2 (upd_ne h (by decide))), (fun h => f3 (upd_ne h (by decide))), (fun h => f4 (upd_ne h (by decide))), (fun h => f5 (upd_ne h (by decide))), (fun h => f6 (upd_ne h (by decide))), (fun h => f7 (upd_ne h (by decide))), (fun h => f8 (upd_ne h (by decide))), (fun h => f9 (upd_ne h (by decide))), (fun h => f10 (upd_ne h (by decide))), (fun h => f11 (upd_ne h (by decide))), (fun h => f12 (upd_ne h (by decide))), (fun _ => rfl), (fun h => f14 (upd_ne h (by decide))), (fun h => f15 (upd_ne h (by decide))), (fun h => f16 (upd_ne h (by decide))), (fun h => ⟨(f17 (upd_ne h (by decide))).1, fun h22 => (f17 (upd_ne h (by decide))).2 (by rw [upd_other (by decide)] at h22; exact h22)⟩), (fun h => f18 (upd_ne h (by decide))), (fun h => f19 (upd_ne h (by decide))), (fun h => f20 (upd_ne h (by decide))), (fun h => f21 (upd_ne h (by decide))), (fun h => f22 (upd_ne h (by decide))), (fun h => ⟨upd_mono (f23 (upd_ne h (by decide))).1, (f23 (upd_ne h (by decide))).2⟩)⟩
                  · obtain rfl := Option.some.inj ho
                    have g13 := f13 (hd ⟨13, .data⟩ (by simp) rfl)
                    subst g13
                    obtain ⟨n0, n1⟩ := HC.out ww I2
                    refine wpOp_step rfl (fun K' hK => ?_)
                    go_simp
                    refine hK _ _ ?_
                    exact ⟨_, _, _, _, _, _, _, _, _, _, _, _, _, _, _, _, _, _, _, _, _, _, _, _, rfl, (fun h => I0 (by rw [upd_other (by decide)] at h; exact h)), (fun h => upd_mono (I1 (upd_ne h (by decide)))), (I2), (fun h => f0 (upd_ne h (by decide))), (fun h => f1 (upd_ne h (by decide))), (fun h => f2 (upd_ne h (by decide))), (fun h => f3 (upd_ne h (by decide))), (fun h => f4 (upd_ne h (by decide))), (fun h => f5 (upd_ne h (by decide))), (fun h => f6 (upd_ne h (by decide))), (fun h => f7 (upd_ne h (by decide))), (fun h => f8 (upd_ne h (by decide))), (fun h => f9 (upd_ne h (by decide))), (fun h => f10 (upd_ne h (by decide))), (fun h => f11 (upd_ne h (by decide))), (fun h => f12 (upd_ne h (by decide))), (fun h => f13 (upd_ne h (by decide))), (fun _ => rfl), (fun h => f15 (upd_ne h (by decide))), (fun h => f16 (upd_ne h (by decide))), (fun h => ⟨(f17 (upd_ne h (by decide))).1, fun h22 => (f17 (upd_ne h (by decide))).2 (by rw [upd_other (by decide)] at h22; exact h22)⟩), (fun h => f18 (upd_ne h (by decide))), (fun h => f19 (upd_ne h (by decide))), (fun h => f20 (upd_ne h (by decide))), (fun h => f21 (upd_ne h (by decide))), (fun h => f22 (upd_ne h (by decide))), (fun h => ⟨upd_mono (f23 (upd_ne h (by decide))).1, (f23 (upd_ne h (by decide))).2⟩)⟩
                  · obtain rfl := Option.some.inj ho
                    have g14 := f14 (hd ⟨14, .data⟩ (by simp) rfl)
                    subst g14
                    have hw : IntKind.i64.wrap (d : Int) = d := IntWalk.i64_in _ (by omega)
                    refine wpOp_step rfl (fun K' hK => ?_)
                    go_simp
                    refine hK _ _ ?_
                    clear hw
                    exact ⟨_, _, _, _, _, _, _, _, _, _, _, _, _, _, _, _, _, _, _, _, _, _, _, _, rfl, (fun h => I0 (by rw [upd_other (by decide)] at h; exact h)), (fun h => upd_mono (I1 (upd_ne h (by decide)))), (I2), (fun h => f0 (upd_ne h (by decide))), (fun h => f1 (upd_ne h (by decide))), (fun h => f2 (upd_ne h (by decide))), (fun h => f3 (upd_ne h (by decide))), (fun h => f4 (upd_ne h (by decide))), (fun h => f5 (upd_ne h (by decide))), (fun h => f6 (upd_ne h (by decide))), (fun h => f7 (upd_ne h (by decide))), (fun h => f8 (upd_ne h (by decide))), (fun h => f9 (upd_ne h (by decide))), (fun h => f10 (upd_ne h (by decide))), (fun h => f11 (upd_ne h (by decide))), (fun h => f12 (upd_ne h (by decide))), (fun h => f13 (upd_ne h (by decide))), (fun h => f14 (upd_ne h (by decide))), (fun _ => rfl), (fun h => f16 (upd_ne h (by decide))), (fun h => ⟨(f17 (upd_ne h (by decide))).1, fun h22 => (f17 (upd_ne h (by decide))).2 (by rw [upd_other (by decide)] at h22; exact h22)⟩), (fun h => f18 (upd_ne h (by decide))), (fun h => f19 (upd_ne h (by decide))), (fun h => f20 (upd_ne h (by decide))), (fun h => f21 (upd_ne h (by decide))), (fun h => f22 (upd_ne h (by decide))), (fun h => ⟨upd_mono (f23 (upd_ne h (by decide))).1, (f23 (upd_ne h (by decide))).2⟩)⟩
                  · obtain rfl := Option.some.inj ho
                    have g12 := f12 (hd ⟨12, .data⟩ (by simp) rfl)
                    have g15 := f15 (hd ⟨15, .data⟩ (by simp) rfl)
                    subst g12
                    subst g15
                    refine wpOp_step rfl (fun K' hK => ?_)
                    go_simp
                    refine hK _ _ ?_
                    exact ⟨_, _, _, _, _, _, _, _, _, _, _, _, _, _, _, _, _, _, _, _, _, _, _, _, rfl, (fun h => I0 (by rw [upd_other (by decide)] at h; exact h)), (fun h => upd_mono (I1 (upd_ne h (by decide)))), (I2), (fun h => f0 (upd_ne h (by decide))), (fun h => f1 (upd_ne h (by decide))), (fun h => f2 (upd_ne h (by decide))), (fun h => f3 (upd_ne h (by decide))), (fun h => f4 (upd_ne h (by decide))), (fun h => f5 (upd_ne h (by decide))), (fun h => f6 (upd_ne h (by decide))), (fun h => f7 (upd_ne h (by decide))), (fun h => f8 (upd_ne h (by decide))), (fun h => f9 (upd_ne h (by decide))), (fun h => f10 (upd_ne h (by decide))), (fun h => f11 (upd_ne h (by decide))), (fun h => f12 (upd_ne h (by decide))), (fun h => f13 (upd_ne h (by decide))), (fun h => f14 (upd_ne h (by decide))), (fun h => f15 (upd_ne h (by decide))), (fun _ => rfl), (fun h => ⟨(f17 (upd_ne h (by decide))).1, fun h22 => (f17 (upd_ne h (by decide))).2 (by rw [upd_other (by decide)] at h22; exact h22)⟩), (fun h => f18 (upd_ne h (by decide))), (fun h => f19 (upd_ne h (by decide))), (fun h => f20 (upd_ne h (by decide))), (fun h => f21 (upd_ne h (by decide))), (fun h => f22 (upd_ne h (by decide))), (fun h => ⟨upd_mono (f23 (upd_ne h (by decide))).1, (f23 (upd_ne h (by decide))).2⟩)⟩
                  · obtain rfl := Option.some.inj ho
                    have g5 := f5 (hd ⟨5, .data⟩ (by simp) rfl)
                    have g16 := f16 (hd ⟨16, .data⟩ (by simp) rfl)
                    subst g5
                    subst g16
                    have hw0 := I0 hL
                    subst hw0
                    refine wpOp_step rfl (fun K' hK => ?_)
                    go_simp
                    refine hK _ _ ?_
                    exact ⟨_, _, _, _, _, _, _, _, _, _, _, _, _, _, _, _, _, _, _, _, _, _, _, _, rfl, (fun h => absurd (upd_self.symm.trans h) (by decide)), (fun _ => upd_self), ((Below.refl _ _).alloc (Nat.le_refl _) _), (fun h => f0 (upd_ne h (by decide))), (fun h => f1 (upd_ne h (by decide))), (fun h => f2 (upd_ne h (by decide))), (fun h => f3 (upd_ne h (by decide))), (fun h => f4 (upd_ne h (by decide))), (fun h => f5 (upd_ne h (by decide))), (fun h => f6 (upd_ne h (by decide))), (fun h => f7 (upd_ne h (by decide))), (fun h => f8 (upd_ne h (by decide))), (fun h => f9 (upd_ne h (by decide))), (fun h => f10 (upd_ne h (by decide))), (fun h => f11 (upd_ne h (by decide))), (fun h => f12 (upd_ne h (by decide))), (fun h => f13 (upd_ne h (by decide))), (fun h => f14 (upd_ne h (by decide))), (fun h => f15 (upd_ne h (by decide))), (fun h => f16 (upd_ne h (by decide))), (fun _ => ⟨rfl, fun _ => rfl⟩), (fun h => f18 (upd_ne h (by decide))), (fun h => f19 (upd_ne h (by decide))), (fun h => f20 (upd_ne h (by decide))), (fun h => f21 (upd_ne h (by decide))), (fun h => absurd ((I1 (upd_ne h (by decide))).symm.trans hL) (by decide)), (fun h => ⟨upd_mono (f23 (upd_ne h (by decide))).1, (f23 (upd_ne h (by decide))).2⟩)⟩
                  · obtain rfl := Option.some.inj ho
                    refine wpOp_step rfl (fun K' hK => ?_)
                    go_simp
                    refine hK _ _ ?_
                    exact ⟨_, _, _, _, _, _, _, _, _, _, _, _, _, _, _, _, _, _, _, _, _, _, _, _, rfl, (fun h => I0 (by rw [upd_other (by decide)] at h; exact h)), (fun h => upd_mono (I1 (upd_ne h (by decide)))), (I2), (fun h => f0 (upd_ne h (by decide))), (fun h => f1 (upd_ne h (by decide))), (fun h => f2 (upd_ne h (by decide))), (fun h => f3 (upd_ne h (by decide))), (fun h => f4 (upd_ne h (by decide))), (fun h => f5 (upd_ne h (by decide))), (fun h => f6 (upd_ne h (by decide))), (fun h => f7 (upd_ne h (by decide))), (fun h => f8 (upd_ne h (by decide))), (fun h => f9 (upd_ne h (by decide))), (fun h => f10 (upd_ne h (by decide))), (fun h => f11 (upd_ne h (by decide))), (fun h => f12 (upd_ne h (by decide))), (fun h => f13 (upd_ne h (by decide))), (fun h => f14 (upd_ne h (by decide))), (fun h => f15 (upd_ne h (by decide))), (fun h => f16 (upd_ne h (by decide))), (fun h => ⟨(f17 (upd_ne h (by decide))).1, fun h22 => (f17 (upd_ne h (by decide))).2 (by rw [upd_other (by decide)] at h22; exact h22)⟩), (fun _ => rfl), (fun h => f19 (upd_ne h (by decide))), (fun h => f20 (upd_ne h (by decide))), (fun h => f21 (upd_ne h (by decide))), (fun h => f22 (upd_ne h (by decide))), (fun h => ⟨upd_mono (f23 (upd_ne h (by decide))).1, (f23 (upd_ne h (by decide))).2⟩)⟩
                  · obtain rfl := Option.some.inj ho
                    refine wpOp_step rfl (fun K' hK => ?_)
                    go_simp
                    refine hK _ _ ?_
                    exact ⟨_, _, _, _, _, _, _, _, _, _, _, _, _, _, _, _, _, _, _, _, _, _, _, _, rfl, (fun h => I0 (by rw [upd_other (by decide)] at h; exact h)), (fun h => upd_mono (I1 (upd_ne h (by decide)))), (I2), (fun h => f0 (upd_ne h (by decide))), (fun h => f1 (upd_ne h (by decide))), (fun h => f2 (upd_ne h (by decide))), (fun h => f3 (upd_ne h (by decide))), (fun h => f4 (upd_ne h (by decide))), (fun h => f5 (upd_ne h (by decide))), (fun h => f6 (upd_ne h (by decide))), (fun h => f7 (upd_ne h (by decide))), (fun h => f8 (upd_ne h (by decide))), (fun h => f9 (upd_ne h (by decide))), (fun h => f10 (upd_ne h (by decide))), (fun h => f11 (upd_ne h (by decide))), (fun h => f12 (upd_ne h (by decide))), (fun h => f13 (upd_ne h (by decide))), (fun h => f14 (upd_ne h (by decide))), (fun h => f15 (upd_ne h (by decide))), (fun h => f16 (upd_ne h (by decide))), (fun h => ⟨(f17 (upd_ne h (by decide))).1, fun h22 => (f17 (upd_ne h (by decide))).2 (by rw [upd_other (by decide)] at h22; exact h22)⟩), (fun h => f18 (upd_ne h (by decide))), (fun _ => rfl), (fun h => f20 (upd_ne h (by decide))), (fun h => f21 (upd_ne h (by decide))), (fun h => f22 (upd_ne h (by decide))), (fun h => ⟨upd_mono (f23 (upd_ne h (by decide))).1, (f23 (upd_ne h (by decide))).2⟩)⟩
                  · obtain rfl := Option.some.inj ho
                    have g19 := f19 (hd ⟨19, .data⟩ (by simp) rfl)
                    subst g19
                    have hw : IntKind.i64.wrap ((j : Int) + 1) = (j : Int) + 1 := IntWalk.i64_in _ (by omega)
                    refine wpOp_step rfl (fun K' hK => ?_)
                    go_simp
                    refine hK _ _ ?_
                    clear hw
                    exact ⟨_, _, _, _, _, _, _, _, _, _, _, _, _, _, _, _, _, _, _, _, _, _, _, _, rfl, (fun h => I0 (by rw [upd_other (by decide)] at h; exact h)), (fun h => upd_mono (I1 (upd_ne h (by decide)))), (I2), (fun h => f0 (upd_ne h (by decide))), (fun h => f1 (upd_ne h (by decide))), (fun h => f2 (upd_ne h (by decide))), (fun h => f3 (upd_ne h (by decide))), (fun h => f4 (upd_ne h (by decide))), (fun h => f5 (upd_ne h (by decide))), (fun h => f6 (upd_ne h (by decide))), (fun h => f7 (upd_ne h (by decide))), (fun h => f8 (upd_ne h (by decide))), (fun h => f9 (upd_ne h (by decide))), (fun h => f10 (upd_ne h (by decide))), (fun h => f11 (upd_ne h (by decide))), (fun h => f12 (upd_ne h (by decide))), (fun h => f13 (upd_ne h (by decide))), (fun h => f14 (upd_ne h (by decide))), (fun h => f15 (upd_ne h (by decide))), (fun h => f16 (upd_ne h (by decide))), (fun h => ⟨(f17 (upd_ne h (by decide))).1, fun h22 => (f17 (upd_ne h (by decide))).2 (by rw [upd_other (by decide)] at h22; exact h22)⟩), (fun h => f18 (upd_ne h (by decide))), (fun h => f19 (upd_ne h (by decide))), (fun _ => rfl), (fun h => f21 (upd_ne h (by decide))), (fun h => f22 (upd_ne h (by decide))), (fun h => ⟨upd_mono (f23 (upd_ne h (by decide))).1, (f23 (upd_ne h (by decide))).2⟩)⟩
                  · obtain rfl := Option.some.inj ho
                    have g18 := f18 (hd ⟨18, .data⟩ (by simp) rfl)
                    have g20 := f20 (hd ⟨20, .data⟩ (by simp) rfl)
                    subst g18
                    subst g20
                    refine wpOp_step rfl (fun K' hK => ?_)
                    go_simp
                    refine hK _ _ ?_
                    exact ⟨_, _, _, _, _, _, _, _, _, _, _, _, _, _, _, _, _, _, _, _, _, _, _, _, rfl, (fun h => I0 (by rw [upd_other (by decide)] at h; exact h)), (fun h => upd_mono (I1 (upd_ne h (by decide)))), (I2), (fun h => f0 (upd_ne h (by decide))), (fun h => f1 (upd_ne h (by decide))), (fun h => f2 (upd_ne h (by decide))), (fun h => f3 (upd_ne h (by decide))), (fun h => f4 (upd_ne h (by decide))), (fun h => f5 (upd_ne h (by decide))), (fun h => f6 (upd_ne h (by decide))), (fun h => f7 (upd_ne h (by decide))), (fun h => f8 (upd_ne h (by decide))), (fun h => f9 (upd_ne h (by decide))), (fun h => f10 (upd_ne h (by decide))), (fun h => f11 (upd_ne h (by decide))), (fun h => f12 (upd_ne h (by decide))), (fun h => f13 (upd_ne h (by decide))), (fun h => f14 (upd_ne h (by decide))), (fun h => f15 (upd_ne h (by decide))), (fun h => f16 (upd_ne h (by decide))), (fun h => ⟨(f17 (upd_ne h (by decide))).1, fun h22 => (f17 (upd_ne h (by decide))).2 (by rw [upd_other (by decide)] at h22; exact h22)⟩), (fun h => f18 (upd_ne h (by decide))), (fun h => f19 (upd_ne h (by decide))), (fun h => f20 (upd_ne h (by decide))), (fun _ => rfl), (fun h => f22 (upd_ne h (by decide))), (fun h => ⟨upd_mono (f23 (upd_ne h (by decide))).1, (f23 (upd_ne h (by decide))).2⟩)⟩
                  · obtain rfl := Option.some.inj ho
                    have g17 := f17 (hd ⟨17, .data⟩ (by simp) rfl)
                    have g21 := f21 (hd ⟨21, .data⟩ (by simp) rfl)
                    subst g21
                    obtain ⟨rfl, e17⟩ := g17
                    have hw0 := e17 hL
                    subst hw0
                    refine wpOp_step rfl (fun K' hK => ?_)
                    refine app_stepY (.tmp 91) (.tmp 95) rfl W0.heap.size _ [(⟨xs', d, false⟩ : Bl), ⟨((xs' : Int) + 2 ^ d), d, false⟩] rfl HO2.out (some ⟨g, 0, none⟩) 0 0 W0.heap.size ([]) rfl (HTL.out _ I2) (by simp <;> omega) I2.size ?_
                    intro v' w' o1 g1 s1
                    refine hK _ _ ?_
                    exact ⟨_, _, _, _, _, _, _, _, _, _, _, _, _, _, _, _, _, _, _, _, _, _, _, _, rfl, (fun h => absurd ((upd_other (by decide)).symm.trans h) (by rw [hd ⟨17, .data⟩ (by simp) rfl]; decide)), (fun _ => upd_mono (hd ⟨17, .data⟩ (by simp) rfl)), (I2.grown g1 I2.size (fun k hk => (World.ownsRow.lt HO2.out k hk).1)), (fun h => f0 (upd_ne h (by decide))), (fun h => f1 (upd_ne h (by decide))), (fun h => f2 (upd_ne h (by decide))), (fun h => f3 (upd_ne h (by decide))), (fun h => f4 (upd_ne h (by decide))), (fun h => f5 (upd_ne h (by decide))), (fun h => f6 (upd_ne h (by decide))), (fun h => f7 (upd_ne h (by decide))), (fun h => f8 (upd_ne h (by decide))), (fun h => f9 (upd_ne h (by decide))), (fun h => f10 (upd_ne h (by decide))), (fun h => f11 (upd_ne h (by decide))), (fun h => f12 (upd_ne h (by decide))), (fun h => f13 (upd_ne h (by decide))), (fun h => f14 (upd_ne h (by decide))), (fun h => f15 (upd_ne h (by decide))), (fun h => f16 (upd_ne h (by decide))), (fun _ => ⟨rfl, fun h => absurd (upd_self.symm.trans h) (by decide)⟩), (fun h => f18 (upd_ne h (by decide))), (fun h => f19 (upd_ne h (by decide))), (fun h => f20 (upd_ne h (by decide))), (fun h => f21 (upd_ne h (by decide))), (fun _ => o1), (fun h => absurd ((f23 (upd_ne h (by decide))).1.symm.trans hL) (by decide))⟩
                  · obtain rfl := Option.some.inj ho
                    have g22 := f22 (hd ⟨22, .data⟩ (by simp) rfl)
                    refine wpOp_step rfl (fun K' hK => ?_)
                    go_simp
                    refine hK _ _ ?_
                    exact ⟨_, _, _, _, _, _, _, _, _, _, _, _, _, _, _, _, _, _, _, _, _, _, _, _, rfl, (fun h => I0 (by rw [upd_other (by decide)] at h; exact h)), (fun h => upd_mono (I1 (upd_ne h (by decide)))), (I2), (fun h => f0 (upd_ne h (by decide))), (fun h => f1 (upd_ne h (by decide))), (fun h => f2 (upd_ne h (by decide))), (fun h => f3 (upd_ne h (by decide))), (fun h => f4 (upd_ne h (by decide))), (fun h => f5 (upd_ne h (by decide))), (fun h => f6 (upd_ne h (by decide))), (fun h => f7 (upd_ne h (by decide))), (fun h => f8 (upd_ne h (by decide))), (fun h => f9 (upd_ne h (by decide))), (fun h => f10 (upd_ne h (by decide))), (fun h => f11 (upd_ne h (by decide))), (fun h => f12 (upd_ne h (by decide))), (fun h => f13 (upd_ne h (by decide))), (fun h => f14 (upd_ne h (by decide))), (fun h => f15 (upd_ne h (by decide))), (fun h => f16 (upd_ne h (by decide))), (fun h => ⟨(f17 (upd_ne h (by decide))).1, fun h22 => (f17 (upd_ne h (by decide))).2 (by rw [upd_other (by decide)] at h22; exact h22)⟩), (fun h => f18 (upd_ne h (by decide))), (fun h => f19 (upd_ne h (by decide))), (fun h => f20 (upd_ne h (by decide))), (fun h => f21 (upd_ne h (by decide))), (fun h => f22 (upd_ne h (by decide))), (fun _ => ⟨upd_mono (hd ⟨22, .data⟩ (by simp) rfl), rfl⟩)⟩
                case hdone =>
                  rintro L ac ww hall ⟨t11, t74, t75, t76, t77, t78, t79, t80, t81, t82, t83, t84, t85, t86, t87, t88, t89, t90, t91, t92, t93, t94, t95, t96, rfl, I0, I1, I2, f0, f1, f2, f3, f4, f5, f6, f7, f8, f9, f10, f11, f12, f13, f14, f15, f16, f17, f18, f19, f20, f21, f22, f23⟩
                  have e0 := f0 (hall 0 (by decide))
                  have e1 := f1 (hall 1 (by decide))
                  have e2 := f2 (hall 2 (by decide))
                  have e3 := f3 (hall 3 (by decide))
                  have e4 := f4 (hall 4 (by decide))
                  have e5 := f5 (hall 5 (by decide))
                  have e6 := f6 (hall 6 (by decide))
                  have e7 := f7 (hall 7 (by decide))
                  have e8 := f8 (hall 8 (by decide))
                  have e9 := f9 (hall 9 (by decide))
                  have e10 := f10 (hall 10 (by decide))
                  have e11 := f11 (hall 11 (by decide))
                  have e12 := f12 (hall 12 (by decide))
                  have e13 := f13 (hall 13 (by decide))
                  have e14 := f14 (hall 14 (by decide))
                  have e15 := f15 (hall 15 (by decide))
                  have e16 := f16 (hall 16 (by decide))
                  have e17 := f17 (hall 17 (by decide))
                  have e18 := f18 (hall 18 (by decide))
                  have e19 := f19 (hall 19 (by decide))
                  have e20 := f20 (hall 20 (by decide))
                  have e21 := f21 (hall 21 (by decide))
                  have e22 := f22 (hall 22 (by decide))
                  have e23 := f23 (hall 23 (by decide))
                  clear f0 f1 f2 f3 f4 f5 f6 f7 f8 f9 f10 f11 f12 f13 f14 f15 f16 f17 f18 f19 f20 f21 f22 f23
                  obtain ⟨_, rfl⟩ := e23
                  obtain ⟨e17, _⟩ := e17
                  subst e0 e1 e2 e3 e4 e5 e6 e7 e8 e9 e10 e11 e12 e13 e14 e15 e16 e18 e19 e20 e21 e17
                  clear I0 I1 v5 v6
                  obtain ⟨A9, c9, rfl, _⟩ := e22.form
                  have hai : AllI ([(⟨xs', d, false⟩ : Bl), ⟨((xs' : Int) + 2 ^ d), d, false⟩] ++ []) := AllI.append HA2.out (fun k x hx => by simp at hx)
                  have R9 := e22.reads hai
                  obtain ⟨m9, hm9⟩ : ∃ m9, ([(⟨xs', d, false⟩ : Bl), ⟨((xs' : Int) + 2 ^ d), d, false⟩] ++ []).length = m9 := ⟨_, rfl⟩
                  rw [hm9] at R9 ⊢
                  have hm9' : m9 ≤ 300 := by rw [← hm9]; simp <;> omega
                  have o0 := own_noneY ww ww.heap.size (Nat.le_refl _)
                  have bl0 : Below ww.heap.size ww (ww.alloc (.cells #[] 40)) := (Below.refl _ _).alloc (Nat.le_refl _) _
                  have bW6 : Below w6.heap.size w6 ww := b60.trans (I2.mono b60.size)
                  have r0 := ((HR6.out.up bW6).below bl0).take (k := j) (by omega)
                  have hlt : (xs.take j).length = j := by rw [List.length_take]; omega
                  go_wp2_with (first
                    | (at_builtin; refine wpList_appendY rfl (.tmp 97) (.tmp 100) rfl ww.heap.size _ [] rfl o0 (some ⟨g, 0, none⟩) j (j + 1) ww.heap.size (xs.take j) rfl r0 (by simp <;> omega) (by simp) ?_; intro v8 w8 o8 g8 s8; go_must (have b8 : Below ww.heap.size ww w8 := bl0.grown g8 (by simp) (fun k hk => (World.ownsRow.lt o0 k hk).1)))
                    | (at_builtin; refine wpList_appendY rfl (.tmp 101) (.tmp 102) rfl ww.heap.size v8 _ rfl o8 A9 m9 c9 ww.heap.size ([(⟨xs', d, false⟩ : Bl), ⟨((xs' : Int) + 2 ^ d), d, false⟩] ++ []) rfl (R9.below b8) (by simp <;> omega) b8.size ?_; intro v9 w9 o9 g9 s9; go_must (have b9 : Below ww.heap.size ww w9 := b8.grown g9 b8.size (fun k hk => (World.ownsRow.lt o8 k hk).1)))
                    | fail)
                  go_ret2
                  have bb9 : Below w6.heap.size w6 w9 := bW6.trans (b9.mono bW6.size)
                  refine ⟨_, _, p, rfl, o9.base (Nat.le_trans hxs6 bW6.size), ?_, ?_, ?_, by omega, by omega, (st6.rd.below bb9 st6.rd.lt).more (by omega), World.grownBy.trans st6.grown (only_below bb9 _)⟩
                  · rw [List.nil_append]
                    exact AllI.append (allI_takeY HA.out j) hai
                  · simp <;> omega
                  · simp <;> omega

              · have HTL := Lib.hid (fun W' (e2 : Below W0.heap.size W0 W') => (by have := (HR0.out.below e2).drop (k := j + 1) (by omega); rw [Nat.zero_add] at this; exact this : BS W' W0.heap.size (some ⟨g, (j + 1) * 3, none⟩) (xs.length - (j + 1)) (xs.drop (j + 1))))
                refine wp_region_inv (by kernel_rfl) (by kernel_rfl) (fun L ac ww => ∃ t11 t74 t75 t76 t77 t78 t79 t80 t81 t82 t83 t84 t85 t86 t87 t88 t89 t90 t91 t92 t93 t94 t95 t96 : Value, ac = { tmps := #[Value.pointer (some ⟨gr, 0, none⟩), Value.int IntKind.i64 n, undef, undef, Value.slice none 0 0, Value.int IntKind.i64 0, Value.int IntKind.i64 ↑p, Value.slice (some ⟨g, 0, none⟩) xs.length c, Value.int IntKind.i64 0, Value.int IntKind.i64 ↑j, Value.pointer (some ⟨w6.heap.size, 0, none⟩), t11, Value.pointer (some ⟨gr, 0, none⟩), Value.int IntKind.i64 ↑p, Value.int IntKind.i64 ↑p, Value.agg #[Value.int IntKind.i64 0, Value.int IntKind.i64 ↑p, Value.bool false], Value.slice (some ⟨w1.heap.size, 0, none⟩) 1 1, Value.pointer (some ⟨gr, 0, none⟩), Value.int IntKind.i64 ↑q, Value.int IntKind.i64 0, Value.bool false, u21, u22, u23, u24, u25, u26, u27, u28, u29, u30, u31, u32, u33, u34, u35, u36, u37, u38, u39, u40, u41, u42, u43, u44, u45, u46, u47, u48, u49, u50, u51, u52, Value.pointer (some ⟨gr, 0, none⟩), Value.int IntKind.i64 n, Value.bool true, Value.pointer (some ⟨gr, 0, none⟩), Value.slice (some ⟨g, 0, none⟩) xs.length c, Value.int IntKind.i64 ↑xs.length, Value.int IntKind.i64 ↑j, Value.pointer (some ⟨gr, 0, none⟩), Value.int IntKind.i64 3, Value.slice (some ⟨g, 0, none⟩) xs.length c, Value.int IntKind.i64 ↑j, Value.pointer (some ⟨g, j * 3, none⟩), Value.agg #[Value.int IntKind.i64 ↑xs', Value.int IntKind.i64 (↑d + 1), Value.bool false], Value.pointer (some ⟨w6.heap.size, 1, none⟩), Value.int IntKind.i64 (↑d + 1), Value.bool true, Value.bool true, Value.pointer (some ⟨w6.heap.size, 2, none⟩), Value.bool false, Value.bool true, Value.bool true, t74, t75, t76, t77, t78, t79, t80, t81, t82, t83, t84, t85, t86, t87, t88, t89, t90, t91, t92, t93, t94, t95, t96, undef, undef, undef, undef, undef, undef, undef, Value.bool false, Value.bool false, undef, undef, undef, undef, undef, undef, undef, undef, undef, undef, Value.bool false, Value.bool false, undef, undef, undef, undef, undef, undef, undef, undef, undef, undef, Value.bool false, Value.bool false, undef, undef, undef, undef, undef, undef, undef, undef, undef], defers := [] } ∧ (L 17 = false → ww = W0) ∧ (L 22 = true → L 17 = true) ∧ (Below W0.heap.size W0 ww) ∧ (L 0 = true → t74 = .pointer (some ⟨w6.heap.size, 0, none⟩)) ∧ (L 1 = true → t75 = .int .i64 xs') ∧ (L 2 = true → t76 = .pointer (some ⟨w6.heap.size, 1, none⟩)) ∧ (L 3 = true → t77 = .int .i64 ((d : Int) + 1)) ∧ (L 4 = true → t78 = .int .i64 d) ∧ (L 5 = true → t79 = .agg #[.int .i64 xs', .int .i64 d, .bool false]) ∧ (L 6 = true → t80 = .pointer (some ⟨w6.heap.size, 0, none⟩)) ∧ (L 7 = true → t81 = .int .i64 xs') ∧ (L 8 = true → t82 = .pointer (some ⟨w6.heap.size, 1, none⟩)) ∧ (L 9 = true → t83 = .int .i64 ((d : Int) + 1)) ∧ (L 10 = true → t84 = .int .i64 d) ∧ (L 11 = true → t85 = .int .i64 (2 ^ d)) ∧ (L 12 = true → t86 = .int .i64 ((xs' : Int) + 2 ^ d)) ∧ (L 13 = true → t87 = .pointer (some ⟨w6.heap.size, 1, none⟩)) ∧ (L 14 = true → t88 = .int .i64 ((d : Int) + 1)) ∧ (L 15 = true → t89 = .int .i64 d) ∧ (L 16 = true → t90 = .agg #[.int .i64 ((xs' : Int) + 2 ^ d), .int .i64 d, .bool false]) ∧ (L 17 = true → t91 = .slice (some ⟨W0.heap.size, 0, none⟩) 2 2 ∧ (L 22 = false → ww = W0.alloc (.cells #[.int .i64 xs', .int .i64 d, .bool false, .int .i64 ((xs' : Int) + 2 ^ d), .int .i64 d, .bool false] 40))) ∧ (L 18 = true → t92 = .slice (some ⟨g, 0, none⟩) xs.length c) ∧ (L 19 = true → t93 = .int .i64 j) ∧ (L 20 = true → t94 = .int .i64 ((j : Int) + 1)) ∧ (L 21 = true → t95 = .slice (some ⟨g, (j + 1) * 3, none⟩) (xs.length - (j + 1)) (c - (j + 1))) ∧ (L 22 = true → OwnY ww W0.heap.size t96 ([(⟨xs', d, false⟩ : Bl), ⟨((xs' : Int) + 2 ^ d), d, false⟩] ++ xs.drop (j + 1))) ∧ (L 23 = true → L 22 = true ∧ t11 = t96)) ?h0 ?hstep ?hdone
                case h0 => exact ⟨_, _, _, _, _, _, _, _, _, _, _, _, _, _, _, _, _, _, _, _, _, _, _, _, rfl, fun _ => h0W, (fun h => absurd h Bool.false_ne_true), by rw [h0W]; exact Below.refl _ _, (fun h => absurd h Bool.false_ne_true), (fun h => absurd h Bool.false_ne_true), (fun h => absurd h Bool.false_ne_true), (fun h => absurd h Bool.false_ne_true), (fun h => absurd h Bool.false_ne_true), (fun h => absurd h Bool.false_ne_true), (fun h => absurd h Bool.false_ne_true), (fun h => absurd h Bool.false_ne_true), (fun h => absurd h Bool.false_ne_true), (fun h => absurd h Bool.false_ne_true), (fun h => absurd h Bool.false_ne_true), (fun h => absurd h Bool.false_ne_true), (fun h => absurd h Bool.false_ne_true), (fun h => absurd h Bool.false_ne_true), (fun h => absurd h Bool.false_ne_true), (fun h => absurd h Bool.false_ne_true), (fun h => absurd h Bool.false_ne_true), (fun h => absurd h Bool.false_ne_true), (fun h => absurd h Bool.false_ne_true), (fun h => absurd h Bool.false_ne_true), (fun h => absurd h Bool.false_ne_true), (fun h => absurd h Bool.false_ne_true), (fun h => absurd h Bool.false_ne_true), (fun h => absurd h Bool.false_ne_true)⟩
                case hstep =>
                  rintro L ac ww i o ho hL hd ⟨t11, t74, t75, t76, t77, t78, t79, t80, t81, t82, t83, t84, t85, t86, t87, t88, t89, t90, t91, t92, t93, t94, t95, t96, rfl, I0, I1, I2, f0, f1, f2, f3, f4, f5, f6, f7, f8, f9, f10, f11, f12, f13, f14, f15, f16, f17, f18, f19, f20, f21, f22, f23⟩
                  have hi : i < 24 := (Array.getElem?_eq_some_iff.1 ho).1
                  obtain rfl | rfl | rfl | rfl | rfl | rfl | rfl | rfl | rfl | rfl | rfl | rfl | rfl | rfl | rfl | rfl | rfl | rfl | rfl | rfl | rfl | rfl | rfl | rfl : i = 0 ∨ i = 1 ∨ i = 2 ∨ i = 3 ∨ i = 4 ∨ i = 5 ∨ i = 6 ∨ i = 7 ∨ i = 8 ∨ i = 9 ∨ i = 10 ∨ i = 11 ∨ i = 12 ∨ i = 13 ∨ i = 14 ∨ i = 15 ∨ i = 16 ∨ i = 17 ∨ i = 18 ∨ i = 19 ∨ i = 20 ∨ i = 21 ∨ i = 22 ∨ i = 23 := by omega
                  · obtain rfl := Option.some.inj ho
                    refine wpOp_step rfl (fun K' hK => ?_)
                    go_simp
                    refine hK _ _ ?_
                    exact ⟨_, _, _, _, _, _, _, _, _, _, _, _, _, _, _, _, _, _, _, _, _, _, _, _, rfl, (fun h => I0 (by rw [upd_other (by decide)] at h; exact h)), (fun h => upd_mono (I1 (upd_ne h (by decide)))), (I2), (fun _ => rfl), (fun h => f1 (upd_ne h (by decide))), (fun h => f2 (upd_ne h (by decide))), (fun h => f3 (upd_ne h (by decide))), (fun h => f4 (upd_ne h (by decide))), (fun h => f5 (upd_ne h (by decide))), (fun h => f6 (upd_ne h (by decide))), (fun h => f7 (upd_ne h (by decide))), (fun h => f8 (upd_ne h (by decide))), (fun h => f9 (upd_ne h (by decide))), (fun h => f10 (upd_ne h (by decide))), (fun h => f11 (upd_ne h (by decide))), (fun h => f12 (upd_ne h (by decide))), (fun h => f13 (upd_ne h (by decide))), (fun h => f14 (upd_ne h (by decide))), (fun h => f15 (upd_ne h (by decide))), (fun h => f16 (upd_ne h (by decide))), (fun h => ⟨(f17 (upd_ne h (by decide))).1, fun h22 => (f17 (upd_ne h (by decide))).2 (by rw [upd_other (by decide)] at h22; exact h22)⟩), (fun h => f18 (upd_ne h (by decide))), (fun h => f19 (upd_ne h (by decide))), (fun h => f20 (upd_ne h (by decide))), (fun h => f21 (upd_ne h (by decide))), (fun h => f22 (upd_ne h (by decide))), (fun h => ⟨upd_mono (f23 (upd_ne h (by decide))).1, (f23 (upd_ne h (by decide))).2⟩)⟩
                  · obtain rfl := Option.some.inj ho
                    have g0 := f0 (hd ⟨0, .data⟩ (by simp) rfl)
                    subst g0
                    obtain ⟨n0, n1⟩ := HC.out ww I2
                    refine wpOp_step rfl (fun K' hK => ?_)
                    go_simp
                    refine hK _ _ ?_
                    exact ⟨_, _, _, _, _, _, _, _, _, _, _, _, _, _, _, _, _, _, _, _, _, _, _, _, rfl, (fun h => I0 (by rw [upd_other (by decide)] at h; exact h)), (fun h => upd_mono (I1 (upd_ne h (by decide)))), (I2), (fun h => f0 (upd_ne h (by decide))), (fun _ => rfl), (fun h => f2 (upd_ne h (by decide))), (fun h => f3 (upd_ne h (by decide))), (fun h => f4 (upd_ne h (by decide))), (fun h => f5 (upd_ne h (by decide))), (fun h => f6 (upd_ne h (by decide))), (fun h => f7 (upd_ne h (by decide))), (fun h => f8 (upd_ne h (by decide))), (fun h => f9 (upd_ne h (by decide))), (fun h => f10 (upd_ne h (by decide))), (fun h => f11 (upd_ne h (by decide))), (fun h => f12 (upd_ne h (by decide))), (fun h => f13 (upd_ne h (by decide))), (fun h => f14 (upd_ne h (by decide))), (fun h => f15 (upd_ne h (by decide))), (fun h => f16 (upd_ne h (by decide))), (fun h => ⟨(f17 (upd_ne h (by decide))).1, fun h22 => (f17 (upd_ne h (by decide))).2 (by rw [upd_other (by decide)] at h22; exact h22)⟩), (fun h => f18 (upd_ne h (by decide))), (fun h => f19 (upd_ne h (by decide))), (fun h => f20 (upd_ne h (by decide))), (fun h => f21 (upd_ne h (by decide))), (fun h => f22 (upd_ne h (by decide))), (fun h => ⟨upd_mono (f23 (upd_ne h (by decide))).1, (f23 (upd_ne h (by decide))).2⟩)⟩
                  · obtain rfl := Option.some.inj ho
                    refine wpOp_step rfl (fun K' hK => ?_)
                    go_simp
                    refine hK _ _ ?_
                    exact ⟨_, _, _, _, _, _, _, _, _, _, _, _, _, _, _, _, _, _, _, _, _, _, _, _, rfl, (fun h => I0 (by rw [upd_other (by decide)] at h; exact h)), (fun h => upd_mono (I1 (upd_ne h (by decide)))), (I2), (fun h => f0 (upd_ne h (by decide))), (fun h => f1 (upd_ne h (by decide))), (fun _ => rfl), (fun h => f3 (upd_ne h (by decide))), (fun h => f4 (upd_ne h (by decide))), (fun h => f5 (upd_ne h (by decide))), (fun h => f6 (upd_ne h (by decide))), (fun h => f7 (upd_ne h (by decide))), (fun h => f8 (upd_ne h (by decide))), (fun h => f9 (upd_ne h (by decide))), (fun h => f10 (upd_ne h (by decide))), (fun h => f11 (upd_ne h (by decide))), (fun h => f12 (upd_ne h (by decide))), (fun h => f13 (upd_ne h (by decide))), (fun h => f14 (upd_ne h (by decide))), (fun h => f15 (upd_ne h (by decide))), (fun h => f16 (upd_ne h (by decide))), (fun h => ⟨(f17 (upd_ne h (by decide))).1, fun h22 => (f17 (upd_ne h (by decide))).2 (by rw [upd_other (by decide)] at h22; exact h22)⟩), (fun h => f18 (upd_ne h (by decide))), (fun h => f19 (upd_ne h (by decide))), (fun h => f20 (upd_ne h (by decide))), (fun h => f21 (upd_ne h (by decide))), (fun h => f22 (upd_ne h (by decide))), (fun h => ⟨upd_mono (f23 (upd_ne h (by decide))).1, (f23 (upd_ne h (by decide))).2⟩)⟩
                  · obtain rfl := Option.some.inj ho
                    have g2 := f2 (hd ⟨2, .data⟩ (by simp) rfl)
                    subst g2
                    obtain ⟨n0, n1⟩ := HC.out ww I2
                    refine wpOp_step rfl (fun K' hK => ?_)
                    go_simp
                    refine hK _ _ ?_
                    exact ⟨_, _, _, _, _, _, _, _, _, _, _, _, _, _, _, _, _, _, _, _, _, _, _, _, rfl, (fun h => I0 (by rw [upd_other (by decide)] at h; exact h)), (fun h => upd_mono (I1 (upd_ne h (by decide)))), (I2), (fun h => f0 (upd_ne h (by decide))), (fun h => f1 (upd_ne h (by decide))), (fun h => f2 (upd_ne h (by decide))), (fun _ => rfl), (fun h => f4 (upd_ne h (by decide))), (fun h => f5 (upd_ne h (by decide))), (fun h => f6 (upd_ne h (by decide))), (fun h => f7 (upd_ne h (by decide))), (fun h => f8 (upd_ne h (by decide))), (fun h => f9 (upd_ne h (by decide))), (fun h => f10 (upd_ne h (by decide))), (fun h => f11 (upd_ne h (by decide))), (fun h => f12 (upd_ne h (by decide))), (fun h => f13 (upd_ne h (by decide))), (fun h => f14 (upd_ne h (by decide))), (fun h => f15 (upd_ne h (by decide))), (fun h => f16 (upd_ne h (by decide))), (fun h => ⟨(f17 (upd_ne h (by decide))).1, fun h22 => (f17 (upd_ne h (by decide))).2 (by rw [upd_other (by decide)] at h22; exact h22)⟩), (fun h => f18 (upd_ne h (by decide))), (fun h => f19 (upd_ne h (by decide))), (fun h => f20 (upd_ne h (by decide))), (fun h => f21 (upd_ne h (by decide))), (fun h => f22 (upd_ne h (by decide))), (fun h => ⟨upd_mono (f23 (upd_ne h (by decide))).1, (f23 (upd_ne h (by decide))).2⟩)⟩
                  · obtain rfl := Option.some.inj ho
                    have g3 := f3 (hd ⟨3, .data⟩ (by simp) rfl)
                    subst g3
                    have hw : IntKind.i64.wrap (d : Int) = d := IntWalk.i64_in _ (by omega)
                    refine wpOp_step rfl (fun K' hK => ?_)
                    go_simp
                    refine hK _ _ ?_
                    clear hw
                    exact ⟨_, _, _, _, _, _, _, _, _, _, _, _, _, _, _, _, _, _, _, _, _, _, _, _, rfl, (fun h => I0 (by rw [upd_other (by decide)] at h; exact h)), (fun h => upd_mono (I1 (upd_ne h (by decide)))), (I2), (fun h => f0 (upd_ne h (by decide))), (fun h => f1 (upd_ne h (by decide))), (fun h => f2 (upd_ne h (by decide))), (fun h => f3 (upd_ne h (by decide))), (fun _ => rfl), (fun h => f5 (upd_ne h (by decide))), (fun h => f6 (upd_ne h (by decide))), (fun h => f7 (upd_ne h (by decide))), (fun h => f8 (upd_ne h (by decide))), (fun h => f9 (upd_ne h (by decide))), (fun h => f10 (upd_ne h (by decide))), (fun h => f11 (upd_ne h (by decide))), (fun h => f12 (upd_ne h (by decide))), (fun h => f13 (upd_ne h (by decide))), (fun h => f14 (upd_ne h (by decide))), (fun h => f15 (upd_ne h (by decide))), (fun h => f16 (upd_ne h (by decide))), (fun h => ⟨(f17 (upd_ne h (by decide))).1, fun h22 => (f17 (upd_ne h (by decide))).2 (by rw [upd_other (by decide)] at h22; exact h22)⟩), (fun h => f18 (upd_ne h (by decide))), (fun h => f19 (upd_ne h (by decide))), (fun h => f20 (upd_ne h (by decide))), (fun h => f21 (upd_ne h (by decide))), (fun h => f22 (upd_ne h (by decide))), (fun h => ⟨upd_mono (f23 (upd_ne h (by decide))).1, (f23 (upd_ne h (by decide))).2⟩)⟩
                  · obtain rfl := Option.some.inj ho
                    have g1 := f1 (hd ⟨1, .data⟩ (by simp) rfl)
                    have g4 := f4 (hd ⟨4, .data⟩ (by simp) rfl)
                    subst g1
                    subst g4
                    refine wpOp_step rfl (fun K' hK => ?_)
                    go_simp
                    refine hK _ _ ?_
                    exact ⟨_, _, _, _, _, _, _, _, _, _, _, _, _, _, _, _, _, _, _, _, _, _, _, _, rfl, (fun h => I0 (by rw [upd_other (by decide)] at h; exact h)), (fun h => upd_mono (I1 (upd_ne h (by decide)))), (I2), (fun h => f0 (upd_ne h (by decide))), (fun h => f1 (upd_ne h (by decide))), (fun h => f2 (upd_ne h (by decide))), (fun h => f3 (upd_ne h (by decide))), (fun h => f4 (upd_ne h (by decide))), (fun _ => rfl), (fun h => f6 (upd_ne h (by decide))), (fun h => f7 (upd_ne h (by decide))), (fun h => f8 (upd_ne h (by decide))), (fun h => f9 (upd_ne h (by decide))), (fun h => f10 (upd_ne h (by decide))), (fun h => f11 (upd_ne h (by decide))), (fun h => f12 (upd_ne h (by decide))), (fun h => f13 (upd_ne h (by decide))), (fun h => f14 (upd_ne h (by decide))), (fun h => f15 (upd_ne h (by decide))), (fun h => f16 (upd_ne h (by decide))), (fun h => ⟨(f17 (upd_ne h (by decide))).1, fun h22 => (f17 (upd_ne h (by decide))).2 (by rw [upd_other (by decide)] at h22; exact h22)⟩), (fun h => f18 (upd_ne h (by decide))), (fun h => f19 (upd_ne h (by decide))), (fun h => f20 (upd_ne h (by decide))), (fun h => f21 (upd_ne h (by decide))), (fun h => f22 (upd_ne h (by decide))), (fun h => ⟨upd_mono (f23 (upd_ne h (by decide))).1, (f23 (upd_ne h (by decide))).2⟩)⟩
                  · obtain rfl := Option.some.inj ho
                    refine wpOp_step rfl (fun K' hK => ?_)
                    go_simp
                    refine hK _ _ ?_
                    exact ⟨_, _, _, _, _, _, _, _, _, _, _, _, _, _, _, _, _, _, _, _, _, _, _, _, rfl, (fun h => I0 (by rw [upd_other (by decide)] at h; exact h)), (fun h => upd_mono (I1 (upd_ne h (by decide)))), (I2), (fun h => f0 (upd_ne h (by decide))), (fun h => f1 (upd_ne h (by decide))), (fun h => f2 (upd_ne h (by decide))), (fun h => f3 (upd_ne h (by decide))), (fun h => f4 (upd_ne h (by decide))), (fun h => f5 (upd_ne h (by decide))), (fun _ => rfl), (fun h => f7 (upd_ne h (by decide))), (fun h => f8 (upd_ne h (by decide))), (fun h => f9 (upd_ne h (by decide))), (fun h => f10 (upd_ne h (by decide))), (fun h => f11 (upd_ne h (by decide))), (fun h => f12 (upd_ne h (by decide))), (fun h => f13 (upd_ne h (by decide))), (fun h => f14 (upd_ne h (by decide))), (fun h => f15 (upd_ne h (by decide))), (fun h => f16 (upd_ne h (by decide))), (fun h => ⟨(f17 (upd_ne h (by decide))).1, fun h22 => (f17 (upd_ne h (by decide))).2 (by rw [upd_other (by decide)] at h22; exact h22)⟩), (fun h => f18 (upd_ne h (by decide))), (fun h => f19 (upd_ne h (by decide))), (fun h => f20 (upd_ne h (by decide))), (fun h => f21 (upd_ne h (by decide))), (fun h => f22 (upd_ne h (by decide))), (fun h => ⟨upd_mono (f23 (upd_ne h (by decide))).1, (f23 (upd_ne h (by decide))).2⟩)⟩
                  · obtain rfl := Option.some.inj ho
                    have g6 := f6 (hd ⟨6, .data⟩ (by simp) rfl)
                    subst g6
                    obtain ⟨n0, n1⟩ := HC.out ww I2
                    refine wpOp_step rfl (fun K' hK => ?_)
                    go_simp
                    refine hK _ _ ?_
                    exact ⟨_, _, _, _, _, _, _, _, _, _, _, _, _, _, _, _, _, _, _, _, _, _, _, _, rfl, (fun h => I0 (by rw [upd_other (by decide)] at h; exact h)), (fun h => upd_mono (I1 (upd_ne h (by decide)))), (I2), (fun h => f0 (upd_ne h (by decide))), (fun h => f1 (upd_ne h (by decide))), (fun h => f2 (upd_ne h (by decide))), (fun h => f3 (upd_ne h (by decide))), (fun h => f4 (upd_ne h (by decide))), (fun h => f5 (upd_ne h (by decide))), (fun h => f6 (upd_ne h (by decide))), (fun _ => rfl), (fun h => f8 (upd_ne h (by decide))), (fun h => f9 (upd_ne h (by decide))), (fun h => f10 (upd_ne h (by decide))), (fun h => f11 (upd_ne h (by decide))), (fun h => f12 (upd_ne h (by decide))), (fun h => f13 (upd_ne h (by decide))), (fun h => f14 (upd_ne h (by decide))), (fun h => f15 (upd_ne h (by decide))), (fun h => f16 (upd_ne h (by decide))), (fun h => ⟨(f17 (upd_ne h (by decide))).1, fun h22 => (f17 (upd_ne h (by decide))).2 (by rw [upd_other (by decide)] at h22; exact h22)⟩), (fun h => f18 (upd_ne h (by decide))), (fun h => f19 (upd_ne h (by decide))), (fun h => f20 (upd_ne h (by decide))), (fun h => f21 (upd_ne h (by decide))), (fun h => f22 (upd_ne h (by decide))), (fun h => ⟨upd_mono (f23 (upd_ne h (by decide))).1, (f23 (upd_ne h (by decide))).2⟩)⟩
                  · obtain rfl := Option.some.inj ho
                    refine wpOp_step rfl (fun K' hK => ?_)
                    go_simp
                    refine hK _ _ ?_
                    exact ⟨_, _, _, _, _, _, _, _, _, _, _, _, _, _, _, _, _, _, _, _, _, _, _, _, rfl, (fun h => I0 (by rw [upd_other (by decide)] at h; exact h)), (fun h => upd_mono (I1 (upd_ne h (by decide)))), (I2), (fun h => f0 (upd_ne h (by decide))), (fun h => f1 (upd_ne h (by decide))), (fun h => f2 (upd_ne h (by decide))), (fun h => f3 (upd_ne h (by decide))), (fun h => f4 (upd_ne h (by decide))), (fun h => f5 (upd_ne h (by decide))), (fun h => f6 (upd_ne h (by decide))), (fun h => f7 (upd_ne h (by decide))), (fun _ => rfl), (fun h => f9 (upd_ne h (by decide))), (fun h => f10 (upd_ne h (by decide))), (fun h => f11 (upd_ne h (by decide))), (fun h => f12 (upd_ne h (by decide))), (fun h => f13 (upd_ne h (by decide))), (fun h => f14 (upd_ne h (by decide))), (fun h => f15 (upd_ne h (by decide))), (fun h => f16 (upd_ne h (by decide))), (fun h => ⟨(f17 (upd_ne h (by decide))).1, fun h22 => (f17 (upd_ne h (by decide))).2 (by rw [upd_other (by decide)] at h22; exact h22)⟩), (fun h => f18 (upd_ne h (by decide))), (fun h => f19 (upd_ne h (by decide))), (fun h => f20 (upd_ne h (by decide))), (fun h => f21 (upd_ne h (by decide))), (fun h => f22 (upd_ne h (by decide))), (fun h => ⟨upd_mono (f23 (upd_ne h (by decide))).1, (f23 (upd_ne h (by decide))).2⟩)⟩
                  · obtain rfl := Option.some.inj ho
                    have g8 := f8 (hd ⟨8, .data⟩ (by simp) rfl)
                    subst g8
                    obtain ⟨n0, n1⟩ := HC.out ww I2
                    refine wpOp_step rfl (fun K' hK => ?_)
                    go_simp
                    refine hK _ _ ?_
                    exact ⟨_, _, _, _, _, _, _, _, _, _, _, _, _, _, _, _, _, _, _, _, _, _, _, _, rfl, (fun h => I0 (by rw [upd_other (by decide)] at h; exact h)), (fun h => upd_mono (I1 (upd_ne h (by decide)))), (I2), (fun h => f0 (upd_ne h (by decide))), (fun h => f1 (upd_ne h (by decide))), (fun h => f2 (upd_ne h (by decide))), (fun h => f3 (upd_ne h (by decide))), (fun h => f4 (upd_ne h (by decide))), (fun h => f5 (upd_ne h (by decide))), (fun h => f6 (upd_ne h (by decide))), (fun h => f7 (upd_ne h (by decide))), (fun h => f8 (upd_ne h (by decide))), (fun _ => rfl), (fun h => f10 (upd_ne h (by decide))), (fun h => f11 (upd_ne h (by decide))), (fun h => f12 (upd_ne h (by decide))), (fun h => f13 (upd_ne h (by decide))), (fun h => f14 (upd_ne h (by decide))), (fun h => f15 (upd_ne h (by decide))), (fun h => f16 (upd_ne h (by decide))), (fun h => ⟨(f17 (upd_ne h (by decide))).1, fun h22 => (f17 (upd_ne h (by decide))).2 (by rw [upd_other (by decide)] at h22; exact h22)⟩), (fun h => f18 (upd_ne h (by decide))), (fun h => f19 (upd_ne h (by decide))), (fun h => f20 (upd_ne h (by decide))), (fun h => f21 (upd_ne h (by decide))), (fun h => f22 (upd_ne h (by decide))), (fun h => ⟨upd_mono (f23 (upd_ne h (by decide))).1, (f23 (upd_ne h (by decide))).2⟩)⟩
                  · obtain rfl := Option.some.inj ho
                    have g9 := f9 (hd ⟨9, .data⟩ (by simp) rfl)
                    subst g9
                    have hw : IntKind.i64.wrap (d : Int) = d := IntWalk.i64_in _ (by omega)
                    refine wpOp_step rfl (fun K' hK => ?_)
                    go_simp
                    refine hK _ _ ?_
                    clear hw
                    exact ⟨_, _, _, _, _, _, _, _, _, _, _, _, _, _, _, _, _, _, _, _, _, _, _, _, rfl, (fun h => I0 (by rw [upd_other (by decide)] at h; exact h)), (fun h => upd_mono (I1 (upd_ne h (by decide)))), (I2), (fun h => f0 (upd_ne h (by decide))), (fun h => f1 (upd_ne h (by decide))), (fun h => f2 (upd_ne h (by decide))), (fun h => f3 (upd_ne h (by decide))), (fun h => f4 (upd_ne h (by decide))), (fun h => f5 (upd_ne h (by decide))), (fun h => f6 (upd_ne h (by decide))), (fun h => f7 (upd_ne h (by decide))), (fun h => f8 (upd_ne h (by decide))), (fun h => f9 (upd_ne h (by decide))), (fun _ => rfl), (fun h => f11 (upd_ne h (by decide))), (fun h => f12 (upd_ne h (by decide))), (fun h => f13 (upd_ne h (by decide))), (fun h => f14 (upd_ne h (by decide))), (fun h => f15 (upd_ne h (by decide))), (fun h => f16 (upd_ne h (by decide))), (fun h => ⟨(f17 (upd_ne h (by decide))).1, fun h22 => (f17 (upd_ne h (by decide))).2 (by rw [upd_other (by decide)] at h22; exact h22)⟩), (fun h => f18 (upd_ne h (by decide))), (fun h => f19 (upd_ne h (by decide))), (fun h => f20 (upd_ne h (by decide))), (fun h => f21 (upd_ne h (by decide))), (fun h => f22 (upd_ne h (by decide))), (fun h => ⟨upd_mono (f23 (upd_ne h (by decide))).1, (f23 (upd_ne h (by decide))).2⟩)⟩
                  · obtain rfl := Option.some.inj ho
                    have g10 := f10 (hd ⟨10, .data⟩ (by simp) rfl)
                    subst g10
                    obtain ⟨w1, w2⟩ := wrap_pow hd8
                    have hneg : ¬ ((d : Int) < 0) := by omega
                    refine wpOp_step rfl (fun K' hK => ?_)
                    go_simp
                    refine hK _ _ ?_
                    clear w1 w2
                    exact ⟨_, _, _, _, _, _, _, _, _, _, _, _, _, _, _, _, _, _, _, _, _, _, _, _, rfl, (fun h => I0 (by rw [upd_other (by decide)] at h; exact h)), (fun h => upd_mono (I1 (upd_ne h (by decide)))), (I2), (fun h => f0 (upd_ne h (by decide))), (fun h => f1 (upd_ne h (by decide))), (fun h => f2 (upd_ne h (by decide))), (fun h => f3 (upd_ne h (by decide))), (fun h => f4 (upd_ne h (by decide))), (fun h => f5 (upd_ne h (by decide))), (fun h => f6 (upd_ne h (by decide))), (fun h => f7 (upd_ne h (by decide))), (fun h => f8 (upd_ne h (by decide))), (fun h => f9 (upd_ne h (by decide))), (fun h => f10 (upd_ne h (by decide))), (fun _ => rfl), (fun h => f12 (upd_ne h (by decide))), (fun h => f13 (upd_ne h (by decide))), (fun h => f14 (upd_ne h (by decide))), (fun h => f15 (upd_ne h (by decide))), (fun h => f16 (upd_ne h (by decide))), (fun h => ⟨(f17 (upd_ne h (by decide))).1, fun h22 => (f17 (upd_ne h (by decide))).2 (by rw [upd_other (by decide)] at h22; exact h22)⟩), (fun h => f18 (upd_ne h (by decide))), (fun h => f19 (upd_ne h (by decide))), (fun h => f20 (upd_ne h (by decide))), (fun h => f21 (upd_ne h (by decide))), (fun h => f22 (upd_ne h (by decide))), (fun h => ⟨upd_mono (f23 (upd_ne h (by decide))).1, (f23 (upd_ne h (by decide))).2⟩)⟩
                  · obtain rfl := Option.some.inj ho
                    have g7 := f7 (hd ⟨7, .data⟩ (by simp) rfl)
                    have g11 := f11 (hd ⟨11, .data⟩ (by simp) rfl)
                    subst g7
                    subst g11
                    have hw : IntKind.i64.wrap ((xs' : Int) + 2 ^ d) = ((xs' : Int) + 2 ^ d) := IntWalk.i64_in _ (by omega)
                    refine wpOp_step rfl (fun K' hK => ?_)
                    go_simp
                    refine hK _ _ ?_
                    clear hw
                    exact ⟨_, _, _, _, _, _, _, _, _, _, _, _, _, _, _, _, _, _, _, _, _, _, _, _, rfl, (fun h => I0 (by rw [upd_other (by decide)] at h; exact h)), (fun h => upd_mono (I1 (upd_ne h (by decide)))), (I2), (fun h => f0 (upd_ne h (by decide))), (fun h => f1 (upd_ne h (by decide))), (fun h => f2 (upd_ne h (by decide))), (fun h => f3 (upd_ne h (by decide))), (fun h => f4 (upd_ne h (by decide))), (fun h => f5 (upd_ne h (by decide))), (fun h => f6 (upd_ne h (by decide))), (fun h => f7 (upd_ne h (by decide))), (fun h => f8 (upd_ne h (by decide))), (fun h => f9 (upd_ne h (by decide))), (fun h => f10 (upd_ne h (by decide))), (fun h => f11 (upd_ne h (by decide))), (fun _ => rfl), (fun h => f13 (upd_ne h (by decide))), (fun h => f14 (upd_ne h (by decide))), (fun h => f15 (upd_ne h (by decide))), (fun h => f16 (upd_ne h (by decide))), (fun h => ⟨(f17 (upd_ne h (by decide))).1, fun h22 => (f17 (upd_ne h (by decide))).2 (by rw [upd_other (by decide)] at h22; exact h22)⟩), (fun h => f18 (upd_ne h (by decide))), (fun h => f19 (upd_ne h (by decide))), (fun h => f20 (upd_ne h (by decide))), (fun h => f21 (upd_ne h (by decide))), (fun h => f22 (upd_ne h (by decide))), (fun h => ⟨upd_mono (f23 (upd_ne h (by decide))).1, (f23 (upd_ne h (by decide))).2⟩)⟩
                  · obtain rfl := Option.some.inj ho
                    refine wpOp_step rfl (fun K' hK => ?_)
                    go_simp
                    refine hK _ _ ?_
                    exact ⟨_, _, _, _, _, _, _, _, _, _, _, _, _, _, _, _, _, _, _, _, _, _, _, _, rfl, (fun h => I0 (by rw [upd_other (by decide)] at h; exact h)), (fun h => upd_mono (I1 (upd_ne h (by decide)))), (I2), (fun h => f0 (upd_ne h (by decide))), (fun h => f1 (upd_ne h (by decide))), (fun h => f2 (upd_ne h (by decide))), (fun h => f3 (upd_ne h (by decide))), (fun h => f4 (upd_ne h (by decide))), (fun h => f5 (upd_ne h (by decide))), (fun h => f6 (upd_ne h (by decide))), (fun h => f7 (upd_ne h (by decide))), (fun h => f8 (upd_ne h (by decide))), (fun h => f9 (upd_ne h (by decide))), (fun h => f10 (upd_ne h (by decide))), (fun h => f11 (upd_ne h (by decide))), (fun h => f12 (upd_ne h (by decide))), (fun _ => rfl), (fun h => f14 (upd_ne h (by decide))), (fun h => f15 (upd_ne h (by decide))), (fun h => f16 (upd_ne h (by decide))), (fun h => ⟨(f17 (upd_ne h (by decide))).1, fun h22 => (f17 (upd_ne h (by decide))).2 (by rw [upd_other (by decide)] at h22; exact h22)⟩), (fun h => f18 (upd_ne h (by decide))), (fun h => f19 (upd_ne h (by decide))), (fun h => f20 (upd_ne h (by decide))), (fun h => f21 (upd_ne h (by decide))), (fun h => f22 (upd_ne h (by decide))), (fun h => ⟨upd_mono (f23 (upd_ne h (by decide))).1, (f23 (upd_ne h (by decide))).2⟩)⟩
                  · obtain rfl := Option.some.inj ho
                    have g13 := f13 (hd ⟨13, .data⟩ (by simp) rfl)
                    subst g13
                    obtain ⟨n0, n1⟩ := HC.out ww I2
                    refine wpOp_step rfl (fun K' hK => ?_)
                    go_simp
                    refine hK _ _ ?_
                    exact ⟨_, _, _, _, _, _, _, _, _, _, _, _, _, _, _, _, _, _, _, _, _, _, _, _, rfl, (fun h => I0 (by rw [upd_other (by decide)] at h; exact h)), (fun h => upd_mono (I1 (upd_ne h (by decide)))), (I2), (fun h => f0 (upd_ne h (by decide))), (fun h => f1 (upd_ne h (by decide))), (fun h => f2 (upd_ne h (by decide))), (fun h => f3 (upd_ne h (by decide))), (fun h => f4 (upd_ne h (by decide))), (fun h => f5 (upd_ne h (by decide))), (fun h => f6 (upd_ne h (by decide))), (fun h => f7 (upd_ne h (by decide))), (fun h => f8 (upd_ne h (by decide))), (fun h => f9 (upd_ne h (by decide))), (fun h => f10 (upd_ne h (by decide))), (fun h => f11 (upd_ne h (by decide))), (fun h => f12 (upd_ne h (by decide))), (fun h => f13 (upd_ne h (by decide))), (fun _ => rfl), (fun h => f15 (upd_ne h (by decide))), (fun h => f16 (upd_ne h (by decide))), (fun h => ⟨(f17 (upd_ne h (by decide))).1, fun h22 => (f17 (upd_ne h (by decide))).2 (by rw [upd_other (by decide)] at h22; exact h22)⟩), (fun h => f18 (upd_ne h (by decide))), (fun h => f19 (upd_ne h (by decide))), (fun h => f20 (upd_ne h (by decide))), (fun h => f21 (upd_ne h (by decide))), (fun h => f22 (upd_ne h (by decide))), (fun h => ⟨upd_mono (f23 (upd_ne h (by decide))).1, (f23 (upd_ne h (by decide))).2⟩)⟩
                  · obtain rfl := Option.some.inj ho
                    have g14 := f14 (hd ⟨14, .data⟩ (by simp) rfl)
                    subst g14
                    have hw : IntKind.i64.wrap (d : Int) = d := IntWalk.i64_in _ (by omega)
                    refine wpOp_step rfl (fun K' hK => ?_)
                    go_simp
                    refine hK _ _ ?_
                    clear hw
                    exact ⟨_, _, _, _, _, _, _, _, _, _, _, _, _, _, _, _, _, _, _, _, _, _, _, _, rfl, (fun h => I0 (by rw [upd_other (by decide)] at h; exact h)), (fun h => upd_mono (I1 (upd_ne h (by decide)))), (I2), (fun h => f0 (upd_ne h (by decide))), (fun h => f1 (upd_ne h (by decide))), (fun h => f2 (upd_ne h (by decide))), (fun h => f3 (upd_ne h (by decide))), (fun h => f4 (upd_ne h (by decide))), (fun h => f5 (upd_ne h (by decide))), (fun h => f6 (upd_ne h (by decide))), (fun h => f7 (upd_ne h (by decide))), (fun h => f8 (upd_ne h (by decide))), (fun h => f9 (upd_ne h (by decide))), (fun h => f10 (upd_ne h (by decide))), (fun h => f11 (upd_ne h (by decide))), (fun h => f12 (upd_ne h (by decide))), (fun h => f13 (upd_ne h (by decide))), (fun h => f14 (upd_ne h (by decide))), (fun _ => rfl), (fun h => f16 (upd_ne h (by decide))), (fun h => ⟨(f17 (upd_ne h (by decide))).1, fun h22 => (f17 (upd_ne h (by decide))).2 (by rw [upd_other (by decide)] at h22; exact h22)⟩), (fun h => f18 (upd_ne h (by decide))), (fun h => f19 (upd_ne h (by decide))), (fun h => f20 (upd_ne h (by decide))), (fun h => f21 (upd_ne h (by decide))), (fun h => f22 (upd_ne h (by decide))), (fun h => ⟨upd_mono (f23 (upd_ne h (by decide))).1, (f23 (upd_ne h (by decide))).2⟩)⟩
                  · obtain rfl := Option.some.inj ho
                    have g12 := f12 (hd ⟨12, .data⟩ (by simp) rfl)
                    have g15 := f15 (hd ⟨15, .data⟩ (by simp) rfl)
                    subst g12
                    subst g15
                    refine wpOp_step rfl (fun K' hK => ?_)
                    go_simp
                    refine hK _ _ ?_
                    exact ⟨_, _, _, _, _, _, _, _, _, _, _, _, _, _, _, _, _, _, _, _, _, _, _, _, rfl, (fun h => I0 (by rw [upd_other (by decide)] at h; exact h)), (fun h => upd_mono (I1 (upd_ne h (by decide)))), (I2), (fun h => f0 (upd_ne h (by decide))), (fun h => f1 (upd_ne h (by decide))), (fun h => f2 (upd_ne h (by decide))), (fun h => f3 (upd_ne h (by decide))), (fun h => f4 (upd_ne h (by decide))), (fun h => f5 (upd_ne h (by decide))), (fun h => f6 (upd_ne h (by decide))), (fun h => f7 (upd_ne h (by decide))), (fun h => f8 (upd_ne h (by decide))), (fun h => f9 (upd_ne h (by decide))), (fun h => f10 (upd_ne h (by decide))), (fun h => f11 (upd_ne h (by decide))), (fun h => f12 (upd_ne h (by decide))), (fun h => f13 (upd_ne h (by decide))), (fun h => f14 (upd_ne h (by decide))), (fun h => f15 (upd_ne h (by decide))), (fun _ => rfl), (fun h => ⟨(f17 (upd_ne h (by decide))).1, fun h22 => (f17 (upd_ne h (by decide))).2 (by rw [upd_other (by decide)] at h22; exact h22)⟩), (fun h => f18 (upd_ne h (by decide))), (fun h => f19 (upd_ne h (by decide))), (fun h => f20 (upd_ne h (by decide))), (fun h => f21 (upd_ne h (by decide))), (fun h => f22 (upd_ne h (by decide))), (fun h => ⟨upd_mono (f23 (upd_ne h (by decide))).1, (f23 (upd_ne h (by decide))).2⟩)⟩
                  · obtain rfl := Option.some.inj ho
                    have g5 := f5 (hd ⟨5, .data⟩ (by simp) rfl)
                    have g16 := f16 (hd ⟨16, .data⟩ (by simp) rfl)
                    subst g5
                    subst g16
                    have hw0 := I0 hL
                    subst hw0
                    refine wpOp_step rfl (fun K' hK => ?_)
                    go_simp
                    refine hK _ _ ?_
                    exact ⟨_, _, _, _, _, _, _, _, _, _, _, _, _, _, _, _, _, _, _, _, _, _, _, _, rfl, (fun h => absurd (upd_self.symm.trans h) (by decide)), (fun _ => upd_self), ((Below.refl _ _).alloc (Nat.le_refl _) _), (fun h => f0 (upd_ne h (by decide))), (fun h => f1 (upd_ne h (by decide))), (fun h => f2 (upd_ne h (by decide))), (fun h => f3 (upd_ne h (by decide))), (fun h => f4 (upd_ne h (by decide))), (fun h => f5 (upd_ne h (by decide))), (fun h => f6 (upd_ne h (by decide))), (fun h => f7 (upd_ne h (by decide))), (fun h => f8 (upd_ne h (by decide))), (fun h => f9 (upd_ne h (by decide))), (fun h => f10 (upd_ne h (by decide))), (fun h => f11 (upd_ne h (by decide))), (fun h => f12 (upd_ne h (by decide))), (fun h => f13 (upd_ne h (by decide))), (fun h => f14 (upd_ne h (by decide))), (fun h => f15 (upd_ne h (by decide))), (fun h => f16 (upd_ne h (by decide))), (fun _ => ⟨rfl, fun _ => rfl⟩), (fun h => f18 (upd_ne h (by decide))), (fun h => f19 (upd_ne h (by decide))), (fun h => f20 (upd_ne h (by decide))), (fun h => f21 (upd_ne h (by decide))), (fun h => absurd ((I1 (upd_ne h (by decide))).symm.trans hL) (by decide)), (fun h => ⟨upd_mono (f23 (upd_ne h (by decide))).1, (f23 (upd_ne h (by decide))).2⟩)⟩
                  · obtain rfl := Option.some.inj ho
                    refine wpOp_step rfl (fun K' hK => ?_)
                    go_simp
                    refine hK _ _ ?_
                    exact ⟨_, _, _, _, _, _, _, _, _, _, _, _, _, _, _, _, _, _, _, _, _, _, _, _, rfl, (fun h => I0 (by rw [upd_other (by decide)] at h; exact h)), (fun h => upd_mono (I1 (upd_ne h (by decide)))), (I2), (fun h => f0 (upd_ne h (by decide))), (fun h => f1 (upd_ne h (by decide))), (fun h => f2 (upd_ne h (by decide))), (fun h => f3 (upd_ne h (by decide))), (fun h => f4 (upd_ne h (by decide))), (fun h => f5 (upd_ne h (by decide))), (fun h => f6 (upd_ne h (by decide))), (fun h => f7 (upd_ne h (by decide))), (fun h => f8 (upd_ne h (by decide))), (fun h => f9 (upd_ne h (by decide))), (fun h => f10 (upd_ne h (by decide))), (fun h => f11 (upd_ne h (by decide))), (fun h => f12 (upd_ne h (by decide))), (fun h => f13 (upd_ne h (by decide))), (fun h => f14 (upd_ne h (by decide))), (fun h => f15 (upd_ne h (by decide))), (fun h => f16 (upd_ne h (by decide))), (fun h => ⟨(f17 (upd_ne h (by decide))).1, fun h22 => (f17 (upd_ne h (by decide))).2 (by rw [upd_other (by decide)] at h22; exact h22)⟩), (fun _ => rfl), (fun h => f19 (upd_ne h (by decide))), (fun h => f20 (upd_ne h (by decide))), (fun h => f21 (upd_ne h (by decide))), (fun h => f22 (upd_ne h (by decide))), (fun h => ⟨upd_mono (f23 (upd_ne h (by decide))).1, (f23 (upd_ne h (by decide))).2⟩)⟩
                  · obtain rfl := Option.some.inj ho
                    refine wpOp_step rfl (fun K' hK => ?_)
                    go_simp
                    refine hK _ _ ?_
                    exact ⟨_, _, _, _, _, _, _, _, _, _, _, _, _, _, _, _, _, _, _, _, _, _, _, _, rfl, (fun h => I0 (by rw [upd_other (by decide)] at h; exact h)), (fun h => upd_mono (I1 (upd_ne h (by decide)))), (I2), (fun h => f0 (upd_ne h (by decide))), (fun h => f1 (upd_ne h (by decide))), (fun h => f2 (upd_ne h (by decide))), (fun h => f3 (upd_ne h (by decide))), (fun h => f4 (upd_ne h (by decide))), (fun h => f5 (upd_ne h (by decide))), (fun h => f6 (upd_ne h (by decide))), (fun h => f7 (upd_ne h (by decide))), (fun h => f8 (upd_ne h (by decide))), (fun h => f9 (upd_ne h (by decide))), (fun h => f10 (upd_ne h (by decide))), (fun h => f11 (upd_ne h (by decide))), (fun h => f12 (upd_ne h (by decide))), (fun h => f13 (upd_ne h (by decide))), (fun h => f14 (upd_ne h (by decide))), (fun h => f15 (upd_ne h (by decide))), (fun h => f16 (upd_ne h (by decide))), (fun h => ⟨(f17 (upd_ne h (by decide))).1, fun h22 => (f17 (upd_ne h (by decide))).2 (by rw [upd_other (by decide)] at h22; exact h22)⟩), (fun h => f18 (upd_ne h (by decide))), (fun _ => rfl), (fun h => f20 (upd_ne h (by decide))), (fun h => f21 (upd_ne h (by decide))), (fun h => f22 (upd_ne h (by decide))), (fun h => ⟨upd_mono (f23 (upd_ne h (by decide))).1, (f23 (upd_ne h (by decide))).2⟩)⟩
                  · obtain rfl := Option.some.inj ho
                    have g19 := f19 (hd ⟨19, .data⟩ (by simp) rfl)
                    subst g19
                    have hw : IntKind.i64.wrap ((j : Int) + 1) = (j : Int) + 1 := IntWalk.i64_in _ (by omega)
                    refine wpOp_step rfl (fun K' hK => ?_)
                    go_simp
                    refine hK _ _ ?_
                    clear hw
                    exact ⟨_, _, _, _, _, _, _, _, _, _, _, _, _, _, _, _, _, _, _, _, _, _, _, _, rfl, (fun h => I0 (by rw [upd_other (by decide)] at h; exact h)), (fun h => upd_mono (I1 (upd_ne h (by decide)))), (I2), (fun h => f0 (upd_ne h (by decide))), (fun h => f1 (upd_ne h (by decide))), (fun h => f2 (upd_ne h (by decide))), (fun h => f3 (upd_ne h (by decide))), (fun h => f4 (upd_ne h (by decide))), (fun h => f5 (upd_ne h (by decide))), (fun h => f6 (upd_ne h (by decide))), (fun h => f7 (upd_ne h (by decide))), (fun h => f8 (upd_ne h (by decide))), (fun h => f9 (upd_ne h (by decide))), (fun h => f10 (upd_ne h (by decide))), (fun h => f11 (upd_ne h (by decide))), (fun h => f12 (upd_ne h (by decide))), (fun h => f13 (upd_ne h (by decide))), (fun h => f14 (upd_ne h (by decide))), (fun h => f15 (upd_ne h (by decide))), (fun h => f16 (upd_ne h (by decide))), (fun h => ⟨(f17 (upd_ne h (by decide))).1, fun h22 => (f17 (upd_ne h (by decide))).2 (by rw [upd_other (by decide)] at h22; exact h22)⟩), (fun h => f18 (upd_ne h (by decide))), (fun h => f19 (upd_ne h (by decide))), (fun _ => rfl), (fun h => f21 (upd_ne h (by decide))), (fun h => f22 (upd_ne h (by decide))), (fun h => ⟨upd_mono (f23 (upd_ne h (by decide))).1, (f23 (upd_ne h (by decide))).2⟩)⟩
                  · obtain rfl := Option.some.inj ho
                    have g18 := f18 (hd ⟨18, .data⟩ (by simp) rfl)
                    have g20 := f20 (hd ⟨20, .data⟩ (by simp) rfl)
                    subst g18
                    subst g20
                    refine wpOp_step rfl (fun K' hK => ?_)
                    go_simp
                    refine hK _ _ ?_
                    exact ⟨_, _, _, _, _, _, _, _, _, _, _, _, _, _, _, _, _, _, _, _, _, _, _, _, rfl, (fun h => I0 (by rw [upd_other (by decide)] at h; exact h)), (fun h => upd_mono (I1 (upd_ne h (by decide)))), (I2), (fun h => f0 (upd_ne h (by decide))), (fun h => f1 (upd_ne h (by decide))), (fun h => f2 (upd_ne h (by decide))), (fun h => f3 (upd_ne h (by decide))), (fun h => f4 (upd_ne h (by decide))), (fun h => f5 (upd_ne h (by decide))), (fun h => f6 (upd_ne h (by decide))), (fun h => f7 (upd_ne h (by decide))), (fun h => f8 (upd_ne h (by decide))), (fun h => f9 (upd_ne h (by decide))), (fun h => f10 (upd_ne h (by decide))), (fun h => f11 (upd_ne h (by decide))), (fun h => f12 (upd_ne h (by decide))), (fun h => f13 (upd_ne h (by decide))), (fun h => f14 (upd_ne h (by decide))), (fun h => f15 (upd_ne h (by decide))), (fun h => f16 (upd_ne h (by decide))), (fun h => ⟨(f17 (upd_ne h (by decide))).1, fun h22 => (f17 (upd_ne h (by decide))).2 (by rw [upd_other (by decide)] at h22; exact h22)⟩), (fun h => f18 (upd_ne h (by decide))), (fun h => f19 (upd_ne h (by decide))), (fun h => f20 (upd_ne h (by decide))), (fun _ => rfl), (fun h => f22 (upd_ne h (by decide))), (fun h => ⟨upd_mono (f23 (upd_ne h (by decide))).1, (f23 (upd_ne h (by decide))).2⟩)⟩
                  · obtain rfl := Option.some.inj ho
                    have g17 := f17 (hd ⟨17, .data⟩ (by simp) rfl)
                    have g21 := f21 (hd ⟨21, .data⟩ (by simp) rfl)
                    subst g21
                    obtain ⟨rfl, e17⟩ := g17
                    have hw0 := e17 hL
                    subst hw0
                    refine wpOp_step rfl (fun K' hK => ?_)
                    refine app_stepY (.tmp 91) (.tmp 95) rfl W0.heap.size _ [(⟨xs', d, false⟩ : Bl), ⟨((xs' : Int) + 2 ^ d), d, false⟩] rfl HO2.out (some ⟨g, (j + 1) * 3, none⟩) (xs.length - (j + 1)) (c - (j + 1)) W0.heap.size (xs.drop (j + 1)) rfl (HTL.out _ I2) (by simp <;> omega) I2.size ?_
                    intro v' w' o1 g1 s1
                    refine hK _ _ ?_
                    exact ⟨_, _, _, _, _, _, _, _, _, _, _, _, _, _, _, _, _, _, _, _, _, _, _, _, rfl, (fun h => absurd ((upd_other (by decide)).symm.trans h) (by rw [hd ⟨17, .data⟩ (by simp) rfl]; decide)), (fun _ => upd_mono (hd ⟨17, .data⟩ (by simp) rfl)), (I2.grown g1 I2.size (fun k hk => (World.ownsRow.lt HO2.out k hk).1)), (fun h => f0 (upd_ne h (by decide))), (fun h => f1 (upd_ne h (by decide))), (fun h => f2 (upd_ne h (by decide))), (fun h => f3 (upd_ne h (by decide))), (fun h => f4 (upd_ne h (by decide))), (fun h => f5 (upd_ne h (by decide))), (fun h => f6 (upd_ne h (by decide))), (fun h => f7 (upd_ne h (by decide))), (fun h => f8 (upd_ne h (by decide))), (fun h => f9 (upd_ne h (by decide))), (fun h => f10 (upd_ne h (by decide))), (fun h => f11 (upd_ne h (by decide))), (fun h => f12 (upd_ne h (by decide))), (fun h => f13 (upd_ne h (by decide))), (fun h => f14 (upd_ne h (by decide))), (fun h => f15 (upd_ne h (by decide))), (fun h => f16 (upd_ne h (by decide))), (fun _ => ⟨rfl, fun h => absurd (upd_self.symm.trans h) (by decide)⟩), (fun h => f18 (upd_ne h (by decide))), (fun h => f19 (upd_ne h (by decide))), (fun h => f20 (upd_ne h (by decide))), (fun h => f21 (upd_ne h (by decide))), (fun _ => o1), (fun h => absurd ((f23 (upd_ne h (by decide))).1.symm.trans hL) (by decide))⟩
                  · obtain rfl := Option.some.inj ho
                    have g22 := f22 (hd ⟨22, .data⟩ (by simp) rfl)
                    refine wpOp_step rfl (fun K' hK => ?_)
                    go_simp
                    refine hK _ _ ?_
                    exact ⟨_, _, _, _, _, _, _, _, _, _, _, _, _, _, _, _, _, _, _, _, _, _, _, _, rfl, (fun h => I0 (by rw [upd_other (by decide)] at h; exact h)), (fun h => upd_mono (I1 (upd_ne h (by decide)))), (I2), (fun h => f0 (upd_ne h (by decide))), (fun h => f1 (upd_ne h (by decide))), (fun h => f2 (upd_ne h (by decide))), (fun h => f3 (upd_ne h (by decide))), (fun h => f4 (upd_ne h (by decide))), (fun h => f5 (upd_ne h (by decide))), (fun h => f6 (upd_ne h (by decide))), (fun h => f7 (upd_ne h (by decide))), (fun h => f8 (upd_ne h (by decide))), (fun h => f9 (upd_ne h (by decide))), (fun h => f10 (upd_ne h (by decide))), (fun h => f11 (upd_ne h (by decide))), (fun h => f12 (upd_ne h (by decide))), (fun h => f13 (upd_ne h (by decide))), (fun h => f14 (upd_ne h (by decide))), (fun h => f15 (upd_ne h (by decide))), (fun h => f16 (upd_ne h (by decide))), (fun h => ⟨(f17 (upd_ne h (by decide))).1, fun h22 => (f17 (upd_ne h (by decide))).2 (by rw [upd_other (by decide)] at h22; exact h22)⟩), (fun h => f18 (upd_ne h (by decide))), (fun h => f19 (upd_ne h (by decide))), (fun h => f20 (upd_ne h (by decide))), (fun h => f21 (upd_ne h (by decide))), (fun h => f22 (upd_ne h (by decide))), (fun _ => ⟨upd_mono (hd ⟨22, .data⟩ (by simp) rfl), rfl⟩)⟩
                case hdone =>
                  rintro L ac ww hall ⟨t11, t74, t75, t76, t77, t78, t79, t80, t81, t82, t83, t84, t85, t86, t87, t88, t89, t90, t91, t92, t93, t94, t95, t96, rfl, I0, I1, I2, f0, f1, f2, f3, f4, f5, f6, f7, f8, f9, f10, f11, f12, f13, f14, f15, f16, f17, f18, f19, f20, f21, f22, f23⟩
                  have e0 := f0 (hall 0 (by decide))
                  have e1 := f1 (hall 1 (by decide))
                  have e2 := f2 (hall 2 (by decide))
                  have e3 := f3 (hall 3 (by decide))
                  have e4 := f4 (hall 4 (by decide))
                  have e5 := f5 (hall 5 (by decide))
                  have e6 := f6 (hall 6 (by decide))
                  have e7 := f7 (hall 7 (by decide))
                  have e8 := f8 (hall 8 (by decide))
                  have e9 := f9 (hall 9 (by decide))
                  have e10 := f10 (hall 10 (by decide))
                  have e11 := f11 (hall 11 (by decide))
                  have e12 := f12 (hall 12 (by decide))
                  have e13 := f13 (hall 13 (by decide))
                  have e14 := f14 (hall 14 (by decide))
                  have e15 := f15 (hall 15 (by decide))
                  have e16 := f16 (hall 16 (by decide))
                  have e17 := f17 (hall 17 (by decide))
                  have e18 := f18 (hall 18 (by decide))
                  have e19 := f19 (hall 19 (by decide))
                  have e20 := f20 (hall 20 (by decide))
                  have e21 := f21 (hall 21 (by decide))
                  have e22 := f22 (hall 22 (by decide))
                  have e23 := f23 (hall 23 (by decide))
                  clear f0 f1 f2 f3 f4 f5 f6 f7 f8 f9 f10 f11 f12 f13 f14 f15 f16 f17 f18 f19 f20 f21 f22 f23
                  obtain ⟨_, rfl⟩ := e23
                  obtain ⟨e17, _⟩ := e17
                  subst e0 e1 e2 e3 e4 e5 e6 e7 e8 e9 e10 e11 e12 e13 e14 e15 e16 e18 e19 e20 e21 e17
                  clear I0 I1 v5 v6
                  obtain ⟨A9, c9, rfl, _⟩ := e22.form
                  have hai : AllI ([(⟨xs', d, false⟩ : Bl), ⟨((xs' : Int) + 2 ^ d), d, false⟩] ++ xs.drop (j + 1)) := AllI.append HA2.out (allI_dropY HA.out (j + 1))
                  have R9 := e22.reads hai
                  obtain ⟨m9, hm9⟩ : ∃ m9, ([(⟨xs', d, false⟩ : Bl), ⟨((xs' : Int) + 2 ^ d), d, false⟩] ++ xs.drop (j + 1)).length = m9 := ⟨_, rfl⟩
                  rw [hm9] at R9 ⊢
                  have hm9' : m9 ≤ 300 := by rw [← hm9]; simp <;> omega
                  have o0 := own_noneY ww ww.heap.size (Nat.le_refl _)
                  have bl0 : Below ww.heap.size ww (ww.alloc (.cells #[] 40)) := (Below.refl _ _).alloc (Nat.le_refl _) _
                  have bW6 : Below w6.heap.size w6 ww := b60.trans (I2.mono b60.size)
                  have r0 := ((HR6.out.up bW6).below bl0).take (k := j) (by omega)
                  have hlt : (xs.take j).length = j := by rw [List.length_take]; omega
                  go_wp2_with (first
                    | (at_builtin; refine wpList_appendY rfl (.tmp 97) (.tmp 100) rfl ww.heap.size _ [] rfl o0 (some ⟨g, 0, none⟩) j c ww.heap.size (xs.take j) rfl r0 (by simp <;> omega) (by simp) ?_; intro v8 w8 o8 g8 s8; go_must (have b8 : Below ww.heap.size ww w8 := bl0.grown g8 (by simp) (fun k hk => (World.ownsRow.lt o0 k hk).1)))
                    | (at_builtin; refine wpList_appendY rfl (.tmp 101) (.tmp 102) rfl ww.heap.size v8 _ rfl o8 A9 m9 c9 ww.heap.size ([(⟨xs', d, false⟩ : Bl), ⟨((xs' : Int) + 2 ^ d), d, false⟩] ++ xs.drop (j + 1)) rfl (R9.below b8) (by simp <;> omega) b8.size ?_; intro v9 w9 o9 g9 s9; go_must (have b9 : Below ww.heap.size ww w9 := b8.grown g9 b8.size (fun k hk => (World.ownsRow.lt o8 k hk).1)))
                    | fail)
                  go_ret2
                  have bb9 : Below w6.heap.size w6 w9 := bW6.trans (b9.mono bW6.size)
                  refine ⟨_, _, p, rfl, o9.base (Nat.le_trans hxs6 bW6.size), ?_, ?_, ?_, by omega, by omega, (st6.rd.below bb9 st6.rd.lt).more (by omega), World.grownBy.trans st6.grown (only_below bb9 _)⟩
                  · rw [List.nil_append]
                    exact AllI.append (allI_takeY HA.out j) hai
                  · simp <;> omega
                  · simp <;> omega

            · rw [hxu] at d3
              go_wp2_with fail
              go_ret2
              exact ⟨_, xs, p, rfl, World.ownsRow.alloc st6.own _, HA.out, v1, by omega, by omega, by omega, (st6.rd.below ((Below.refl w6.heap.size w6).alloc (Nat.le_refl _) _) st6.rd.lt).more (by omega), World.grownBy.trans st6.grown (World.grownBy_alloc w6 _ _)⟩
end Go.Proofs.Ythihaclhlmpioaa
