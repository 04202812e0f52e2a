/- What slices.Clone, slices.Grow and slices.Concat at buddies return: for every slice of buddies. What halved of the program returns: for every free buddy. What BuddyTake of the program returns: for every slice of buddies and all numbers. What joined of the program returns: for nine slices of ascending numbers. What BuddyGive of the program returns: for every slice of buddies and all numbers. -/
import Derived.Test.YthihaclhlmpioaaZb
import Derived.Test.YthihaclhlmpioaaWp
import Derived.Lib.SliceRun
import Derived.Lib.AppendZerosOnto
import Derived.Test.YthihaclhlmpioaaBud4
import Derived.Test.YthihaclhlmpioaaBud5
import Derived.Test.YthihaclhlmpioaaYe
import Derived.Test.YthihaclhlmpioaaInv
import Derived.Test.YthihaclhlmpioaaZg
import Derived.Deep.RegionWith
import Derived.Test.YthihaclhlmpioaaBud7
namespace Go.Proofs.Ythihaclhlmpioaa
open Go.RowKit

theorem cloneY_any (A : Option Addr) (n c : Nat) (xs : List Bl) (w : World) (h : BS w w.heap.size A n xs) (hn : n ≤ 1099511627776) :
    Calls Try.prog 47 #[.slice A n c] w (GaveY w xs) := by
  have q : ∀ (w : World) (a : Option Addr) (n c n' c' : Nat), (binOp .eql 27 (.slice a n c) (.slice none n' c')).run Try.prog w = .ok (.bool a.isNone) w := fun w a n c n' c' => Lib.run_eql_slice_nil w _ _ a n c n' c' Try.underlying27
  cases A with
  | none =>
    have h0 : n = 0 := by
      rcases Nat.eq_zero_or_pos n with h0 | h0
      · exact h0
      · obtain ⟨g, o, e, _⟩ := h.2.2 h0
        cases e
    have : xs = [] := List.eq_nil_of_length_eq_zero (h.1.trans h0)
    subst this h0
    go_enter Try.func47, Try.ntmps47
    go_wp2
    go_ret
    exact ⟨_, rfl, World.ownsRow_nil _ _ _ _, Below.refl _ _⟩
  | some a =>
    have o0 := own_noneY w w.heap.size (Nat.le_refl _)
    have bl0 : Below w.heap.size w (w.alloc (.cells #[] 40)) := (Below.refl _ _).alloc (Nat.le_refl _) _
    have r0 := h.below bl0
    go_enter Try.func47, Try.ntmps47
    go_wp2_with (at_builtin; refine wpList_appendY rfl (.tmp 5) (.tmp 6) rfl w.heap.size _ [] rfl o0 (some a) n c w.heap.size xs rfl r0 (by simp <;> omega) (by simp) ?_; intro v1 w1 o1 g1 s1)
    go_ret
    exact ⟨_, rfl, OwnY.cast (by simp) o1, bl0.grown g1 (by simp) (fun k hk => (World.ownsRow.lt o0 k hk).1)⟩

theorem grown_rowY (w : World) (n G : Nat) (h : n ≤ G) (hG : G ≤ maxLen) :
    OwnY (w.alloc (.cells (Builtin.zeroCells #[.int .i64 0, .int .i64 0, .bool false] n ++ Builtin.zeroCells #[.int .i64 0, .int .i64 0, .bool false] (G - n)) 40)).drew w.heap.size (.slice (some ⟨w.heap.size, 0, none⟩) 0 G) [] := by
  refine ⟨by simp [flat], .inr ⟨w.heap.size, G, Builtin.zeroCells #[.int .i64 0, .int .i64 0, .bool false] n ++ Builtin.zeroCells #[.int .i64 0, .int .i64 0, .bool false] (G - n), rfl, Nat.le_refl _, ?_, by simp, hG, ?_, by simp [flat]⟩⟩
  · show (w.heap.push _)[w.heap.size]? = _
    simp
  · simp [Builtin.zeroCells]
    omega

set_option maxHeartbeats 2000000 in
theorem grow_nilY (n : Nat) (w : World) (hn : n ≤ 1099511627776) :
    Calls Try.prog 63 #[.slice none 0 0, .int .i64 n] w (GaveY w []) := by
  rcases Nat.eq_zero_or_pos n with h0 | h0
  · subst h0
    go_enter Try.func63, Try.ntmps63
    go_wp2
    go_ret
    exact ⟨_, rfl, World.ownsRow_nil _ _ _ _, Below.refl _ _⟩
  · obtain ⟨i0, hi0, hz0, hz1, hz2⟩ := info_parts info_buddy
    have hrz : ∀ ty, (Builtin.append_ #[27, 3] ty #[.slice none 0 0, .int .i64 n]).run Try.prog w =
        .ok (.slice (some ⟨w.heap.size, 0, none⟩) n (grownCap w n 0 40)) (w.drew.alloc (.cells (#[] ++ Builtin.zeroCells (Value.agg #[.int .i64 0, .int .i64 0, .bool false]).cells n ++ Builtin.zeroCells (Value.agg #[.int .i64 0, .int .i64 0, .bool false]).cells (grownCap w n 0 40 - n)) 40)) := fun ty => by
      have hx := Lib.run_append_grow_zeros w 27 3 ty 40 i0 _ .i64 .i64 Try.underlying27 Try.underlying3 hi0 hz0 none 0 0 [] (run_firstCells_none w.drew i0.size 0 0 0) n h0 (by omega) (by omega) (by omega) (by rw [hz2]; omega)
        (by rw [Nat.zero_add]; exact growslice_fits h0 (by rw [hz2]; omega))
      simpa using hx
    have hGn : n ≤ grownCap w n 0 40 := grownCap_ge w _ _ _
    have hG63 := grownCap_le_maxLen w n 0 40 (by unfold maxLen; omega)
    generalize grownCap w n 0 40 = G at hrz hGn hG63
    have HG := Lib.hid hG63
    unfold maxLen at hG63
    have hnn : ¬ ((n : Int) < 0) := by omega
    have hpos : (n : Int) > 0 := by omega
    clear hi0 hz0 hz1 hz2
    go_enter Try.func63, Try.ntmps63
    go_wp2_with (at_builtin; refine Lib.wpList_append_run _ rfl _ _ _ _ rfl _ _ rfl rfl _ _ (hrz _) ?_)
    go_ret
    exact ⟨_, rfl, grown_rowY w n G hGn HG.out, ((Below.refl w.heap.size w).alloc (Nat.le_refl _) _).drew⟩

set_option maxHeartbeats 2000000 in
theorem concatY_any (g m c : Nat) (ps : List Part) (w : World) (hm : ps.length = m) (h : Parts w w.heap.size g ps) (hg : g < w.heap.size) (hbig : (catP ps).length ≤ 1099511627776) (hmm : m ≤ 1048576) :
    Calls Try.prog 52 #[.slice (some ⟨g, 0, none⟩) m c] w (GaveY w (catP ps)) := by
  have HP := Lib.hid h
  have HM := Lib.hid hm
  have HB := Lib.hid hbig
  clear h hm hbig
  go_enter Try.func52, Try.ntmps52
  go_wp2
  go_loop [3, 11] (fun a i => ∃ k : Nat, k ≤ m ∧ i = .int .i64 k ∧ a = .int .i64 ((catP (ps.take k)).length : Nat)) (fun _ i => m - (intOf i).toNat)
  case atStart => exact ⟨0, Nat.zero_le _, rfl, rfl⟩
  case round =>
    obtain ⟨k, hk, rfl, rfl⟩ := hrel
    have hle := catP_le ps k
    have hb := HB.out
    by_cases hlt : k < m
    · obtain ⟨p, hp, hc, hbs⟩ := HP.out.at_ (k := k) (by rw [HM.out]; exact hlt)
      have hn := hbs.1
      have hs := catP_succ hp
      have hle2 := catP_le ps (k + 1)
      have HS := Lib.hid (show (catP (ps.take (k + 1))).length = (catP (ps.take k)).length + p.n by rw [hs, List.length_append, hn])
      have hpn : (catP (ps.take k)).length + p.n ≤ 1099511627776 := by have := HS.out; omega
      clear hs hle2 hn hp hbs hle hb
      generalize (catP (ps.take k)).length = L at *
      go_wp2
      go_round
      case rel => exact ⟨k + 1, by omega, by go_num, by rw [HS.out]; go_num⟩
      case measure => simp [intOf]; omega
    · have hkm : k = m := by omega
      have HK := Lib.hid hkm
      clear hkm
      have hL : (catP (ps.take k)).length ≤ 1099511627776 := by omega
      clear hle hb
      generalize (catP (ps.take k)).length = L at hL
      go_wp2_with fail
      refine (grow_nilY L _ hL).mono ?_
      rintro e w1 ⟨v1, rfl, o1, b1⟩
      go_wp2_with fail
      go_loopw [6, 27] (fun v i wr => ∃ k : Nat, k ≤ m ∧ i = .int .i64 k ∧ OwnY wr w.heap.size v (catP (ps.take k)) ∧ Below w.heap.size w wr) (fun _ i _ => m - (intOf i).toNat)
      case atStart => exact ⟨0, Nat.zero_le _, rfl, o1, b1⟩
      case round =>
        obtain ⟨j, hj, rfl, hown, hb⟩ := hrel
        by_cases hlt2 : j < m
        · obtain ⟨p, hp, hc, hbs⟩ := HP.out.at_ (k := j) (by rw [HM.out]; exact hlt2)
          have hc' := (hb.cell (p := ⟨g, j, none⟩) hg).trans hc
          have hbs' := hbs.below hb
          have hs := catP_succ hp
          have hle2 := catP_le ps (j + 1)
          have HS := Lib.hid hs
          have hn := hbs.1
          have hpn : (catP (ps.take j)).length + p.n ≤ 1099511627776 := by rw [hs, List.length_append, hn] at hle2; have := HB.out; omega
          clear hs hle2 hn hp hbs hc
          go_wp2_with (at_builtin; refine wpList_appendY rfl (.tmp 31) (.tmp 32) rfl w.heap.size _ _ rfl hown p.a p.n p.c w.heap.size p.xs rfl hbs' hpn hb.size ?_; intro v2 w2 o2 g2 s2)
          go_roundw
          case rel => exact ⟨j + 1, by omega, by go_num, OwnY.cast HS.out.symm o2, hb.grown g2 hb.size (fun k hk => (World.ownsRow.lt hown k hk).1)⟩
          case measure => simp [intOf]; omega
        · go_wp2
          go_ret
          refine ⟨_, rfl, OwnY.cast ?_ hown, hb⟩
          rw [List.take_of_length_le (by rw [HM.out]; omega)]
/-- slices.Concat at three slices -/
theorem concat3Y (W : World) (t : TypeId) (A0 A1 A2 : Option Addr) (n0 n1 n2 c0 c1 c2 : Nat) (X0 X1 X2 : List Bl) (h0 : BS W W.heap.size A0 n0 X0) (h1 : BS W W.heap.size A1 n1 X1) (h2 : BS W W.heap.size A2 n2 X2) (hb : n0 + n1 + n2 ≤ 1099511627776) :
    Calls Try.prog 52 #[.slice (some ⟨W.heap.size, 0, none⟩) 3 3] (W.alloc (.cells #[.slice A0 n0 c0, .slice A1 n1 c1, .slice A2 n2 c2] t)) (GaveY W (X0 ++ X1 ++ X2)) := by
  refine (concatY_any _ _ _ [⟨A0, n0, c0, X0⟩, ⟨A1, n1, c1, X1⟩, ⟨A2, n2, c2, X2⟩] _ rfl (parts3 ⟨A0, n0, c0, X0⟩ ⟨A1, n1, c1, X1⟩ ⟨A2, n2, c2, X2⟩ t h0 h1 h2) (by simp) ?_ (by simp)).mono ?_
  · have e0 := h0.1
    have e1 := h1.1
    have e2 := h2.1
    simp [catP]
    omega
  · rintro e w' ⟨v, rfl, ho, hb⟩
    exact ⟨v, rfl, (OwnY.cast (by simp [catP]) ho).base (by simp), ((Below.refl W.heap.size W).alloc (Nat.le_refl _) _).trans (hb.mono (by simp))⟩
end Go.Proofs.Ythihaclhlmpioaa

namespace Go.Proofs.Ythihaclhlmpioaa
open Go.RowKit

theorem mate_first {s z q : Nat} (hs : s % 2 ^ z = 0) (hq : q < z) : mateV s q = (s : Int) + 2 ^ q := by
  have hd : (s / 2 ^ q) % 2 = 0 := by
    obtain ⟨c, hc⟩ := Nat.dvd_of_mod_eq_zero hs
    obtain ⟨d, rfl⟩ : ∃ d, z = q + (d + 1) := ⟨z - q - 1, by omega⟩
    have e : s = 2 ^ q * (2 * (2 ^ d * c)) := by rw [hc, Nat.pow_add, Nat.pow_succ]; simp [Nat.mul_comm, Nat.mul_left_comm]
    rw [e, Nat.mul_div_cancel_left _ (Nat.two_pow_pos q)]
    omega
  rw [mateV_nat, xor_pow, if_pos hd, pow_int]
  simp

set_option maxRecDepth 100000 in
set_option maxHeartbeats 2000000 in
theorem halved_any (s z m : Nat) (u : Bool) (w : World) (hs : s % 2 ^ z = 0) (hs2 : s ≤ 256) (hz : z ≤ 8) (hm : m ≤ z) :
    Calls Try.prog 51 #[.agg #[.int .i64 s, .int .i64 z, .bool u], .int .i64 m] w (GaveY w ([⟨s, m, true⟩] ++ Bud.halvesY s m (z - m))) := by
  have HMF := Lib.hid (fun q hq => mate_first (q := q) hs hq)
  clear hs
  obtain ⟨WA, hWA⟩ : ∃ WA, WA = w.alloc (.cells #[.int .i64 s, .int .i64 z, .bool u] 40) := ⟨_, rfl⟩
  have hWs : WA.heap.size = w.heap.size + 1 := by rw [hWA]; simp
  have l0 : WA.cell? ⟨w.heap.size, 0, none⟩ = some (.int .i64 s) := by rw [hWA]; simp
  have l1 : WA.cell? ⟨w.heap.size, 1, none⟩ = some (.int .i64 z) := by rw [hWA]; simp
  have bA : Below w.heap.size w WA := by rw [hWA]; exact (Below.refl _ _).alloc (Nat.le_refl _) _
  have LC : LocalBY WA w.heap.size ⟨s, z, u⟩ := ⟨l0, l1, hWs⟩
  have o0 := own_oneY WA s m true (w.heap.size + 1) (by omega)
  rw [hWs] at o0
  have st0 : TakeStY WA w.heap.size ⟨s, z, u⟩ (WA.alloc (.cells #[.int .i64 s, .int .i64 m, .bool true] 40)) (.slice (some ⟨w.heap.size + 1, 0, none⟩) 1 1) [⟨s, m, true⟩] := ⟨LC, o0, (Below.refl _ _).alloc (by omega) _⟩
  have HWA := Lib.hid hWA
  have HBA := Lib.hid bA
  clear hWA hWs l0 l1 bA LC o0
  go_enter Try.func51, Try.ntmps51
  go_wp2_with fail
  rw [← HWA.out]
  go_loopw [1, 5] (fun i v wr => ∃ q : Nat, q ≤ z - m ∧ i = .int .i64 ((m + q : Nat) : Int) ∧ TakeStY WA w.heap.size ⟨s, z, u⟩ wr v ([⟨s, m, true⟩] ++ Bud.halvesY s m q)) (fun i _ _ => z - (intOf i).toNat)
  case atStart => exact ⟨0, Nat.zero_le _, rfl, by simpa [Bud.halvesY_zero] using st0⟩
  case round =>
    clear st0
    obtain ⟨q, hq, rfl, st⟩ := hrel
    obtain ⟨l0, l1, z0⟩ := st.cells
    simp only at l0 l1
    by_cases hlt : m + q < z
    · have hlt' : ((m + q : Nat) : Int) < (z : Int) := by omega
      have hmf := HMF.out (m + q) hlt
      have hpw := Bud.two_pow_le (j := m + q) (by omega)
      have tb : (2 : Int) ^ (m + q) ≤ 256 := by rw [pow_int]; omega
      have tc : 1 ≤ (2 : Int) ^ (m + q) := by rw [pow_int]; omega
      have hln : ([(⟨s, m, true⟩ : Bl)] ++ Bud.halvesY s m q).length ≤ 1000 := by simp [Bud.halvesY_len]; omega
      clear hpw
      go_wp2_with (first
        | (go_at_call 60; refine (otherHalf_any s (m + q) _ (by omega) (by omega)).mono ?_; rw [hmf]; rintro e w' ⟨rfl, rfl⟩)
        | (at_builtin; refine wpList_appendY rfl (.tmp 17) (.tmp 24) rfl (w.heap.size + 1) u5 _ rfl (World.ownsRow.alloc st.own _) (some ⟨wr.heap.size, 0, none⟩) 1 1 _ [⟨(s : Int) + 2 ^ (m + q), (m : Int) + q, false⟩] rfl ((own_oneY wr _ _ false 0 (Nat.zero_le _)).reads (allI_one (by omega) (by omega) (by omega) (by omega))) (by omega) (by simp <;> omega) ?_; intro v4 w4 o4 g4 s4)
        | fail)
      go_roundw
      case rel => exact ⟨q + 1, by omega, by go_num, st.more g4 (OwnY.cast (by rw [Bud.halvesY_succ]; simp) o4)⟩
      case measure => simp [intOf]; omega
    · obtain rfl : q = z - m := by omega
      have hlt' : decide (((m + (z - m) : Nat) : Int) < (z : Int)) = false := decide_eq_false (by omega)
      have hlt2 : decide ((m + (z - m)) < z) = false := decide_eq_false (by omega)
      generalize hq : z - m = d at *
      go_wp2
      go_ret
      exact ⟨_, rfl, st.own.base (by omega), HBA.out.trans (st.below.mono (by omega))⟩
end Go.Proofs.Ythihaclhlmpioaa

namespace Go.Proofs.Ythihaclhlmpioaa
open Go.RowKit

theorem fl_all {w : World} {base : Nat} {A : Nat → Option Addr} {N C : Nat → Nat} {xs : List Bl} {p : Int} (hv : Bud.validY xs p = true) (h : FLst w base (flv A N C) (Bud.freesTo xs xs.length)) :
    (∀ j, j < 9 → IS w w.heap.size (A j) (N j) (Bud.freesTo xs xs.length j)) ∧ (∀ j, j < 9 → N j ≤ 1099511627776) := by
  have h1 : ∀ j, j < 9 → IS w w.heap.size (A j) (N j) (Bud.freesTo xs xs.length j) := fun j hj => h.reads hj (Bud.frees_allN hv j)
  refine ⟨h1, fun j hj => ?_⟩
  have := (h1 j hj).1
  have := Bud.freesTo_len xs xs.length j
  have := (Bud.validY_len hv).2.1
  omega

set_option maxRecDepth 100000 in
set_option maxHeartbeats 4000000 in
theorem buddyTake_any (A : Option Addr) (n c : Nat) (xs : List Bl) (p size : Int) (w : World) (h : BS w w.heap.size A n xs) (hn : n ≤ 1099511627776) (hc : n ≤ c) :
    Calls Try.prog 23 #[.slice A n c, .int .i64 p, .int .i64 size] w (GaveY3 w (if Bud.validY xs p = true then Bud.takeY xs size else []) (if Bud.validY xs p = true then Bud.startY xs size else -1) (Bud.validY xs p && Bud.okY xs size)) := by
  have HL := Lib.hid h.1
  cases hv : Bud.validY xs p
  · have HV := Lib.hid hv
    clear hv
    go_enter Try.func23, Try.ntmps23
    go_wp2_with fail
    refine (buddiesValid_any _ _ _ xs _ _ h hn).mono ?_
    rw [HV.out]
    rintro e w1 ⟨rfl, b1⟩
    go_wp2_with fail
    go_ret3
    exact ⟨_, rfl, World.ownsRow_nil _ _ _ _, b1⟩
  · rw [if_pos rfl, if_pos rfl, Bool.true_and]
    have HV := Lib.hid hv
    have HAS := Lib.hid (Bud.asc_of_valid hv)
    have hl := Bud.validY_len hv
    have hn5 : n ≤ 256 := by have := h.1; omega
    clear hv hl
    rcases Bud.powW_range size with hw | ⟨m, hw, hm8⟩
    · have HW := Lib.hid hw
      have HB := Lib.hid (show Bud.bestY xs size = none by rw [Bud.bestY, hw]; rfl)
      clear hw
      go_enter Try.func23, Try.ntmps23
      go_wp2_with fail
      refine (buddiesValid_any _ _ _ xs _ _ h hn).mono ?_
      rw [HV.out]
      rintro e w1 ⟨rfl, b1⟩
      go_wp2_with fail
      refine (powerFor_any _ _).mono ?_
      rw [HW.out]
      rintro e w' ⟨rfl, rfl⟩
      go_wp2_with fail
      refine (cloneY_any _ _ _ xs _ (h.up b1) hn).mono ?_
      rintro e w2 ⟨v2, rfl, o2, b2⟩
      go_wp2_with fail
      go_ret3
      exact GaveY3.of (o2.base b1.size) (b1.trans (b2.mono b1.size)) (by rw [Bud.takeY, HB.out]) (by rw [Bud.startY, HB.out]) (by rw [Bud.okY, HB.out]; rfl)
    · have HW := Lib.hid hw
      have HB := Lib.hid (show Bud.bestY xs size = Bks.bestTo xs m xs.length by rw [Bud.bestY, hw, if_neg (by omega)])
      clear hw
      go_enter Try.func23, Try.ntmps23
      go_wp2_with fail
      refine (buddiesValid_any _ _ _ xs _ _ h hn).mono ?_
      rw [HV.out]
      rintro e w1 ⟨rfl, b1⟩
      go_wp2_with fail
      refine (powerFor_any _ _).mono ?_
      rw [HW.out]
      rintro e w' ⟨rfl, rfl⟩
      have hm0 : ¬ ((m : Int) < 0) := by omega
      go_wp2_with fail
      refine (freeByOrders_any A n c xs p w1 (h.up b1) HV.out).mono ?_
      rintro e w2 ⟨A', N, C, rfl, fl2, b2⟩
      rw [← HL.out] at fl2
      obtain ⟨hI, hN⟩ := fl_all HV.out fl2
      have bb2 := b1.trans (b2.mono b1.size)
      clear fl2
      go_wp2_with fail
      refine (leastFrom_any A' N C _ m w2 hI hm8 hN).mono ?_
      rintro e w3 ⟨rfl, b3⟩
      have bb3 := bb2.trans (b3.mono bb2.size)
      clear hI hN b2 b3 b1 bb2
      obtain ⟨B, hB⟩ : ∃ B, Bks.bestTo xs m xs.length = B := ⟨_, rfl⟩
      have HBB := Lib.hid hB
      have HBE := Lib.hid (show Bud.bestY xs size = B by rw [HB.out, hB])
      clear hB
      cases B with
      | none =>
        rw [Bud.least_none HV.out HBB.out]
        go_wp2_with fail
        refine (cloneY_any _ _ _ xs _ (h.up bb3) hn).mono ?_
        rintro e w4 ⟨v4, rfl, o4, b4⟩
        go_wp2_with fail
        go_ret3
        exact GaveY3.of (o4.base bb3.size) (bb3.trans (b4.mono bb3.size)) (by rw [Bud.takeY, HBE.out]) (by rw [Bud.startY, HBE.out]) (by rw [Bud.okY, HBE.out]; rfl)
      | some b =>
        obtain ⟨hbl, x, hx, hfx, _⟩ := (Bks.bestTo_spec xs m xs.length (Nat.le_refl _)).2 b HBB.out
        rw [Bks.fits_iff] at hfx
        rw [Bud.least_some HV.out HBB.out hx]
        obtain ⟨s, j, e1, e2, e3, e4, e5, e6⟩ := Bud.valid_mult HV.out hx
        have hbn : b < n := by rw [HL.out] at hbl; exact hbl
        have hfrom := Bud.from_start HAS.out hx
        rw [e1] at hfrom ⊢
        have hp2 := Nat.two_pow_pos j
        have hs256 : s ≤ 256 := by omega
        have hmj : m ≤ j := by omega
        have hs0 : ¬ ((s : Int) < 0) := by omega
        have HX := Lib.hid hx
        have HXS := Lib.hid e1
        have HXZ := Lib.hid e2
        have HXU := Lib.hid hfx.1
        have HMU := Lib.hid e3
        clear hx e1 e2 e3 e4 e6 hfx hp2 hbl
        go_wp2_with fail
        refine (buddyFrom_any A n c xs s w3 (h.up bb3) hn5 HAS.out).mono ?_
        rw [hfrom]
        rintro e w4 ⟨rfl, b4⟩
        have bb4 := bb3.trans (b4.mono bb3.size)
        clear b4 bb3
        obtain ⟨g, o, x', rfl, hg, hx', _, _, c1, c2, c3⟩ := (h.below bb4).at_ hbn
        obtain rfl : x' = x := Option.some.inj (hx'.symm.trans HX.out)
        rw [HXS.out] at c1
        rw [HXZ.out] at c2
        rw [HXU.out] at c3
        have hbn' : (b : Int) < n := by omega
        clear hx'
        go_wp2_with fail
        refine (halved_any s j m false w4 HMU.out hs256 e5 hmj).mono ?_
        rintro e w5 ⟨v5, rfl, o5, b5⟩
        have bb5 := bb4.trans (b5.mono bb4.size)
        have HTK := Lib.hid (show Bud.takeY xs size = xs.take b ++ ([(⟨s, m, true⟩ : Bl)] ++ Bud.halvesY s m (j - m)) ++ xs.drop (b + 1) by
          rw [Bud.takeY, HBE.out, HW.out]
          simp only [List.getD_eq_getElem?_getD, HX.out, Option.getD_some, Bud.takenY, HXS.out, HXZ.out, Int.toNat_natCast]
          simp)
        have HST := Lib.hid (show Bud.startY xs size = s by
          rw [Bud.startY, HBE.out]
          simp only [List.getD_eq_getElem?_getD, HX.out, Option.getD_some, HXS.out])
        have HOK := Lib.hid (show Bud.okY xs size = true by rw [Bud.okY, HBE.out]; rfl)
        have hlp : ([(⟨s, m, true⟩ : Bl)] ++ Bud.halvesY s m (j - m)).length ≤ 10 := by simp [Bud.halvesY_len]; omega
        have hai : AllI ([(⟨s, m, true⟩ : Bl)] ++ Bud.halvesY s m (j - m)) := by
          intro k y hy
          rcases List.mem_append.1 (List.mem_of_getElem? hy) with hm | hm
          · simp at hm
            subst hm
            exact ⟨⟨by simp <;> omega, by simp <;> omega⟩, ⟨by simp <;> omega, by simp <;> omega⟩⟩
          · unfold Bud.halvesY at hm
            obtain ⟨q, hq, rfl⟩ := List.mem_map.1 hm
            have hq' : q < j - m := by simpa using hq
            have := Bud.two_pow_le (j := m + q) (by omega)
            have t1 : (2 : Int) ^ (m + q) ≤ 256 := by rw [pow_int]; omega
            have t2 : 1 ≤ (2 : Int) ^ (m + q) := by rw [pow_int]; omega
            exact ⟨⟨by simp only; omega, by simp only; omega⟩, ⟨by simp only; omega, by simp only; omega⟩⟩
        generalize hXp : ([(⟨s, m, true⟩ : Bl)] ++ Bud.halvesY s m (j - m)) = Xp at *
        obtain ⟨Ap, cp, rfl, _⟩ := o5.form
        have HPR0 := o5.reads hai
        obtain ⟨np, hnp⟩ : ∃ np, Xp.length = np := ⟨_, rfl⟩
        rw [hnp] at HPR0 hlp ⊢
        clear hnp hai hXp c1 c2 c3 o5
        have u3 : (b : Int) + 1 ≤ n := by omega
        have u6 : (b : Int) + 1 ≤ c := by omega
        have u4 : 0 ≤ (b : Int) + 1 := by omega
        have u5 : ((b : Int) + 1).toNat = b + 1 := by omega
        have hbc : (b : Int) ≤ c := by omega
        obtain ⟨W0, hW0⟩ : ∃ W0, W0 = w5.drew := ⟨_, rfl⟩
        have bW0 : Below w.heap.size w W0 := by rw [hW0]; exact bb5.drew
        have HBS := Lib.hid (h.up bW0)
        have HPR := Lib.hid (show BS W0 W0.heap.size Ap np Xp by rw [hW0]; exact HPR0.up (Below.refl _ _).drew)
        clear HPR0
        by_cases hcap : c = b + 1
        · obtain rfl : n = b + 1 := by omega
          subst hcap
          have HD := Lib.hid (show xs.drop (b + 1) = [] from List.drop_eq_nil_of_le (by rw [HL.out]; omega))
          have hkc : (b : Int) ≤ (b : Int) + 1 := by omega
          have HTL := Lib.hid (fun W' (_ : Below W0.heap.size W0 W') => BS.none_ W' W'.heap.size (some (⟨g, o, none⟩ : Addr)))
          have hW0' := Lib.hid hW0
          clear hW0
          go_wp2_with fail
          have h0W : Below W0.heap.size W0 w5.drew := by rw [hW0'.out]; exact Below.refl _ _
          refine wp_region_inv (by kernel_rfl) (by kernel_rfl) (fun L a ww => ∃ t6 t7 t8 t40 t41 t42 t43 t44 t45 t46 t47 t48 t49 t50 : Value, a = { tmps := #[.slice (some ⟨g, o, none⟩) (b + 1) (b + 1), .int .i64 p, .int .i64 size, undef, undef, undef, t6, t7, t8, .int .i64 m, .int .i64 s, .int .i64 b, .slice Ap np cp, .slice (some ⟨g, o, none⟩) (b + 1) (b + 1), .int .i64 p, .bool true, .bool false, .int .i64 size, .int .i64 m, .int .i64 m, .bool (decide ((m : Int) < 0)), undef, undef, .slice (some ⟨g, o, none⟩) (b + 1) (b + 1), .agg (flv A' N C), .int .i64 m, .int .i64 s, .int .i64 s, .bool (decide ((s : Int) < 0)), undef, undef, .slice (some ⟨g, o, none⟩) (b + 1) (b + 1), .int .i64 s, .int .i64 b, .slice (some ⟨g, o, none⟩) (b + 1) (b + 1), .int .i64 b, .pointer (some ⟨g, o + b * 3, none⟩), .agg #[.int .i64 s, .int .i64 j, .bool false], .int .i64 m, .slice Ap np cp, t40, t41, t42, t43, t44, t45, t46, t47, t48, t49, t50], defers := [] } ∧ (Below W0.heap.size W0 ww) ∧ (L 9 = true → L 8 = true) ∧ (L 0 = true → t40 = .slice (some ⟨g, o, none⟩) (b + 1) (b + 1)) ∧ (L 1 = true → t41 = .int .i64 b) ∧ (L 2 = true → t42 = .slice (some ⟨g, o, none⟩) b (b + 1)) ∧ (L 3 = true → t43 = .slice Ap np cp) ∧ (L 4 = true → t44 = .slice (some ⟨g, o, none⟩) (b + 1) (b + 1)) ∧ (L 5 = true → t45 = .int .i64 b) ∧ (L 6 = true → t46 = .int .i64 ((b : Int) + 1)) ∧ (L 7 = true → t47 = .slice (some ⟨g, o, none⟩) 0 0) ∧ (L 8 = true → ∃ W', t48 = .slice (some ⟨W'.heap.size, 0, none⟩) 3 3 ∧ Below W0.heap.size W0 W' ∧ (L 9 = false → ww = W'.alloc (.cells #[.slice (some ⟨g, o, none⟩) b (b + 1), .slice Ap np cp, .slice (some ⟨g, o, none⟩) 0 0] 27))) ∧ (L 9 = true → OwnY ww W0.heap.size t49 (xs.take b ++ Xp ++ [])) ∧ (L 10 = true → t50 = .int .i64 s) ∧ (L 11 = true → L 9 = true ∧ t6 = t49) ∧ (L 12 = true → t7 = .int .i64 s) ∧ (L 13 = true → t8 = .bool true)) ?h0 ?hstep ?hdone
          case h0 => exact ⟨_, _, _, _, _, _, _, _, _, _, _, _, _, _, rfl, h0W, (fun h => absurd h Bool.false_ne_true), (fun h => absurd h Bool.false_ne_true), (fun h => absurd h Bool.false_ne_true), (fun h => absurd h Bool.false_ne_true), (fun h => absurd h Bool.false_ne_true), (fun h => absurd h Bool.false_ne_true), (fun h => absurd h Bool.false_ne_true), (fun h => absurd h Bool.false_ne_true), (fun h => absurd h Bool.false_ne_true), (fun h => absurd h Bool.false_ne_true), (fun h => absurd h Bool.false_ne_true), (fun h => absurd h Bool.false_ne_true), (fun h => absurd h Bool.false_ne_true), (fun h => absurd h Bool.false_ne_true), (fun h => absurd h Bool.false_ne_true)⟩
          case hstep =>
            rintro L a ww i o ho hL hd ⟨t6, t7, t8, t40, t41, t42, t43, t44, t45, t46, t47, t48, t49, t50, rfl, I0, I1, f0, f1, f2, f3, f4, f5, f6, f7, f8, f9, f10, f11, f12, f13⟩
            have hi : i < 14 := (Array.getElem?_eq_some_iff.1 ho).1
            obtain rfl | rfl | rfl | rfl | rfl | rfl | rfl | rfl | rfl | rfl | rfl | rfl | rfl | rfl : i = 0 ∨ i = 1 ∨ i = 2 ∨ i = 3 ∨ i = 4 ∨ i = 5 ∨ i = 6 ∨ i = 7 ∨ i = 8 ∨ i = 9 ∨ i = 10 ∨ i = 11 ∨ i = 12 ∨ i = 13 := by omega
            · obtain rfl := Option.some.inj ho
              refine wpOp_step rfl (fun K' hK => ?_)
              go_simp
              refine hK _ _ ?_
              exact ⟨_, _, _, _, _, _, _, _, _, _, _, _, _, _, rfl, (I0), (fun h => upd_mono (I1 (upd_ne h (by decide)))), (fun _ => rfl), (fun h => f1 (upd_ne h (by decide))), (fun h => f2 (upd_ne h (by decide))), (fun h => f3 (upd_ne h (by decide))), (fun h => f4 (upd_ne h (by decide))), (fun h => f5 (upd_ne h (by decide))), (fun h => f6 (upd_ne h (by decide))), (fun h => f7 (upd_ne h (by decide))), (fun h => by
                  obtain ⟨W', e1, e2, e3⟩ := f8 (upd_ne h (by decide))
                  exact ⟨W', e1, e2, fun h9 => e3 (by rw [upd_other (by decide)] at h9; exact h9)⟩), (fun h => f9 (upd_ne h (by decide))), (fun h => f10 (upd_ne h (by decide))), (fun h => ⟨upd_mono (f11 (upd_ne h (by decide))).1, (f11 (upd_ne h (by decide))).2⟩), (fun h => f12 (upd_ne h (by decide))), (fun h => f13 (upd_ne h (by decide)))⟩
            · obtain rfl := Option.some.inj ho
              refine wpOp_step rfl (fun K' hK => ?_)
              go_simp
              refine hK _ _ ?_
              exact ⟨_, _, _, _, _, _, _, _, _, _, _, _, _, _, rfl, (I0), (fun h => upd_mono (I1 (upd_ne h (by decide)))), (fun h => f0 (upd_ne h (by decide))), (fun _ => rfl), (fun h => f2 (upd_ne h (by decide))), (fun h => f3 (upd_ne h (by decide))), (fun h => f4 (upd_ne h (by decide))), (fun h => f5 (upd_ne h (by decide))), (fun h => f6 (upd_ne h (by decide))), (fun h => f7 (upd_ne h (by decide))), (fun h => by
                  obtain ⟨W', e1, e2, e3⟩ := f8 (upd_ne h (by decide))
                  exact ⟨W', e1, e2, fun h9 => e3 (by rw [upd_other (by decide)] at h9; exact h9)⟩), (fun h => f9 (upd_ne h (by decide))), (fun h => f10 (upd_ne h (by decide))), (fun h => ⟨upd_mono (f11 (upd_ne h (by decide))).1, (f11 (upd_ne h (by decide))).2⟩), (fun h => f12 (upd_ne h (by decide))), (fun h => f13 (upd_ne h (by decide)))⟩
            · obtain rfl := Option.some.inj ho
              have g0 := f0 (hd ⟨0, .data⟩ (by simp) rfl)
              have g1 := f1 (hd ⟨1, .data⟩ (by simp) rfl)
              subst g0
              subst g1
              refine wpOp_step rfl (fun K' hK => ?_)
              go_simp
              refine hK _ _ ?_
              exact ⟨_, _, _, _, _, _, _, _, _, _, _, _, _, _, rfl, (I0), (fun h => upd_mono (I1 (upd_ne h (by decide)))), (fun h => f0 (upd_ne h (by decide))), (fun h => f1 (upd_ne h (by decide))), (fun _ => rfl), (fun h => f3 (upd_ne h (by decide))), (fun h => f4 (upd_ne h (by decide))), (fun h => f5 (upd_ne h (by decide))), (fun h => f6 (upd_ne h (by decide))), (fun h => f7 (upd_ne h (by decide))), (fun h => by
                  obtain ⟨W', e1, e2, e3⟩ := f8 (upd_ne h (by decide))
                  exact ⟨W', e1, e2, fun h9 => e3 (by rw [upd_other (by decide)] at h9; exact h9)⟩), (fun h => f9 (upd_ne h (by decide))), (fun h => f10 (upd_ne h (by decide))), (fun h => ⟨upd_mono (f11 (upd_ne h (by decide))).1, (f11 (upd_ne h (by decide))).2⟩), (fun h => f12 (upd_ne h (by decide))), (fun h => f13 (upd_ne h (by decide)))⟩
            · obtain rfl := Option.some.inj ho
              refine wpOp_step rfl (fun K' hK => ?_)
              go_simp
              refine hK _ _ ?_
              exact ⟨_, _, _, _, _, _, _, _, _, _, _, _, _, _, rfl, (I0), (fun h => upd_mono (I1 (upd_ne h (by decide)))), (fun h => f0 (upd_ne h (by decide))), (fun h => f1 (upd_ne h (by decide))), (fun h => f2 (upd_ne h (by decide))), (fun _ => rfl), (fun h => f4 (upd_ne h (by decide))), (fun h => f5 (upd_ne h (by decide))), (fun h => f6 (upd_ne h (by decide))), (fun h => f7 (upd_ne h (by decide))), (fun h => by
                  obtain ⟨W', e1, e2, e3⟩ := f8 (upd_ne h (by decide))
                  exact ⟨W', e1, e2, fun h9 => e3 (by rw [upd_other (by decide)] at h9; exact h9)⟩), (fun h => f9 (upd_ne h (by decide))), (fun h => f10 (upd_ne h (by decide))), (fun h => ⟨upd_mono (f11 (upd_ne h (by decide))).1, (f11 (upd_ne h (by decide))).2⟩), (fun h => f12 (upd_ne h (by decide))), (fun h => f13 (upd_ne h (by decide)))⟩
            · obtain rfl := Option.some.inj ho
              refine wpOp_step rfl (fun K' hK => ?_)
              go_simp
              refine hK _ _ ?_
              exact ⟨_, _, _, _, _, _, _, _, _, _, _, _, _, _, rfl, (I0), (fun h => upd_mono (I1 (upd_ne h (by decide)))), (fun h => f0 (upd_ne h (by decide))), (fun h => f1 (upd_ne h (by decide))), (fun h => f2 (upd_ne h (by decide))), (fun h => f3 (upd_ne h (by decide))), (fun _ => rfl), (fun h => f5 (upd_ne h (by decide))), (fun h => f6 (upd_ne h (by decide))), (fun h => f7 (upd_ne h (by decide))), (fun h => by
                  obtain ⟨W', e1, e2, e3⟩ := f8 (upd_ne h (by decide))
                  exact ⟨W', e1, e2, fun h9 => e3 (by rw [upd_other (by decide)] at h9; exact h9)⟩), (fun h => f9 (upd_ne h (by decide))), (fun h => f10 (upd_ne h (by decide))), (fun h => ⟨upd_mono (f11 (upd_ne h (by decide))).1, (f11 (upd_ne h (by decide))).2⟩), (fun h => f12 (upd_ne h (by decide))), (fun h => f13 (upd_ne h (by decide)))⟩
            · obtain rfl := Option.some.inj ho
              refine wpOp_step rfl (fun K' hK => ?_)
              go_simp
              refine hK _ _ ?_
              exact ⟨_, _, _, _, _, _, _, _, _, _, _, _, _, _, rfl, (I0), (fun h => upd_mono (I1 (upd_ne h (by decide)))), (fun h => f0 (upd_ne h (by decide))), (fun h => f1 (upd_ne h (by decide))), (fun h => f2 (upd_ne h (by decide))), (fun h => f3 (upd_ne h (by decide))), (fun h => f4 (upd_ne h (by decide))), (fun _ => rfl), (fun h => f6 (upd_ne h (by decide))), (fun h => f7 (upd_ne h (by decide))), (fun h => by
                  obtain ⟨W', e1, e2, e3⟩ := f8 (upd_ne h (by decide))
                  exact ⟨W', e1, e2, fun h9 => e3 (by rw [upd_other (by decide)] at h9; exact h9)⟩), (fun h => f9 (upd_ne h (by decide))), (fun h => f10 (upd_ne h (by decide))), (fun h => ⟨upd_mono (f11 (upd_ne h (by decide))).1, (f11 (upd_ne h (by decide))).2⟩), (fun h => f12 (upd_ne h (by decide))), (fun h => f13 (upd_ne h (by decide)))⟩
            · obtain rfl := Option.some.inj ho
              have g5 := f5 (hd ⟨5, .data⟩ (by simp) rfl)
              subst g5
              have hw : IntKind.i64.wrap ((b : Int) + 1) = (b : Int) + 1 := IntWalk.i64_in _ (by omega)
              refine wpOp_step rfl (fun K' hK => ?_)
              go_simp
              refine hK _ _ ?_
              clear hw
              exact ⟨_, _, _, _, _, _, _, _, _, _, _, _, _, _, rfl, (I0), (fun h => upd_mono (I1 (upd_ne h (by decide)))), (fun h => f0 (upd_ne h (by decide))), (fun h => f1 (upd_ne h (by decide))), (fun h => f2 (upd_ne h (by decide))), (fun h => f3 (upd_ne h (by decide))), (fun h => f4 (upd_ne h (by decide))), (fun h => f5 (upd_ne h (by decide))), (fun _ => rfl), (fun h => f7 (upd_ne h (by decide))), (fun h => by
                  obtain ⟨W', e1, e2, e3⟩ := f8 (upd_ne h (by decide))
                  exact ⟨W', e1, e2, fun h9 => e3 (by rw [upd_other (by decide)] at h9; exact h9)⟩), (fun h => f9 (upd_ne h (by decide))), (fun h => f10 (upd_ne h (by decide))), (fun h => ⟨upd_mono (f11 (upd_ne h (by decide))).1, (f11 (upd_ne h (by decide))).2⟩), (fun h => f12 (upd_ne h (by decide))), (fun h => f13 (upd_ne h (by decide)))⟩
            · obtain rfl := Option.some.inj ho
              have g4 := f4 (hd ⟨4, .data⟩ (by simp) rfl)
              have g6 := f6 (hd ⟨6, .data⟩ (by simp) rfl)
              subst g4
              subst g6
              refine wpOp_step rfl (fun K' hK => ?_)
              go_simp
              refine hK _ _ ?_
              exact ⟨_, _, _, _, _, _, _, _, _, _, _, _, _, _, rfl, (I0), (fun h => upd_mono (I1 (upd_ne h (by decide)))), (fun h => f0 (upd_ne h (by decide))), (fun h => f1 (upd_ne h (by decide))), (fun h => f2 (upd_ne h (by decide))), (fun h => f3 (upd_ne h (by decide))), (fun h => f4 (upd_ne h (by decide))), (fun h => f5 (upd_ne h (by decide))), (fun h => f6 (upd_ne h (by decide))), (fun _ => rfl), (fun h => by
                  obtain ⟨W', e1, e2, e3⟩ := f8 (upd_ne h (by decide))
                  exact ⟨W', e1, e2, fun h9 => e3 (by rw [upd_other (by decide)] at h9; exact h9)⟩), (fun h => f9 (upd_ne h (by decide))), (fun h => f10 (upd_ne h (by decide))), (fun h => ⟨upd_mono (f11 (upd_ne h (by decide))).1, (f11 (upd_ne h (by decide))).2⟩), (fun h => f12 (upd_ne h (by decide))), (fun h => f13 (upd_ne h (by decide)))⟩
            · obtain rfl := Option.some.inj ho
              have g2 := f2 (hd ⟨2, .data⟩ (by simp) rfl)
              have g3 := f3 (hd ⟨3, .data⟩ (by simp) rfl)
              have g7 := f7 (hd ⟨7, .data⟩ (by simp) rfl)
              subst g2
              subst g3
              subst g7
              have h9 : L 9 = false := by
                cases hh : L 9
                · rfl
                · exact absurd ((I1 hh).symm.trans hL) (by decide)
              refine wpOp_step rfl (fun K' hK => ?_)
              go_simp
              refine hK _ _ ?_
              exact ⟨_, _, _, _, _, _, _, _, _, _, _, _, _, _, rfl, (I0.alloc I0.size _), (fun _ => upd_self), (fun h => f0 (upd_ne h (by decide))), (fun h => f1 (upd_ne h (by decide))), (fun h => f2 (upd_ne h (by decide))), (fun h => f3 (upd_ne h (by decide))), (fun h => f4 (upd_ne h (by decide))), (fun h => f5 (upd_ne h (by decide))), (fun h => f6 (upd_ne h (by decide))), (fun h => f7 (upd_ne h (by decide))), (fun _ => ⟨ww, rfl, I0, fun _ => rfl⟩), (fun h => absurd ((upd_ne h (by decide)).symm.trans h9) (by decide)), (fun h => f10 (upd_ne h (by decide))), (fun h => ⟨upd_mono (f11 (upd_ne h (by decide))).1, (f11 (upd_ne h (by decide))).2⟩), (fun h => f12 (upd_ne h (by decide))), (fun h => f13 (upd_ne h (by decide)))⟩
            · obtain rfl := Option.some.inj ho
              have g8 := f8 (hd ⟨8, .data⟩ (by simp) rfl)
              obtain ⟨W', rfl, e2, e3⟩ := g8
              have e4 := e3 hL
              subst e4
              refine wpOp_step rfl (fun K' hK => ?_)
              go_simp
              refine (concat3Y W' _ (some ⟨g, o, none⟩) Ap (some ⟨g, o, none⟩) b np (0) (b + 1) cp (0) (xs.take b) Xp ([]) (((HBS.out.up e2).take (by omega))) (HPR.out.up e2) (HTL.out W' e2) (by omega)).mono ?_
              rintro e w' ⟨v9, rfl, o9, b9⟩
              refine hK _ _ ?_
              exact ⟨_, _, _, _, _, _, _, _, _, _, _, _, _, _, rfl, (e2.trans (b9.mono e2.size)), (fun _ => upd_mono (hd ⟨8, .data⟩ (by simp) rfl)), (fun h => f0 (upd_ne h (by decide))), (fun h => f1 (upd_ne h (by decide))), (fun h => f2 (upd_ne h (by decide))), (fun h => f3 (upd_ne h (by decide))), (fun h => f4 (upd_ne h (by decide))), (fun h => f5 (upd_ne h (by decide))), (fun h => f6 (upd_ne h (by decide))), (fun h => f7 (upd_ne h (by decide))), (fun _ => ⟨W', rfl, e2, fun h => absurd (upd_self.symm.trans h) (by decide)⟩), (fun _ => o9.base e2.size), (fun h => f10 (upd_ne h (by decide))), (fun h => absurd ((f11 (upd_ne h (by decide))).1.symm.trans hL) (by decide)), (fun h => f12 (upd_ne h (by decide))), (fun h => f13 (upd_ne h (by decide)))⟩
            · obtain rfl := Option.some.inj ho
              refine wpOp_step rfl (fun K' hK => ?_)
              go_simp
              refine hK _ _ ?_
              exact ⟨_, _, _, _, _, _, _, _, _, _, _, _, _, _, rfl, (I0), (fun h => upd_mono (I1 (upd_ne h (by decide)))), (fun h => f0 (upd_ne h (by decide))), (fun h => f1 (upd_ne h (by decide))), (fun h => f2 (upd_ne h (by decide))), (fun h => f3 (upd_ne h (by decide))), (fun h => f4 (upd_ne h (by decide))), (fun h => f5 (upd_ne h (by decide))), (fun h => f6 (upd_ne h (by decide))), (fun h => f7 (upd_ne h (by decide))), (fun h => by
                  obtain ⟨W', e1, e2, e3⟩ := f8 (upd_ne h (by decide))
                  exact ⟨W', e1, e2, fun h9 => e3 (by rw [upd_other (by decide)] at h9; exact h9)⟩), (fun h => f9 (upd_ne h (by decide))), (fun _ => rfl), (fun h => ⟨upd_mono (f11 (upd_ne h (by decide))).1, (f11 (upd_ne h (by decide))).2⟩), (fun h => f12 (upd_ne h (by decide))), (fun h => f13 (upd_ne h (by decide)))⟩
            · obtain rfl := Option.some.inj ho
              have g9 := f9 (hd ⟨9, .data⟩ (by simp) rfl)
              refine wpOp_step rfl (fun K' hK => ?_)
              go_simp
              refine hK _ _ ?_
              exact ⟨_, _, _, _, _, _, _, _, _, _, _, _, _, _, rfl, (I0), (fun h => upd_mono (I1 (upd_ne h (by decide)))), (fun h => f0 (upd_ne h (by decide))), (fun h => f1 (upd_ne h (by decide))), (fun h => f2 (upd_ne h (by decide))), (fun h => f3 (upd_ne h (by decide))), (fun h => f4 (upd_ne h (by decide))), (fun h => f5 (upd_ne h (by decide))), (fun h => f6 (upd_ne h (by decide))), (fun h => f7 (upd_ne h (by decide))), (fun h => by
                  obtain ⟨W', e1, e2, e3⟩ := f8 (upd_ne h (by decide))
                  exact ⟨W', e1, e2, fun h9 => e3 (by rw [upd_other (by decide)] at h9; exact h9)⟩), (fun h => f9 (upd_ne h (by decide))), (fun h => f10 (upd_ne h (by decide))), (fun _ => ⟨upd_mono (hd ⟨9, .data⟩ (by simp) rfl), rfl⟩), (fun h => f12 (upd_ne h (by decide))), (fun h => f13 (upd_ne h (by decide)))⟩
            · obtain rfl := Option.some.inj ho
              have g10 := f10 (hd ⟨10, .data⟩ (by simp) rfl)
              subst g10
              refine wpOp_step rfl (fun K' hK => ?_)
              go_simp
              refine hK _ _ ?_
              exact ⟨_, _, _, _, _, _, _, _, _, _, _, _, _, _, rfl, (I0), (fun h => upd_mono (I1 (upd_ne h (by decide)))), (fun h => f0 (upd_ne h (by decide))), (fun h => f1 (upd_ne h (by decide))), (fun h => f2 (upd_ne h (by decide))), (fun h => f3 (upd_ne h (by decide))), (fun h => f4 (upd_ne h (by decide))), (fun h => f5 (upd_ne h (by decide))), (fun h => f6 (upd_ne h (by decide))), (fun h => f7 (upd_ne h (by decide))), (fun h => by
                  obtain ⟨W', e1, e2, e3⟩ := f8 (upd_ne h (by decide))
                  exact ⟨W', e1, e2, fun h9 => e3 (by rw [upd_other (by decide)] at h9; exact h9)⟩), (fun h => f9 (upd_ne h (by decide))), (fun h => f10 (upd_ne h (by decide))), (fun h => ⟨upd_mono (f11 (upd_ne h (by decide))).1, (f11 (upd_ne h (by decide))).2⟩), (fun _ => rfl), (fun h => f13 (upd_ne h (by decide)))⟩
            · obtain rfl := Option.some.inj ho
              refine wpOp_step rfl (fun K' hK => ?_)
              go_simp
              refine hK _ _ ?_
              exact ⟨_, _, _, _, _, _, _, _, _, _, _, _, _, _, rfl, (I0), (fun h => upd_mono (I1 (upd_ne h (by decide)))), (fun h => f0 (upd_ne h (by decide))), (fun h => f1 (upd_ne h (by decide))), (fun h => f2 (upd_ne h (by decide))), (fun h => f3 (upd_ne h (by decide))), (fun h => f4 (upd_ne h (by decide))), (fun h => f5 (upd_ne h (by decide))), (fun h => f6 (upd_ne h (by decide))), (fun h => f7 (upd_ne h (by decide))), (fun h => by
                  obtain ⟨W', e1, e2, e3⟩ := f8 (upd_ne h (by decide))
                  exact ⟨W', e1, e2, fun h9 => e3 (by rw [upd_other (by decide)] at h9; exact h9)⟩), (fun h => f9 (upd_ne h (by decide))), (fun h => f10 (upd_ne h (by decide))), (fun h => ⟨upd_mono (f11 (upd_ne h (by decide))).1, (f11 (upd_ne h (by decide))).2⟩), (fun h => f12 (upd_ne h (by decide))), (fun _ => rfl)⟩
          case hdone =>
            rintro L a ww hall ⟨t6, t7, t8, t40, t41, t42, t43, t44, t45, t46, t47, t48, t49, t50, rfl, I0, I1, f0, f1, f2, f3, f4, f5, f6, f7, f8, f9, f10, f11, f12, f13⟩
            have e0 := f0 (hall 0 (by decide))
            have e1 := f1 (hall 1 (by decide))
            have e2 := f2 (hall 2 (by decide))
            have e3 := f3 (hall 3 (by decide))
            have e4 := f4 (hall 4 (by decide))
            have e5' := f5 (hall 5 (by decide))
            have e6 := f6 (hall 6 (by decide))
            have e7 := f7 (hall 7 (by decide))
            have e8 := f8 (hall 8 (by decide))
            have e9 := f9 (hall 9 (by decide))
            have e10 := f10 (hall 10 (by decide))
            have e11 := f11 (hall 11 (by decide))
            have e12 := f12 (hall 12 (by decide))
            have e13 := f13 (hall 13 (by decide))
            clear f0 f1 f2 f3 f4 f5 f6 f7 f8 f9 f10 f11 f12 f13
            obtain ⟨_, rfl⟩ := e11
            subst e12 e13
            clear e0 e1 e2 e3 e4 e5' e6 e7 e8 e10
            go_wp2_with fail
            go_ret3
            exact GaveY3.of (e9.base bW0.size) (bW0.trans (I0.mono bW0.size)) (by rw [HTK.out]; rw [HD.out]) HST.out.symm HOK.out.symm
        · have HTL := Lib.hid (fun W' (e2 : Below W0.heap.size W0 W') => (HBS.out.up e2).drop (k := b + 1) (by omega))
          have hW0' := Lib.hid hW0
          clear hW0
          go_wp2_with fail
          have h0W : Below W0.heap.size W0 w5.drew := by rw [hW0'.out]; exact Below.refl _ _
          refine wp_region_inv (by kernel_rfl) (by kernel_rfl) (fun L a ww => ∃ t6 t7 t8 t40 t41 t42 t43 t44 t45 t46 t47 t48 t49 t50 : Value, a = { tmps := #[.slice (some ⟨g, o, none⟩) n c, .int .i64 p, .int .i64 size, undef, undef, undef, t6, t7, t8, .int .i64 m, .int .i64 s, .int .i64 b, .slice Ap np cp, .slice (some ⟨g, o, none⟩) n c, .int .i64 p, .bool true, .bool false, .int .i64 size, .int .i64 m, .int .i64 m, .bool (decide ((m : Int) < 0)), undef, undef, .slice (some ⟨g, o, none⟩) n c, .agg (flv A' N C), .int .i64 m, .int .i64 s, .int .i64 s, .bool (decide ((s : Int) < 0)), undef, undef, .slice (some ⟨g, o, none⟩) n c, .int .i64 s, .int .i64 b, .slice (some ⟨g, o, none⟩) n c, .int .i64 b, .pointer (some ⟨g, o + b * 3, none⟩), .agg #[.int .i64 s, .int .i64 j, .bool false], .int .i64 m, .slice Ap np cp, t40, t41, t42, t43, t44, t45, t46, t47, t48, t49, t50], defers := [] } ∧ (Below W0.heap.size W0 ww) ∧ (L 9 = true → L 8 = true) ∧ (L 0 = true → t40 = .slice (some ⟨g, o, none⟩) n c) ∧ (L 1 = true → t41 = .int .i64 b) ∧ (L 2 = true → t42 = .slice (some ⟨g, o, none⟩) b c) ∧ (L 3 = true → t43 = .slice Ap np cp) ∧ (L 4 = true → t44 = .slice (some ⟨g, o, none⟩) n c) ∧ (L 5 = true → t45 = .int .i64 b) ∧ (L 6 = true → t46 = .int .i64 ((b : Int) + 1)) ∧ (L 7 = true → t47 = .slice (some ⟨g, o + (b + 1) * 3, none⟩) (n - (b + 1)) (c - (b + 1))) ∧ (L 8 = true → ∃ W', t48 = .slice (some ⟨W'.heap.size, 0, none⟩) 3 3 ∧ Below W0.heap.size W0 W' ∧ (L 9 = false → ww = W'.alloc (.cells #[.slice (some ⟨g, o, none⟩) b c, .slice Ap np cp, .slice (some ⟨g, o + (b + 1) * 3, none⟩) (n - (b + 1)) (c - (b + 1))] 27))) ∧ (L 9 = true → OwnY ww W0.heap.size t49 (xs.take b ++ Xp ++ xs.drop (b + 1))) ∧ (L 10 = true → t50 = .int .i64 s) ∧ (L 11 = true → L 9 = true ∧ t6 = t49) ∧ (L 12 = true → t7 = .int .i64 s) ∧ (L 13 = true → t8 = .bool true)) ?h0 ?hstep ?hdone
          case h0 => exact ⟨_, _, _, _, _, _, _, _, _, _, _, _, _, _, rfl, h0W, (fun h => absurd h Bool.false_ne_true), (fun h => absurd h Bool.false_ne_true), (fun h => absurd h Bool.false_ne_true), (fun h => absurd h Bool.false_ne_true), (fun h => absurd h Bool.false_ne_true), (fun h => absurd h Bool.false_ne_true), (fun h => absurd h Bool.false_ne_true), (fun h => absurd h Bool.false_ne_true), (fun h => absurd h Bool.false_ne_true), (fun h => absurd h Bool.false_ne_true), (fun h => absurd h Bool.false_ne_true), (fun h => absurd h Bool.false_ne_true), (fun h => absurd h Bool.false_ne_true), (fun h => absurd h Bool.false_ne_true), (fun h => absurd h Bool.false_ne_true)⟩
          case hstep =>
            rintro L a ww i o ho hL hd ⟨t6, t7, t8, t40, t41, t42, t43, t44, t45, t46, t47, t48, t49, t50, rfl, I0, I1, f0, f1, f2, f3, f4, f5, f6, f7, f8, f9, f10, f11, f12, f13⟩
            have hi : i < 14 := (Array.getElem?_eq_some_iff.1 ho).1
            obtain rfl | rfl | rfl | rfl | rfl | rfl | rfl | rfl | rfl | rfl | rfl | rfl | rfl | rfl : i = 0 ∨ i = 1 ∨ i = 2 ∨ i = 3 ∨ i = 4 ∨ i = 5 ∨ i = 6 ∨ i = 7 ∨ i = 8 ∨ i = 9 ∨ i = 10 ∨ i = 11 ∨ i = 12 ∨ i = 13 := by omega
            · obtain rfl := Option.some.inj ho
              refine wpOp_step rfl (fun K' hK => ?_)
              go_simp
              refine hK _ _ ?_
              exact ⟨_, _, _, _, _, _, _, _, _, _, _, _, _, _, rfl, (I0), (fun h => upd_mono (I1 (upd_ne h (by decide)))), (fun _ => rfl), (fun h => f1 (upd_ne h (by decide))), (fun h => f2 (upd_ne h (by decide))), (fun h => f3 (upd_ne h (by decide))), (fun h => f4 (upd_ne h (by decide))), (fun h => f5 (upd_ne h (by decide))), (fun h => f6 (upd_ne h (by decide))), (fun h => f7 (upd_ne h (by decide))), (fun h => by
                  obtain ⟨W', e1, e2, e3⟩ := f8 (upd_ne h (by decide))
                  exact ⟨W', e1, e2, fun h9 => e3 (by rw [upd_other (by decide)] at h9; exact h9)⟩), (fun h => f9 (upd_ne h (by decide))), (fun h => f10 (upd_ne h (by decide))), (fun h => ⟨upd_mono (f11 (upd_ne h (by decide))).1, (f11 (upd_ne h (by decide))).2⟩), (fun h => f12 (upd_ne h (by decide))), (fun h => f13 (upd_ne h (by decide)))⟩
            · obtain rfl := Option.some.inj ho
              refine wpOp_step rfl (fun K' hK => ?_)
              go_simp
              refine hK _ _ ?_
              exact ⟨_, _, _, _, _, _, _, _, _, _, _, _, _, _, rfl, (I0), (fun h => upd_mono (I1 (upd_ne h (by decide)))), (fun h => f0 (upd_ne h (by decide))), (fun _ => rfl), (fun h => f2 (upd_ne h (by decide))), (fun h => f3 (upd_ne h (by decide))), (fun h => f4 (upd_ne h (by decide))), (fun h => f5 (upd_ne h (by decide))), (fun h => f6 (upd_ne h (by decide))), (fun h => f7 (upd_ne h (by decide))), (fun h => by
                  obtain ⟨W', e1, e2, e3⟩ := f8 (upd_ne h (by decide))
                  exact ⟨W', e1, e2, fun h9 => e3 (by rw [upd_other (by decide)] at h9; exact h9)⟩), (fun h => f9 (upd_ne h (by decide))), (fun h => f10 (upd_ne h (by decide))), (fun h => ⟨upd_mono (f11 (upd_ne h (by decide))).1, (f11 (upd_ne h (by decide))).2⟩), (fun h => f12 (upd_ne h (by decide))), (fun h => f13 (upd_ne h (by decide)))⟩
            · obtain rfl := Option.some.inj ho
              have g0 := f0 (hd ⟨0, .data⟩ (by simp) rfl)
              have g1 := f1 (hd ⟨1, .data⟩ (by simp) rfl)
              subst g0
              subst g1
              refine wpOp_step rfl (fun K' hK => ?_)
              go_simp
              refine hK _ _ ?_
              exact ⟨_, _, _, _, _, _, _, _, _, _, _, _, _, _, rfl, (I0), (fun h => upd_mono (I1 (upd_ne h (by decide)))), (fun h => f0 (upd_ne h (by decide))), (fun h => f1 (upd_ne h (by decide))), (fun _ => rfl), (fun h => f3 (upd_ne h (by decide))), (fun h => f4 (upd_ne h (by decide))), (fun h => f5 (upd_ne h (by decide))), (fun h => f6 (upd_ne h (by decide))), (fun h => f7 (upd_ne h (by decide))), (fun h => by
                  obtain ⟨W', e1, e2, e3⟩ := f8 (upd_ne h (by decide))
                  exact ⟨W', e1, e2, fun h9 => e3 (by rw [upd_other (by decide)] at h9; exact h9)⟩), (fun h => f9 (upd_ne h (by decide))), (fun h => f10 (upd_ne h (by decide))), (fun h => ⟨upd_mono (f11 (upd_ne h (by decide))).1, (f11 (upd_ne h (by decide))).2⟩), (fun h => f12 (upd_ne h (by decide))), (fun h => f13 (upd_ne h (by decide)))⟩
            · obtain rfl := Option.some.inj ho
              refine wpOp_step rfl (fun K' hK => ?_)
              go_simp
              refine hK _ _ ?_
              exact ⟨_, _, _, _, _, _, _, _, _, _, _, _, _, _, rfl, (I0), (fun h => upd_mono (I1 (upd_ne h (by decide)))), (fun h => f0 (upd_ne h (by decide))), (fun h => f1 (upd_ne h (by decide))), (fun h => f2 (upd_ne h (by decide))), (fun _ => rfl), (fun h => f4 (upd_ne h (by decide))), (fun h => f5 (upd_ne h (by decide))), (fun h => f6 (upd_ne h (by decide))), (fun h => f7 (upd_ne h (by decide))), (fun h => by
                  obtain ⟨W', e1, e2, e3⟩ := f8 (upd_ne h (by decide))
                  exact ⟨W', e1, e2, fun h9 => e3 (by rw [upd_other (by decide)] at h9; exact h9)⟩), (fun h => f9 (upd_ne h (by decide))), (fun h => f10 (upd_ne h (by decide))), (fun h => ⟨upd_mono (f11 (upd_ne h (by decide))).1, (f11 (upd_ne h (by decide))).2⟩), (fun h => f12 (upd_ne h (by decide))), (fun h => f13 (upd_ne h (by decide)))⟩
            · obtain rfl := Option.some.inj ho
              refine wpOp_step rfl (fun K' hK => ?_)
              go_simp
              refine hK _ _ ?_
              exact ⟨_, _, _, _, _, _, _, _, _, _, _, _, _, _, rfl, (I0), (fun h => upd_mono (I1 (upd_ne h (by decide)))), (fun h => f0 (upd_ne h (by decide))), (fun h => f1 (upd_ne h (by decide))), (fun h => f2 (upd_ne h (by decide))), (fun h => f3 (upd_ne h (by decide))), (fun _ => rfl), (fun h => f5 (upd_ne h (by decide))), (fun h => f6 (upd_ne h (by decide))), (fun h => f7 (upd_ne h (by decide))), (fun h => by
                  obtain ⟨W', e1, e2, e3⟩ := f8 (upd_ne h (by decide))
                  exact ⟨W', e1, e2, fun h9 => e3 (by rw [upd_other (by decide)] at h9; exact h9)⟩), (fun h => f9 (upd_ne h (by decide))), (fun h => f10 (upd_ne h (by decide))), (fun h => ⟨upd_mono (f11 (upd_ne h (by decide))).1, (f11 (upd_ne h (by decide))).2⟩), (fun h => f12 (upd_ne h (by decide))), (fun h => f13 (upd_ne h (by decide)))⟩
            · obtain rfl := Option.some.inj ho
              refine wpOp_step rfl (fun K' hK => ?_)
              go_simp
              refine hK _ _ ?_
              exact ⟨_, _, _, _, _, _, _, _, _, _, _, _, _, _, rfl, (I0), (fun h => upd_mono (I1 (upd_ne h (by decide)))), (fun h => f0 (upd_ne h (by decide))), (fun h => f1 (upd_ne h (by decide))), (fun h => f2 (upd_ne h (by decide))), (fun h => f3 (upd_ne h (by decide))), (fun h => f4 (upd_ne h (by decide))), (fun _ => rfl), (fun h => f6 (upd_ne h (by decide))), (fun h => f7 (upd_ne h (by decide))), (fun h => by
                  obtain ⟨W', e1, e2, e3⟩ := f8 (upd_ne h (by decide))
                  exact ⟨W', e1, e2, fun h9 => e3 (by rw [upd_other (by decide)] at h9; exact h9)⟩), (fun h => f9 (upd_ne h (by decide))), (fun h => f10 (upd_ne h (by decide))), (fun h => ⟨upd_mono (f11 (upd_ne h (by decide))).1, (f11 (upd_ne h (by decide))).2⟩), (fun h => f12 (upd_ne h (by decide))), (fun h => f13 (upd_ne h (by decide)))⟩
            · obtain rfl := Option.some.inj ho
              have g5 := f5 (hd ⟨5, .data⟩ (by simp) rfl)
              subst g5
              have hw : IntKind.i64.wrap ((b : Int) + 1) = (b : Int) + 1 := IntWalk.i64_in _ (by omega)
              refine wpOp_step rfl (fun K' hK => ?_)
              go_simp
              refine hK _ _ ?_
              clear hw
              exact ⟨_, _, _, _, _, _, _, _, _, _, _, _, _, _, rfl, (I0), (fun h => upd_mono (I1 (upd_ne h (by decide)))), (fun h => f0 (upd_ne h (by decide))), (fun h => f1 (upd_ne h (by decide))), (fun h => f2 (upd_ne h (by decide))), (fun h => f3 (upd_ne h (by decide))), (fun h => f4 (upd_ne h (by decide))), (fun h => f5 (upd_ne h (by decide))), (fun _ => rfl), (fun h => f7 (upd_ne h (by decide))), (fun h => by
                  obtain ⟨W', e1, e2, e3⟩ := f8 (upd_ne h (by decide))
                  exact ⟨W', e1, e2, fun h9 => e3 (by rw [upd_other (by decide)] at h9; exact h9)⟩), (fun h => f9 (upd_ne h (by decide))), (fun h => f10 (upd_ne h (by decide))), (fun h => ⟨upd_mono (f11 (upd_ne h (by decide))).1, (f11 (upd_ne h (by decide))).2⟩), (fun h => f12 (upd_ne h (by decide))), (fun h => f13 (upd_ne h (by decide)))⟩
            · obtain rfl := Option.some.inj ho
              have g4 := f4 (hd ⟨4, .data⟩ (by simp) rfl)
              have g6 := f6 (hd ⟨6, .data⟩ (by simp) rfl)
              subst g4
              subst g6
              refine wpOp_step rfl (fun K' hK => ?_)
              go_simp
              refine hK _ _ ?_
              exact ⟨_, _, _, _, _, _, _, _, _, _, _, _, _, _, rfl, (I0), (fun h => upd_mono (I1 (upd_ne h (by decide)))), (fun h => f0 (upd_ne h (by decide))), (fun h => f1 (upd_ne h (by decide))), (fun h => f2 (upd_ne h (by decide))), (fun h => f3 (upd_ne h (by decide))), (fun h => f4 (upd_ne h (by decide))), (fun h => f5 (upd_ne h (by decide))), (fun h => f6 (upd_ne h (by decide))), (fun _ => rfl), (fun h => by
                  obtain ⟨W', e1, e2, e3⟩ := f8 (upd_ne h (by decide))
                  exact ⟨W', e1, e2, fun h9 => e3 (by rw [upd_other (by decide)] at h9; exact h9)⟩), (fun h => f9 (upd_ne h (by decide))), (fun h => f10 (upd_ne h (by decide))), (fun h => ⟨upd_mono (f11 (upd_ne h (by decide))).1, (f11 (upd_ne h (by decide))).2⟩), (fun h => f12 (upd_ne h (by decide))), (fun h => f13 (upd_ne h (by decide)))⟩
            · obtain rfl := Option.some.inj ho
              have g2 := f2 (hd ⟨2, .data⟩ (by simp) rfl)
              have g3 := f3 (hd ⟨3, .data⟩ (by simp) rfl)
              have g7 := f7 (hd ⟨7, .data⟩ (by simp) rfl)
              subst g2
              subst g3
              subst g7
              have h9 : L 9 = false := by
                cases hh : L 9
                · rfl
                · exact absurd ((I1 hh).symm.trans hL) (by decide)
              refine wpOp_step rfl (fun K' hK => ?_)
              go_simp
              refine hK _ _ ?_
              exact ⟨_, _, _, _, _, _, _, _, _, _, _, _, _, _, rfl, (I0.alloc I0.size _), (fun _ => upd_self), (fun h => f0 (upd_ne h (by decide))), (fun h => f1 (upd_ne h (by decide))), (fun h => f2 (upd_ne h (by decide))), (fun h => f3 (upd_ne h (by decide))), (fun h => f4 (upd_ne h (by decide))), (fun h => f5 (upd_ne h (by decide))), (fun h => f6 (upd_ne h (by decide))), (fun h => f7 (upd_ne h (by decide))), (fun _ => ⟨ww, rfl, I0, fun _ => rfl⟩), (fun h => absurd ((upd_ne h (by decide)).symm.trans h9) (by decide)), (fun h => f10 (upd_ne h (by decide))), (fun h => ⟨upd_mono (f11 (upd_ne h (by decide))).1, (f11 (upd_ne h (by decide))).2⟩), (fun h => f12 (upd_ne h (by decide))), (fun h => f13 (upd_ne h (by decide)))⟩
            · obtain rfl := Option.some.inj ho
              have g8 := f8 (hd ⟨8, .data⟩ (by simp) rfl)
              obtain ⟨W', rfl, e2, e3⟩ := g8
              have e4 := e3 hL
              subst e4
              refine wpOp_step rfl (fun K' hK => ?_)
              go_simp
              refine (concat3Y W' _ (some ⟨g, o, none⟩) Ap (some ⟨g, o + (b + 1) * 3, none⟩) b np ((n - (b + 1))) c cp ((c - (b + 1))) (xs.take b) Xp (xs.drop (b + 1)) (((HBS.out.up e2).take (by omega))) (HPR.out.up e2) (HTL.out W' e2) (by omega)).mono ?_
              rintro e w' ⟨v9, rfl, o9, b9⟩
              refine hK _ _ ?_
              exact ⟨_, _, _, _, _, _, _, _, _, _, _, _, _, _, rfl, (e2.trans (b9.mono e2.size)), (fun _ => upd_mono (hd ⟨8, .data⟩ (by simp) rfl)), (fun h => f0 (upd_ne h (by decide))), (fun h => f1 (upd_ne h (by decide))), (fun h => f2 (upd_ne h (by decide))), (fun h => f3 (upd_ne h (by decide))), (fun h => f4 (upd_ne h (by decide))), (fun h => f5 (upd_ne h (by decide))), (fun h => f6 (upd_ne h (by decide))), (fun h => f7 (upd_ne h (by decide))), (fun _ => ⟨W', rfl, e2, fun h => absurd (upd_self.symm.trans h) (by decide)⟩), (fun _ => o9.base e2.size), (fun h => f10 (upd_ne h (by decide))), (fun h => absurd ((f11 (upd_ne h (by decide))).1.symm.trans hL) (by decide)), (fun h => f12 (upd_ne h (by decide))), (fun h => f13 (upd_ne h (by decide)))⟩
            · obtain rfl := Option.some.inj ho
              refine wpOp_step rfl (fun K' hK => ?_)
              go_simp
              refine hK _ _ ?_
              exact ⟨_, _, _, _, _, _, _, _, _, _, _, _, _, _, rfl, (I0), (fun h => upd_mono (I1 (upd_ne h (by decide)))), (fun h => f0 (upd_ne h (by decide))), (fun h => f1 (upd_ne h (by decide))), (fun h => f2 (upd_ne h (by decide))), (fun h => f3 (upd_ne h (by decide))), (fun h => f4 (upd_ne h (by decide))), (fun h => f5 (upd_ne h (by decide))), (fun h => f6 (upd_ne h (by decide))), (fun h => f7 (upd_ne h (by decide))), (fun h => by
                  obtain ⟨W', e1, e2, e3⟩ := f8 (upd_ne h (by decide))
                  exact ⟨W', e1, e2, fun h9 => e3 (by rw [upd_other (by decide)] at h9; exact h9)⟩), (fun h => f9 (upd_ne h (by decide))), (fun _ => rfl), (fun h => ⟨upd_mono (f11 (upd_ne h (by decide))).1, (f11 (upd_ne h (by decide))).2⟩), (fun h => f12 (upd_ne h (by decide))), (fun h => f13 (upd_ne h (by decide)))⟩
            · obtain rfl := Option.some.inj ho
              have g9 := f9 (hd ⟨9, .data⟩ (by simp) rfl)
              refine wpOp_step rfl (fun K' hK => ?_)
              go_simp
              refine hK _ _ ?_
              exact ⟨_, _, _, _, _, _, _, _, _, _, _, _, _, _, rfl, (I0), (fun h => upd_mono (I1 (upd_ne h (by decide)))), (fun h => f0 (upd_ne h (by decide))), (fun h => f1 (upd_ne h (by decide))), (fun h => f2 (upd_ne h (by decide))), (fun h => f3 (upd_ne h (by decide))), (fun h => f4 (upd_ne h (by decide))), (fun h => f5 (upd_ne h (by decide))), (fun h => f6 (upd_ne h (by decide))), (fun h => f7 (upd_ne h (by decide))), (fun h => by
                  obtain ⟨W', e1, e2, e3⟩ := f8 (upd_ne h (by decide))
                  exact ⟨W', e1, e2, fun h9 => e3 (by rw [upd_other (by decide)] at h9; exact h9)⟩), (fun h => f9 (upd_ne h (by decide))), (fun h => f10 (upd_ne h (by decide))), (fun _ => ⟨upd_mono (hd ⟨9, .data⟩ (by simp) rfl), rfl⟩), (fun h => f12 (upd_ne h (by decide))), (fun h => f13 (upd_ne h (by decide)))⟩
            · obtain rfl := Option.some.inj ho
              have g10 := f10 (hd ⟨10, .data⟩ (by simp) rfl)
              subst g10
              refine wpOp_step rfl (fun K' hK => ?_)
              go_simp
              refine hK _ _ ?_
              exact ⟨_, _, _, _, _, _, _, _, _, _, _, _, _, _, rfl, (I0), (fun h => upd_mono (I1 (upd_ne h (by decide)))), (fun h => f0 (upd_ne h (by decide))), (fun h => f1 (upd_ne h (by decide))), (fun h => f2 (upd_ne h (by decide))), (fun h => f3 (upd_ne h (by decide))), (fun h => f4 (upd_ne h (by decide))), (fun h => f5 (upd_ne h (by decide))), (fun h => f6 (upd_ne h (by decide))), (fun h => f7 (upd_ne h (by decide))), (fun h => by
                  obtain ⟨W', e1, e2, e3⟩ := f8 (upd_ne h (by decide))
                  exact ⟨W', e1, e2, fun h9 => e3 (by rw [upd_other (by decide)] at h9; exact h9)⟩), (fun h => f9 (upd_ne h (by decide))), (fun h => f10 (upd_ne h (by decide))), (fun h => ⟨upd_mono (f11 (upd_ne h (by decide))).1, (f11 (upd_ne h (by decide))).2⟩), (fun _ => rfl), (fun h => f13 (upd_ne h (by decide)))⟩
            · obtain rfl := Option.some.inj ho
              refine wpOp_step rfl (fun K' hK => ?_)
              go_simp
              refine hK _ _ ?_
              exact ⟨_, _, _, _, _, _, _, _, _, _, _, _, _, _, rfl, (I0), (fun h => upd_mono (I1 (upd_ne h (by decide)))), (fun h => f0 (upd_ne h (by decide))), (fun h => f1 (upd_ne h (by decide))), (fun h => f2 (upd_ne h (by decide))), (fun h => f3 (upd_ne h (by decide))), (fun h => f4 (upd_ne h (by decide))), (fun h => f5 (upd_ne h (by decide))), (fun h => f6 (upd_ne h (by decide))), (fun h => f7 (upd_ne h (by decide))), (fun h => by
                  obtain ⟨W', e1, e2, e3⟩ := f8 (upd_ne h (by decide))
                  exact ⟨W', e1, e2, fun h9 => e3 (by rw [upd_other (by decide)] at h9; exact h9)⟩), (fun h => f9 (upd_ne h (by decide))), (fun h => f10 (upd_ne h (by decide))), (fun h => ⟨upd_mono (f11 (upd_ne h (by decide))).1, (f11 (upd_ne h (by decide))).2⟩), (fun h => f12 (upd_ne h (by decide))), (fun _ => rfl)⟩
          case hdone =>
            rintro L a ww hall ⟨t6, t7, t8, t40, t41, t42, t43, t44, t45, t46, t47, t48, t49, t50, rfl, I0, I1, f0, f1, f2, f3, f4, f5, f6, f7, f8, f9, f10, f11, f12, f13⟩
            have e0 := f0 (hall 0 (by decide))
            have e1 := f1 (hall 1 (by decide))
            have e2 := f2 (hall 2 (by decide))
            have e3 := f3 (hall 3 (by decide))
            have e4 := f4 (hall 4 (by decide))
            have e5' := f5 (hall 5 (by decide))
            have e6 := f6 (hall 6 (by decide))
            have e7 := f7 (hall 7 (by decide))
            have e8 := f8 (hall 8 (by decide))
            have e9 := f9 (hall 9 (by decide))
            have e10 := f10 (hall 10 (by decide))
            have e11 := f11 (hall 11 (by decide))
            have e12 := f12 (hall 12 (by decide))
            have e13 := f13 (hall 13 (by decide))
            clear f0 f1 f2 f3 f4 f5 f6 f7 f8 f9 f10 f11 f12 f13
            obtain ⟨_, rfl⟩ := e11
            subst e12 e13
            clear e0 e1 e2 e3 e4 e5' e6 e7 e8 e10
            go_wp2_with fail
            go_ret3
            exact GaveY3.of (e9.base bW0.size) (bW0.trans (I0.mono bW0.size)) (by rw [HTK.out]; skip) HST.out.symm HOK.out.symm
end Go.Proofs.Ythihaclhlmpioaa

namespace Go.Proofs.Ythihaclhlmpioaa
open Go.RowKit

set_option maxRecDepth 100000 in
set_option maxHeartbeats 4000000 in
theorem joined_any (A : Nat → Option Addr) (N C : Nat → Nat) (FL : Nat → List Int) (s0 j0 : Nat) (u : Bool) (w : World) (hI : ∀ j, j < 9 → IS w w.heap.size (A j) (N j) (FL j)) (hN : ∀ j, j < 9 → N j ≤ 1099511627776) (ha : ∀ j, AscN (FL j))
    (hs0 : s0 < 256) (hj0 : j0 ≤ 8) (hF : ∀ j v, v ∈ FL j → v < 256) :
    Calls Try.prog 53 #[.agg (flv A N C), .agg #[.int .i64 s0, .int .i64 j0, .bool u]] w fun e w' => e = .returned (.agg #[.int .i64 (Bud.joinF FL (8 - j0) s0 j0).1, .int .i64 (Bud.joinF FL (8 - j0) s0 j0).2, .bool false]) ∧ Below w.heap.size w w' := by
  have HI := Lib.hid hI
  have HN := Lib.hid hN
  have HA := Lib.hid ha
  have HF := Lib.hid hF
  clear hI hN ha hF
  unfold flv
  go_enter Try.func53, Try.ntmps53
  go_wp2_with fail
  obtain ⟨W3, hW3⟩ : ∃ W3, W3 = ((w.alloc (.cells #[.slice (A 0) (N 0) (C 0), .slice (A 1) (N 1) (C 1), .slice (A 2) (N 2) (C 2), .slice (A 3) (N 3) (C 3), .slice (A 4) (N 4) (C 4), .slice (A 5) (N 5) (C 5), .slice (A 6) (N 6) (C 6), .slice (A 7) (N 7) (C 7), .slice (A 8) (N 8) (C 8)] 62)).alloc (.cells #[.int .i64 s0, .int .i64 j0, .bool u] 40)).alloc (.cells #[.int .i64 0, .int .i64 0, .bool false] 40) := ⟨_, rfl⟩
  have s3 : W3.heap.size = w.heap.size + 1 + 1 + 1 := by rw [hW3]; simp
  have b3 : Below w.heap.size w W3 := by rw [hW3]; exact ((((Below.refl _ _).alloc (Nat.le_refl _) _).alloc (by simp) _).alloc (by simp; omega) _)
  have HC0 := Lib.hid (fun i hi => (show W3.cell? ⟨w.heap.size, i, none⟩ = some (.slice (A i) (N i) (C i)) by
    have h1 := ((Rw.new w 62 (flv A N C)).cell i).trans (flv_at A N C (j := i) hi)
    have h2 : Below (w.heap.size + 1) (w.alloc (.cells (flv A N C) 62)) W3 := by rw [hW3]; exact ((Below.refl _ _).alloc (by simp) _).alloc (by simp) _
    exact (h2.cell (p := ⟨w.heap.size, i, none⟩) (Nat.lt_succ_self _)).trans h1))
  have hres3 : Rw W3 (w.heap.size + 1 + 1) 40 #[.int .i64 0, .int .i64 0, .bool false] := by
    rw [hW3]
    have := Rw.new ((w.alloc (.cells #[.slice (A 0) (N 0) (C 0), .slice (A 1) (N 1) (C 1), .slice (A 2) (N 2) (C 2), .slice (A 3) (N 3) (C 3), .slice (A 4) (N 4) (C 4), .slice (A 5) (N 5) (C 5), .slice (A 6) (N 6) (C 6), .slice (A 7) (N 7) (C 7), .slice (A 8) (N 8) (C 8)] 62)).alloc (.cells #[.int .i64 s0, .int .i64 j0, .bool u] 40)) 40 #[.int .i64 0, .int .i64 0, .bool false]
    simpa using this
  have hloc3 : Rw (W3.alloc (.cells #[.int .i64 s0, .int .i64 j0, .bool false] 40)) (w.heap.size + 1 + 1 + 1) 40 #[.int .i64 s0, .int .i64 j0, .bool false] := by
    have := Rw.new W3 40 #[.int .i64 s0, .int .i64 j0, .bool false]
    rw [s3] at this
    exact this
  rw [← hW3]
  clear hW3
  go_loopw [11] (fun _ wr => ∃ s j : Nat, j ≤ 8 ∧ s < 256 ∧ Hid (Bud.joinF FL (8 - j0) s0 j0 = Bud.joinF FL (8 - j) s j) ∧ Rw wr (w.heap.size + 1 + 1 + 1) 40 #[.int .i64 s, .int .i64 j, .bool false] ∧ Below (w.heap.size + 1 + 1 + 1) W3 wr)
    (fun _ wr => 8 - (intOf ((wr.cell? ⟨w.heap.size + 1 + 1 + 1, 1, none⟩).getD undef)).toNat)
  case atStart => exact ⟨s0, j0, hj0, hs0, Lib.hid rfl, hloc3, (Below.refl _ _).alloc (by omega) _⟩
  case round =>
    clear hloc3
    obtain ⟨s, j, hj, hs, hjoin, hrow, hb3⟩ := hrel
    have hwl := hrow.lt
    have c0 := hrow.cell 0
    have c1 := hrow.cell 1
    simp at c0 c1
    have bwr : Below w.heap.size w wr := b3.trans (hb3.mono (by omega))
    have HME := Lib.hid (show 8 - (intOf ((wr.cell? ⟨w.heap.size + 1 + 1 + 1, 1, none⟩).getD undef)).toNat = 8 - j by rw [c1]; rfl)
    have HC := Lib.hid (fun w' (hw' : InW wr w') => (show w'.cell? ⟨w.heap.size, 0, none⟩ = some (.slice (A 0) (N 0) (C 0)) ∧ w'.cell? ⟨w.heap.size, 1, none⟩ = some (.slice (A 1) (N 1) (C 1)) ∧ w'.cell? ⟨w.heap.size, 2, none⟩ = some (.slice (A 2) (N 2) (C 2)) ∧ w'.cell? ⟨w.heap.size, 3, none⟩ = some (.slice (A 3) (N 3) (C 3)) ∧ w'.cell? ⟨w.heap.size, 4, none⟩ = some (.slice (A 4) (N 4) (C 4)) ∧ w'.cell? ⟨w.heap.size, 5, none⟩ = some (.slice (A 5) (N 5) (C 5)) ∧ w'.cell? ⟨w.heap.size, 6, none⟩ = some (.slice (A 6) (N 6) (C 6)) ∧ w'.cell? ⟨w.heap.size, 7, none⟩ = some (.slice (A 7) (N 7) (C 7)) ∧ w'.cell? ⟨w.heap.size, 8, none⟩ = some (.slice (A 8) (N 8) (C 8)) ∧ w'.cell? ⟨w.heap.size + 1 + 1 + 1, 0, none⟩ = some (.int .i64 s) ∧ w'.cell? ⟨w.heap.size + 1 + 1 + 1, 1, none⟩ = some (.int .i64 j) from
      ⟨(Below.cell hw' (p := ⟨w.heap.size, 0, none⟩) (by show w.heap.size < _; omega)).trans ((hb3.cell (p := ⟨w.heap.size, 0, none⟩) (by show w.heap.size < _; omega)).trans (HC0.out 0 (by omega))), (Below.cell hw' (p := ⟨w.heap.size, 1, none⟩) (by show w.heap.size < _; omega)).trans ((hb3.cell (p := ⟨w.heap.size, 1, none⟩) (by show w.heap.size < _; omega)).trans (HC0.out 1 (by omega))), (Below.cell hw' (p := ⟨w.heap.size, 2, none⟩) (by show w.heap.size < _; omega)).trans ((hb3.cell (p := ⟨w.heap.size, 2, none⟩) (by show w.heap.size < _; omega)).trans (HC0.out 2 (by omega))), (Below.cell hw' (p := ⟨w.heap.size, 3, none⟩) (by show w.heap.size < _; omega)).trans ((hb3.cell (p := ⟨w.heap.size, 3, none⟩) (by show w.heap.size < _; omega)).trans (HC0.out 3 (by omega))), (Below.cell hw' (p := ⟨w.heap.size, 4, none⟩) (by show w.heap.size < _; omega)).trans ((hb3.cell (p := ⟨w.heap.size, 4, none⟩) (by show w.heap.size < _; omega)).trans (HC0.out 4 (by omega))), (Below.cell hw' (p := ⟨w.heap.size, 5, none⟩) (by show w.heap.size < _; omega)).trans ((hb3.cell (p := ⟨w.heap.size, 5, none⟩) (by show w.heap.size < _; omega)).trans (HC0.out 5 (by omega))), (Below.cell hw' (p := ⟨w.heap.size, 6, none⟩) (by show w.heap.size < _; omega)).trans ((hb3.cell (p := ⟨w.heap.size, 6, none⟩) (by show w.heap.size < _; omega)).trans (HC0.out 6 (by omega))), (Below.cell hw' (p := ⟨w.heap.size, 7, none⟩) (by show w.heap.size < _; omega)).trans ((hb3.cell (p := ⟨w.heap.size, 7, none⟩) (by show w.heap.size < _; omega)).trans (HC0.out 7 (by omega))), (Below.cell hw' (p := ⟨w.heap.size, 8, none⟩) (by show w.heap.size < _; omega)).trans ((hb3.cell (p := ⟨w.heap.size, 8, none⟩) (by show w.heap.size < _; omega)).trans (HC0.out 8 (by omega))), (Below.cell hw' (p := ⟨w.heap.size + 1 + 1 + 1, 0, none⟩) hwl).trans c0, (Below.cell hw' (p := ⟨w.heap.size + 1 + 1 + 1, 1, none⟩) hwl).trans c1⟩))
    obtain ⟨mv, hmv⟩ : ∃ mv, mateV s j = mv := ⟨_, rfl⟩
    obtain ⟨fb, hfb⟩ : ∃ fb, decide (mv ∈ FL j) = fb := ⟨_, rfl⟩
    have CM := Lib.hid (fun w' (hw' : InW wr w') => (otherHalf_any s j w' (by omega) hj).mono (R' := fun e w'' => e = .returned (.int .i64 mv) ∧ InW wr w'') fun e w'' hh => ⟨by rw [← hmv]; exact hh.1, hh.2 ▸ hw'⟩)
    have CH := Lib.hid (fun w' (hw' : InW wr w') => (has_any A N C FL mv j w' ((HI.out j (by omega)).up (bwr.trans ((show Below wr.heap.size wr w' from hw').mono bwr.size))) hj (HN.out j (by omega)) (HA.out j)).mono (R' := fun e w'' => e = .returned (.bool fb) ∧ InW wr w'') fun e w'' hh => ⟨by rw [← hfb]; exact hh.1, hw'.call hh.2⟩)
    unfold flv at CH
    have HR := Lib.hid hrow
    have HB3 := Lib.hid hb3
    have HFB := Lib.hid hfb
    have HMV := Lib.hid hmv
    clear hrow c0 c1 hfb hmv
    go_wp2_with fail
    refine wp_region_quiet (C := InW wr) (by kernel_rfl) (by kernel_rfl) (show InW wr _ from (Below.refl _ _).drew) ?_
    repeat (
      refine wpQuiet_step (fun K hK => ?_)
      go_simp
      first
        | (refine hK _ ?_
           clear hK K)
        | ((with_reducible refine ⟨_, fun _ _ => rfl, hK _ ?_⟩)
           clear hK K)
        | ((with_reducible refine ⟨_, CM.out, hK _ ?_⟩)
           clear hK K)
        | ((with_reducible refine ⟨_, CH.out, hK _ ?_⟩)
           clear hK K)
        | (refine ⟨.agg #[.slice (A 0) (N 0) (C 0), .slice (A 1) (N 1) (C 1), .slice (A 2) (N 2) (C 2), .slice (A 3) (N 3) (C 3), .slice (A 4) (N 4) (C 4), .slice (A 5) (N 5) (C 5), .slice (A 6) (N 6) (C 6), .slice (A 7) (N 7) (C 7), .slice (A 8) (N 8) (C 8)], ?_, hK _ ?_⟩
           · intro w' hw'
             obtain ⟨a0, a1, a2, a3, a4, a5, a6, a7, a8, k0, k1⟩ := HC.out w' hw'
             go_simp
           clear hK K)
        | (refine ⟨.int .i64 s, ?_, hK _ ?_⟩
           · intro w' hw'
             obtain ⟨a0, a1, a2, a3, a4, a5, a6, a7, a8, k0, k1⟩ := HC.out w' hw'
             go_simp
           clear hK K)
        | (refine ⟨.int .i64 j, ?_, hK _ ?_⟩
           · intro w' hw'
             obtain ⟨a0, a1, a2, a3, a4, a5, a6, a7, a8, k0, k1⟩ := HC.out w' hw'
             go_simp
           clear hK K))
    refine wpQuiet_nil ?_
    intro w5 hw5
    have hrow5 : Rw w5 (w.heap.size + 1 + 1 + 1) 40 #[.int .i64 s, .int .i64 j, .bool false] := HR.out.keep hw5 hwl
    have hb5 : Below (w.heap.size + 1 + 1 + 1) W3 w5 := HB3.out.trans ((show Below wr.heap.size wr w5 from hw5).mono (by omega))
    have c0 := hrow5.cell 0
    have c1 := hrow5.cell 1
    have c2 := hrow5.cell 2
    have f0 := hrow5.frozen 0
    have f1 := hrow5.frozen 1
    have f2 := hrow5.frozen 2
    simp at c0 c1 c2
    have HR5 := Lib.hid hrow5
    clear hrow5
    cases fb
    · have rr := hres3.keep hb5 (by omega)
      have d0 := rr.cell 0
      have d1 := rr.cell 1
      have d2 := rr.cell 2
      have e0 := rr.frozen 0
      have e1 := rr.frozen 1
      have e2 := rr.frozen 2
      simp at d0 d1 d2
      have HJ := Lib.hid (show Bud.joinF FL (8 - j0) s0 j0 = (s, j) by
        rw [hjoin.out]
        rcases Nat.lt_or_ge j 8 with h | h
        · rw [show 8 - j = (8 - (j + 1)) + 1 by omega, Bud.joinF, if_neg (by rw [HMV.out]; exact of_decide_eq_false HFB.out)]
        · rw [show 8 - j = 0 by omega]
          rfl)
      go_wp2
      refine bodyPost_ret (v := .agg #[.int .i64 s, .int .i64 j, .bool false]) ?_ rfl ⟨by rw [HJ.out], b3.trans ((((hb5.mono (show w.heap.size + 1 + 1 ≤ w.heap.size + 1 + 1 + 1 by omega)).setCell (by simp) _).setCell (by simp) _).setCell (by simp) _ |>.mono (by omega))⟩
      have rf := ((rr.put 0 (.int .i64 s)).put 1 (.int .i64 j)).put 2 (.bool false)
      have q0 := rf.cell 0
      have q1 := rf.cell 1
      have q2 := rf.cell 2
      simp at q0 q1 q2
      generalize ((w5.setCell ⟨w.heap.size + 1 + 1, 0, none⟩ (.int .i64 s)).setCell ⟨w.heap.size + 1 + 1, 1, none⟩ (.int .i64 j)).setCell ⟨w.heap.size + 1 + 1, 2, none⟩ (.bool false) = WF at *
      simp [results, Try.results53, go_sem, q0, q1, q2]
    · have hj8 : j < 8 := by
        rcases Nat.lt_or_ge j 8 with h | h
        · exact h
        · obtain rfl : j = 8 := by omega
          exfalso
          have h1 := HF.out 8 mv (of_decide_eq_true HFB.out)
          have h2 := HMV.out
          rw [mateV_nat, xor_pow, if_pos (by rw [Nat.div_eq_of_lt (by omega)])] at h2
          omega
      have han := andNot_nat s j hs hj
      have hbl := Bud.baseV_le s j
      have HJ := Lib.hid (show Bud.joinF FL (8 - j0) s0 j0 = Bud.joinF FL (8 - (j + 1)) (Bud.baseV s j) (j + 1) by
        rw [hjoin.out, show 8 - j = (8 - (j + 1)) + 1 by omega, Bud.joinF, if_pos (by rw [HMV.out]; exact of_decide_eq_true HFB.out)])
      generalize Bud.baseV s j = sb at *
      have HFIN := Lib.hid (show Rw (((w5.setCell ⟨w.heap.size + 1 + 1 + 1, 0, none⟩ (.int .i64 sb)).setCell ⟨w.heap.size + 1 + 1 + 1, 1, none⟩ (.int .i64 ((j : Int) + 1))).drew) (w.heap.size + 1 + 1 + 1) 40 #[.int .i64 sb, .int .i64 ((j + 1 : Nat) : Int), .bool false] from by
        have := (HR5.out.put 0 (.int .i64 sb)).put 1 (.int .i64 ((j : Int) + 1))
        have h2 : Rw ((w5.setCell ⟨w.heap.size + 1 + 1 + 1, 0, none⟩ (.int .i64 sb)).setCell ⟨w.heap.size + 1 + 1 + 1, 1, none⟩ (.int .i64 ((j : Int) + 1))) (w.heap.size + 1 + 1 + 1) 40 #[.int .i64 sb, .int .i64 ((j + 1 : Nat) : Int), .bool false] := by simpa using this
        exact h2)
      go_wp2_with fail
      go_region_with (first
        | (go_at_call 44; refine (buddyWords_any j _ hj).mono ?_; rintro e w' ⟨rfl, rfl⟩)
        | fail)
      all_goals
        go_wp2
        go_roundw
        case rel => exact ⟨sb, j + 1, by omega, by omega, HJ, HFIN.out, ((hb5.setCell (by simp) _).setCell (by simp) _).drew⟩
        case measure =>
          rw [HME.out, HFIN.out.cell 1]
          simp [intOf]
          omega
end Go.Proofs.Ythihaclhlmpioaa

namespace Go.Proofs.Ythihaclhlmpioaa
open Go.RowKit

theorem GaveY2.of {w w' : World} {v : Value} {ys zs : List Bl} {ok ok' : Bool} (ho : OwnY w' w.heap.size v ys) (hb : Below w.heap.size w w') (e1 : ys = zs) (e3 : ok = ok') : GaveY2 w zs ok' (.returned (.tuple #[v, .bool ok])) w' := by
  subst e1 e3
  exact ⟨v, rfl, ho, hb⟩

set_option maxRecDepth 100000 in
set_option maxHeartbeats 8000000 in
theorem buddyGive_any (A : Option Addr) (n c : Nat) (xs : List Bl) (p a : Int) (w : World) (h : BS w w.heap.size A n xs) (hn : n ≤ 1099511627776) (hc : n ≤ c) :
    Calls Try.prog 26 #[.slice A n c, .int .i64 p, .int .i64 a] w (GaveY2 w (if Bud.validY xs p = true then Bud.giveY xs p a else []) (Bud.validY xs p && Bud.okG xs a)) := by
  have HL := Lib.hid h.1
  cases hv : Bud.validY xs p
  · have HV := Lib.hid hv
    clear hv
    go_enter Try.func26, Try.ntmps26
    go_wp2_with fail
    refine (buddiesValid_any _ _ _ xs _ _ h hn).mono ?_
    rw [HV.out]
    rintro e w1 ⟨rfl, b1⟩
    go_wp2_with fail
    go_ret2
    exact ⟨_, rfl, World.ownsRow_nil _ _ _ _, b1⟩
  · rw [if_pos rfl, Bool.true_and]
    have HV := Lib.hid hv
    have HAS := Lib.hid (Bud.asc_of_valid hv)
    have HOI := Lib.hid (Bud.okG_from hv a)
    have hl := Bud.validY_len hv
    have hn5 : n ≤ 256 := by have := h.1; omega
    have hFle : Bud.fromY xs a ≤ n := by have := Bud.fromY_le xs a; rw [h.1] at this; exact this
    clear hv hl
    go_enter Try.func26, Try.ntmps26
    go_wp2_with fail
    refine (buddiesValid_any _ _ _ xs _ _ h hn).mono ?_
    rw [HV.out]
    rintro e w1 ⟨rfl, b1⟩
    go_wp2_with fail
    refine (buddyFrom_any A n c xs a w1 (h.up b1) hn5 HAS.out).mono ?_
    rintro e w2 ⟨rfl, b2⟩
    have bb2 := b1.trans (b2.mono b1.size)
    clear b1 b2
    obtain ⟨F, hF⟩ : ∃ F, Bud.fromY xs a = F := ⟨_, rfl⟩
    rw [hF] at HOI hFle ⊢
    have HF := Lib.hid hF
    clear hF
    by_cases hFn : F < n
    · obtain ⟨g, o, x, rfl, hg, hx, ⟨i1, i2⟩, ⟨i3, i4⟩, c1, c2, c3⟩ := (h.below bb2).at_ hFn
      have HX := Lib.hid hx
      have hne : ((F : Int) == (n : Int)) = false := by rw [beq_eq_false_iff_ne]; omega
      have hFn' : (F : Int) < n := by omega
      clear hx
      by_cases hok : x.s = a ∧ x.u = true
      · have HOK := Lib.hid (show Bud.okG xs a = true from HOI.out.2 ⟨x, HX.out, hok⟩)
        obtain ⟨cc, j, e1, e2, e3, e4, e5, e6⟩ := Bud.valid_mult HV.out HX.out
        have hxe : x = ⟨cc, j, true⟩ := by
          obtain ⟨xs', xz, xu⟩ := x
          simp only at e1 e2 hok
          rw [e1, e2, hok.2]
        obtain rfl : a = cc := by rw [← e1]; exact hok.1.symm
        subst hxe
        simp only at c1 c2 c3
        obtain ⟨s', j', k1, _, k2, k3, k4⟩ := Bud.prog_give HV.out HX.out
        have hp2 := Nat.two_pow_pos j
        have hp2' := Nat.two_pow_pos j'
        have hpw := Bud.two_pow_le k4
        have hc256 : cc < 256 := by omega
        have hs256 : s' < 256 := by omega
        have HJ := Lib.hid k1
        have HG := Lib.hid k2
        clear hok k1 k2 e1 e2 e3 e4 e6 i1 i2 i3 i4
        have hcc : ((cc : Int) != (cc : Int)) = false := by simp
        go_wp2_with fail
        obtain ⟨W0, hW0⟩ : ∃ W0, W0 = w2.drew := ⟨_, rfl⟩
        have bW0 : Below w.heap.size w W0 := by rw [hW0]; exact bb2.drew
        have h0W : Below W0.heap.size W0 w2.drew := by rw [hW0]; exact Below.refl _ _
        have hgW : g < W0.heap.size := Nat.lt_of_lt_of_le hg bW0.size
        have d1 : W0.cell? ⟨g, o + F * 3, none⟩ = some (.int .i64 cc) := by rw [hW0]; exact c1
        have d2 : W0.cell? ⟨g, o + F * 3 + 1, none⟩ = some (.int .i64 j) := by rw [hW0]; exact c2
        have d3 : W0.cell? ⟨g, o + F * 3 + 2, none⟩ = some (.bool true) := by rw [hW0]; exact c3
        have HC := Lib.hid (fun w' (hw' : Below W0.heap.size W0 w') => (show w'.cell? ⟨g, o + F * 3, none⟩ = some (.int .i64 cc) ∧ w'.cell? ⟨g, o + F * 3 + 1, none⟩ = some (.int .i64 j) ∧ w'.cell? ⟨g, o + F * 3 + 2, none⟩ = some (.bool true) from
          ⟨(hw'.cell (p := ⟨g, o + F * 3, none⟩) hgW).trans d1, (hw'.cell (p := ⟨g, o + F * 3 + 1, none⟩) hgW).trans d2, (hw'.cell (p := ⟨g, o + F * 3 + 2, none⟩) hgW).trans d3⟩))
        have HBS := Lib.hid (h.up bW0)
        clear hW0 c1 c2 c3 d1 d2 d3
        have HFA := Lib.hid (fun q => Bud.frees_asc HAS.out q)
        have HFR := Lib.hid (fun q v hv => (Bud.frees_range (j := q) (v := v) HV.out hv).2.1)
        refine wp_region_inv (by kernel_rfl) (by kernel_rfl) (fun L a ww => ∃ t9 t42 t43 t44 t45 t46 t47 t48 : Value, a = { tmps := #[.slice (some ⟨g, o, none⟩) n c, .int .i64 p, .int .i64 cc, undef, undef, undef, .slice none 0 0, .bool false, .int .i64 F, t9, undef, undef, .slice (some ⟨g, o, none⟩) n c, .int .i64 p, .bool true, .bool false, .slice (some ⟨g, o, none⟩) n c, .int .i64 cc, .int .i64 F, .int .i64 F, .slice (some ⟨g, o, none⟩) n c, .int .i64 n, .bool false, .bool false, .slice (some ⟨g, o, none⟩) n c, .int .i64 F, .pointer (some ⟨g, o + F * 3, none⟩), .pointer (some ⟨g, o + F * 3, none⟩), .int .i64 cc, .int .i64 cc, .bool false, .bool false, .bool false, .slice (some ⟨g, o, none⟩) n c, .int .i64 F, .pointer (some ⟨g, o + F * 3, none⟩), .pointer (some ⟨g, o + F * 3 + 2, none⟩), .bool true, .bool false, .bool false, undef, undef, t42, t43, t44, t45, t46, t47, t48, undef, undef, undef, undef, undef, undef, undef, undef, undef, undef, undef, undef, undef, undef, undef, undef, undef, undef, undef, undef, undef, undef], defers := [] } ∧ (Below W0.heap.size W0 ww) ∧ (L 0 = true → t42 = .slice (some ⟨g, o, none⟩) n c) ∧ (L 1 = true → ∃ A' N C, t43 = .agg (flv A' N C) ∧ (L 6 = false → (∀ q, q < 9 → IS ww ww.heap.size (A' q) (N q) (Bud.freesTo xs xs.length q)) ∧ (∀ q, q < 9 → N q ≤ 1099511627776))) ∧ (L 2 = true → t44 = .slice (some ⟨g, o, none⟩) n c) ∧ (L 3 = true → t45 = .int .i64 F) ∧ (L 4 = true → t46 = .pointer (some ⟨g, o + F * 3, none⟩)) ∧ (L 5 = true → t47 = .agg #[.int .i64 cc, .int .i64 j, .bool true]) ∧ (L 6 = true → t48 = .agg #[.int .i64 s', .int .i64 j', .bool false]) ∧ (L 7 = true → ∃ ga, t9 = .pointer (some ⟨ga, 0, none⟩) ∧ W0.heap.size ≤ ga ∧ (L 8 = false → Rw ww ga 40 #[.int .i64 0, .int .i64 0, .bool false])) ∧ (L 8 = true → ∃ ga, L 7 = true ∧ t9 = .pointer (some ⟨ga, 0, none⟩) ∧ W0.heap.size ≤ ga ∧ Rw ww ga 40 #[.int .i64 s', .int .i64 j', .bool false])) ?h0 ?hstep ?hdone
        case h0 => exact ⟨_, _, _, _, _, _, _, _, rfl, h0W, (fun h => absurd h Bool.false_ne_true), (fun h => absurd h Bool.false_ne_true), (fun h => absurd h Bool.false_ne_true), (fun h => absurd h Bool.false_ne_true), (fun h => absurd h Bool.false_ne_true), (fun h => absurd h Bool.false_ne_true), (fun h => absurd h Bool.false_ne_true), (fun h => absurd h Bool.false_ne_true), (fun h => absurd h Bool.false_ne_true)⟩
        case hstep =>
          rintro L a ww i o ho hL hd ⟨t9, t42, t43, t44, t45, t46, t47, t48, rfl, I0, f0, f1, f2, f3, f4, f5, f6, f7, f8⟩
          have hi : i < 9 := (Array.getElem?_eq_some_iff.1 ho).1
          obtain rfl | rfl | rfl | rfl | rfl | rfl | rfl | rfl | rfl : i = 0 ∨ i = 1 ∨ i = 2 ∨ i = 3 ∨ i = 4 ∨ i = 5 ∨ i = 6 ∨ i = 7 ∨ i = 8 := by omega
          · obtain rfl := Option.some.inj ho
            refine wpOp_step rfl (fun K' hK => ?_)
            go_simp
            refine hK _ _ ?_
            exact ⟨_, _, _, _, _, _, _, _, rfl, (I0), (fun _ => rfl), (fun h => by
                obtain ⟨A', N, C, e1, e2⟩ := f1 (upd_ne h (by decide))
                exact ⟨A', N, C, e1, fun h6 => e2 (by rw [upd_other (by decide)] at h6; exact h6)⟩), (fun h => f2 (upd_ne h (by decide))), (fun h => f3 (upd_ne h (by decide))), (fun h => f4 (upd_ne h (by decide))), (fun h => f5 (upd_ne h (by decide))), (fun h => f6 (upd_ne h (by decide))), (fun h => by
                obtain ⟨ga, e1, e2, e3⟩ := f7 (upd_ne h (by decide))
                exact ⟨ga, e1, e2, fun h8 => e3 (by rw [upd_other (by decide)] at h8; exact h8)⟩), (fun h => by
                obtain ⟨ga, e0, e1, e2⟩ := f8 (upd_ne h (by decide))
                exact ⟨ga, upd_mono e0, e1, e2⟩)⟩
          · obtain rfl := Option.some.inj ho
            have g0 := f0 (hd ⟨0, .data⟩ (by simp) rfl)
            subst g0
            refine wpOp_step rfl (fun K' hK => ?_)
            go_simp
            refine (freeByOrders_any (some ⟨g, o, none⟩) n c xs p ww (HBS.out.up I0) HV.out).mono ?_
            rintro e w' ⟨A', N, C, rfl, fl1, b1⟩
            rw [← HL.out] at fl1
            have hfl := fl_all HV.out fl1
            refine hK _ _ ?_
            exact ⟨_, _, _, _, _, _, _, _, rfl, (I0.trans (b1.mono I0.size)), (fun h => f0 (upd_ne h (by decide))), (fun _ => ⟨A', N, C, rfl, fun _ => hfl⟩), (fun h => f2 (upd_ne h (by decide))), (fun h => f3 (upd_ne h (by decide))), (fun h => f4 (upd_ne h (by decide))), (fun h => f5 (upd_ne h (by decide))), (fun h => f6 (upd_ne h (by decide))), (fun h => by
                obtain ⟨ga, e1, e2, e3⟩ := f7 (upd_ne h (by decide))
                exact ⟨ga, e1, e2, fun h8 => (e3 (by rw [upd_other (by decide)] at h8; exact h8)).keep b1 (e3 (by rw [upd_other (by decide)] at h8; exact h8)).lt⟩), (fun h => by
                obtain ⟨ga, e0, e1, e2, e3⟩ := f8 (upd_ne h (by decide))
                exact ⟨ga, upd_mono e0, e1, e2, e3.keep b1 e3.lt⟩)⟩
          · obtain rfl := Option.some.inj ho
            refine wpOp_step rfl (fun K' hK => ?_)
            go_simp
            refine hK _ _ ?_
            exact ⟨_, _, _, _, _, _, _, _, rfl, (I0), (fun h => f0 (upd_ne h (by decide))), (fun h => by
                obtain ⟨A', N, C, e1, e2⟩ := f1 (upd_ne h (by decide))
                exact ⟨A', N, C, e1, fun h6 => e2 (by rw [upd_other (by decide)] at h6; exact h6)⟩), (fun _ => rfl), (fun h => f3 (upd_ne h (by decide))), (fun h => f4 (upd_ne h (by decide))), (fun h => f5 (upd_ne h (by decide))), (fun h => f6 (upd_ne h (by decide))), (fun h => by
                obtain ⟨ga, e1, e2, e3⟩ := f7 (upd_ne h (by decide))
                exact ⟨ga, e1, e2, fun h8 => e3 (by rw [upd_other (by decide)] at h8; exact h8)⟩), (fun h => by
                obtain ⟨ga, e0, e1, e2⟩ := f8 (upd_ne h (by decide))
                exact ⟨ga, upd_mono e0, e1, e2⟩)⟩
          · obtain rfl := Option.some.inj ho
            refine wpOp_step rfl (fun K' hK => ?_)
            go_simp
            refine hK _ _ ?_
            exact ⟨_, _, _, _, _, _, _, _, rfl, (I0), (fun h => f0 (upd_ne h (by decide))), (fun h => by
                obtain ⟨A', N, C, e1, e2⟩ := f1 (upd_ne h (by decide))
                exact ⟨A', N, C, e1, fun h6 => e2 (by rw [upd_other (by decide)] at h6; exact h6)⟩), (fun h => f2 (upd_ne h (by decide))), (fun _ => rfl), (fun h => f4 (upd_ne h (by decide))), (fun h => f5 (upd_ne h (by decide))), (fun h => f6 (upd_ne h (by decide))), (fun h => by
                obtain ⟨ga, e1, e2, e3⟩ := f7 (upd_ne h (by decide))
                exact ⟨ga, e1, e2, fun h8 => e3 (by rw [upd_other (by decide)] at h8; exact h8)⟩), (fun h => by
                obtain ⟨ga, e0, e1, e2⟩ := f8 (upd_ne h (by decide))
                exact ⟨ga, upd_mono e0, e1, e2⟩)⟩
          · obtain rfl := Option.some.inj ho
            have g2 := f2 (hd ⟨2, .data⟩ (by simp) rfl)
            have g3 := f3 (hd ⟨3, .data⟩ (by simp) rfl)
            subst g2
            subst g3
            refine wpOp_step rfl (fun K' hK => ?_)
            go_simp
            refine hK _ _ ?_
            exact ⟨_, _, _, _, _, _, _, _, rfl, (I0), (fun h => f0 (upd_ne h (by decide))), (fun h => by
                obtain ⟨A', N, C, e1, e2⟩ := f1 (upd_ne h (by decide))
                exact ⟨A', N, C, e1, fun h6 => e2 (by rw [upd_other (by decide)] at h6; exact h6)⟩), (fun h => f2 (upd_ne h (by decide))), (fun h => f3 (upd_ne h (by decide))), (fun _ => by simp), (fun h => f5 (upd_ne h (by decide))), (fun h => f6 (upd_ne h (by decide))), (fun h => by
                obtain ⟨ga, e1, e2, e3⟩ := f7 (upd_ne h (by decide))
                exact ⟨ga, e1, e2, fun h8 => e3 (by rw [upd_other (by decide)] at h8; exact h8)⟩), (fun h => by
                obtain ⟨ga, e0, e1, e2⟩ := f8 (upd_ne h (by decide))
                exact ⟨ga, upd_mono e0, e1, e2⟩)⟩
          · obtain rfl := Option.some.inj ho
            have g4 := f4 (hd ⟨4, .data⟩ (by simp) rfl)
            subst g4
            obtain ⟨k0, k1, k2⟩ := HC.out ww I0
            refine wpOp_step rfl (fun K' hK => ?_)
            go_simp
            refine hK _ _ ?_
            exact ⟨_, _, _, _, _, _, _, _, rfl, (I0), (fun h => f0 (upd_ne h (by decide))), (fun h => by
                obtain ⟨A', N, C, e1, e2⟩ := f1 (upd_ne h (by decide))
                exact ⟨A', N, C, e1, fun h6 => e2 (by rw [upd_other (by decide)] at h6; exact h6)⟩), (fun h => f2 (upd_ne h (by decide))), (fun h => f3 (upd_ne h (by decide))), (fun h => f4 (upd_ne h (by decide))), (fun _ => rfl), (fun h => f6 (upd_ne h (by decide))), (fun h => by
                obtain ⟨ga, e1, e2, e3⟩ := f7 (upd_ne h (by decide))
                exact ⟨ga, e1, e2, fun h8 => e3 (by rw [upd_other (by decide)] at h8; exact h8)⟩), (fun h => by
                obtain ⟨ga, e0, e1, e2⟩ := f8 (upd_ne h (by decide))
                exact ⟨ga, upd_mono e0, e1, e2⟩)⟩
          · obtain rfl := Option.some.inj ho
            have g1 := f1 (hd ⟨1, .data⟩ (by simp) rfl)
            have g5 := f5 (hd ⟨5, .data⟩ (by simp) rfl)
            subst g5
            obtain ⟨A', N, C, rfl, e1⟩ := g1
            obtain ⟨hI, hN⟩ := e1 hL
            clear e1
            refine wpOp_step rfl (fun K' hK => ?_)
            go_simp
            refine (joined_any A' N C _ cc j true ww hI hN HFA.out hc256 e5 HFR.out).mono ?_
            rw [HJ.out]
            rintro e w' ⟨rfl, b6⟩
            refine hK _ _ ?_
            exact ⟨_, _, _, _, _, _, _, _, rfl, (I0.trans (b6.mono I0.size)), (fun h => f0 (upd_ne h (by decide))), (fun h => by
                exact ⟨A', N, C, rfl, fun h6 => absurd (upd_self.symm.trans h6) (by decide)⟩), (fun h => f2 (upd_ne h (by decide))), (fun h => f3 (upd_ne h (by decide))), (fun h => f4 (upd_ne h (by decide))), (fun h => f5 (upd_ne h (by decide))), (fun _ => rfl), (fun h => by
                obtain ⟨ga, e1, e2, e3⟩ := f7 (upd_ne h (by decide))
                exact ⟨ga, e1, e2, fun h8 => (e3 (by rw [upd_other (by decide)] at h8; exact h8)).keep b6 (e3 (by rw [upd_other (by decide)] at h8; exact h8)).lt⟩), (fun h => by
                obtain ⟨ga, e0, e1, e2, e3⟩ := f8 (upd_ne h (by decide))
                exact ⟨ga, upd_mono e0, e1, e2, e3.keep b6 e3.lt⟩)⟩
          · obtain rfl := Option.some.inj ho
            refine wpOp_step rfl (fun K' hK => ?_)
            go_simp
            refine hK _ _ ?_
            exact ⟨_, _, _, _, _, _, _, _, rfl, (I0.alloc I0.size _), (fun h => f0 (upd_ne h (by decide))), (fun h => by
                obtain ⟨A', N, C, e1, e2⟩ := f1 (upd_ne h (by decide))
                exact ⟨A', N, C, e1, fun h6 => ⟨fun q hq => ((e2 (by rw [upd_other (by decide)] at h6; exact h6)).1 q hq).up ((Below.refl _ _).alloc (Nat.le_refl _) _), (e2 (by rw [upd_other (by decide)] at h6; exact h6)).2⟩⟩), (fun h => f2 (upd_ne h (by decide))), (fun h => f3 (upd_ne h (by decide))), (fun h => f4 (upd_ne h (by decide))), (fun h => f5 (upd_ne h (by decide))), (fun h => f6 (upd_ne h (by decide))), (fun _ => ⟨ww.heap.size, rfl, I0.size, fun _ => Rw.new ww _ _⟩), (fun h => by
                obtain ⟨ga, e0, _⟩ := f8 (upd_ne h (by decide))
                exact absurd (e0.symm.trans hL) (by decide))⟩
          · obtain rfl := Option.some.inj ho
            have g7 := f7 (hd ⟨7, .data⟩ (by simp) rfl)
            have g6 := f6 (hd ⟨6, .data⟩ (by simp) rfl)
            subst g6
            obtain ⟨ga, rfl, hga, e7⟩ := g7
            have R7 := e7 hL
            have q0 := R7.cell 0
            have q1 := R7.cell 1
            have q2 := R7.cell 2
            have z0 := R7.frozen 0
            have z1 := R7.frozen 1
            have z2 := R7.frozen 2
            simp at q0 q1 q2
            have h6 := hd ⟨6, .data⟩ (by simp) rfl
            have h7 := hd ⟨7, .data⟩ (by simp) rfl
            have HR7 := Lib.hid R7
            clear R7 e7
            refine wpOp_step rfl (fun K' hK => ?_)
            go_simp
            refine hK _ _ ?_
            exact ⟨_, _, _, _, _, _, _, _, rfl, (((I0.setCell hga _).setCell hga _).setCell hga _), (fun h => f0 (upd_ne h (by decide))), (fun h => by
                obtain ⟨A', N, C, e1, _⟩ := f1 (upd_ne h (by decide))
                exact ⟨A', N, C, e1, fun h6' => absurd ((upd_other (by decide)).symm.trans h6') (by rw [h6]; decide)⟩), (fun h => f2 (upd_ne h (by decide))), (fun h => f3 (upd_ne h (by decide))), (fun h => f4 (upd_ne h (by decide))), (fun h => f5 (upd_ne h (by decide))), (fun h => f6 (upd_ne h (by decide))), (fun _ => ⟨ga, rfl, hga, fun h8 => absurd (upd_self.symm.trans h8) (by decide)⟩), (fun _ => ⟨ga, upd_mono h7, rfl, hga, by
                have := ((HR7.out.put 0 (.int .i64 s')).put 1 (.int .i64 j')).put 2 (.bool false)
                simpa using this⟩)⟩
        case hdone =>
          rintro L a ww hall ⟨t9, t42, t43, t44, t45, t46, t47, t48, rfl, I0, f0, f1, f2, f3, f4, f5, f6, f7, f8⟩
          have e0 := f0 (hall 0 (by decide))
          have e1 := f1 (hall 1 (by decide))
          have e2 := f2 (hall 2 (by decide))
          have e3 := f3 (hall 3 (by decide))
          have e4 := f4 (hall 4 (by decide))
          have e5' := f5 (hall 5 (by decide))
          have e6 := f6 (hall 6 (by decide))
          have e7 := f7 (hall 7 (by decide))
          have e8 := f8 (hall 8 (by decide))
          clear f0 f1 f2 f3 f4 f5 f6 f7 f8
          obtain ⟨A', N, C, rfl, _⟩ := e1
          obtain ⟨ga, _, rfl, hga, hrow⟩ := e8
          subst e0 e2 e3 e4 e5' e6
          clear e7
          have bw := bW0.trans (I0.mono bW0.size)
          have q0 := hrow.cell 0
          have q1 := hrow.cell 1
          have q2 := hrow.cell 2
          simp at q0 q1 q2
          have hga2 := hrow.lt
          go_wp2_with fail
          refine (buddyFrom_any _ n c xs s' ww (h.up bw) hn5 HAS.out).mono ?_
          obtain ⟨K1, hK1⟩ : ∃ K1, Bud.fromY xs s' = K1 := ⟨_, rfl⟩
          rw [hK1]
          rintro e w5 ⟨rfl, b5⟩
          have bb5 := bw.trans (b5.mono bw.size)
          have hr5 := hrow.keep b5 hga2
          have hga5 := hr5.lt
          have HR5 := Lib.hid hr5
          have r0 := hr5.cell 0
          have r1 := hr5.cell 1
          have r2 := hr5.cell 2
          simp at r0 r1 r2
          clear q0 q1 q2 hrow hr5
          obtain ⟨K2, hK2⟩ : ∃ K2, Bud.fromY xs ((s' + 2 ^ j' : Nat) : Int) = K2 := ⟨_, rfl⟩
          have hK1n : K1 ≤ n := by have := Bud.fromY_le xs s'; rw [HL.out, hK1] at this; exact this
          have hK2n : K2 ≤ n := by have := Bud.fromY_le xs ((s' + 2 ^ j' : Nat) : Int); rw [HL.out, hK2] at this; exact this
          have HPG := Lib.hid (show Bud.giveY xs p cc = xs.take K1 ++ [⟨s', j', false⟩] ++ xs.drop K2 by rw [HG.out, Bud.progG, hK1, hK2])
          have tb : (2 : Int) ^ j' ≤ 256 := by rw [pow_int]; omega
          have tc : 1 ≤ (2 : Int) ^ j' := by rw [pow_int]; omega
          have hsum : ((s' + 2 ^ j' : Nat) : Int) = (s' : Int) + 2 ^ j' := by rw [pow_int]; simp
          have hw3 : IntKind.i64.wrap ((s' : Int) + 2 ^ j') = (s' : Int) + 2 ^ j' := IntWalk.i64_in _ (by omega)
          have CB := Lib.hid (fun w' (hw' : InW w5 w') => (buddyWords_any j' w' k4).mono (R' := fun e w'' => e = .returned (.int .i64 (2 ^ j')) ∧ InW w5 w'') fun e w'' hh => ⟨hh.1, hh.2 ▸ hw'⟩)
          have CF := Lib.hid (fun w' (hw' : InW w5 w') => (buddyFrom_any (some ⟨g, o, none⟩) n c xs ((s' : Int) + 2 ^ j') w' (h.up (bb5.trans ((show Below w5.heap.size w5 w' from hw').mono bb5.size))) hn5 HAS.out).mono (R' := fun e w'' => e = .returned (.int .i64 K2) ∧ InW w5 w'') fun e w'' hh => ⟨by rw [← hK2, hsum]; exact hh.1, hw'.call hh.2⟩)
          have HC5 := Lib.hid (fun w' (hw' : InW w5 w') => (show w'.cell? ⟨ga, 0, none⟩ = some (.int .i64 s') ∧ w'.cell? ⟨ga, 1, none⟩ = some (.int .i64 j') ∧ w'.cell? ⟨ga, 2, none⟩ = some (.bool false) from
            ⟨(Below.cell hw' (p := ⟨ga, 0, none⟩) hga5).trans r0, (Below.cell hw' (p := ⟨ga, 1, none⟩) hga5).trans r1, (Below.cell hw' (p := ⟨ga, 2, none⟩) hga5).trans r2⟩))
          go_wp2_with fail
          clear r0 r1 r2 hK1 hK2
          refine wp_region_quiet (C := InW w5) (by kernel_rfl) (by kernel_rfl) (show InW w5 _ from (Below.refl _ _).drew) ?_
          repeat (
            refine wpQuiet_step (fun K hK => ?_)
            go_simp
            first
              | (refine hK _ ?_
                 clear hK K)
              | ((with_reducible refine ⟨_, fun _ _ => rfl, hK _ ?_⟩)
                 clear hK K)
              | ((with_reducible refine ⟨_, CB.out, hK _ ?_⟩)
                 clear hK K)
              | ((with_reducible refine ⟨_, CF.out, hK _ ?_⟩)
                 clear hK K)
              | (refine ⟨.int .i64 s', ?_, hK _ ?_⟩
                 · intro w' hw'
                   obtain ⟨k0, k1, k2⟩ := HC5.out w' hw'
                   go_simp
                 clear hK K)
              | (refine ⟨.int .i64 j', ?_, hK _ ?_⟩
                 · intro w' hw'
                   obtain ⟨k0, k1, k2⟩ := HC5.out w' hw'
                   go_simp
                 clear hK K))
          refine wpQuiet_nil ?_
          intro w6 hw6
          have bb6 := bb5.trans ((show Below w5.heap.size w5 w6 from hw6).mono bb5.size)
          clear hw3
          go_wp2_with fail
          obtain ⟨W6, hW6⟩ : ∃ W6, W6 = w6.drew := ⟨_, rfl⟩
          have bW6 : Below w.heap.size w W6 := by rw [hW6]; exact bb6.drew
          have h6W : Below W6.heap.size W6 w6.drew := by rw [hW6]; exact Below.refl _ _
          have HBS6 := Lib.hid (h.up bW6)
          have HC6 := Lib.hid (fun w' (hw' : Below W6.heap.size W6 w') => HC5.out w' (show InW w5 w' from (show Below w5.heap.size w5 w6 from hw6).drew.trans (by rw [← hW6]; exact hw'.mono (by rw [hW6]; exact (show Below w5.heap.size w5 w6 from hw6).drew.size))))
          clear hW6
          have hai : AllI [(⟨s', j', false⟩ : Bl)] := allI_one (by omega) (by omega) (by omega) (by omega)
          have HAI := Lib.hid hai
          clear hai
          have v1 : (K1 : Int) ≤ n := by omega
          have v2 : (K1 : Int) ≤ c := by omega
          by_cases hcap : c = K2
          · have e1 : n = K2 := by omega
            have HD := Lib.hid (show xs.drop K2 = [] from List.drop_eq_nil_of_le (by rw [HL.out]; omega))
            subst e1 hcap
            have HTL := Lib.hid (fun W' (_ : Below W6.heap.size W6 W') => BS.none_ W' W'.heap.size (some (⟨g, o, none⟩ : Addr)))
            refine wp_region_inv (by kernel_rfl) (by kernel_rfl) (fun L a ww => ∃ t6 t7 t61 t62 t63 t64 t65 t66 t67 t68 t69 t70 : Value, a = { tmps := #[.slice (some ⟨g, o, none⟩) c c, .int .i64 p, .int .i64 cc, undef, undef, undef, t6, t7, .int .i64 F, .pointer (some ⟨ga, 0, none⟩), .int .i64 K1, .int .i64 c, .slice (some ⟨g, o, none⟩) c c, .int .i64 p, .bool true, .bool false, .slice (some ⟨g, o, none⟩) c c, .int .i64 cc, .int .i64 F, .int .i64 F, .slice (some ⟨g, o, none⟩) c c, .int .i64 c, .bool false, .bool false, .slice (some ⟨g, o, none⟩) c c, .int .i64 F, .pointer (some ⟨g, o + F * 3, none⟩), .pointer (some ⟨g, o + F * 3, none⟩), .int .i64 cc, .int .i64 cc, .bool false, .bool false, .bool false, .slice (some ⟨g, o, none⟩) c c, .int .i64 F, .pointer (some ⟨g, o + F * 3, none⟩), .pointer (some ⟨g, o + F * 3 + 2, none⟩), .bool true, .bool false, .bool false, undef, undef, .slice (some ⟨g, o, none⟩) c c, .agg (flv A' N C), .slice (some ⟨g, o, none⟩) c c, .int .i64 F, .pointer (some ⟨g, o + F * 3, none⟩), .agg #[.int .i64 cc, .int .i64 j, .bool true], .agg #[.int .i64 s', .int .i64 j', .bool false], .slice (some ⟨g, o, none⟩) c c, .pointer (some ⟨ga, 0, none⟩), .int .i64 s', .int .i64 K1, .slice (some ⟨g, o, none⟩) c c, .pointer (some ⟨ga, 0, none⟩), .int .i64 s', .pointer (some ⟨ga, 1, none⟩), .int .i64 j', .int .i64 (2 ^ j'), .int .i64 ((s' : Int) + 2 ^ j'), .int .i64 c, t61, t62, t63, t64, t65, t66, t67, t68, t69, t70], defers := [] } ∧ (Below W6.heap.size W6 ww) ∧ (L 9 = true → L 8 = true) ∧ (L 8 = true → L 4 = true) ∧ (L 0 = true → t61 = .slice (some ⟨g, o, none⟩) c c) ∧ (L 1 = true → t62 = .int .i64 K1) ∧ (L 2 = true → t63 = .slice (some ⟨g, o, none⟩) K1 c) ∧ (L 3 = true → t64 = .agg #[.int .i64 s', .int .i64 j', .bool false]) ∧ (L 4 = true → ∃ g4, t65 = .slice (some ⟨g4, 0, none⟩) 1 1 ∧ (L 8 = false → BS ww ww.heap.size (some ⟨g4, 0, none⟩) 1 [(⟨s', j', false⟩ : Bl)])) ∧ (L 5 = true → t66 = .slice (some ⟨g, o, none⟩) c c) ∧ (L 6 = true → t67 = .int .i64 c) ∧ (L 7 = true → t68 = .slice (some ⟨g, o, none⟩) 0 0) ∧ (L 8 = true → ∃ W' g4, t69 = .slice (some ⟨W'.heap.size, 0, none⟩) 3 3 ∧ Below W6.heap.size W6 W' ∧ BS W' W'.heap.size (some ⟨g4, 0, none⟩) 1 [(⟨s', j', false⟩ : Bl)] ∧ (L 9 = false → ww = W'.alloc (.cells #[.slice (some ⟨g, o, none⟩) K1 c, .slice (some ⟨g4, 0, none⟩) 1 1, .slice (some ⟨g, o, none⟩) 0 0] 27))) ∧ (L 9 = true → OwnY ww W6.heap.size t70 (xs.take K1 ++ [(⟨s', j', false⟩ : Bl)] ++ [])) ∧ (L 10 = true → L 9 = true ∧ t6 = t70) ∧ (L 11 = true → t7 = .bool true)) ?h0 ?hstep ?hdone
            case h0 => exact ⟨_, _, _, _, _, _, _, _, _, _, _, _, rfl, h6W, (fun h => absurd h Bool.false_ne_true), (fun h => absurd h Bool.false_ne_true), (fun h => absurd h Bool.false_ne_true), (fun h => absurd h Bool.false_ne_true), (fun h => absurd h Bool.false_ne_true), (fun h => absurd h Bool.false_ne_true), (fun h => absurd h Bool.false_ne_true), (fun h => absurd h Bool.false_ne_true), (fun h => absurd h Bool.false_ne_true), (fun h => absurd h Bool.false_ne_true), (fun h => absurd h Bool.false_ne_true), (fun h => absurd h Bool.false_ne_true), (fun h => absurd h Bool.false_ne_true), (fun h => absurd h Bool.false_ne_true)⟩
            case hstep =>
              rintro L a ww i o ho hL hd ⟨t6, t7, t61, t62, t63, t64, t65, t66, t67, t68, t69, t70, rfl, I0, I1, I2, f0, f1, f2, f3, f4, f5, f6, f7, f8, f9, f10, f11⟩
              have hi : i < 12 := (Array.getElem?_eq_some_iff.1 ho).1
              obtain rfl | rfl | rfl | rfl | rfl | rfl | rfl | rfl | rfl | rfl | rfl | rfl : i = 0 ∨ i = 1 ∨ i = 2 ∨ i = 3 ∨ i = 4 ∨ i = 5 ∨ i = 6 ∨ i = 7 ∨ i = 8 ∨ i = 9 ∨ i = 10 ∨ i = 11 := by omega
              · obtain rfl := Option.some.inj ho
                refine wpOp_step rfl (fun K' hK => ?_)
                go_simp
                refine hK _ _ ?_
                exact ⟨_, _, _, _, _, _, _, _, _, _, _, _, rfl, (I0), (fun h => upd_mono (I1 (upd_ne h (by decide)))), (fun h => upd_mono (I2 (upd_ne h (by decide)))), (fun _ => rfl), (fun h => f1 (upd_ne h (by decide))), (fun h => f2 (upd_ne h (by decide))), (fun h => f3 (upd_ne h (by decide))), (fun h => by
                    obtain ⟨g4, e1, e2⟩ := f4 (upd_ne h (by decide))
                    exact ⟨g4, e1, fun h8 => e2 (by rw [upd_other (by decide)] at h8; exact h8)⟩), (fun h => f5 (upd_ne h (by decide))), (fun h => f6 (upd_ne h (by decide))), (fun h => f7 (upd_ne h (by decide))), (fun h => by
                    obtain ⟨W', g4, e1, e2, e3, e4⟩ := f8 (upd_ne h (by decide))
                    exact ⟨W', g4, e1, e2, e3, fun h9 => e4 (by rw [upd_other (by decide)] at h9; exact h9)⟩), (fun h => f9 (upd_ne h (by decide))), (fun h => ⟨upd_mono (f10 (upd_ne h (by decide))).1, (f10 (upd_ne h (by decide))).2⟩), (fun h => f11 (upd_ne h (by decide)))⟩
              · obtain rfl := Option.some.inj ho
                refine wpOp_step rfl (fun K' hK => ?_)
                go_simp
                refine hK _ _ ?_
                exact ⟨_, _, _, _, _, _, _, _, _, _, _, _, rfl, (I0), (fun h => upd_mono (I1 (upd_ne h (by decide)))), (fun h => upd_mono (I2 (upd_ne h (by decide)))), (fun h => f0 (upd_ne h (by decide))), (fun _ => rfl), (fun h => f2 (upd_ne h (by decide))), (fun h => f3 (upd_ne h (by decide))), (fun h => by
                    obtain ⟨g4, e1, e2⟩ := f4 (upd_ne h (by decide))
                    exact ⟨g4, e1, fun h8 => e2 (by rw [upd_other (by decide)] at h8; exact h8)⟩), (fun h => f5 (upd_ne h (by decide))), (fun h => f6 (upd_ne h (by decide))), (fun h => f7 (upd_ne h (by decide))), (fun h => by
                    obtain ⟨W', g4, e1, e2, e3, e4⟩ := f8 (upd_ne h (by decide))
                    exact ⟨W', g4, e1, e2, e3, fun h9 => e4 (by rw [upd_other (by decide)] at h9; exact h9)⟩), (fun h => f9 (upd_ne h (by decide))), (fun h => ⟨upd_mono (f10 (upd_ne h (by decide))).1, (f10 (upd_ne h (by decide))).2⟩), (fun h => f11 (upd_ne h (by decide)))⟩
              · obtain rfl := Option.some.inj ho
                have g0 := f0 (hd ⟨0, .data⟩ (by simp) rfl)
                have g1 := f1 (hd ⟨1, .data⟩ (by simp) rfl)
                subst g0
                subst g1
                refine wpOp_step rfl (fun K' hK => ?_)
                go_simp
                refine hK _ _ ?_
                exact ⟨_, _, _, _, _, _, _, _, _, _, _, _, rfl, (I0), (fun h => upd_mono (I1 (upd_ne h (by decide)))), (fun h => upd_mono (I2 (upd_ne h (by decide)))), (fun h => f0 (upd_ne h (by decide))), (fun h => f1 (upd_ne h (by decide))), (fun _ => rfl), (fun h => f3 (upd_ne h (by decide))), (fun h => by
                    obtain ⟨g4, e1, e2⟩ := f4 (upd_ne h (by decide))
                    exact ⟨g4, e1, fun h8 => e2 (by rw [upd_other (by decide)] at h8; exact h8)⟩), (fun h => f5 (upd_ne h (by decide))), (fun h => f6 (upd_ne h (by decide))), (fun h => f7 (upd_ne h (by decide))), (fun h => by
                    obtain ⟨W', g4, e1, e2, e3, e4⟩ := f8 (upd_ne h (by decide))
                    exact ⟨W', g4, e1, e2, e3, fun h9 => e4 (by rw [upd_other (by decide)] at h9; exact h9)⟩), (fun h => f9 (upd_ne h (by decide))), (fun h => ⟨upd_mono (f10 (upd_ne h (by decide))).1, (f10 (upd_ne h (by decide))).2⟩), (fun h => f11 (upd_ne h (by decide)))⟩
              · obtain rfl := Option.some.inj ho
                obtain ⟨k0, k1, k2⟩ := HC6.out ww I0
                refine wpOp_step rfl (fun K' hK => ?_)
                go_simp
                refine hK _ _ ?_
                exact ⟨_, _, _, _, _, _, _, _, _, _, _, _, rfl, (I0), (fun h => upd_mono (I1 (upd_ne h (by decide)))), (fun h => upd_mono (I2 (upd_ne h (by decide)))), (fun h => f0 (upd_ne h (by decide))), (fun h => f1 (upd_ne h (by decide))), (fun h => f2 (upd_ne h (by decide))), (fun _ => rfl), (fun h => by
                    obtain ⟨g4, e1, e2⟩ := f4 (upd_ne h (by decide))
                    exact ⟨g4, e1, fun h8 => e2 (by rw [upd_other (by decide)] at h8; exact h8)⟩), (fun h => f5 (upd_ne h (by decide))), (fun h => f6 (upd_ne h (by decide))), (fun h => f7 (upd_ne h (by decide))), (fun h => by
                    obtain ⟨W', g4, e1, e2, e3, e4⟩ := f8 (upd_ne h (by decide))
                    exact ⟨W', g4, e1, e2, e3, fun h9 => e4 (by rw [upd_other (by decide)] at h9; exact h9)⟩), (fun h => f9 (upd_ne h (by decide))), (fun h => ⟨upd_mono (f10 (upd_ne h (by decide))).1, (f10 (upd_ne h (by decide))).2⟩), (fun h => f11 (upd_ne h (by decide)))⟩
              · obtain rfl := Option.some.inj ho
                have g3 := f3 (hd ⟨3, .data⟩ (by simp) rfl)
                subst g3
                have h8 : L 8 = false := by
                  cases hh : L 8
                  · rfl
                  · exact absurd ((I2 hh).symm.trans hL) (by decide)
                have h9 : L 9 = false := by
                  cases hh : L 9
                  · rfl
                  · exact absurd ((I1 hh).symm.trans h8) (by decide)
                refine wpOp_step rfl (fun K' hK => ?_)
                go_simp
                refine hK _ _ ?_
                exact ⟨_, _, _, _, _, _, _, _, _, _, _, _, rfl, (I0.alloc I0.size _), (fun h => upd_mono (I1 (upd_ne h (by decide)))), (fun _ => upd_self), (fun h => f0 (upd_ne h (by decide))), (fun h => f1 (upd_ne h (by decide))), (fun h => f2 (upd_ne h (by decide))), (fun h => f3 (upd_ne h (by decide))), (fun _ => ⟨ww.heap.size, rfl, fun _ => (own_oneY ww s' j' false 0 (Nat.zero_le _)).reads HAI.out⟩), (fun h => f5 (upd_ne h (by decide))), (fun h => f6 (upd_ne h (by decide))), (fun h => f7 (upd_ne h (by decide))), (fun h => absurd ((upd_ne h (by decide)).symm.trans h8) (by decide)), (fun h => absurd ((upd_ne h (by decide)).symm.trans h9) (by decide)), (fun h => ⟨upd_mono (f10 (upd_ne h (by decide))).1, (f10 (upd_ne h (by decide))).2⟩), (fun h => f11 (upd_ne h (by decide)))⟩
              · obtain rfl := Option.some.inj ho
                refine wpOp_step rfl (fun K' hK => ?_)
                go_simp
                refine hK _ _ ?_
                exact ⟨_, _, _, _, _, _, _, _, _, _, _, _, rfl, (I0), (fun h => upd_mono (I1 (upd_ne h (by decide)))), (fun h => upd_mono (I2 (upd_ne h (by decide)))), (fun h => f0 (upd_ne h (by decide))), (fun h => f1 (upd_ne h (by decide))), (fun h => f2 (upd_ne h (by decide))), (fun h => f3 (upd_ne h (by decide))), (fun h => by
                    obtain ⟨g4, e1, e2⟩ := f4 (upd_ne h (by decide))
                    exact ⟨g4, e1, fun h8 => e2 (by rw [upd_other (by decide)] at h8; exact h8)⟩), (fun _ => rfl), (fun h => f6 (upd_ne h (by decide))), (fun h => f7 (upd_ne h (by decide))), (fun h => by
                    obtain ⟨W', g4, e1, e2, e3, e4⟩ := f8 (upd_ne h (by decide))
                    exact ⟨W', g4, e1, e2, e3, fun h9 => e4 (by rw [upd_other (by decide)] at h9; exact h9)⟩), (fun h => f9 (upd_ne h (by decide))), (fun h => ⟨upd_mono (f10 (upd_ne h (by decide))).1, (f10 (upd_ne h (by decide))).2⟩), (fun h => f11 (upd_ne h (by decide)))⟩
              · obtain rfl := Option.some.inj ho
                refine wpOp_step rfl (fun K' hK => ?_)
                go_simp
                refine hK _ _ ?_
                exact ⟨_, _, _, _, _, _, _, _, _, _, _, _, rfl, (I0), (fun h => upd_mono (I1 (upd_ne h (by decide)))), (fun h => upd_mono (I2 (upd_ne h (by decide)))), (fun h => f0 (upd_ne h (by decide))), (fun h => f1 (upd_ne h (by decide))), (fun h => f2 (upd_ne h (by decide))), (fun h => f3 (upd_ne h (by decide))), (fun h => by
                    obtain ⟨g4, e1, e2⟩ := f4 (upd_ne h (by decide))
                    exact ⟨g4, e1, fun h8 => e2 (by rw [upd_other (by decide)] at h8; exact h8)⟩), (fun h => f5 (upd_ne h (by decide))), (fun _ => rfl), (fun h => f7 (upd_ne h (by decide))), (fun h => by
                    obtain ⟨W', g4, e1, e2, e3, e4⟩ := f8 (upd_ne h (by decide))
                    exact ⟨W', g4, e1, e2, e3, fun h9 => e4 (by rw [upd_other (by decide)] at h9; exact h9)⟩), (fun h => f9 (upd_ne h (by decide))), (fun h => ⟨upd_mono (f10 (upd_ne h (by decide))).1, (f10 (upd_ne h (by decide))).2⟩), (fun h => f11 (upd_ne h (by decide)))⟩
              · obtain rfl := Option.some.inj ho
                have g5 := f5 (hd ⟨5, .data⟩ (by simp) rfl)
                have g6 := f6 (hd ⟨6, .data⟩ (by simp) rfl)
                subst g5
                subst g6
                refine wpOp_step rfl (fun K' hK => ?_)
                go_simp
                refine hK _ _ ?_
                exact ⟨_, _, _, _, _, _, _, _, _, _, _, _, rfl, (I0), (fun h => upd_mono (I1 (upd_ne h (by decide)))), (fun h => upd_mono (I2 (upd_ne h (by decide)))), (fun h => f0 (upd_ne h (by decide))), (fun h => f1 (upd_ne h (by decide))), (fun h => f2 (upd_ne h (by decide))), (fun h => f3 (upd_ne h (by decide))), (fun h => by
                    obtain ⟨g4, e1, e2⟩ := f4 (upd_ne h (by decide))
                    exact ⟨g4, e1, fun h8 => e2 (by rw [upd_other (by decide)] at h8; exact h8)⟩), (fun h => f5 (upd_ne h (by decide))), (fun h => f6 (upd_ne h (by decide))), (fun _ => rfl), (fun h => by
                    obtain ⟨W', g4, e1, e2, e3, e4⟩ := f8 (upd_ne h (by decide))
                    exact ⟨W', g4, e1, e2, e3, fun h9 => e4 (by rw [upd_other (by decide)] at h9; exact h9)⟩), (fun h => f9 (upd_ne h (by decide))), (fun h => ⟨upd_mono (f10 (upd_ne h (by decide))).1, (f10 (upd_ne h (by decide))).2⟩), (fun h => f11 (upd_ne h (by decide)))⟩
              · obtain rfl := Option.some.inj ho
                have g2 := f2 (hd ⟨2, .data⟩ (by simp) rfl)
                have g4' := f4 (hd ⟨4, .data⟩ (by simp) rfl)
                have g7 := f7 (hd ⟨7, .data⟩ (by simp) rfl)
                subst g2
                subst g7
                obtain ⟨g4, rfl, e4⟩ := g4'
                have B4 := e4 hL
                have h9 : L 9 = false := by
                  cases hh : L 9
                  · rfl
                  · exact absurd ((I1 hh).symm.trans hL) (by decide)
                refine wpOp_step rfl (fun K' hK => ?_)
                go_simp
                refine hK _ _ ?_
                exact ⟨_, _, _, _, _, _, _, _, _, _, _, _, rfl, (I0.alloc I0.size _), (fun _ => upd_self), (fun _ => upd_mono (hd ⟨4, .data⟩ (by simp) rfl)), (fun h => f0 (upd_ne h (by decide))), (fun h => f1 (upd_ne h (by decide))), (fun h => f2 (upd_ne h (by decide))), (fun h => f3 (upd_ne h (by decide))), (fun _ => ⟨g4, rfl, fun h => absurd (upd_self.symm.trans h) (by decide)⟩), (fun h => f5 (upd_ne h (by decide))), (fun h => f6 (upd_ne h (by decide))), (fun h => f7 (upd_ne h (by decide))), (fun _ => ⟨ww, g4, rfl, I0, B4, fun _ => rfl⟩), (fun h => absurd ((upd_ne h (by decide)).symm.trans h9) (by decide)), (fun h => ⟨upd_mono (f10 (upd_ne h (by decide))).1, (f10 (upd_ne h (by decide))).2⟩), (fun h => f11 (upd_ne h (by decide)))⟩
              · obtain rfl := Option.some.inj ho
                have g8 := f8 (hd ⟨8, .data⟩ (by simp) rfl)
                obtain ⟨W', g4, rfl, e2, e3, e4⟩ := g8
                have e5x := e4 hL
                subst e5x
                refine wpOp_step rfl (fun K' hK => ?_)
                go_simp
                refine (concat3Y W' _ (some ⟨g, o, none⟩) (some ⟨g4, 0, none⟩) (some ⟨g, o, none⟩) K1 1 0 c 1 0 (xs.take K1) [(⟨s', j', false⟩ : Bl)] ([]) ((HBS6.out.up e2).take (by omega)) e3 (HTL.out W' e2) (by omega)).mono ?_
                rintro e w' ⟨v9, rfl, o9, b9⟩
                refine hK _ _ ?_
                exact ⟨_, _, _, _, _, _, _, _, _, _, _, _, rfl, (e2.trans (b9.mono e2.size)), (fun _ => upd_mono (hd ⟨8, .data⟩ (by simp) rfl)), (fun h => upd_mono (I2 (upd_ne h (by decide)))), (fun h => f0 (upd_ne h (by decide))), (fun h => f1 (upd_ne h (by decide))), (fun h => f2 (upd_ne h (by decide))), (fun h => f3 (upd_ne h (by decide))), (fun h => by
                    obtain ⟨g4', e1, _⟩ := f4 (upd_ne h (by decide))
                    exact ⟨g4', e1, fun h8 => absurd ((upd_other (by decide)).symm.trans h8) (by rw [hd ⟨8, .data⟩ (by simp) rfl]; decide)⟩), (fun h => f5 (upd_ne h (by decide))), (fun h => f6 (upd_ne h (by decide))), (fun h => f7 (upd_ne h (by decide))), (fun _ => ⟨W', g4, rfl, e2, e3, fun h => absurd (upd_self.symm.trans h) (by decide)⟩), (fun _ => o9.base e2.size), (fun h => absurd ((f10 (upd_ne h (by decide))).1.symm.trans hL) (by decide)), (fun h => f11 (upd_ne h (by decide)))⟩
              · obtain rfl := Option.some.inj ho
                have g9 := f9 (hd ⟨9, .data⟩ (by simp) rfl)
                refine wpOp_step rfl (fun K' hK => ?_)
                go_simp
                refine hK _ _ ?_
                exact ⟨_, _, _, _, _, _, _, _, _, _, _, _, rfl, (I0), (fun h => upd_mono (I1 (upd_ne h (by decide)))), (fun h => upd_mono (I2 (upd_ne h (by decide)))), (fun h => f0 (upd_ne h (by decide))), (fun h => f1 (upd_ne h (by decide))), (fun h => f2 (upd_ne h (by decide))), (fun h => f3 (upd_ne h (by decide))), (fun h => by
                    obtain ⟨g4, e1, e2⟩ := f4 (upd_ne h (by decide))
                    exact ⟨g4, e1, fun h8 => e2 (by rw [upd_other (by decide)] at h8; exact h8)⟩), (fun h => f5 (upd_ne h (by decide))), (fun h => f6 (upd_ne h (by decide))), (fun h => f7 (upd_ne h (by decide))), (fun h => by
                    obtain ⟨W', g4, e1, e2, e3, e4⟩ := f8 (upd_ne h (by decide))
                    exact ⟨W', g4, e1, e2, e3, fun h9 => e4 (by rw [upd_other (by decide)] at h9; exact h9)⟩), (fun h => f9 (upd_ne h (by decide))), (fun _ => ⟨upd_mono (hd ⟨9, .data⟩ (by simp) rfl), rfl⟩), (fun h => f11 (upd_ne h (by decide)))⟩
              · obtain rfl := Option.some.inj ho
                refine wpOp_step rfl (fun K' hK => ?_)
                go_simp
                refine hK _ _ ?_
                exact ⟨_, _, _, _, _, _, _, _, _, _, _, _, rfl, (I0), (fun h => upd_mono (I1 (upd_ne h (by decide)))), (fun h => upd_mono (I2 (upd_ne h (by decide)))), (fun h => f0 (upd_ne h (by decide))), (fun h => f1 (upd_ne h (by decide))), (fun h => f2 (upd_ne h (by decide))), (fun h => f3 (upd_ne h (by decide))), (fun h => by
                    obtain ⟨g4, e1, e2⟩ := f4 (upd_ne h (by decide))
                    exact ⟨g4, e1, fun h8 => e2 (by rw [upd_other (by decide)] at h8; exact h8)⟩), (fun h => f5 (upd_ne h (by decide))), (fun h => f6 (upd_ne h (by decide))), (fun h => f7 (upd_ne h (by decide))), (fun h => by
                    obtain ⟨W', g4, e1, e2, e3, e4⟩ := f8 (upd_ne h (by decide))
                    exact ⟨W', g4, e1, e2, e3, fun h9 => e4 (by rw [upd_other (by decide)] at h9; exact h9)⟩), (fun h => f9 (upd_ne h (by decide))), (fun h => ⟨upd_mono (f10 (upd_ne h (by decide))).1, (f10 (upd_ne h (by decide))).2⟩), (fun _ => rfl)⟩
            case hdone =>
              rintro L a ww hall ⟨t6, t7, t61, t62, t63, t64, t65, t66, t67, t68, t69, t70, rfl, I0, I1, I2, f0, f1, f2, f3, f4, f5, f6, f7, f8, f9, f10, f11⟩
              have e0 := f0 (hall 0 (by decide))
              have e1 := f1 (hall 1 (by decide))
              have e2 := f2 (hall 2 (by decide))
              have e3 := f3 (hall 3 (by decide))
              have e4 := f4 (hall 4 (by decide))
              have e5' := f5 (hall 5 (by decide))
              have e6 := f6 (hall 6 (by decide))
              have e7 := f7 (hall 7 (by decide))
              have e8 := f8 (hall 8 (by decide))
              have e9 := f9 (hall 9 (by decide))
              have e10 := f10 (hall 10 (by decide))
              have e11 := f11 (hall 11 (by decide))
              clear f0 f1 f2 f3 f4 f5 f6 f7 f8 f9 f10 f11
              obtain ⟨_, rfl⟩ := e10
              subst e11
              clear e0 e1 e2 e3 e4 e5' e6 e7 e8
              go_wp2_with fail
              go_ret2
              exact GaveY2.of (e9.base bW6.size) (bW6.trans (I0.mono bW6.size)) (by rw [HPG.out]; rw [HD.out]) HOK.out.symm
          · have v3 : (K2 : Int) ≤ n := by omega
            have v4 : (K2 : Int) ≤ c := by omega
            have HTL := Lib.hid (fun W' (e2 : Below W6.heap.size W6 W') => (HBS6.out.up e2).drop (k := K2) (by omega))
            refine wp_region_inv (by kernel_rfl) (by kernel_rfl) (fun L a ww => ∃ t6 t7 t61 t62 t63 t64 t65 t66 t67 t68 t69 t70 : Value, a = { tmps := #[.slice (some ⟨g, o, none⟩) n c, .int .i64 p, .int .i64 cc, undef, undef, undef, t6, t7, .int .i64 F, .pointer (some ⟨ga, 0, none⟩), .int .i64 K1, .int .i64 K2, .slice (some ⟨g, o, none⟩) n c, .int .i64 p, .bool true, .bool false, .slice (some ⟨g, o, none⟩) n c, .int .i64 cc, .int .i64 F, .int .i64 F, .slice (some ⟨g, o, none⟩) n c, .int .i64 n, .bool false, .bool false, .slice (some ⟨g, o, none⟩) n c, .int .i64 F, .pointer (some ⟨g, o + F * 3, none⟩), .pointer (some ⟨g, o + F * 3, none⟩), .int .i64 cc, .int .i64 cc, .bool false, .bool false, .bool false, .slice (some ⟨g, o, none⟩) n c, .int .i64 F, .pointer (some ⟨g, o + F * 3, none⟩), .pointer (some ⟨g, o + F * 3 + 2, none⟩), .bool true, .bool false, .bool false, undef, undef, .slice (some ⟨g, o, none⟩) n c, .agg (flv A' N C), .slice (some ⟨g, o, none⟩) n c, .int .i64 F, .pointer (some ⟨g, o + F * 3, none⟩), .agg #[.int .i64 cc, .int .i64 j, .bool true], .agg #[.int .i64 s', .int .i64 j', .bool false], .slice (some ⟨g, o, none⟩) n c, .pointer (some ⟨ga, 0, none⟩), .int .i64 s', .int .i64 K1, .slice (some ⟨g, o, none⟩) n c, .pointer (some ⟨ga, 0, none⟩), .int .i64 s', .pointer (some ⟨ga, 1, none⟩), .int .i64 j', .int .i64 (2 ^ j'), .int .i64 ((s' : Int) + 2 ^ j'), .int .i64 K2, t61, t62, t63, t64, t65, t66, t67, t68, t69, t70], defers := [] } ∧ (Below W6.heap.size W6 ww) ∧ (L 9 = true → L 8 = true) ∧ (L 8 = true → L 4 = true) ∧ (L 0 = true → t61 = .slice (some ⟨g, o, none⟩) n c) ∧ (L 1 = true → t62 = .int .i64 K1) ∧ (L 2 = true → t63 = .slice (some ⟨g, o, none⟩) K1 c) ∧ (L 3 = true → t64 = .agg #[.int .i64 s', .int .i64 j', .bool false]) ∧ (L 4 = true → ∃ g4, t65 = .slice (some ⟨g4, 0, none⟩) 1 1 ∧ (L 8 = false → BS ww ww.heap.size (some ⟨g4, 0, none⟩) 1 [(⟨s', j', false⟩ : Bl)])) ∧ (L 5 = true → t66 = .slice (some ⟨g, o, none⟩) n c) ∧ (L 6 = true → t67 = .int .i64 K2) ∧ (L 7 = true → t68 = .slice (some ⟨g, o + K2 * 3, none⟩) (n - K2) (c - K2)) ∧ (L 8 = true → ∃ W' g4, t69 = .slice (some ⟨W'.heap.size, 0, none⟩) 3 3 ∧ Below W6.heap.size W6 W' ∧ BS W' W'.heap.size (some ⟨g4, 0, none⟩) 1 [(⟨s', j', false⟩ : Bl)] ∧ (L 9 = false → ww = W'.alloc (.cells #[.slice (some ⟨g, o, none⟩) K1 c, .slice (some ⟨g4, 0, none⟩) 1 1, .slice (some ⟨g, o + K2 * 3, none⟩) (n - K2) (c - K2)] 27))) ∧ (L 9 = true → OwnY ww W6.heap.size t70 (xs.take K1 ++ [(⟨s', j', false⟩ : Bl)] ++ xs.drop K2)) ∧ (L 10 = true → L 9 = true ∧ t6 = t70) ∧ (L 11 = true → t7 = .bool true)) ?h0 ?hstep ?hdone
            case h0 => exact ⟨_, _, _, _, _, _, _, _, _, _, _, _, rfl, h6W, (fun h => absurd h Bool.false_ne_true), (fun h => absurd h Bool.false_ne_true), (fun h => absurd h Bool.false_ne_true), (fun h => absurd h Bool.false_ne_true), (fun h => absurd h Bool.false_ne_true), (fun h => absurd h Bool.false_ne_true), (fun h => absurd h Bool.false_ne_true), (fun h => absurd h Bool.false_ne_true), (fun h => absurd h Bool.false_ne_true), (fun h => absurd h Bool.false_ne_true), (fun h => absurd h Bool.false_ne_true), (fun h => absurd h Bool.false_ne_true), (fun h => absurd h Bool.false_ne_true), (fun h => absurd h Bool.false_ne_true)⟩
            case hstep =>
              rintro L a ww i o ho hL hd ⟨t6, t7, t61, t62, t63, t64, t65, t66, t67, t68, t69, t70, rfl, I0, I1, I2, f0, f1, f2, f3, f4, f5, f6, f7, f8, f9, f10, f11⟩
              have hi : i < 12 := (Array.getElem?_eq_some_iff.1 ho).1
              obtain rfl | rfl | rfl | rfl | rfl | rfl | rfl | rfl | rfl | rfl | rfl | rfl : i = 0 ∨ i = 1 ∨ i = 2 ∨ i = 3 ∨ i = 4 ∨ i = 5 ∨ i = 6 ∨ i = 7 ∨ i = 8 ∨ i = 9 ∨ i = 10 ∨ i = 11 := by omega
              · obtain rfl := Option.some.inj ho
                refine wpOp_step rfl (fun K' hK => ?_)
                go_simp
                refine hK _ _ ?_
                exact ⟨_, _, _, _, _, _, _, _, _, _, _, _, rfl, (I0), (fun h => upd_mono (I1 (upd_ne h (by decide)))), (fun h => upd_mono (I2 (upd_ne h (by decide)))), (fun _ => rfl), (fun h => f1 (upd_ne h (by decide))), (fun h => f2 (upd_ne h (by decide))), (fun h => f3 (upd_ne h (by decide))), (fun h => by
                    obtain ⟨g4, e1, e2⟩ := f4 (upd_ne h (by decide))
                    exact ⟨g4, e1, fun h8 => e2 (by rw [upd_other (by decide)] at h8; exact h8)⟩), (fun h => f5 (upd_ne h (by decide))), (fun h => f6 (upd_ne h (by decide))), (fun h => f7 (upd_ne h (by decide))), (fun h => by
                    obtain ⟨W', g4, e1, e2, e3, e4⟩ := f8 (upd_ne h (by decide))
                    exact ⟨W', g4, e1, e2, e3, fun h9 => e4 (by rw [upd_other (by decide)] at h9; exact h9)⟩), (fun h => f9 (upd_ne h (by decide))), (fun h => ⟨upd_mono (f10 (upd_ne h (by decide))).1, (f10 (upd_ne h (by decide))).2⟩), (fun h => f11 (upd_ne h (by decide)))⟩
              · obtain rfl := Option.some.inj ho
                refine wpOp_step rfl (fun K' hK => ?_)
                go_simp
                refine hK _ _ ?_
                exact ⟨_, _, _, _, _, _, _, _, _, _, _, _, rfl, (I0), (fun h => upd_mono (I1 (upd_ne h (by decide)))), (fun h => upd_mono (I2 (upd_ne h (by decide)))), (fun h => f0 (upd_ne h (by decide))), (fun _ => rfl), (fun h => f2 (upd_ne h (by decide))), (fun h => f3 (upd_ne h (by decide))), (fun h => by
                    obtain ⟨g4, e1, e2⟩ := f4 (upd_ne h (by decide))
                    exact ⟨g4, e1, fun h8 => e2 (by rw [upd_other (by decide)] at h8; exact h8)⟩), (fun h => f5 (upd_ne h (by decide))), (fun h => f6 (upd_ne h (by decide))), (fun h => f7 (upd_ne h (by decide))), (fun h => by
                    obtain ⟨W', g4, e1, e2, e3, e4⟩ := f8 (upd_ne h (by decide))
                    exact ⟨W', g4, e1, e2, e3, fun h9 => e4 (by rw [upd_other (by decide)] at h9; exact h9)⟩), (fun h => f9 (upd_ne h (by decide))), (fun h => ⟨upd_mono (f10 (upd_ne h (by decide))).1, (f10 (upd_ne h (by decide))).2⟩), (fun h => f11 (upd_ne h (by decide)))⟩
              · obtain rfl := Option.some.inj ho
                have g0 := f0 (hd ⟨0, .data⟩ (by simp) rfl)
                have g1 := f1 (hd ⟨1, .data⟩ (by simp) rfl)
                subst g0
                subst g1
                refine wpOp_step rfl (fun K' hK => ?_)
                go_simp
                refine hK _ _ ?_
                exact ⟨_, _, _, _, _, _, _, _, _, _, _, _, rfl, (I0), (fun h => upd_mono (I1 (upd_ne h (by decide)))), (fun h => upd_mono (I2 (upd_ne h (by decide)))), (fun h => f0 (upd_ne h (by decide))), (fun h => f1 (upd_ne h (by decide))), (fun _ => rfl), (fun h => f3 (upd_ne h (by decide))), (fun h => by
                    obtain ⟨g4, e1, e2⟩ := f4 (upd_ne h (by decide))
                    exact ⟨g4, e1, fun h8 => e2 (by rw [upd_other (by decide)] at h8; exact h8)⟩), (fun h => f5 (upd_ne h (by decide))), (fun h => f6 (upd_ne h (by decide))), (fun h => f7 (upd_ne h (by decide))), (fun h => by
                    obtain ⟨W', g4, e1, e2, e3, e4⟩ := f8 (upd_ne h (by decide))
                    exact ⟨W', g4, e1, e2, e3, fun h9 => e4 (by rw [upd_other (by decide)] at h9; exact h9)⟩), (fun h => f9 (upd_ne h (by decide))), (fun h => ⟨upd_mono (f10 (upd_ne h (by decide))).1, (f10 (upd_ne h (by decide))).2⟩), (fun h => f11 (upd_ne h (by decide)))⟩
              · obtain rfl := Option.some.inj ho
                obtain ⟨k0, k1, k2⟩ := HC6.out ww I0
                refine wpOp_step rfl (fun K' hK => ?_)
                go_simp
                refine hK _ _ ?_
                exact ⟨_, _, _, _, _, _, _, _, _, _, _, _, rfl, (I0), (fun h => upd_mono (I1 (upd_ne h (by decide)))), (fun h => upd_mono (I2 (upd_ne h (by decide)))), (fun h => f0 (upd_ne h (by decide))), (fun h => f1 (upd_ne h (by decide))), (fun h => f2 (upd_ne h (by decide))), (fun _ => rfl), (fun h => by
                    obtain ⟨g4, e1, e2⟩ := f4 (upd_ne h (by decide))
                    exact ⟨g4, e1, fun h8 => e2 (by rw [upd_other (by decide)] at h8; exact h8)⟩), (fun h => f5 (upd_ne h (by decide))), (fun h => f6 (upd_ne h (by decide))), (fun h => f7 (upd_ne h (by decide))), (fun h => by
                    obtain ⟨W', g4, e1, e2, e3, e4⟩ := f8 (upd_ne h (by decide))
                    exact ⟨W', g4, e1, e2, e3, fun h9 => e4 (by rw [upd_other (by decide)] at h9; exact h9)⟩), (fun h => f9 (upd_ne h (by decide))), (fun h => ⟨upd_mono (f10 (upd_ne h (by decide))).1, (f10 (upd_ne h (by decide))).2⟩), (fun h => f11 (upd_ne h (by decide)))⟩
              · obtain rfl := Option.some.inj ho
                have g3 := f3 (hd ⟨3, .data⟩ (by simp) rfl)
                subst g3
                have h8 : L 8 = false := by
                  cases hh : L 8
                  · rfl
                  · exact absurd ((I2 hh).symm.trans hL) (by decide)
                have h9 : L 9 = false := by
                  cases hh : L 9
                  · rfl
                  · exact absurd ((I1 hh).symm.trans h8) (by decide)
                refine wpOp_step rfl (fun K' hK => ?_)
                go_simp
                refine hK _ _ ?_
                exact ⟨_, _, _, _, _, _, _, _, _, _, _, _, rfl, (I0.alloc I0.size _), (fun h => upd_mono (I1 (upd_ne h (by decide)))), (fun _ => upd_self), (fun h => f0 (upd_ne h (by decide))), (fun h => f1 (upd_ne h (by decide))), (fun h => f2 (upd_ne h (by decide))), (fun h => f3 (upd_ne h (by decide))), (fun _ => ⟨ww.heap.size, rfl, fun _ => (own_oneY ww s' j' false 0 (Nat.zero_le _)).reads HAI.out⟩), (fun h => f5 (upd_ne h (by decide))), (fun h => f6 (upd_ne h (by decide))), (fun h => f7 (upd_ne h (by decide))), (fun h => absurd ((upd_ne h (by decide)).symm.trans h8) (by decide)), (fun h => absurd ((upd_ne h (by decide)).symm.trans h9) (by decide)), (fun h => ⟨upd_mono (f10 (upd_ne h (by decide))).1, (f10 (upd_ne h (by decide))).2⟩), (fun h => f11 (upd_ne h (by decide)))⟩
              · obtain rfl := Option.some.inj ho
                refine wpOp_step rfl (fun K' hK => ?_)
                go_simp
                refine hK _ _ ?_
                exact ⟨_, _, _, _, _, _, _, _, _, _, _, _, rfl, (I0), (fun h => upd_mono (I1 (upd_ne h (by decide)))), (fun h => upd_mono (I2 (upd_ne h (by decide)))), (fun h => f0 (upd_ne h (by decide))), (fun h => f1 (upd_ne h (by decide))), (fun h => f2 (upd_ne h (by decide))), (fun h => f3 (upd_ne h (by decide))), (fun h => by
                    obtain ⟨g4, e1, e2⟩ := f4 (upd_ne h (by decide))
                    exact ⟨g4, e1, fun h8 => e2 (by rw [upd_other (by decide)] at h8; exact h8)⟩), (fun _ => rfl), (fun h => f6 (upd_ne h (by decide))), (fun h => f7 (upd_ne h (by decide))), (fun h => by
                    obtain ⟨W', g4, e1, e2, e3, e4⟩ := f8 (upd_ne h (by decide))
                    exact ⟨W', g4, e1, e2, e3, fun h9 => e4 (by rw [upd_other (by decide)] at h9; exact h9)⟩), (fun h => f9 (upd_ne h (by decide))), (fun h => ⟨upd_mono (f10 (upd_ne h (by decide))).1, (f10 (upd_ne h (by decide))).2⟩), (fun h => f11 (upd_ne h (by decide)))⟩
              · obtain rfl := Option.some.inj ho
                refine wpOp_step rfl (fun K' hK => ?_)
                go_simp
                refine hK _ _ ?_
                exact ⟨_, _, _, _, _, _, _, _, _, _, _, _, rfl, (I0), (fun h => upd_mono (I1 (upd_ne h (by decide)))), (fun h => upd_mono (I2 (upd_ne h (by decide)))), (fun h => f0 (upd_ne h (by decide))), (fun h => f1 (upd_ne h (by decide))), (fun h => f2 (upd_ne h (by decide))), (fun h => f3 (upd_ne h (by decide))), (fun h => by
                    obtain ⟨g4, e1, e2⟩ := f4 (upd_ne h (by decide))
                    exact ⟨g4, e1, fun h8 => e2 (by rw [upd_other (by decide)] at h8; exact h8)⟩), (fun h => f5 (upd_ne h (by decide))), (fun _ => rfl), (fun h => f7 (upd_ne h (by decide))), (fun h => by
                    obtain ⟨W', g4, e1, e2, e3, e4⟩ := f8 (upd_ne h (by decide))
                    exact ⟨W', g4, e1, e2, e3, fun h9 => e4 (by rw [upd_other (by decide)] at h9; exact h9)⟩), (fun h => f9 (upd_ne h (by decide))), (fun h => ⟨upd_mono (f10 (upd_ne h (by decide))).1, (f10 (upd_ne h (by decide))).2⟩), (fun h => f11 (upd_ne h (by decide)))⟩
              · obtain rfl := Option.some.inj ho
                have g5 := f5 (hd ⟨5, .data⟩ (by simp) rfl)
                have g6 := f6 (hd ⟨6, .data⟩ (by simp) rfl)
                subst g5
                subst g6
                refine wpOp_step rfl (fun K' hK => ?_)
                go_simp
                refine hK _ _ ?_
                exact ⟨_, _, _, _, _, _, _, _, _, _, _, _, rfl, (I0), (fun h => upd_mono (I1 (upd_ne h (by decide)))), (fun h => upd_mono (I2 (upd_ne h (by decide)))), (fun h => f0 (upd_ne h (by decide))), (fun h => f1 (upd_ne h (by decide))), (fun h => f2 (upd_ne h (by decide))), (fun h => f3 (upd_ne h (by decide))), (fun h => by
                    obtain ⟨g4, e1, e2⟩ := f4 (upd_ne h (by decide))
                    exact ⟨g4, e1, fun h8 => e2 (by rw [upd_other (by decide)] at h8; exact h8)⟩), (fun h => f5 (upd_ne h (by decide))), (fun h => f6 (upd_ne h (by decide))), (fun _ => rfl), (fun h => by
                    obtain ⟨W', g4, e1, e2, e3, e4⟩ := f8 (upd_ne h (by decide))
                    exact ⟨W', g4, e1, e2, e3, fun h9 => e4 (by rw [upd_other (by decide)] at h9; exact h9)⟩), (fun h => f9 (upd_ne h (by decide))), (fun h => ⟨upd_mono (f10 (upd_ne h (by decide))).1, (f10 (upd_ne h (by decide))).2⟩), (fun h => f11 (upd_ne h (by decide)))⟩
              · obtain rfl := Option.some.inj ho
                have g2 := f2 (hd ⟨2, .data⟩ (by simp) rfl)
                have g4' := f4 (hd ⟨4, .data⟩ (by simp) rfl)
                have g7 := f7 (hd ⟨7, .data⟩ (by simp) rfl)
                subst g2
                subst g7
                obtain ⟨g4, rfl, e4⟩ := g4'
                have B4 := e4 hL
                have h9 : L 9 = false := by
                  cases hh : L 9
                  · rfl
                  · exact absurd ((I1 hh).symm.trans hL) (by decide)
                refine wpOp_step rfl (fun K' hK => ?_)
                go_simp
                refine hK _ _ ?_
                exact ⟨_, _, _, _, _, _, _, _, _, _, _, _, rfl, (I0.alloc I0.size _), (fun _ => upd_self), (fun _ => upd_mono (hd ⟨4, .data⟩ (by simp) rfl)), (fun h => f0 (upd_ne h (by decide))), (fun h => f1 (upd_ne h (by decide))), (fun h => f2 (upd_ne h (by decide))), (fun h => f3 (upd_ne h (by decide))), (fun _ => ⟨g4, rfl, fun h => absurd (upd_self.symm.trans h) (by decide)⟩), (fun h => f5 (upd_ne h (by decide))), (fun h => f6 (upd_ne h (by decide))), (fun h => f7 (upd_ne h (by decide))), (fun _ => ⟨ww, g4, rfl, I0, B4, fun _ => rfl⟩), (fun h => absurd ((upd_ne h (by decide)).symm.trans h9) (by decide)), (fun h => ⟨upd_mono (f10 (upd_ne h (by decide))).1, (f10 (upd_ne h (by decide))).2⟩), (fun h => f11 (upd_ne h (by decide)))⟩
              · obtain rfl := Option.some.inj ho
                have g8 := f8 (hd ⟨8, .data⟩ (by simp) rfl)
                obtain ⟨W', g4, rfl, e2, e3, e4⟩ := g8
                have e5x := e4 hL
                subst e5x
                refine wpOp_step rfl (fun K' hK => ?_)
                go_simp
                refine (concat3Y W' _ (some ⟨g, o, none⟩) (some ⟨g4, 0, none⟩) (some ⟨g, o + K2 * 3, none⟩) K1 1 (n - K2) c 1 (c - K2) (xs.take K1) [(⟨s', j', false⟩ : Bl)] (xs.drop K2) ((HBS6.out.up e2).take (by omega)) e3 (HTL.out W' e2) (by omega)).mono ?_
                rintro e w' ⟨v9, rfl, o9, b9⟩
                refine hK _ _ ?_
                exact ⟨_, _, _, _, _, _, _, _, _, _, _, _, rfl, (e2.trans (b9.mono e2.size)), (fun _ => upd_mono (hd ⟨8, .data⟩ (by simp) rfl)), (fun h => upd_mono (I2 (upd_ne h (by decide)))), (fun h => f0 (upd_ne h (by decide))), (fun h => f1 (upd_ne h (by decide))), (fun h => f2 (upd_ne h (by decide))), (fun h => f3 (upd_ne h (by decide))), (fun h => by
                    obtain ⟨g4', e1, _⟩ := f4 (upd_ne h (by decide))
                    exact ⟨g4', e1, fun h8 => absurd ((upd_other (by decide)).symm.trans h8) (by rw [hd ⟨8, .data⟩ (by simp) rfl]; decide)⟩), (fun h => f5 (upd_ne h (by decide))), (fun h => f6 (upd_ne h (by decide))), (fun h => f7 (upd_ne h (by decide))), (fun _ => ⟨W', g4, rfl, e2, e3, fun h => absurd (upd_self.symm.trans h) (by decide)⟩), (fun _ => o9.base e2.size), (fun h => absurd ((f10 (upd_ne h (by decide))).1.symm.trans hL) (by decide)), (fun h => f11 (upd_ne h (by decide)))⟩
              · obtain rfl := Option.some.inj ho
                have g9 := f9 (hd ⟨9, .data⟩ (by simp) rfl)
                refine wpOp_step rfl (fun K' hK => ?_)
                go_simp
                refine hK _ _ ?_
                exact ⟨_, _, _, _, _, _, _, _, _, _, _, _, rfl, (I0), (fun h => upd_mono (I1 (upd_ne h (by decide)))), (fun h => upd_mono (I2 (upd_ne h (by decide)))), (fun h => f0 (upd_ne h (by decide))), (fun h => f1 (upd_ne h (by decide))), (fun h => f2 (upd_ne h (by decide))), (fun h => f3 (upd_ne h (by decide))), (fun h => by
                    obtain ⟨g4, e1, e2⟩ := f4 (upd_ne h (by decide))
                    exact ⟨g4, e1, fun h8 => e2 (by rw [upd_other (by decide)] at h8; exact h8)⟩), (fun h => f5 (upd_ne h (by decide))), (fun h => f6 (upd_ne h (by decide))), (fun h => f7 (upd_ne h (by decide))), (fun h => by
                    obtain ⟨W', g4, e1, e2, e3, e4⟩ := f8 (upd_ne h (by decide))
                    exact ⟨W', g4, e1, e2, e3, fun h9 => e4 (by rw [upd_other (by decide)] at h9; exact h9)⟩), (fun h => f9 (upd_ne h (by decide))), (fun _ => ⟨upd_mono (hd ⟨9, .data⟩ (by simp) rfl), rfl⟩), (fun h => f11 (upd_ne h (by decide)))⟩
              · obtain rfl := Option.some.inj ho
                refine wpOp_step rfl (fun K' hK => ?_)
                go_simp
                refine hK _ _ ?_
                exact ⟨_, _, _, _, _, _, _, _, _, _, _, _, rfl, (I0), (fun h => upd_mono (I1 (upd_ne h (by decide)))), (fun h => upd_mono (I2 (upd_ne h (by decide)))), (fun h => f0 (upd_ne h (by decide))), (fun h => f1 (upd_ne h (by decide))), (fun h => f2 (upd_ne h (by decide))), (fun h => f3 (upd_ne h (by decide))), (fun h => by
                    obtain ⟨g4, e1, e2⟩ := f4 (upd_ne h (by decide))
                    exact ⟨g4, e1, fun h8 => e2 (by rw [upd_other (by decide)] at h8; exact h8)⟩), (fun h => f5 (upd_ne h (by decide))), (fun h => f6 (upd_ne h (by decide))), (fun h => f7 (upd_ne h (by decide))), (fun h => by
                    obtain ⟨W', g4, e1, e2, e3, e4⟩ := f8 (upd_ne h (by decide))
                    exact ⟨W', g4, e1, e2, e3, fun h9 => e4 (by rw [upd_other (by decide)] at h9; exact h9)⟩), (fun h => f9 (upd_ne h (by decide))), (fun h => ⟨upd_mono (f10 (upd_ne h (by decide))).1, (f10 (upd_ne h (by decide))).2⟩), (fun _ => rfl)⟩
            case hdone =>
              rintro L a ww hall ⟨t6, t7, t61, t62, t63, t64, t65, t66, t67, t68, t69, t70, rfl, I0, I1, I2, f0, f1, f2, f3, f4, f5, f6, f7, f8, f9, f10, f11⟩
              have e0 := f0 (hall 0 (by decide))
              have e1 := f1 (hall 1 (by decide))
              have e2 := f2 (hall 2 (by decide))
              have e3 := f3 (hall 3 (by decide))
              have e4 := f4 (hall 4 (by decide))
              have e5' := f5 (hall 5 (by decide))
              have e6 := f6 (hall 6 (by decide))
              have e7 := f7 (hall 7 (by decide))
              have e8 := f8 (hall 8 (by decide))
              have e9 := f9 (hall 9 (by decide))
              have e10 := f10 (hall 10 (by decide))
              have e11 := f11 (hall 11 (by decide))
              clear f0 f1 f2 f3 f4 f5 f6 f7 f8 f9 f10 f11
              obtain ⟨_, rfl⟩ := e10
              subst e11
              clear e0 e1 e2 e3 e4 e5' e6 e7 e8
              go_wp2_with fail
              go_ret2
              exact GaveY2.of (e9.base bW6.size) (bW6.trans (I0.mono bW6.size)) (by rw [HPG.out]; skip) HOK.out.symm

      · have HNO := Lib.hid (show Bud.okG xs a = false by
          cases hk : Bud.okG xs a
          · rfl
          · obtain ⟨y, hy, y1, y2⟩ := HOI.out.1 hk
            obtain rfl : x = y := Option.some.inj (HX.out.symm.trans hy)
            exact absurd ⟨y1, y2⟩ hok)
        by_cases hs : x.s = a
        · have hu : x.u = false := by
            cases hu : x.u
            · rfl
            · exact absurd ⟨hs, hu⟩ hok
          rw [hu] at c3
          have hse : (x.s != a) = false := by simp [hs]
          clear hs hu hok
          go_wp2_with fail
          refine (cloneY_any _ _ _ xs _ (h.up bb2) hn).mono ?_
          rintro e w4 ⟨v4, rfl, o4, b4⟩
          go_wp2_with fail
          go_ret2
          exact GaveY2.of (o4.base bb2.size) (bb2.trans (b4.mono bb2.size)) (Bud.giveY_not HNO.out).symm HNO.out.symm
        · have hse : (x.s != a) = true := by rw [bne_iff_ne]; exact hs
          clear hs hok
          go_wp2_with fail
          refine (cloneY_any _ _ _ xs _ (h.up bb2) hn).mono ?_
          rintro e w4 ⟨v4, rfl, o4, b4⟩
          go_wp2_with fail
          go_ret2
          exact GaveY2.of (o4.base bb2.size) (bb2.trans (b4.mono bb2.size)) (Bud.giveY_not HNO.out).symm HNO.out.symm
    · obtain rfl : F = n := by omega
      have HNO := Lib.hid (show Bud.okG xs a = false by
        cases hk : Bud.okG xs a
        · rfl
        · obtain ⟨y, hy, _⟩ := HOI.out.1 hk
          have := (List.getElem?_eq_some_iff.1 hy).1
          rw [HL.out] at this
          omega)
      go_wp2_with fail
      refine (cloneY_any _ _ _ xs _ (h.up bb2) hn).mono ?_
      rintro e w4 ⟨v4, rfl, o4, b4⟩
      go_wp2_with fail
      go_ret2
      exact GaveY2.of (o4.base bb2.size) (bb2.trans (b4.mono bb2.size)) (Bud.giveY_not HNO.out).symm HNO.out.symm
end Go.Proofs.Ythihaclhlmpioaa
