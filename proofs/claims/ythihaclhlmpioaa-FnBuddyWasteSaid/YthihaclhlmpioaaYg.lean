/- What DrawPowerFor returns, and the laws over it (P24, P114): for every list of bytes. -/
import Derived.Test.YthihaclhlmpioaaZa
import Derived.Test.YthihaclhlmpioaaInv
import Derived.Test.YthihaclhlmpioaaWg
namespace Go.Proofs.Ythihaclhlmpioaa
open Go.RowKit

/-- what holds of the world while a region draws: the reader, nothing else changed -/
structure DrawR (w0 : World) (gr R : Nat) (w : World) : Prop where
  rd : Rd w gr R
  grown : w0.grownBy w (some gr)
theorem DrawR.same {w0 w : World} {gr R R' : Nat} (h : DrawR w0 gr R w) (e : R' = R) : DrawR w0 gr R' w := e ▸ h
theorem DrawR.alloc {w0 w : World} {gr R : Nat} (h : DrawR w0 gr R w) (o : Obj) : DrawR w0 gr R (w.alloc o) :=
  ⟨h.rd.below ((Below.refl w.heap.size w).alloc (Nat.le_refl _) o) h.rd.lt, World.grownBy.trans h.grown (World.grownBy_alloc w o _)⟩
theorem DrawR.pick {w0 w w' : World} {gr R R' : Nat} (h : DrawR w0 gr R w) (_hgb : True) (hr : Rd w' gr (R + 1)) (hg : w.grownBy w' (some gr)) (e : R' = R + 1) : DrawR w0 gr R' w' := by
  subst e
  exact ⟨hr, World.grownBy.trans h.grown hg⟩

theorem pow_bd (n lo hi : Nat) (h1 : lo ≤ n) (h2 : n ≤ hi) : ((2 ^ lo : Nat) : Int) ≤ (2 : Int) ^ n ∧ (2 : Int) ^ n ≤ ((2 ^ hi : Nat) : Int) := by
  rw [pow_int]
  exact ⟨by exact_mod_cast Nat.pow_le_pow_right (by omega) h1, by exact_mod_cast Nat.pow_le_pow_right (by omega) h2⟩

set_option maxRecDepth 100000 in
set_option maxHeartbeats 4000000 in
theorem drawPowerFor_any (A : Option Addr) (n c : Nat) (W00 : World) (h : Bytes W00 W00.heap.size A n) (hc : n ≤ c) (hn : n ≤ 9223372036854775807) :
    Calls Try.prog 15 #[.slice A n c] W00 fun e w' => ∃ q : Int, e = .returned (.int .i64 q) ∧ 0 ≤ q ∧ q ≤ 257 ∧ Below W00.heap.size W00 w' := by
  go_enter Try.func15, Try.ntmps15
  go_wp2_with fail
  refine (open_any _ _ _ _ h hc hn).mono ?_
  rintro e W0 ⟨rfl, hr1, b1⟩
  obtain ⟨gr, hgr⟩ : ∃ gr, W00.heap.size = gr := ⟨_, rfl⟩
  rw [hgr] at hr1 ⊢
  rw [hgr] at b1
  have hgb : True := trivial
  have h0W : DrawR W0 gr (0 + false.toNat + false.toNat + false.toNat) W0.drew := ⟨hr1.below (Below.refl W0.heap.size W0).drew hr1.lt, only_below (Below.refl _ _).drew _⟩
  go_wp2_with fail
  refine wp_region_inv (by kernel_rfl) (by kernel_rfl) (fun L a w => ∃ t2 t6 t7 t8 t9 t10 t11 t12 t13 t14 t15 t16 t17 t18 t19 : Value, a = { tmps := #[Value.slice A n c, undef, t2, Value.pointer (some ⟨gr, 0, none⟩), Value.slice A n c, Value.pointer (some ⟨gr, 0, none⟩), t6, t7, t8, t9, t10, t11, t12, t13, t14, t15, t16, t17, t18, t19], defers := [] } ∧ DrawR W0 gr (0 + (L 1).toNat + (L 4).toNat + (L 9).toNat) w ∧ (L 0 = true → t6 = Value.pointer (some ⟨gr, 0, none⟩)) ∧ (L 1 = true → IntIn 0 255 t7) ∧ (L 2 = true → IntIn 1 256 t8) ∧ (L 3 = true → t9 = Value.pointer (some ⟨gr, 0, none⟩)) ∧ (L 4 = true → IntIn 0 8 t10) ∧ (L 5 = true → IntIn 1 256 t11) ∧ (L 6 = true → TblOf w gr 4 0 257 t12) ∧ (L 7 = true → TblOf w gr 7 0 3 t13) ∧ (L 8 = true → t14 = Value.pointer (some ⟨gr, 0, none⟩)) ∧ (L 9 = true → IntIn 0 6 t15) ∧ (L 10 = true → PtrOf w gr 7 0 3 t16) ∧ (L 11 = true → IntIn 0 3 t17) ∧ (L 12 = true → PtrOf w gr 4 0 257 t18) ∧ (L 13 = true → IntIn 0 257 t19) ∧ (L 14 = true → IntIn 0 257 t2)) ?h0 ?hstep ?hdone
  case h0 => exact ⟨_, _, _, _, _, _, _, _, _, _, _, _, _, _, _, rfl, h0W, (fun h => absurd h Bool.false_ne_true), (fun h => absurd h Bool.false_ne_true), (fun h => absurd h Bool.false_ne_true), (fun h => absurd h Bool.false_ne_true), (fun h => absurd h Bool.false_ne_true), (fun h => absurd h Bool.false_ne_true), (fun h => absurd h Bool.false_ne_true), (fun h => absurd h Bool.false_ne_true), (fun h => absurd h Bool.false_ne_true), (fun h => absurd h Bool.false_ne_true), (fun h => absurd h Bool.false_ne_true), (fun h => absurd h Bool.false_ne_true), (fun h => absurd h Bool.false_ne_true), (fun h => absurd h Bool.false_ne_true), (fun h => absurd h Bool.false_ne_true)⟩
  case hstep =>
    rintro L a w i o ho hL hd ⟨t2, t6, t7, t8, t9, t10, t11, t12, t13, t14, t15, t16, t17, t18, t19, rfl, hW, f0, f1, f2, f3, f4, f5, f6, f7, f8, f9, f10, f11, f12, f13, f14⟩
    have hi : i < 15 := (Array.getElem?_eq_some_iff.1 ho).1
    obtain rfl | rfl | rfl | rfl | rfl | rfl | rfl | rfl | rfl | rfl | rfl | rfl | rfl | rfl | rfl : i = 0 ∨ i = 1 ∨ i = 2 ∨ i = 3 ∨ i = 4 ∨ i = 5 ∨ i = 6 ∨ i = 7 ∨ i = 8 ∨ i = 9 ∨ i = 10 ∨ i = 11 ∨ i = 12 ∨ i = 13 ∨ i = 14 := by omega
    · obtain rfl := Option.some.inj ho
      refine wpOp_step rfl (fun K' hK => ?_)
      go_simp
      refine hK _ _ ?_
      exact ⟨_, _, _, _, _, _, _, _, _, _, _, _, _, _, _, rfl, hW.same (by simp [upd]), fun _ => rfl, fun h => f1 (upd_ne h (by decide)), fun h => f2 (upd_ne h (by decide)), fun h => f3 (upd_ne h (by decide)), fun h => f4 (upd_ne h (by decide)), fun h => f5 (upd_ne h (by decide)), fun h => f6 (upd_ne h (by decide)), fun h => f7 (upd_ne h (by decide)), fun h => f8 (upd_ne h (by decide)), fun h => f9 (upd_ne h (by decide)), fun h => f10 (upd_ne h (by decide)), fun h => f11 (upd_ne h (by decide)), fun h => f12 (upd_ne h (by decide)), fun h => f13 (upd_ne h (by decide)), fun h => f14 (upd_ne h (by decide))⟩
    · obtain rfl := Option.some.inj ho
      have g0 := f0 (hd ⟨0, .data⟩ (by simp) rfl)
      subst g0
      refine wpOp_step rfl (fun K' hK => ?_)
      go_simp
      refine (pick_any gr (0 + (L 1).toNat + (L 4).toNat + (L 9).toNat) _ w hW.rd (by have := Bool.toNat_le (L 1); have := Bool.toNat_le (L 4); have := Bool.toNat_le (L 9); omega) (by omega)).mono ?_
      rintro e w' ⟨r, rfl, r0, r1, hr, G⟩
      refine hK _ _ ?_
      exact ⟨_, _, _, _, _, _, _, _, _, _, _, _, _, _, _, rfl, hW.pick hgb hr G (by simp [upd, hL]; try omega), fun h => f0 (upd_ne h (by decide)), fun _ => ⟨r, rfl, by omega, by omega⟩, fun h => f2 (upd_ne h (by decide)), fun h => f3 (upd_ne h (by decide)), fun h => f4 (upd_ne h (by decide)), fun h => f5 (upd_ne h (by decide)), fun h => (f6 (upd_ne h (by decide))).pick G, fun h => (f7 (upd_ne h (by decide))).pick G, fun h => f8 (upd_ne h (by decide)), fun h => f9 (upd_ne h (by decide)), fun h => (f10 (upd_ne h (by decide))).pick G, fun h => f11 (upd_ne h (by decide)), fun h => (f12 (upd_ne h (by decide))).pick G, fun h => f13 (upd_ne h (by decide)), fun h => f14 (upd_ne h (by decide))⟩
    · obtain rfl := Option.some.inj ho
      have g1 := f1 (hd ⟨1, .data⟩ (by simp) rfl)
      obtain ⟨q1, rfl, a1, b1⟩ := g1
      have hw : IntKind.i64.wrap (1 + q1) = 1 + q1 := IntWalk.i64_in _ (by omega)
      refine wpOp_step rfl (fun K' hK => ?_)
      go_simp
      refine hK _ _ ?_
      clear hw
      exact ⟨_, _, _, _, _, _, _, _, _, _, _, _, _, _, _, rfl, hW.same (by simp [upd]), fun h => f0 (upd_ne h (by decide)), fun h => f1 (upd_ne h (by decide)), fun _ => ⟨_, rfl, by omega, by omega⟩, fun h => f3 (upd_ne h (by decide)), fun h => f4 (upd_ne h (by decide)), fun h => f5 (upd_ne h (by decide)), fun h => f6 (upd_ne h (by decide)), fun h => f7 (upd_ne h (by decide)), fun h => f8 (upd_ne h (by decide)), fun h => f9 (upd_ne h (by decide)), fun h => f10 (upd_ne h (by decide)), fun h => f11 (upd_ne h (by decide)), fun h => f12 (upd_ne h (by decide)), fun h => f13 (upd_ne h (by decide)), fun h => f14 (upd_ne h (by decide))⟩
    · obtain rfl := Option.some.inj ho
      refine wpOp_step rfl (fun K' hK => ?_)
      go_simp
      refine hK _ _ ?_
      exact ⟨_, _, _, _, _, _, _, _, _, _, _, _, _, _, _, rfl, hW.same (by simp [upd]), fun h => f0 (upd_ne h (by decide)), fun h => f1 (upd_ne h (by decide)), fun h => f2 (upd_ne h (by decide)), fun _ => rfl, fun h => f4 (upd_ne h (by decide)), fun h => f5 (upd_ne h (by decide)), fun h => f6 (upd_ne h (by decide)), fun h => f7 (upd_ne h (by decide)), fun h => f8 (upd_ne h (by decide)), fun h => f9 (upd_ne h (by decide)), fun h => f10 (upd_ne h (by decide)), fun h => f11 (upd_ne h (by decide)), fun h => f12 (upd_ne h (by decide)), fun h => f13 (upd_ne h (by decide)), fun h => f14 (upd_ne h (by decide))⟩
    · obtain rfl := Option.some.inj ho
      have g3 := f3 (hd ⟨3, .data⟩ (by simp) rfl)
      subst g3
      refine wpOp_step rfl (fun K' hK => ?_)
      go_simp
      refine (pick_any gr (0 + (L 1).toNat + (L 4).toNat + (L 9).toNat) _ w hW.rd (by have := Bool.toNat_le (L 1); have := Bool.toNat_le (L 4); have := Bool.toNat_le (L 9); omega) (by omega)).mono ?_
      rintro e w' ⟨r, rfl, r0, r1, hr, G⟩
      refine hK _ _ ?_
      exact ⟨_, _, _, _, _, _, _, _, _, _, _, _, _, _, _, rfl, hW.pick hgb hr G (by simp [upd, hL]; try omega), fun h => f0 (upd_ne h (by decide)), fun h => f1 (upd_ne h (by decide)), fun h => f2 (upd_ne h (by decide)), fun h => f3 (upd_ne h (by decide)), fun _ => ⟨r, rfl, by omega, by omega⟩, fun h => f5 (upd_ne h (by decide)), fun h => (f6 (upd_ne h (by decide))).pick G, fun h => (f7 (upd_ne h (by decide))).pick G, fun h => f8 (upd_ne h (by decide)), fun h => f9 (upd_ne h (by decide)), fun h => (f10 (upd_ne h (by decide))).pick G, fun h => f11 (upd_ne h (by decide)), fun h => (f12 (upd_ne h (by decide))).pick G, fun h => f13 (upd_ne h (by decide)), fun h => f14 (upd_ne h (by decide))⟩
    · obtain rfl := Option.some.inj ho
      have g4 := f4 (hd ⟨4, .data⟩ (by simp) rfl)
      obtain ⟨q4, rfl, a4, b4⟩ := g4
      obtain ⟨n4, rfl⟩ := Int.eq_ofNat_of_zero_le (show 0 ≤ q4 by omega)
      have l4 : n4 ≤ 8 := by omega
      obtain ⟨w1, w2⟩ := wrap_pow l4
      have hneg : ¬ ((n4 : Int) < 0) := by omega
      refine wpOp_step rfl (fun K' hK => ?_)
      go_simp
      refine hK _ _ ?_
      clear w1 w2
      have hpw := pow_bd n4 0 8 (by omega) (by omega)
      exact ⟨_, _, _, _, _, _, _, _, _, _, _, _, _, _, _, rfl, hW.same (by simp [upd]), fun h => f0 (upd_ne h (by decide)), fun h => f1 (upd_ne h (by decide)), fun h => f2 (upd_ne h (by decide)), fun h => f3 (upd_ne h (by decide)), fun h => f4 (upd_ne h (by decide)), fun _ => ⟨_, rfl, hpw.1, hpw.2⟩, fun h => f6 (upd_ne h (by decide)), fun h => f7 (upd_ne h (by decide)), fun h => f8 (upd_ne h (by decide)), fun h => f9 (upd_ne h (by decide)), fun h => f10 (upd_ne h (by decide)), fun h => f11 (upd_ne h (by decide)), fun h => f12 (upd_ne h (by decide)), fun h => f13 (upd_ne h (by decide)), fun h => f14 (upd_ne h (by decide))⟩
    · obtain rfl := Option.some.inj ho
      have g2 := f2 (hd ⟨2, .data⟩ (by simp) rfl)
      have g5 := f5 (hd ⟨5, .data⟩ (by simp) rfl)
      obtain ⟨q2, rfl, a2, b2⟩ := g2
      obtain ⟨q5, rfl, a5, b5⟩ := g5
      refine wpOp_step rfl (fun K' hK => ?_)
      go_simp
      refine hK _ _ ?_
      exact ⟨_, _, _, _, _, _, _, _, _, _, _, _, _, _, _, rfl, (hW.alloc _).same (by simp [upd]), fun h => f0 (upd_ne h (by decide)), fun h => f1 (upd_ne h (by decide)), fun h => f2 (upd_ne h (by decide)), fun h => f3 (upd_ne h (by decide)), fun h => f4 (upd_ne h (by decide)), fun h => f5 (upd_ne h (by decide)), fun _ => ⟨_, rfl, Tbl.new w gr _ [q2, 0, 257, q5] _ _ hW.rd.lt (by intro q hq; simp at hq; omega) _ rfl⟩, fun h => (f7 (upd_ne h (by decide))).alloc _, fun h => f8 (upd_ne h (by decide)), fun h => f9 (upd_ne h (by decide)), fun h => (f10 (upd_ne h (by decide))).alloc _, fun h => f11 (upd_ne h (by decide)), fun h => (f12 (upd_ne h (by decide))).alloc _, fun h => f13 (upd_ne h (by decide)), fun h => f14 (upd_ne h (by decide))⟩
    · obtain rfl := Option.some.inj ho
      refine wpOp_step rfl (fun K' hK => ?_)
      go_simp
      refine hK _ _ ?_
      exact ⟨_, _, _, _, _, _, _, _, _, _, _, _, _, _, _, rfl, (hW.alloc _).same (by simp [upd]), fun h => f0 (upd_ne h (by decide)), fun h => f1 (upd_ne h (by decide)), fun h => f2 (upd_ne h (by decide)), fun h => f3 (upd_ne h (by decide)), fun h => f4 (upd_ne h (by decide)), fun h => f5 (upd_ne h (by decide)), fun h => (f6 (upd_ne h (by decide))).alloc _, fun _ => ⟨_, rfl, Tbl.new w gr _ [0, 0, 0, 3, 3, 1, 2] _ _ hW.rd.lt (by intro q hq; simp at hq; omega) _ rfl⟩, fun h => f8 (upd_ne h (by decide)), fun h => f9 (upd_ne h (by decide)), fun h => (f10 (upd_ne h (by decide))).alloc _, fun h => f11 (upd_ne h (by decide)), fun h => (f12 (upd_ne h (by decide))).alloc _, fun h => f13 (upd_ne h (by decide)), fun h => f14 (upd_ne h (by decide))⟩
    · obtain rfl := Option.some.inj ho
      refine wpOp_step rfl (fun K' hK => ?_)
      go_simp
      refine hK _ _ ?_
      exact ⟨_, _, _, _, _, _, _, _, _, _, _, _, _, _, _, rfl, hW.same (by simp [upd]), fun h => f0 (upd_ne h (by decide)), fun h => f1 (upd_ne h (by decide)), fun h => f2 (upd_ne h (by decide)), fun h => f3 (upd_ne h (by decide)), fun h => f4 (upd_ne h (by decide)), fun h => f5 (upd_ne h (by decide)), fun h => f6 (upd_ne h (by decide)), fun h => f7 (upd_ne h (by decide)), fun _ => rfl, fun h => f9 (upd_ne h (by decide)), fun h => f10 (upd_ne h (by decide)), fun h => f11 (upd_ne h (by decide)), fun h => f12 (upd_ne h (by decide)), fun h => f13 (upd_ne h (by decide)), fun h => f14 (upd_ne h (by decide))⟩
    · obtain rfl := Option.some.inj ho
      have g8 := f8 (hd ⟨8, .data⟩ (by simp) rfl)
      subst g8
      refine wpOp_step rfl (fun K' hK => ?_)
      go_simp
      refine (pick_any gr (0 + (L 1).toNat + (L 4).toNat + (L 9).toNat) _ w hW.rd (by have := Bool.toNat_le (L 1); have := Bool.toNat_le (L 4); have := Bool.toNat_le (L 9); omega) (by omega)).mono ?_
      rintro e w' ⟨r, rfl, r0, r1, hr, G⟩
      refine hK _ _ ?_
      exact ⟨_, _, _, _, _, _, _, _, _, _, _, _, _, _, _, rfl, hW.pick hgb hr G (by simp [upd, hL]; try omega), fun h => f0 (upd_ne h (by decide)), fun h => f1 (upd_ne h (by decide)), fun h => f2 (upd_ne h (by decide)), fun h => f3 (upd_ne h (by decide)), fun h => f4 (upd_ne h (by decide)), fun h => f5 (upd_ne h (by decide)), fun h => (f6 (upd_ne h (by decide))).pick G, fun h => (f7 (upd_ne h (by decide))).pick G, fun h => f8 (upd_ne h (by decide)), fun _ => ⟨r, rfl, by omega, by omega⟩, fun h => (f10 (upd_ne h (by decide))).pick G, fun h => f11 (upd_ne h (by decide)), fun h => (f12 (upd_ne h (by decide))).pick G, fun h => f13 (upd_ne h (by decide)), fun h => f14 (upd_ne h (by decide))⟩
    · obtain rfl := Option.some.inj ho
      have g7 := f7 (hd ⟨7, .data⟩ (by simp) rfl)
      have g9 := f9 (hd ⟨9, .data⟩ (by simp) rfl)
      obtain ⟨h7, rfl, T7⟩ := g7
      obtain ⟨q9, rfl, a9, b9⟩ := g9
      obtain ⟨n9, rfl⟩ := Int.eq_ofNat_of_zero_le (show 0 ≤ q9 by omega)
      have l9 : n9 < 7 := by omega
      have l9' : (n9 : Int) < 7 := by omega
      refine wpOp_step rfl (fun K' hK => ?_)
      go_simp
      refine hK _ _ ?_
      exact ⟨_, _, _, _, _, _, _, _, _, _, _, _, _, _, _, rfl, hW.same (by simp [upd]), fun h => f0 (upd_ne h (by decide)), fun h => f1 (upd_ne h (by decide)), fun h => f2 (upd_ne h (by decide)), fun h => f3 (upd_ne h (by decide)), fun h => f4 (upd_ne h (by decide)), fun h => f5 (upd_ne h (by decide)), fun h => f6 (upd_ne h (by decide)), fun h => f7 (upd_ne h (by decide)), fun h => f8 (upd_ne h (by decide)), fun h => f9 (upd_ne h (by decide)), fun _ => ⟨h7, n9, by simp, l9, T7⟩, fun h => f11 (upd_ne h (by decide)), fun h => f12 (upd_ne h (by decide)), fun h => f13 (upd_ne h (by decide)), fun h => f14 (upd_ne h (by decide))⟩
    · obtain rfl := Option.some.inj ho
      have g10 := f10 (hd ⟨10, .data⟩ (by simp) rfl)
      obtain ⟨h10, j10, rfl, J10, T10⟩ := g10
      obtain ⟨Q, hQ, Q1, Q2⟩ := T10.2.2 j10 J10
      refine wpOp_step rfl (fun K' hK => ?_)
      go_simp
      refine hK _ _ ?_
      exact ⟨_, _, _, _, _, _, _, _, _, _, _, _, _, _, _, rfl, hW.same (by simp [upd]), fun h => f0 (upd_ne h (by decide)), fun h => f1 (upd_ne h (by decide)), fun h => f2 (upd_ne h (by decide)), fun h => f3 (upd_ne h (by decide)), fun h => f4 (upd_ne h (by decide)), fun h => f5 (upd_ne h (by decide)), fun h => f6 (upd_ne h (by decide)), fun h => f7 (upd_ne h (by decide)), fun h => f8 (upd_ne h (by decide)), fun h => f9 (upd_ne h (by decide)), fun h => f10 (upd_ne h (by decide)), fun _ => ⟨Q, rfl, Q1, Q2⟩, fun h => f12 (upd_ne h (by decide)), fun h => f13 (upd_ne h (by decide)), fun h => f14 (upd_ne h (by decide))⟩
    · obtain rfl := Option.some.inj ho
      have g6 := f6 (hd ⟨6, .data⟩ (by simp) rfl)
      have g11 := f11 (hd ⟨11, .data⟩ (by simp) rfl)
      obtain ⟨h6, rfl, T6⟩ := g6
      obtain ⟨q11, rfl, a11, b11⟩ := g11
      obtain ⟨n11, rfl⟩ := Int.eq_ofNat_of_zero_le (show 0 ≤ q11 by omega)
      have l11 : n11 < 4 := by omega
      have l11' : (n11 : Int) < 4 := by omega
      refine wpOp_step rfl (fun K' hK => ?_)
      go_simp
      refine hK _ _ ?_
      exact ⟨_, _, _, _, _, _, _, _, _, _, _, _, _, _, _, rfl, hW.same (by simp [upd]), fun h => f0 (upd_ne h (by decide)), fun h => f1 (upd_ne h (by decide)), fun h => f2 (upd_ne h (by decide)), fun h => f3 (upd_ne h (by decide)), fun h => f4 (upd_ne h (by decide)), fun h => f5 (upd_ne h (by decide)), fun h => f6 (upd_ne h (by decide)), fun h => f7 (upd_ne h (by decide)), fun h => f8 (upd_ne h (by decide)), fun h => f9 (upd_ne h (by decide)), fun h => f10 (upd_ne h (by decide)), fun h => f11 (upd_ne h (by decide)), fun _ => ⟨h6, n11, by simp, l11, T6⟩, fun h => f13 (upd_ne h (by decide)), fun h => f14 (upd_ne h (by decide))⟩
    · obtain rfl := Option.some.inj ho
      have g12 := f12 (hd ⟨12, .data⟩ (by simp) rfl)
      obtain ⟨h12, j12, rfl, J12, T12⟩ := g12
      obtain ⟨Q, hQ, Q1, Q2⟩ := T12.2.2 j12 J12
      refine wpOp_step rfl (fun K' hK => ?_)
      go_simp
      refine hK _ _ ?_
      exact ⟨_, _, _, _, _, _, _, _, _, _, _, _, _, _, _, rfl, hW.same (by simp [upd]), fun h => f0 (upd_ne h (by decide)), fun h => f1 (upd_ne h (by decide)), fun h => f2 (upd_ne h (by decide)), fun h => f3 (upd_ne h (by decide)), fun h => f4 (upd_ne h (by decide)), fun h => f5 (upd_ne h (by decide)), fun h => f6 (upd_ne h (by decide)), fun h => f7 (upd_ne h (by decide)), fun h => f8 (upd_ne h (by decide)), fun h => f9 (upd_ne h (by decide)), fun h => f10 (upd_ne h (by decide)), fun h => f11 (upd_ne h (by decide)), fun h => f12 (upd_ne h (by decide)), fun _ => ⟨Q, rfl, Q1, Q2⟩, fun h => f14 (upd_ne h (by decide))⟩
    · obtain rfl := Option.some.inj ho
      have g13 := f13 (hd ⟨13, .data⟩ (by simp) rfl)
      refine wpOp_step rfl (fun K' hK => ?_)
      go_simp
      refine hK _ _ ?_
      exact ⟨_, _, _, _, _, _, _, _, _, _, _, _, _, _, _, rfl, hW.same (by simp [upd]), fun h => f0 (upd_ne h (by decide)), fun h => f1 (upd_ne h (by decide)), fun h => f2 (upd_ne h (by decide)), fun h => f3 (upd_ne h (by decide)), fun h => f4 (upd_ne h (by decide)), fun h => f5 (upd_ne h (by decide)), fun h => f6 (upd_ne h (by decide)), fun h => f7 (upd_ne h (by decide)), fun h => f8 (upd_ne h (by decide)), fun h => f9 (upd_ne h (by decide)), fun h => f10 (upd_ne h (by decide)), fun h => f11 (upd_ne h (by decide)), fun h => f12 (upd_ne h (by decide)), fun h => f13 (upd_ne h (by decide)), fun _ => g13⟩
  case hdone =>
    rintro L a w hall ⟨t2, t6, t7, t8, t9, t10, t11, t12, t13, t14, t15, t16, t17, t18, t19, rfl, hW, f0, f1, f2, f3, f4, f5, f6, f7, f8, f9, f10, f11, f12, f13, f14⟩
    have f0 := f0 (hall 0 (by decide))
    have f1 := f1 (hall 1 (by decide))
    have f2 := f2 (hall 2 (by decide))
    have f3 := f3 (hall 3 (by decide))
    have f4 := f4 (hall 4 (by decide))
    have f5 := f5 (hall 5 (by decide))
    have f6 := f6 (hall 6 (by decide))
    have f7 := f7 (hall 7 (by decide))
    have f8 := f8 (hall 8 (by decide))
    have f9 := f9 (hall 9 (by decide))
    have f10 := f10 (hall 10 (by decide))
    have f11 := f11 (hall 11 (by decide))
    have f12 := f12 (hall 12 (by decide))
    have f13 := f13 (hall 13 (by decide))
    have f14 := f14 (hall 14 (by decide))
    obtain ⟨q, rfl, q0, q1⟩ := f14
    go_wp2
    go_ret
    exact ⟨q, rfl, q0, q1, by rw [hgr]; exact b1.grown hW.grown (by have := b1.size; omega) (fun k hk => by injection hk; omega)⟩

theorem powW_law (q : Int) : (powW q < 0 → powW q = -1) ∧ (0 ≤ powW q → ∃ m : Nat, powW q = m ∧ m ≤ 8 ∧ q ≤ 2 ^ m ∧ (m ≠ 0 → (2 : Int) ^ (m - 1) < q) ∧ powW (2 ^ m) = m ∧ 1 ≤ q ∧ q ≤ 256) := by
  unfold powW
  by_cases hq : 1 ≤ q ∧ q ≤ 256
  · rw [if_pos hq]
    refine ⟨fun h => by omega, fun _ => ⟨powN q, rfl, (powN_le hq.2).2, (powN_le hq.2).1, fun h => powN_ge hq.2 _ (by omega), ?_, hq.1, hq.2⟩⟩
    have h8 := (powN_le hq.2).2
    generalize powN q = m at h8
    obtain rfl | rfl | rfl | rfl | rfl | rfl | rfl | rfl | rfl : m = 0 ∨ m = 1 ∨ m = 2 ∨ m = 3 ∨ m = 4 ∨ m = 5 ∨ m = 6 ∨ m = 7 ∨ m = 8 := by omega
    all_goals decide
  · rw [if_neg hq]
    exact ⟨fun _ => rfl, fun h => by omega⟩

set_option maxRecDepth 100000 in
set_option maxHeartbeats 2000000 in
theorem powerForLaw_walk (A : Option Addr) (n c : Nat) (w : World) (h : Bytes w w.heap.size A n) (hc : n ≤ c) (hn : n ≤ 9223372036854775807) :
    Calls Try.prog 3 #[.slice A n c] w fun e w' => e = .returned (.bool true) ∧ Below w.heap.size w w' := by
  by_cases hs : n ≤ 1048576
  · go_enter Try.func3, Try.ntmps3
    go_wp2_with fail
    refine (drawPowerFor_any _ _ _ _ h hc hn).mono ?_
    rintro e w1 ⟨q, rfl, q0, q1, b1⟩
    have hl := powW_law q
    obtain ⟨r, hr⟩ : ∃ r, powW q = r := ⟨_, rfl⟩
    rw [hr] at hl
    go_wp2_with fail
    refine (powerFor_any _ _).mono ?_
    rw [hr]
    rintro e w' ⟨rfl, rfl⟩
    go_wp2_with fail
    refine (mPowerFor_any _ _).mono ?_
    rw [hr]
    rintro e w' ⟨rfl, rfl⟩
    by_cases h0 : r < 0
    · obtain rfl := hl.1 h0
      clear hl
      go_wp2_with fail
      refine (alive_any _).mono ?_
      rintro e w2 ⟨rfl, b2⟩
      go_wp2_with fail
      go_ret
      exact ⟨rfl, b1.trans (b2.mono b1.size)⟩
    · obtain ⟨m, rfl, m1, m2, m3, m4, m5, m6⟩ := hl.2 (by omega)
      clear hl hr
      obtain ⟨w1', w2'⟩ := wrap_pow m1
      have hp := pow_bd m 0 8 (by omega) m1
      have HM4 := Lib.hid m4
      rcases Nat.eq_zero_or_pos m with hm0 | hm0
      · subst hm0
        simp at m2
        clear m3 m4 w1' w2' hp
        go_wp2_with (first
          | (go_at_call 16; refine (powerFor_any _ _).mono ?_; rintro e w' ⟨rfl, rfl⟩)
          | fail)
        go_ret
        exact ⟨rfl, b1⟩
      · have m3' := m3 (by omega)
        obtain ⟨d, rfl⟩ : ∃ d, m = d + 1 := ⟨m - 1, by omega⟩
        rw [Nat.add_sub_cancel] at m3'
        obtain ⟨v1', v2'⟩ := wrap_pow (j := d) (by omega)
        clear m3 m4
        have t1 : ((d + 1 : Nat) : Int) - 1 = d := by omega
        have t2 : (((d + 1 : Nat) : Int) == 0) = false := by rw [beq_eq_false_iff_ne]; omega
        have t3 : ((d : Int) + 1 == 0) = false := by rw [beq_eq_false_iff_ne]; omega
        have t4 : (d : Int) + 1 ≤ 8 := by omega
        have t5 : ¬ ((d : Int) < 0) := by omega
        have t6 : ¬ ((d : Int) + 1 < 0) := by omega
        go_wp2_with (first
          | (go_at_call 16; refine (powerFor_any _ _).mono ?_; rw [HM4.out]; rintro e w' ⟨rfl, rfl⟩)
          | fail)
        go_ret
        exact ⟨rfl, b1⟩
  · have hs' : (1048576 : Int) < n := by omega
    go_enter Try.func3, Try.ntmps3
    go_wp2
    go_ret
    exact ⟨rfl, Below.refl _ _⟩

set_option maxRecDepth 100000 in
set_option maxHeartbeats 2000000 in
theorem buddyWasteLaw_walk (A : Option Addr) (n c : Nat) (w : World) (h : Bytes w w.heap.size A n) (hc : n ≤ c) (hn : n ≤ 9223372036854775807) :
    Calls Try.prog 9 #[.slice A n c] w fun e w' => e = .returned (.bool true) ∧ Below w.heap.size w w' := by
  by_cases hs : n ≤ 1048576
  · go_enter Try.func9, Try.ntmps9
    go_wp2_with fail
    refine (drawPowerFor_any _ _ _ _ h hc hn).mono ?_
    rintro e w1 ⟨q, rfl, q0, q1, b1⟩
    have hl := powW_law q
    obtain ⟨r, hr⟩ : ∃ r, powW q = r := ⟨_, rfl⟩
    rw [hr] at hl
    go_wp2_with fail
    refine (powerFor_any _ _).mono ?_
    rw [hr]
    rintro e w' ⟨rfl, rfl⟩
    go_wp2_with fail
    refine (mPowerFor_any _ _).mono ?_
    rw [hr]
    rintro e w' ⟨rfl, rfl⟩
    by_cases h0 : r < 0
    · obtain rfl := hl.1 h0
      clear hl
      go_wp2_with fail
      refine (alive_any _).mono ?_
      rintro e w2 ⟨rfl, b2⟩
      go_wp2_with fail
      go_ret
      exact ⟨rfl, b1.trans (b2.mono b1.size)⟩
    · obtain ⟨m, rfl, m1, m2, m3, m4, m5, m6⟩ := hl.2 (by omega)
      clear hl hr m4
      obtain ⟨w1', w2'⟩ := wrap_pow m1
      have hp := pow_bd m 0 8 (by omega) m1
      have hlt : (2 : Int) ^ m < 2 * q := by
        rcases Nat.eq_zero_or_pos m with hm0 | hm0
        · subst hm0
          simp
          omega
        · have m3' := m3 (by omega)
          have : (2 : Int) ^ m = 2 * 2 ^ (m - 1) := by
            obtain ⟨d, rfl⟩ : ∃ d, m = d + 1 := ⟨m - 1, by omega⟩
            rw [Nat.add_sub_cancel, Int.pow_succ]
            omega
          omega
      have hm8 : (m : Int) ≤ 8 := by omega
      clear m3
      go_wp2_with (first
        | (go_at_call 18; refine (alive_any _).mono ?_; rintro e w2 ⟨rfl, b2⟩)
        | fail)
      go_ret
      exact ⟨rfl, b1.trans (b2.mono b1.size)⟩
  · have hs' : (1048576 : Int) < n := by omega
    go_enter Try.func9, Try.ntmps9
    go_wp2
    go_ret
    exact ⟨rfl, Below.refl _ _⟩
end Go.Proofs.Ythihaclhlmpioaa
