/- What l20Ask and the draws over it return: blocks of the call's own, a total and a number of words. -/
import Derived.Test.YtkejbggffbkdaaaWj
import Derived.Test.YtkejbggffbkdaaaInv
import Derived.Test.YtkejbggffbkdaaaWs
namespace Go.Proofs.Ytkejbggffbkdaaa
open Go.RowKit

/-- what holds of the world while a region draws: the call's own blocks, the reader, nothing else changed -/
structure DrawW (w0 : World) (gr base R : Nat) (v : Value) (xs : List Bl) (w : World) : Prop where
  own : OwnB w base v xs
  rd : Rd w gr R
  grown : w0.grownBy w (some gr)
theorem DrawW.same {w0 w : World} {gr base R R' : Nat} {v : Value} {xs : List Bl} (h : DrawW w0 gr base R v xs w) (e : R' = R) : DrawW w0 gr base R' v xs w := e ▸ h
theorem DrawW.alloc {w0 w : World} {gr base R : Nat} {v : Value} {xs : List Bl} (h : DrawW w0 gr base R v xs w) (o : Obj) : DrawW w0 gr base R v xs (w.alloc o) :=
  ⟨World.ownsRow.alloc h.own o, h.rd.below ((Below.refl w.heap.size w).alloc (Nat.le_refl _) o) h.rd.lt, World.grownBy.trans h.grown (World.grownBy_alloc w o _)⟩
theorem DrawW.pick {w0 w w' : World} {gr base R R' : Nat} {v : Value} {xs : List Bl} (h : DrawW w0 gr base R v xs w) (hgb : gr < base) (hr : Rd w' gr (R + 1)) (hg : w.grownBy w' (some gr)) (e : R' = R + 1) : DrawW w0 gr base R' v xs w' := by
  subst e
  refine ⟨h.own.far hg ?_, hr, World.grownBy.trans h.grown hg⟩
  right
  intro e
  have := (World.ownsRow.lt h.own gr e).1
  omega

/-- blocks, a total and a number of words have been drawn -/
def AskB (w : World) (gr N : Nat) (e : Ending) (w' : World) : Prop :=
  ∃ (v : Value) (xs : List Bl) (T q : Int), e = .returned (.tuple #[v, .int .i64 T, .int .i64 q]) ∧ OwnB w' w.heap.size v xs ∧ AllI xs ∧ 1 ≤ xs.length ∧ xs.length ≤ 300 ∧ 1 ≤ T ∧ T ≤ 65 ∧ 0 ≤ q ∧ q ≤ 257 ∧ Rd w' gr (N + 103) ∧ w.grownBy w' (some gr)

set_option maxRecDepth 100000 in
set_option maxHeartbeats 4000000 in
theorem l20Ask_any (gr N : Nat) (W0 : World) (h : Rd W0 gr N) (hN : N ≤ 1000000) :
    Calls Try.prog 36 #[.pointer (some ⟨gr, 0, none⟩)] W0 (AskB W0 gr N) := by
  have hgb := h.lt
  go_enter Try.func36, Try.ntmps36
  go_wp2_with fail
  refine (l20Blocks_any _ _ _ _ h (by omega) (by omega) (by omega)).mono ?_
  rintro e w2 ⟨v, xs, T, rfl, ho, ha, h1, h2, h3, h4, hr2, hg⟩
  have HA := Lib.hid ha
  clear ha
  have h0W : DrawW W0 gr W0.heap.size (N + 100 + false.toNat + false.toNat + false.toNat) v xs w2.drew := ⟨World.ownsRow.drew ho, hr2.below (Below.refl w2.heap.size w2).drew hr2.lt, World.grownBy.trans hg (only_below (Below.refl _ _).drew _)⟩
  clear ho hr2 hg
  go_wp2_with fail
  refine wp_region_inv (by kernel_rfl) (by kernel_rfl) (fun L a w => ∃ t2 t3 t4 t12 t13 t14 t15 t16 t17 t18 t19 t20 t21 t22 t23 t24 t25 t26 t27 : Value, a = { tmps := #[Value.pointer (some ⟨gr, 0, none⟩), undef, t2, t3, t4, v, Value.int .i64 T, Value.tuple #[v, Value.int .i64 T], Value.pointer (some ⟨gr, 0, none⟩), Value.tuple #[v, Value.int .i64 T], v, Value.int .i64 T, t12, t13, t14, t15, t16, t17, t18, t19, t20, t21, t22, t23, t24, t25, t26, t27], defers := [] } ∧ DrawW W0 gr W0.heap.size (N + 100 + (L 3).toNat + (L 6).toNat + (L 11).toNat) v xs w ∧ (L 0 = true → t12 = v) ∧ (L 1 = true → t13 = Value.int .i64 T) ∧ (L 2 = true → t14 = Value.pointer (some ⟨gr, 0, none⟩)) ∧ (L 3 = true → IntIn 0 8 t15) ∧ (L 4 = true → IntIn 1 9 t16) ∧ (L 5 = true → t17 = Value.pointer (some ⟨gr, 0, none⟩)) ∧ (L 6 = true → IntIn 0 69 t18) ∧ (L 7 = true → IntIn 1 70 t19) ∧ (L 8 = true → TblOf w gr 4 0 257 t20) ∧ (L 9 = true → TblOf w gr 8 0 3 t21) ∧ (L 10 = true → t22 = Value.pointer (some ⟨gr, 0, none⟩)) ∧ (L 11 = true → IntIn 0 7 t23) ∧ (L 12 = true → PtrOf w gr 8 0 3 t24) ∧ (L 13 = true → IntIn 0 3 t25) ∧ (L 14 = true → PtrOf w gr 4 0 257 t26) ∧ (L 15 = true → IntIn 0 257 t27) ∧ (L 16 = true → t2 = v) ∧ (L 17 = true → t3 = Value.int .i64 T) ∧ (L 18 = true → IntIn 0 257 t4)) ?h0 ?hstep ?hdone
  case h0 => exact ⟨_, _, _, _, _, _, _, _, _, _, _, _, _, _, _, _, _, _, _, rfl, h0W, (fun h => absurd h Bool.false_ne_true), (fun h => absurd h Bool.false_ne_true), (fun h => absurd h Bool.false_ne_true), (fun h => absurd h Bool.false_ne_true), (fun h => absurd h Bool.false_ne_true), (fun h => absurd h Bool.false_ne_true), (fun h => absurd h Bool.false_ne_true), (fun h => absurd h Bool.false_ne_true), (fun h => absurd h Bool.false_ne_true), (fun h => absurd h Bool.false_ne_true), (fun h => absurd h Bool.false_ne_true), (fun h => absurd h Bool.false_ne_true), (fun h => absurd h Bool.false_ne_true), (fun h => absurd h Bool.false_ne_true), (fun h => absurd h Bool.false_ne_true), (fun h => absurd h Bool.false_ne_true), (fun h => absurd h Bool.false_ne_true), (fun h => absurd h Bool.false_ne_true), (fun h => absurd h Bool.false_ne_true)⟩
  case hstep =>
    rintro L a w i o ho hL hd ⟨t2, t3, t4, t12, t13, t14, t15, t16, t17, t18, t19, t20, t21, t22, t23, t24, t25, t26, t27, rfl, hW, f0, f1, f2, f3, f4, f5, f6, f7, f8, f9, f10, f11, f12, f13, f14, f15, f16, f17, f18⟩
    have hi : i < 19 := (Array.getElem?_eq_some_iff.1 ho).1
    obtain rfl | rfl | rfl | rfl | rfl | rfl | rfl | rfl | rfl | rfl | rfl | rfl | rfl | rfl | rfl | rfl | rfl | rfl | rfl : i = 0 ∨ i = 1 ∨ i = 2 ∨ i = 3 ∨ i = 4 ∨ i = 5 ∨ i = 6 ∨ i = 7 ∨ i = 8 ∨ i = 9 ∨ i = 10 ∨ i = 11 ∨ i = 12 ∨ i = 13 ∨ i = 14 ∨ i = 15 ∨ i = 16 ∨ i = 17 ∨ i = 18 := by omega
    · obtain rfl := Option.some.inj ho
      refine wpOp_step rfl (fun K' hK => ?_)
      go_simp
      refine hK _ _ ?_
      exact ⟨_, _, _, _, _, _, _, _, _, _, _, _, _, _, _, _, _, _, _, rfl, hW.same (by simp [upd]), fun _ => rfl, fun h => f1 (upd_ne h (by decide)), fun h => f2 (upd_ne h (by decide)), fun h => f3 (upd_ne h (by decide)), fun h => f4 (upd_ne h (by decide)), fun h => f5 (upd_ne h (by decide)), fun h => f6 (upd_ne h (by decide)), fun h => f7 (upd_ne h (by decide)), fun h => f8 (upd_ne h (by decide)), fun h => f9 (upd_ne h (by decide)), fun h => f10 (upd_ne h (by decide)), fun h => f11 (upd_ne h (by decide)), fun h => f12 (upd_ne h (by decide)), fun h => f13 (upd_ne h (by decide)), fun h => f14 (upd_ne h (by decide)), fun h => f15 (upd_ne h (by decide)), fun h => f16 (upd_ne h (by decide)), fun h => f17 (upd_ne h (by decide)), fun h => f18 (upd_ne h (by decide))⟩
    · obtain rfl := Option.some.inj ho
      refine wpOp_step rfl (fun K' hK => ?_)
      go_simp
      refine hK _ _ ?_
      exact ⟨_, _, _, _, _, _, _, _, _, _, _, _, _, _, _, _, _, _, _, rfl, hW.same (by simp [upd]), fun h => f0 (upd_ne h (by decide)), fun _ => rfl, fun h => f2 (upd_ne h (by decide)), fun h => f3 (upd_ne h (by decide)), fun h => f4 (upd_ne h (by decide)), fun h => f5 (upd_ne h (by decide)), fun h => f6 (upd_ne h (by decide)), fun h => f7 (upd_ne h (by decide)), fun h => f8 (upd_ne h (by decide)), fun h => f9 (upd_ne h (by decide)), fun h => f10 (upd_ne h (by decide)), fun h => f11 (upd_ne h (by decide)), fun h => f12 (upd_ne h (by decide)), fun h => f13 (upd_ne h (by decide)), fun h => f14 (upd_ne h (by decide)), fun h => f15 (upd_ne h (by decide)), fun h => f16 (upd_ne h (by decide)), fun h => f17 (upd_ne h (by decide)), fun h => f18 (upd_ne h (by decide))⟩
    · obtain rfl := Option.some.inj ho
      refine wpOp_step rfl (fun K' hK => ?_)
      go_simp
      refine hK _ _ ?_
      exact ⟨_, _, _, _, _, _, _, _, _, _, _, _, _, _, _, _, _, _, _, rfl, hW.same (by simp [upd]), fun h => f0 (upd_ne h (by decide)), fun h => f1 (upd_ne h (by decide)), fun _ => rfl, fun h => f3 (upd_ne h (by decide)), fun h => f4 (upd_ne h (by decide)), fun h => f5 (upd_ne h (by decide)), fun h => f6 (upd_ne h (by decide)), fun h => f7 (upd_ne h (by decide)), fun h => f8 (upd_ne h (by decide)), fun h => f9 (upd_ne h (by decide)), fun h => f10 (upd_ne h (by decide)), fun h => f11 (upd_ne h (by decide)), fun h => f12 (upd_ne h (by decide)), fun h => f13 (upd_ne h (by decide)), fun h => f14 (upd_ne h (by decide)), fun h => f15 (upd_ne h (by decide)), fun h => f16 (upd_ne h (by decide)), fun h => f17 (upd_ne h (by decide)), fun h => f18 (upd_ne h (by decide))⟩
    · obtain rfl := Option.some.inj ho
      have g2 := f2 (hd ⟨2, .data⟩ (by simp) rfl)
      subst g2
      refine wpOp_step rfl (fun K' hK => ?_)
      go_simp
      refine (pick_any gr (N + 100 + (L 3).toNat + (L 6).toNat + (L 11).toNat) _ w hW.rd (by have := Bool.toNat_le (L 3); have := Bool.toNat_le (L 6); have := Bool.toNat_le (L 11); omega) (by omega)).mono ?_
      rintro e w' ⟨r, rfl, r0, r1, hr, G⟩
      refine hK _ _ ?_
      exact ⟨_, _, _, _, _, _, _, _, _, _, _, _, _, _, _, _, _, _, _, rfl, hW.pick hgb hr G (by simp [upd, hL]; try omega), fun h => f0 (upd_ne h (by decide)), fun h => f1 (upd_ne h (by decide)), fun h => f2 (upd_ne h (by decide)), fun _ => ⟨r, rfl, by omega, by omega⟩, fun h => f4 (upd_ne h (by decide)), fun h => f5 (upd_ne h (by decide)), fun h => f6 (upd_ne h (by decide)), fun h => f7 (upd_ne h (by decide)), fun h => (f8 (upd_ne h (by decide))).pick G, fun h => (f9 (upd_ne h (by decide))).pick G, fun h => f10 (upd_ne h (by decide)), fun h => f11 (upd_ne h (by decide)), fun h => (f12 (upd_ne h (by decide))).pick G, fun h => f13 (upd_ne h (by decide)), fun h => (f14 (upd_ne h (by decide))).pick G, fun h => f15 (upd_ne h (by decide)), fun h => f16 (upd_ne h (by decide)), fun h => f17 (upd_ne h (by decide)), fun h => f18 (upd_ne h (by decide))⟩
    · obtain rfl := Option.some.inj ho
      have g3 := f3 (hd ⟨3, .data⟩ (by simp) rfl)
      obtain ⟨q3, rfl, a3, b3⟩ := g3
      have hw : IntKind.i64.wrap (1 + q3) = 1 + q3 := IntWalk.i64_in _ (by omega)
      refine wpOp_step rfl (fun K' hK => ?_)
      go_simp
      refine hK _ _ ?_
      clear hw
      exact ⟨_, _, _, _, _, _, _, _, _, _, _, _, _, _, _, _, _, _, _, rfl, hW.same (by simp [upd]), fun h => f0 (upd_ne h (by decide)), fun h => f1 (upd_ne h (by decide)), fun h => f2 (upd_ne h (by decide)), fun h => f3 (upd_ne h (by decide)), fun _ => ⟨_, rfl, by omega, by omega⟩, fun h => f5 (upd_ne h (by decide)), fun h => f6 (upd_ne h (by decide)), fun h => f7 (upd_ne h (by decide)), fun h => f8 (upd_ne h (by decide)), fun h => f9 (upd_ne h (by decide)), fun h => f10 (upd_ne h (by decide)), fun h => f11 (upd_ne h (by decide)), fun h => f12 (upd_ne h (by decide)), fun h => f13 (upd_ne h (by decide)), fun h => f14 (upd_ne h (by decide)), fun h => f15 (upd_ne h (by decide)), fun h => f16 (upd_ne h (by decide)), fun h => f17 (upd_ne h (by decide)), fun h => f18 (upd_ne h (by decide))⟩
    · obtain rfl := Option.some.inj ho
      refine wpOp_step rfl (fun K' hK => ?_)
      go_simp
      refine hK _ _ ?_
      exact ⟨_, _, _, _, _, _, _, _, _, _, _, _, _, _, _, _, _, _, _, rfl, hW.same (by simp [upd]), fun h => f0 (upd_ne h (by decide)), fun h => f1 (upd_ne h (by decide)), fun h => f2 (upd_ne h (by decide)), fun h => f3 (upd_ne h (by decide)), fun h => f4 (upd_ne h (by decide)), fun _ => rfl, fun h => f6 (upd_ne h (by decide)), fun h => f7 (upd_ne h (by decide)), fun h => f8 (upd_ne h (by decide)), fun h => f9 (upd_ne h (by decide)), fun h => f10 (upd_ne h (by decide)), fun h => f11 (upd_ne h (by decide)), fun h => f12 (upd_ne h (by decide)), fun h => f13 (upd_ne h (by decide)), fun h => f14 (upd_ne h (by decide)), fun h => f15 (upd_ne h (by decide)), fun h => f16 (upd_ne h (by decide)), fun h => f17 (upd_ne h (by decide)), fun h => f18 (upd_ne h (by decide))⟩
    · obtain rfl := Option.some.inj ho
      have g5 := f5 (hd ⟨5, .data⟩ (by simp) rfl)
      subst g5
      refine wpOp_step rfl (fun K' hK => ?_)
      go_simp
      refine (pick_any gr (N + 100 + (L 3).toNat + (L 6).toNat + (L 11).toNat) _ w hW.rd (by have := Bool.toNat_le (L 3); have := Bool.toNat_le (L 6); have := Bool.toNat_le (L 11); omega) (by omega)).mono ?_
      rintro e w' ⟨r, rfl, r0, r1, hr, G⟩
      refine hK _ _ ?_
      exact ⟨_, _, _, _, _, _, _, _, _, _, _, _, _, _, _, _, _, _, _, rfl, hW.pick hgb hr G (by simp [upd, hL]; try omega), fun h => f0 (upd_ne h (by decide)), fun h => f1 (upd_ne h (by decide)), fun h => f2 (upd_ne h (by decide)), fun h => f3 (upd_ne h (by decide)), fun h => f4 (upd_ne h (by decide)), fun h => f5 (upd_ne h (by decide)), fun _ => ⟨r, rfl, by omega, by omega⟩, fun h => f7 (upd_ne h (by decide)), fun h => (f8 (upd_ne h (by decide))).pick G, fun h => (f9 (upd_ne h (by decide))).pick G, fun h => f10 (upd_ne h (by decide)), fun h => f11 (upd_ne h (by decide)), fun h => (f12 (upd_ne h (by decide))).pick G, fun h => f13 (upd_ne h (by decide)), fun h => (f14 (upd_ne h (by decide))).pick G, fun h => f15 (upd_ne h (by decide)), fun h => f16 (upd_ne h (by decide)), fun h => f17 (upd_ne h (by decide)), fun h => f18 (upd_ne h (by decide))⟩
    · obtain rfl := Option.some.inj ho
      have g6 := f6 (hd ⟨6, .data⟩ (by simp) rfl)
      obtain ⟨q6, rfl, a6, b6⟩ := g6
      have hw : IntKind.i64.wrap (1 + q6) = 1 + q6 := IntWalk.i64_in _ (by omega)
      refine wpOp_step rfl (fun K' hK => ?_)
      go_simp
      refine hK _ _ ?_
      clear hw
      exact ⟨_, _, _, _, _, _, _, _, _, _, _, _, _, _, _, _, _, _, _, rfl, hW.same (by simp [upd]), fun h => f0 (upd_ne h (by decide)), fun h => f1 (upd_ne h (by decide)), fun h => f2 (upd_ne h (by decide)), fun h => f3 (upd_ne h (by decide)), fun h => f4 (upd_ne h (by decide)), fun h => f5 (upd_ne h (by decide)), fun h => f6 (upd_ne h (by decide)), fun _ => ⟨_, rfl, by omega, by omega⟩, fun h => f8 (upd_ne h (by decide)), fun h => f9 (upd_ne h (by decide)), fun h => f10 (upd_ne h (by decide)), fun h => f11 (upd_ne h (by decide)), fun h => f12 (upd_ne h (by decide)), fun h => f13 (upd_ne h (by decide)), fun h => f14 (upd_ne h (by decide)), fun h => f15 (upd_ne h (by decide)), fun h => f16 (upd_ne h (by decide)), fun h => f17 (upd_ne h (by decide)), fun h => f18 (upd_ne h (by decide))⟩
    · obtain rfl := Option.some.inj ho
      have g4 := f4 (hd ⟨4, .data⟩ (by simp) rfl)
      have g7 := f7 (hd ⟨7, .data⟩ (by simp) rfl)
      obtain ⟨q4, rfl, a4, b4⟩ := g4
      obtain ⟨q7, rfl, a7, b7⟩ := g7
      refine wpOp_step rfl (fun K' hK => ?_)
      go_simp
      refine hK _ _ ?_
      exact ⟨_, _, _, _, _, _, _, _, _, _, _, _, _, _, _, _, _, _, _, rfl, (hW.alloc _).same (by simp [upd]), fun h => f0 (upd_ne h (by decide)), fun h => f1 (upd_ne h (by decide)), fun h => f2 (upd_ne h (by decide)), fun h => f3 (upd_ne h (by decide)), fun h => f4 (upd_ne h (by decide)), fun h => f5 (upd_ne h (by decide)), fun h => f6 (upd_ne h (by decide)), fun h => f7 (upd_ne h (by decide)), fun _ => ⟨_, rfl, Tbl.new w gr _ [q4, q7, 0, 257] _ _ hW.rd.lt (by intro q hq; simp at hq; omega) _ rfl⟩, fun h => (f9 (upd_ne h (by decide))).alloc _, fun h => f10 (upd_ne h (by decide)), fun h => f11 (upd_ne h (by decide)), fun h => (f12 (upd_ne h (by decide))).alloc _, fun h => f13 (upd_ne h (by decide)), fun h => (f14 (upd_ne h (by decide))).alloc _, fun h => f15 (upd_ne h (by decide)), fun h => f16 (upd_ne h (by decide)), fun h => f17 (upd_ne h (by decide)), fun h => f18 (upd_ne h (by decide))⟩
    · obtain rfl := Option.some.inj ho
      refine wpOp_step rfl (fun K' hK => ?_)
      go_simp
      refine hK _ _ ?_
      exact ⟨_, _, _, _, _, _, _, _, _, _, _, _, _, _, _, _, _, _, _, rfl, (hW.alloc _).same (by simp [upd]), fun h => f0 (upd_ne h (by decide)), fun h => f1 (upd_ne h (by decide)), fun h => f2 (upd_ne h (by decide)), fun h => f3 (upd_ne h (by decide)), fun h => f4 (upd_ne h (by decide)), fun h => f5 (upd_ne h (by decide)), fun h => f6 (upd_ne h (by decide)), fun h => f7 (upd_ne h (by decide)), fun h => (f8 (upd_ne h (by decide))).alloc _, fun _ => ⟨_, rfl, Tbl.new w gr _ [0, 0, 0, 0, 1, 1, 2, 3] _ _ hW.rd.lt (by intro q hq; simp at hq; omega) _ rfl⟩, fun h => f10 (upd_ne h (by decide)), fun h => f11 (upd_ne h (by decide)), fun h => (f12 (upd_ne h (by decide))).alloc _, fun h => f13 (upd_ne h (by decide)), fun h => (f14 (upd_ne h (by decide))).alloc _, fun h => f15 (upd_ne h (by decide)), fun h => f16 (upd_ne h (by decide)), fun h => f17 (upd_ne h (by decide)), fun h => f18 (upd_ne h (by decide))⟩
    · obtain rfl := Option.some.inj ho
      refine wpOp_step rfl (fun K' hK => ?_)
      go_simp
      refine hK _ _ ?_
      exact ⟨_, _, _, _, _, _, _, _, _, _, _, _, _, _, _, _, _, _, _, rfl, hW.same (by simp [upd]), fun h => f0 (upd_ne h (by decide)), fun h => f1 (upd_ne h (by decide)), fun h => f2 (upd_ne h (by decide)), fun h => f3 (upd_ne h (by decide)), fun h => f4 (upd_ne h (by decide)), fun h => f5 (upd_ne h (by decide)), fun h => f6 (upd_ne h (by decide)), fun h => f7 (upd_ne h (by decide)), fun h => f8 (upd_ne h (by decide)), fun h => f9 (upd_ne h (by decide)), fun _ => rfl, fun h => f11 (upd_ne h (by decide)), fun h => f12 (upd_ne h (by decide)), fun h => f13 (upd_ne h (by decide)), fun h => f14 (upd_ne h (by decide)), fun h => f15 (upd_ne h (by decide)), fun h => f16 (upd_ne h (by decide)), fun h => f17 (upd_ne h (by decide)), fun h => f18 (upd_ne h (by decide))⟩
    · obtain rfl := Option.some.inj ho
      have g10 := f10 (hd ⟨10, .data⟩ (by simp) rfl)
      subst g10
      refine wpOp_step rfl (fun K' hK => ?_)
      go_simp
      refine (pick_any gr (N + 100 + (L 3).toNat + (L 6).toNat + (L 11).toNat) _ w hW.rd (by have := Bool.toNat_le (L 3); have := Bool.toNat_le (L 6); have := Bool.toNat_le (L 11); omega) (by omega)).mono ?_
      rintro e w' ⟨r, rfl, r0, r1, hr, G⟩
      refine hK _ _ ?_
      exact ⟨_, _, _, _, _, _, _, _, _, _, _, _, _, _, _, _, _, _, _, rfl, hW.pick hgb hr G (by simp [upd, hL]; try omega), fun h => f0 (upd_ne h (by decide)), fun h => f1 (upd_ne h (by decide)), fun h => f2 (upd_ne h (by decide)), fun h => f3 (upd_ne h (by decide)), fun h => f4 (upd_ne h (by decide)), fun h => f5 (upd_ne h (by decide)), fun h => f6 (upd_ne h (by decide)), fun h => f7 (upd_ne h (by decide)), fun h => (f8 (upd_ne h (by decide))).pick G, fun h => (f9 (upd_ne h (by decide))).pick G, fun h => f10 (upd_ne h (by decide)), fun _ => ⟨r, rfl, by omega, by omega⟩, fun h => (f12 (upd_ne h (by decide))).pick G, fun h => f13 (upd_ne h (by decide)), fun h => (f14 (upd_ne h (by decide))).pick G, fun h => f15 (upd_ne h (by decide)), fun h => f16 (upd_ne h (by decide)), fun h => f17 (upd_ne h (by decide)), fun h => f18 (upd_ne h (by decide))⟩
    · obtain rfl := Option.some.inj ho
      have g9 := f9 (hd ⟨9, .data⟩ (by simp) rfl)
      have g11 := f11 (hd ⟨11, .data⟩ (by simp) rfl)
      obtain ⟨h9, rfl, T9⟩ := g9
      obtain ⟨q11, rfl, a11, b11⟩ := g11
      obtain ⟨n11, rfl⟩ := Int.eq_ofNat_of_zero_le (show 0 ≤ q11 by omega)
      have l11 : n11 < 8 := by omega
      have l11' : (n11 : Int) < 8 := by omega
      refine wpOp_step rfl (fun K' hK => ?_)
      go_simp
      refine hK _ _ ?_
      exact ⟨_, _, _, _, _, _, _, _, _, _, _, _, _, _, _, _, _, _, _, rfl, hW.same (by simp [upd]), fun h => f0 (upd_ne h (by decide)), fun h => f1 (upd_ne h (by decide)), fun h => f2 (upd_ne h (by decide)), fun h => f3 (upd_ne h (by decide)), fun h => f4 (upd_ne h (by decide)), fun h => f5 (upd_ne h (by decide)), fun h => f6 (upd_ne h (by decide)), fun h => f7 (upd_ne h (by decide)), fun h => f8 (upd_ne h (by decide)), fun h => f9 (upd_ne h (by decide)), fun h => f10 (upd_ne h (by decide)), fun h => f11 (upd_ne h (by decide)), fun _ => ⟨h9, n11, by simp, l11, T9⟩, fun h => f13 (upd_ne h (by decide)), fun h => f14 (upd_ne h (by decide)), fun h => f15 (upd_ne h (by decide)), fun h => f16 (upd_ne h (by decide)), fun h => f17 (upd_ne h (by decide)), fun h => f18 (upd_ne h (by decide))⟩
    · obtain rfl := Option.some.inj ho
      have g12 := f12 (hd ⟨12, .data⟩ (by simp) rfl)
      obtain ⟨h12, j12, rfl, J12, T12⟩ := g12
      obtain ⟨Q, hQ, Q1, Q2⟩ := T12.2.2 j12 J12
      refine wpOp_step rfl (fun K' hK => ?_)
      go_simp
      refine hK _ _ ?_
      exact ⟨_, _, _, _, _, _, _, _, _, _, _, _, _, _, _, _, _, _, _, rfl, hW.same (by simp [upd]), fun h => f0 (upd_ne h (by decide)), fun h => f1 (upd_ne h (by decide)), fun h => f2 (upd_ne h (by decide)), fun h => f3 (upd_ne h (by decide)), fun h => f4 (upd_ne h (by decide)), fun h => f5 (upd_ne h (by decide)), fun h => f6 (upd_ne h (by decide)), fun h => f7 (upd_ne h (by decide)), fun h => f8 (upd_ne h (by decide)), fun h => f9 (upd_ne h (by decide)), fun h => f10 (upd_ne h (by decide)), fun h => f11 (upd_ne h (by decide)), fun h => f12 (upd_ne h (by decide)), fun _ => ⟨Q, rfl, Q1, Q2⟩, fun h => f14 (upd_ne h (by decide)), fun h => f15 (upd_ne h (by decide)), fun h => f16 (upd_ne h (by decide)), fun h => f17 (upd_ne h (by decide)), fun h => f18 (upd_ne h (by decide))⟩
    · obtain rfl := Option.some.inj ho
      have g8 := f8 (hd ⟨8, .data⟩ (by simp) rfl)
      have g13 := f13 (hd ⟨13, .data⟩ (by simp) rfl)
      obtain ⟨h8, rfl, T8⟩ := g8
      obtain ⟨q13, rfl, a13, b13⟩ := g13
      obtain ⟨n13, rfl⟩ := Int.eq_ofNat_of_zero_le (show 0 ≤ q13 by omega)
      have l13 : n13 < 4 := by omega
      have l13' : (n13 : Int) < 4 := by omega
      refine wpOp_step rfl (fun K' hK => ?_)
      go_simp
      refine hK _ _ ?_
      exact ⟨_, _, _, _, _, _, _, _, _, _, _, _, _, _, _, _, _, _, _, rfl, hW.same (by simp [upd]), fun h => f0 (upd_ne h (by decide)), fun h => f1 (upd_ne h (by decide)), fun h => f2 (upd_ne h (by decide)), fun h => f3 (upd_ne h (by decide)), fun h => f4 (upd_ne h (by decide)), fun h => f5 (upd_ne h (by decide)), fun h => f6 (upd_ne h (by decide)), fun h => f7 (upd_ne h (by decide)), fun h => f8 (upd_ne h (by decide)), fun h => f9 (upd_ne h (by decide)), fun h => f10 (upd_ne h (by decide)), fun h => f11 (upd_ne h (by decide)), fun h => f12 (upd_ne h (by decide)), fun h => f13 (upd_ne h (by decide)), fun _ => ⟨h8, n13, by simp, l13, T8⟩, fun h => f15 (upd_ne h (by decide)), fun h => f16 (upd_ne h (by decide)), fun h => f17 (upd_ne h (by decide)), fun h => f18 (upd_ne h (by decide))⟩
    · obtain rfl := Option.some.inj ho
      have g14 := f14 (hd ⟨14, .data⟩ (by simp) rfl)
      obtain ⟨h14, j14, rfl, J14, T14⟩ := g14
      obtain ⟨Q, hQ, Q1, Q2⟩ := T14.2.2 j14 J14
      refine wpOp_step rfl (fun K' hK => ?_)
      go_simp
      refine hK _ _ ?_
      exact ⟨_, _, _, _, _, _, _, _, _, _, _, _, _, _, _, _, _, _, _, rfl, hW.same (by simp [upd]), fun h => f0 (upd_ne h (by decide)), fun h => f1 (upd_ne h (by decide)), fun h => f2 (upd_ne h (by decide)), fun h => f3 (upd_ne h (by decide)), fun h => f4 (upd_ne h (by decide)), fun h => f5 (upd_ne h (by decide)), fun h => f6 (upd_ne h (by decide)), fun h => f7 (upd_ne h (by decide)), fun h => f8 (upd_ne h (by decide)), fun h => f9 (upd_ne h (by decide)), fun h => f10 (upd_ne h (by decide)), fun h => f11 (upd_ne h (by decide)), fun h => f12 (upd_ne h (by decide)), fun h => f13 (upd_ne h (by decide)), fun h => f14 (upd_ne h (by decide)), fun _ => ⟨Q, rfl, Q1, Q2⟩, fun h => f16 (upd_ne h (by decide)), fun h => f17 (upd_ne h (by decide)), fun h => f18 (upd_ne h (by decide))⟩
    · obtain rfl := Option.some.inj ho
      have g0 := f0 (hd ⟨0, .data⟩ (by simp) rfl)
      subst g0
      refine wpOp_step rfl (fun K' hK => ?_)
      go_simp
      refine hK _ _ ?_
      exact ⟨_, _, _, _, _, _, _, _, _, _, _, _, _, _, _, _, _, _, _, rfl, hW.same (by simp [upd]), fun h => f0 (upd_ne h (by decide)), fun h => f1 (upd_ne h (by decide)), fun h => f2 (upd_ne h (by decide)), fun h => f3 (upd_ne h (by decide)), fun h => f4 (upd_ne h (by decide)), fun h => f5 (upd_ne h (by decide)), fun h => f6 (upd_ne h (by decide)), fun h => f7 (upd_ne h (by decide)), fun h => f8 (upd_ne h (by decide)), fun h => f9 (upd_ne h (by decide)), fun h => f10 (upd_ne h (by decide)), fun h => f11 (upd_ne h (by decide)), fun h => f12 (upd_ne h (by decide)), fun h => f13 (upd_ne h (by decide)), fun h => f14 (upd_ne h (by decide)), fun h => f15 (upd_ne h (by decide)), fun _ => rfl, fun h => f17 (upd_ne h (by decide)), fun h => f18 (upd_ne h (by decide))⟩
    · obtain rfl := Option.some.inj ho
      have g1 := f1 (hd ⟨1, .data⟩ (by simp) rfl)
      subst g1
      refine wpOp_step rfl (fun K' hK => ?_)
      go_simp
      refine hK _ _ ?_
      exact ⟨_, _, _, _, _, _, _, _, _, _, _, _, _, _, _, _, _, _, _, rfl, hW.same (by simp [upd]), fun h => f0 (upd_ne h (by decide)), fun h => f1 (upd_ne h (by decide)), fun h => f2 (upd_ne h (by decide)), fun h => f3 (upd_ne h (by decide)), fun h => f4 (upd_ne h (by decide)), fun h => f5 (upd_ne h (by decide)), fun h => f6 (upd_ne h (by decide)), fun h => f7 (upd_ne h (by decide)), fun h => f8 (upd_ne h (by decide)), fun h => f9 (upd_ne h (by decide)), fun h => f10 (upd_ne h (by decide)), fun h => f11 (upd_ne h (by decide)), fun h => f12 (upd_ne h (by decide)), fun h => f13 (upd_ne h (by decide)), fun h => f14 (upd_ne h (by decide)), fun h => f15 (upd_ne h (by decide)), fun h => f16 (upd_ne h (by decide)), fun _ => rfl, fun h => f18 (upd_ne h (by decide))⟩
    · obtain rfl := Option.some.inj ho
      have g15 := f15 (hd ⟨15, .data⟩ (by simp) rfl)
      refine wpOp_step rfl (fun K' hK => ?_)
      go_simp
      refine hK _ _ ?_
      exact ⟨_, _, _, _, _, _, _, _, _, _, _, _, _, _, _, _, _, _, _, rfl, hW.same (by simp [upd]), fun h => f0 (upd_ne h (by decide)), fun h => f1 (upd_ne h (by decide)), fun h => f2 (upd_ne h (by decide)), fun h => f3 (upd_ne h (by decide)), fun h => f4 (upd_ne h (by decide)), fun h => f5 (upd_ne h (by decide)), fun h => f6 (upd_ne h (by decide)), fun h => f7 (upd_ne h (by decide)), fun h => f8 (upd_ne h (by decide)), fun h => f9 (upd_ne h (by decide)), fun h => f10 (upd_ne h (by decide)), fun h => f11 (upd_ne h (by decide)), fun h => f12 (upd_ne h (by decide)), fun h => f13 (upd_ne h (by decide)), fun h => f14 (upd_ne h (by decide)), fun h => f15 (upd_ne h (by decide)), fun h => f16 (upd_ne h (by decide)), fun h => f17 (upd_ne h (by decide)), fun _ => g15⟩
  case hdone =>
    rintro L a w hall ⟨t2, t3, t4, t12, t13, t14, t15, t16, t17, t18, t19, t20, t21, t22, t23, t24, t25, t26, t27, rfl, hW, f0, f1, f2, f3, f4, f5, f6, f7, f8, f9, f10, f11, f12, f13, f14, f15, f16, f17, f18⟩
    have f0 := f0 (hall 0 (by decide))
    have f1 := f1 (hall 1 (by decide))
    have f2 := f2 (hall 2 (by decide))
    have f3 := f3 (hall 3 (by decide))
    have f4 := f4 (hall 4 (by decide))
    have f5 := f5 (hall 5 (by decide))
    have f6 := f6 (hall 6 (by decide))
    have f7 := f7 (hall 7 (by decide))
    have f8 := f8 (hall 8 (by decide))
    have f9 := f9 (hall 9 (by decide))
    have f10 := f10 (hall 10 (by decide))
    have f11 := f11 (hall 11 (by decide))
    have f12 := f12 (hall 12 (by decide))
    have f13 := f13 (hall 13 (by decide))
    have f14 := f14 (hall 14 (by decide))
    have f15 := f15 (hall 15 (by decide))
    have f16 := f16 (hall 16 (by decide))
    have f17 := f17 (hall 17 (by decide))
    have f18 := f18 (hall 18 (by decide))
    obtain ⟨q, rfl, q0, q1⟩ := f18
    subst f16 f17
    go_wp2
    go_ret3
    exact ⟨_, xs, T, q, rfl, hW.own, HA.out, h1, h2, h3, h4, q0, q1, hW.rd.more (by have := Bool.toNat_le (L 3); have := Bool.toNat_le (L 6); have := Bool.toNat_le (L 11); omega), hW.grown⟩

/-- blocks have been drawn for a law -/
def DrawnL (w : World) (e : Ending) (w' : World) : Prop :=
  ∃ (v : Value) (xs : List Bl) (T : Int), e = .returned (.tuple #[v, .int .i64 T]) ∧ OwnB w' w.heap.size v xs ∧ AllI xs ∧ 1 ≤ xs.length ∧ xs.length ≤ 300 ∧ 1 ≤ T ∧ T ≤ 65 ∧ Below w.heap.size w w'
/-- blocks, a total and a number of words have been drawn for a law -/
def DrawnA (w : World) (e : Ending) (w' : World) : Prop :=
  ∃ (v : Value) (xs : List Bl) (T q : Int), e = .returned (.tuple #[v, .int .i64 T, .int .i64 q]) ∧ OwnB w' w.heap.size v xs ∧ AllI xs ∧ 1 ≤ xs.length ∧ xs.length ≤ 300 ∧ 1 ≤ T ∧ T ≤ 65 ∧ 0 ≤ q ∧ q ≤ 257 ∧ Below w.heap.size w w'
theorem far_pick {w2 w3 : World} {base gr : Nat} {v : Value} {xs : List Bl} (h : OwnB w2 base v xs) (hlt : gr < base) (hg : w2.grownBy w3 (some gr)) : OwnB w3 base v xs := h.far hg (by
  right
  intro e
  have := (World.ownsRow.lt h _ e).1
  omega)

/-- blocks, a total and a block's number have been drawn for a law -/
def DrawnG (w : World) (e : Ending) (w' : World) : Prop :=
  ∃ (v : Value) (xs : List Bl) (T q : Int), e = .returned (.tuple #[v, .int .i64 T, .int .i64 q]) ∧ OwnB w' w.heap.size v xs ∧ AllI xs ∧ 1 ≤ xs.length ∧ xs.length ≤ 300 ∧ 1 ≤ T ∧ T ≤ 65 ∧ -1 ≤ q ∧ q ≤ 300 ∧ Below w.heap.size w w'
/-- blocks, a total, a block's number and a number of words have been drawn for a law -/
def DrawnT (w : World) (e : Ending) (w' : World) : Prop :=
  ∃ (v : Value) (xs : List Bl) (T k q : Int), e = .returned (.tuple #[v, .int .i64 T, .int .i64 k, .int .i64 q]) ∧ OwnB w' w.heap.size v xs ∧ AllI xs ∧ 1 ≤ xs.length ∧ xs.length ≤ 300 ∧ 1 ≤ T ∧ T ≤ 65 ∧ I64 k ∧ 0 ≤ q ∧ q ≤ 257 ∧ Below w.heap.size w w'
theorem results_tmp4 {fn : Func} {t u v x : Tmp} (h : fn.results = #[.tmp t, .tmp u, .tmp v, .tmp x]) (tmps : Array Value) (P : Program) (w : World) :
    (results fn tmps).run P w = .ok (.tuple #[tmps.getD t undef, tmps.getD u undef, tmps.getD v undef, tmps.getD x undef]) w := by
  simp [results, h]
theorem firstIdx_bd : ∀ (xs : List Bl) (size : Int) (o : Nat), -1 ≤ Bks.firstIdx xs size o ∧ Bks.firstIdx xs size o < (o + xs.length : Nat) + 1
  | [], _, _ => by simp [Bks.firstIdx]; omega
  | x :: xs, size, o => by
    have := firstIdx_bd xs size (o + 1)
    unfold Bks.firstIdx
    split
    · simp; omega
    · simp only [List.length_cons]; omega
theorem firstW_bd (xs : List Bl) (t size : Int) (h : xs.length ≤ 1000) : -1 ≤ Bks.firstW xs t size ∧ Bks.firstW xs t size ≤ 1001 := by
  unfold Bks.firstW
  split
  · have := firstIdx_bd xs size 0
    omega
  · omega
end Go.Proofs.Ytkejbggffbkdaaa
