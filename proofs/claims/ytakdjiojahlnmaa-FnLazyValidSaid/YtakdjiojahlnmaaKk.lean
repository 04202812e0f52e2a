/- What l20Command draws: a valid instruction if none may be invalid, else numbers that are small. No conditions. -/
import Derived.Test.YtakdjiojahlnmaaGc
import Derived.Test.YtakdjiojahlnmaaGa
import Derived.Test.YtakdjiojahlnmaaGb
import Derived.Deep.Cut
import Derived.Deep.CutBlock
namespace Go.Proofs.Ytakdjiojahlnmaa
open Go.RowKit
set_option maxRecDepth 100000

theorem upd_keep {L : Nat → Bool} {i k : Nat} (h : L k = true) : upd L i k = true := by
  unfold upd
  split
  · rfl
  · exact h
abbrev cmCs (o : Cm) : Array Value := #[.int .i64 o.op, .int .i64 o.a, .int .i64 o.b, .int .i64 o.c]
/-- what is known while an instruction is drawn: it lies in the box b, the reader in gr -/
structure CmSt (w wr : World) (gr N b : Nat) (o : Cm) : Prop where
  rd : Rd wr gr N
  grown : w.grownBy wr (some gr)
  box : Rw wr b 128 (cmCs o)
  res : Rw wr w.heap.size 128 (cmCs ⟨0, 0, 0, 0⟩)
  lo : w.heap.size < b
  old : gr < w.heap.size
section
variable {w wr w' : World} {gr N b : Nat} {o : Cm}
theorem CmSt.pick (S : CmSt w wr gr N b o) (hr : Rd w' gr (N + 1)) (hg : wr.grownBy w' (some gr)) : CmSt w w' gr (N + 1) b o := by
  have h1 := S.lo
  have h2 := S.old
  exact ⟨hr, World.grownBy.trans S.grown hg, S.box.far hg (fun e => by injection e with e; omega), S.res.far hg (fun e => by injection e with e; omega), h1, h2⟩
theorem CmSt.alloc (S : CmSt w wr gr N b o) (ob : Obj) : CmSt w (wr.alloc ob) gr N b o :=
  ⟨S.rd.below ((Below.refl wr.heap.size wr).alloc (Nat.le_refl _) ob) S.rd.lt, World.grownBy.trans S.grown (World.grownBy_alloc wr ob _), S.box.alloc ob, S.res.alloc ob, S.lo, S.old⟩
theorem CmSt.more {N' : Nat} (S : CmSt w wr gr N b o) (h : N ≤ N') : CmSt w wr gr N' b o := ⟨S.rd.more h, S.grown, S.box, S.res, S.lo, S.old⟩
theorem CmSt.put (S : CmSt w wr gr N b o) (i : Nat) (u : Value) {o' : Cm} (h : (cmCs o).setIfInBounds i u = cmCs o') : CmSt w (wr.setCell ⟨b, i, none⟩ u) gr N b o' := by
  have h1 := S.lo
  have h2 := S.old
  have hb : Below b wr (wr.setCell ⟨b, i, none⟩ u) := (Below.refl b wr).setCell (p := ⟨b, i, none⟩) (Nat.le_refl _) u
  exact ⟨S.rd.below hb (by omega), grown_below S.grown (hb.mono (by omega)), h ▸ S.box.put i u, S.res.other (by omega) u, h1, h2⟩
end
/-- numbers of an instruction that is drawn -/
def SmallCm (o : Cm) : Prop := (0 ≤ o.op ∧ o.op ≤ 7) ∧ (-1 ≤ o.a ∧ o.a ≤ 4) ∧ (-1 ≤ o.b ∧ o.b ≤ 100) ∧ (-1 ≤ o.c ∧ o.c ≤ 100)
theorem small_of_ok {o : Cm} (h : Hps.okCm o = true) : SmallCm o := by
  have ha := Hps.okCm_a h
  rcases Hps.okCm_op h with e | e | e | e | e | e
  · have := (Hps.okCm_new e).1 h; exact ⟨by omega, by omega, by omega, by omega⟩
  · have := (Hps.okCm_get (.inl e)).1 h; exact ⟨by omega, by omega, by omega, by omega⟩
  · have := (Hps.okCm_get (.inr e)).1 h; exact ⟨by omega, by omega, by omega, by omega⟩
  · have := (Hps.okCm_copy e).1 h; exact ⟨by omega, by omega, by omega, by omega⟩
  · have := (Hps.okCm_drop e).1 h; exact ⟨by omega, by omega, by omega, by omega⟩
  · have := (Hps.okCm_data e).1 h; exact ⟨by omega, by omega, by omega, by omega⟩
/-- an instruction has been drawn -/
def DrewC (w : World) (gr N : Nat) (n : Int) (e : Ending) (w' : World) : Prop :=
  ∃ o : Cm, e = .returned (cmV o) ∧ (n = 0 → Hps.okCm o = true) ∧ SmallCm o ∧ Rd w' gr (N + 12) ∧ w.grownBy w' (some gr)
theorem odd_zero (g N : Nat) (w : World) (h : Rd w g N) : Calls Try.prog 79 #[.pointer (some ⟨g, 0, none⟩), .int .i64 0] w (Odded w g N) := by
  go_enter Try.func79, Try.ntmps79
  go_wp2_with fail
  go_ret
  exact ⟨false, rfl, h.more (by omega), World.grownBy.refl _ _⟩
theorem odd_zero' (g N : Nat) (w : World) (_h : Rd w g N) : Calls Try.prog 79 #[.pointer (some ⟨g, 0, none⟩), .int .i64 0] w fun e w' => e = .returned (.bool false) ∧ w = w' := by
  go_enter Try.func79, Try.ntmps79
  go_wp2_with fail
  go_ret
  exact ⟨rfl, rfl⟩
/-- a number out of a table, at any index -/
theorem Tbl.two (w : World) (_gr : Nat) (t : TypeId) (x y : Int) : Rw (w.alloc (.cells #[.int .i64 x, .int .i64 y] t)) w.heap.size t #[.int .i64 x, .int .i64 y] := Rw.new _ _ _

set_option maxRecDepth 100000 in
set_option maxHeartbeats 8000000 in
theorem l20Command_any (gr N : Nat) (n : Int) (w : World) (h : Rd w gr N) (hN : N ≤ 1000000) (hn0 : 0 ≤ n) (hn : n ≤ 1000000) :
    Calls Try.prog 101 #[.pointer (some ⟨gr, 0, none⟩), .int .i64 n] w (DrewC w gr N n) := by
  have hgl := h.lt
  have h0 : Rd (w.alloc (.cells (cmCs ⟨0, 0, 0, 0⟩) 128)) gr N := h.below ((Below.refl w.heap.size w).alloc (Nat.le_refl _) _) hgl
  have r0 := Rw.new w 128 (cmCs ⟨0, 0, 0, 0⟩)
  have g0 : w.grownBy (w.alloc (.cells (cmCs ⟨0, 0, 0, 0⟩) 128)) (some gr) := World.grownBy_alloc _ _ _
  have z0 : w.heap.size + 1 = (w.alloc (.cells (cmCs ⟨0, 0, 0, 0⟩) 128)).heap.size := by simp
  go_enter Try.func101, Try.ntmps101
  go_upto_region 1 with fail
  generalize w.alloc (.cells (cmCs ⟨0, 0, 0, 0⟩) 128) = w0 at h0 r0 g0 z0 ⊢
  have HZ := Lib.hid z0
  clear z0
  refine wp_region_inv (by kernel_rfl) (by kernel_rfl) (fun L ac ww => ∃ t5 t6 t7 t8 t9 t10 t11 t12 t13 : Value, ac = { tmps := #[Value.pointer (some { block := gr, off := 0 }), Value.int IntKind.i64 n, undef, undef, Value.pointer (some { block := w.heap.size, off := 0 }), t5, t6, t7, t8, t9, t10, t11, t12, t13, undef, undef, undef, undef, undef, undef, undef, undef, undef, undef, undef, undef, undef, undef, undef, undef, undef, undef, undef, undef, undef, undef, undef, undef, undef, undef, undef, undef, undef, undef, undef, undef, undef, undef, undef, undef, undef, undef, undef, undef, undef, undef, undef, undef, undef, undef, undef, undef, undef, undef, undef, undef, undef, undef, undef, undef, undef, undef, undef, undef, undef, undef, undef, undef, undef, undef, undef, undef, undef, undef, undef, undef, undef, undef, undef, undef], defers := [] } ∧ (Rd ww gr (N + (L 2).toNat + (L 6).toNat)) ∧ (w0.grownBy ww (some gr)) ∧ (L 9 = true → L 6 = true) ∧ (L 9 = true → L 2 = true) ∧ (L 9 = true → L 8 = true) ∧ (L 9 = true → L 3 = true) ∧ (L 9 = true → L 4 = true) ∧ (L 0 = true → L 9 = true ∨ TblOf ww gr 10 1 6 t6) ∧ (L 1 = true → t7 = .pointer (some ⟨gr, 0, none⟩)) ∧ (L 2 = true → IntIn 0 9 t8) ∧ (L 3 = true → L 9 = true ∨ PtrOf ww gr 10 1 6 t9) ∧ (L 4 = true → IntIn 1 6 t10) ∧ (L 5 = true → t11 = .pointer (some ⟨gr, 0, none⟩)) ∧ (L 6 = true → IntIn 0 3 t12) ∧ (L 7 = true → ∃ op a : Int, t13 = .agg #[.int .i64 op, .int .i64 a, .int .i64 0, .int .i64 0] ∧ 1 ≤ op ∧ op ≤ 6 ∧ 0 ≤ a ∧ a ≤ 3) ∧ (L 8 = true → ∃ (g5 : Nat) (z0 z1 z2 z3 : Value), t5 = .pointer (some ⟨g5, 0, none⟩) ∧ w.heap.size < g5 ∧ Rw ww g5 128 #[z0, z1, z2, z3]) ∧ (L 9 = true → ∃ (g5 : Nat) (op a : Int), t5 = .pointer (some ⟨g5, 0, none⟩) ∧ CmSt w ww gr (N + 2) g5 ⟨op, a, 0, 0⟩ ∧ 1 ≤ op ∧ op ≤ 6 ∧ 0 ≤ a ∧ a ≤ 3)) ?h0 ?hstep ?hdone
  case h0 => exact ⟨_, _, _, _, _, _, _, _, _, rfl, by simpa using h0.below (Below.refl _ _).drew h0.lt, grown_below (World.grownBy.refl _ _) (Below.refl _ _).drew, fun h => absurd h Bool.false_ne_true, fun h => absurd h Bool.false_ne_true, fun h => absurd h Bool.false_ne_true, fun h => absurd h Bool.false_ne_true, fun h => absurd h Bool.false_ne_true, (fun h => absurd h Bool.false_ne_true), (fun h => absurd h Bool.false_ne_true), (fun h => absurd h Bool.false_ne_true), (fun h => absurd h Bool.false_ne_true), (fun h => absurd h Bool.false_ne_true), (fun h => absurd h Bool.false_ne_true), (fun h => absurd h Bool.false_ne_true), (fun h => absurd h Bool.false_ne_true), (fun h => absurd h Bool.false_ne_true), (fun h => absurd h Bool.false_ne_true)⟩
  case hstep =>
    rintro L ac ww i o ho hL hd ⟨t5, t6, t7, t8, t9, t10, t11, t12, t13, rfl, I0, I1, I2, I3, I4, I5, I6, f0, f1, f2, f3, f4, f5, f6, f7, f8, f9⟩
    have hi : i < 10 := (Array.getElem?_eq_some_iff.1 ho).1
    obtain rfl | rfl | rfl | rfl | rfl | rfl | rfl | rfl | rfl | rfl : i = 0 ∨ i = 1 ∨ i = 2 ∨ i = 3 ∨ i = 4 ∨ i = 5 ∨ i = 6 ∨ i = 7 ∨ i = 8 ∨ i = 9 := by omega
    · obtain rfl := Option.some.inj ho
      refine wpOp_step rfl (fun K' hK => ?_)
      go_simp
      refine hK _ _ ?_
      exact ⟨_, _, _, _, _, _, _, _, _, rfl, (by rw [upd_other (by decide), upd_other (by decide)]; exact I0.below ((Below.refl ww.heap.size ww).alloc (Nat.le_refl _) _) I0.lt), (World.grownBy.trans I1 (World.grownBy_alloc _ _ _)), (fun h => upd_keep (I2 (upd_ne h (by decide)))), (fun h => upd_keep (I3 (upd_ne h (by decide)))), (fun h => upd_keep (I4 (upd_ne h (by decide)))), (fun h => upd_keep (I5 (upd_ne h (by decide)))), (fun h => upd_keep (I6 (upd_ne h (by decide)))), (fun _ => .inr ⟨_, rfl, Tbl.new ww gr _ [1, 1, 1, 2, 3, 3, 3, 4, 5, 6] 1 6 I0.lt (by intro q hq; simp at hq; omega) _ rfl⟩), (kp f1), (kp f2), (fun h => (f3 (upd_ne h (by decide))).imp (fun e => upd_keep e) (fun T => T.alloc _)), (kp f4), (kp f5), (kp f6), (kp f7), (fun h => by
        obtain ⟨g5, z0, z1, z2, z3, e, hg5, hz⟩ := f8 (upd_ne h (by decide))
        exact ⟨g5, z0, z1, z2, z3, e, hg5, hz.alloc _⟩), (fun h => by
        obtain ⟨g5, op, a, e, S, q⟩ := f9 (upd_ne h (by decide))
        exact ⟨g5, op, a, e, S.alloc _, q⟩)⟩
    · obtain rfl := Option.some.inj ho
      refine wpOp_step rfl (fun K' hK => ?_)
      go_simp
      refine hK _ _ ?_
      exact ⟨_, _, _, _, _, _, _, _, _, rfl, (by rw [upd_other (by decide), upd_other (by decide)]; exact I0), (I1), (fun h => upd_keep (I2 (upd_ne h (by decide)))), (fun h => upd_keep (I3 (upd_ne h (by decide)))), (fun h => upd_keep (I4 (upd_ne h (by decide)))), (fun h => upd_keep (I5 (upd_ne h (by decide)))), (fun h => upd_keep (I6 (upd_ne h (by decide)))), (fun h => (f0 (upd_ne h (by decide))).imp (fun e => upd_keep e) id), (fun _ => rfl), (kp f2), (fun h => (f3 (upd_ne h (by decide))).imp (fun e => upd_keep e) id), (kp f4), (kp f5), (kp f6), (kp f7), (kp f8), (kp f9)⟩
    · obtain rfl := Option.some.inj ho
      have g1 := f1 (hd ⟨1, .data⟩ (by simp) rfl)
      subst g1
      refine wpOp_step rfl (fun K' hK => ?_)
      go_simp
      refine (pick_any gr (N + (L 2).toNat + (L 6).toNat) 10 ww I0 (by have := Bool.toNat_le (L 2); have := Bool.toNat_le (L 6); omega) (by omega)).mono ?_
      rintro e w' ⟨r, rfl, r0', r1', hr, G⟩
      refine hK _ _ ?_
      exact ⟨_, _, _, _, _, _, _, _, _, rfl, (by rw [upd_self, upd_other (by decide)]; rw [hL] at hr; exact hr.more (by simp; omega)), (World.grownBy.trans I1 G), (fun h => upd_keep (I2 (upd_ne h (by decide)))), (fun h => upd_keep (I3 (upd_ne h (by decide)))), (fun h => upd_keep (I4 (upd_ne h (by decide)))), (fun h => upd_keep (I5 (upd_ne h (by decide)))), (fun h => upd_keep (I6 (upd_ne h (by decide)))), (fun h => (f0 (upd_ne h (by decide))).imp (fun e => upd_keep e) (fun T => T.pick G)), (kp f1), (fun _ => ⟨r, rfl, r0', by omega⟩), (fun h => (f3 (upd_ne h (by decide))).imp (fun e => upd_keep e) (fun T => T.pick G)), (kp f4), (kp f5), (kp f6), (kp f7), (fun h => by
        obtain ⟨g5, z0, z1, z2, z3, e, hg5, hz⟩ := f8 (upd_ne h (by decide))
        exact ⟨g5, z0, z1, z2, z3, e, hg5, hz.far G (fun e => by injection e with e; omega)⟩), (fun h => absurd (I3 (upd_ne h (by decide))) (by rw [hL]; simp))⟩
    · obtain rfl := Option.some.inj ho
      have g0 := f0 (hd ⟨0, .data⟩ (by simp) rfl)
      have g2 := f2 (hd ⟨2, .data⟩ (by simp) rfl)
      have g0' := g0.resolve_left (fun e => absurd (I5 e) (by rw [hL]; simp))
      clear g0
      obtain ⟨g6, rfl, T6⟩ := g0'
      obtain ⟨q8, rfl, q81, q82⟩ := g2
      obtain ⟨n8, rfl⟩ := Int.eq_ofNat_of_zero_le (show 0 ≤ q8 by omega)
      have l8 : n8 < 10 := by omega
      have l8' : (n8 : Int) < 10 := by omega
      refine wpOp_step rfl (fun K' hK => ?_)
      go_simp
      refine hK _ _ ?_
      exact ⟨_, _, _, _, _, _, _, _, _, rfl, (by rw [upd_other (by decide), upd_other (by decide)]; exact I0), (I1), (fun h => upd_keep (I2 (upd_ne h (by decide)))), (fun h => upd_keep (I3 (upd_ne h (by decide)))), (fun h => upd_keep (I4 (upd_ne h (by decide)))), (fun h => upd_keep (I5 (upd_ne h (by decide)))), (fun h => upd_keep (I6 (upd_ne h (by decide)))), (fun _ => .inr ⟨g6, rfl, T6⟩), (kp f1), (fun _ => ⟨(n8 : Int), rfl, by omega, by omega⟩), (fun _ => .inr ⟨g6, n8, by simp, l8, T6⟩), (kp f4), (kp f5), (kp f6), (kp f7), (kp f8), (kp f9)⟩
    · obtain rfl := Option.some.inj ho
      have g3 := f3 (hd ⟨3, .data⟩ (by simp) rfl)
      have g3' := g3.resolve_left (fun e => absurd (I6 e) (by rw [hL]; simp))
      clear g3
      obtain ⟨g9, n9, rfl, l9, T9⟩ := g3'
      obtain ⟨q9, hq9, q91, q92⟩ := T9.2.2 n9 l9
      refine wpOp_step rfl (fun K' hK => ?_)
      go_simp
      refine hK _ _ ?_
      exact ⟨_, _, _, _, _, _, _, _, _, rfl, (by rw [upd_other (by decide), upd_other (by decide)]; exact I0), (I1), (fun h => upd_keep (I2 (upd_ne h (by decide)))), (fun h => upd_keep (I3 (upd_ne h (by decide)))), (fun h => upd_keep (I4 (upd_ne h (by decide)))), (fun h => upd_keep (I5 (upd_ne h (by decide)))), (fun h => upd_keep (I6 (upd_ne h (by decide)))), (fun h => (f0 (upd_ne h (by decide))).imp (fun e => upd_keep e) id), (kp f1), (kp f2), (fun _ => .inr ⟨g9, n9, rfl, l9, T9⟩), (fun _ => ⟨q9, rfl, q91, q92⟩), (kp f5), (kp f6), (kp f7), (kp f8), (kp f9)⟩
    · obtain rfl := Option.some.inj ho
      refine wpOp_step rfl (fun K' hK => ?_)
      go_simp
      refine hK _ _ ?_
      exact ⟨_, _, _, _, _, _, _, _, _, rfl, (by rw [upd_other (by decide), upd_other (by decide)]; exact I0), (I1), (fun h => upd_keep (I2 (upd_ne h (by decide)))), (fun h => upd_keep (I3 (upd_ne h (by decide)))), (fun h => upd_keep (I4 (upd_ne h (by decide)))), (fun h => upd_keep (I5 (upd_ne h (by decide)))), (fun h => upd_keep (I6 (upd_ne h (by decide)))), (fun h => (f0 (upd_ne h (by decide))).imp (fun e => upd_keep e) id), (kp f1), (kp f2), (fun h => (f3 (upd_ne h (by decide))).imp (fun e => upd_keep e) id), (kp f4), (fun _ => rfl), (kp f6), (kp f7), (kp f8), (kp f9)⟩
    · obtain rfl := Option.some.inj ho
      have g5 := f5 (hd ⟨5, .data⟩ (by simp) rfl)
      subst g5
      refine wpOp_step rfl (fun K' hK => ?_)
      go_simp
      refine (pick_any gr (N + (L 2).toNat + (L 6).toNat) 4 ww I0 (by have := Bool.toNat_le (L 2); have := Bool.toNat_le (L 6); omega) (by omega)).mono ?_
      rintro e w' ⟨r, rfl, r0', r1', hr, G⟩
      refine hK _ _ ?_
      exact ⟨_, _, _, _, _, _, _, _, _, rfl, (by rw [upd_self, upd_other (by decide)]; rw [hL] at hr; exact hr.more (by simp)), (World.grownBy.trans I1 G), (fun h => upd_keep (I2 (upd_ne h (by decide)))), (fun h => upd_keep (I3 (upd_ne h (by decide)))), (fun h => upd_keep (I4 (upd_ne h (by decide)))), (fun h => upd_keep (I5 (upd_ne h (by decide)))), (fun h => upd_keep (I6 (upd_ne h (by decide)))), (fun h => (f0 (upd_ne h (by decide))).imp (fun e => upd_keep e) (fun T => T.pick G)), (kp f1), (kp f2), (fun h => (f3 (upd_ne h (by decide))).imp (fun e => upd_keep e) (fun T => T.pick G)), (kp f4), (kp f5), (fun _ => ⟨r, rfl, r0', by omega⟩), (kp f7), (fun h => by
        obtain ⟨g5, z0, z1, z2, z3, e, hg5, hz⟩ := f8 (upd_ne h (by decide))
        exact ⟨g5, z0, z1, z2, z3, e, hg5, hz.far G (fun e => by injection e with e; omega)⟩), (fun h => absurd (I2 (upd_ne h (by decide))) (by rw [hL]; simp))⟩
    · obtain rfl := Option.some.inj ho
      have g4 := f4 (hd ⟨4, .data⟩ (by simp) rfl)
      have g6 := f6 (hd ⟨6, .data⟩ (by simp) rfl)
      obtain ⟨op, rfl, p1, p2⟩ := g4
      obtain ⟨aa, rfl, p3, p4⟩ := g6
      refine wpOp_step rfl (fun K' hK => ?_)
      go_simp
      refine hK _ _ ?_
      exact ⟨_, _, _, _, _, _, _, _, _, rfl, (by rw [upd_other (by decide), upd_other (by decide)]; exact I0), (I1), (fun h => upd_keep (I2 (upd_ne h (by decide)))), (fun h => upd_keep (I3 (upd_ne h (by decide)))), (fun h => upd_keep (I4 (upd_ne h (by decide)))), (fun h => upd_keep (I5 (upd_ne h (by decide)))), (fun h => upd_keep (I6 (upd_ne h (by decide)))), (fun h => (f0 (upd_ne h (by decide))).imp (fun e => upd_keep e) id), (kp f1), (kp f2), (fun h => (f3 (upd_ne h (by decide))).imp (fun e => upd_keep e) id), (fun _ => ⟨op, rfl, p1, p2⟩), (kp f5), (fun _ => ⟨aa, rfl, p3, p4⟩), (fun _ => ⟨op, aa, rfl, p1, p2, p3, p4⟩), (kp f8), (kp f9)⟩
    · obtain rfl := Option.some.inj ho
      refine wpOp_step rfl (fun K' hK => ?_)
      go_simp
      refine hK _ _ ?_
      exact ⟨_, _, _, _, _, _, _, _, _, rfl, (by rw [upd_other (by decide), upd_other (by decide)]; exact I0.below ((Below.refl ww.heap.size ww).alloc (Nat.le_refl _) _) I0.lt), (World.grownBy.trans I1 (World.grownBy_alloc _ _ _)), (fun h => upd_keep (I2 (upd_ne h (by decide)))), (fun h => upd_keep (I3 (upd_ne h (by decide)))), (fun h => upd_keep (I4 (upd_ne h (by decide)))), (fun h => upd_keep (I5 (upd_ne h (by decide)))), (fun h => upd_keep (I6 (upd_ne h (by decide)))), (fun h => (f0 (upd_ne h (by decide))).imp (fun e => upd_keep e) (fun T => T.alloc _)), (kp f1), (kp f2), (fun h => (f3 (upd_ne h (by decide))).imp (fun e => upd_keep e) (fun T => T.alloc _)), (kp f4), (kp f5), (kp f6), (kp f7), (fun _ => ⟨ww.heap.size, _, _, _, _, rfl, by have := I1.size; have := HZ.out; omega, Rw.new _ _ _⟩), (fun h => absurd (I4 (upd_ne h (by decide))) (by rw [hL]; simp))⟩
    · obtain rfl := Option.some.inj ho
      have g7 := f7 (hd ⟨7, .data⟩ (by simp) rfl)
      have g8 := f8 (hd ⟨8, .data⟩ (by simp) rfl)
      obtain ⟨g5, z0, z1, z2, z3, rfl, hg5, hz⟩ := g8
      obtain ⟨op, aa, rfl, p1, p2, p3, p4⟩ := g7
      have u0 := hz.cell 0
      have u1 := hz.cell 1
      have u2 := hz.cell 2
      have u3 := hz.cell 3
      have v0 := hz.frozen 0
      have v1 := hz.frozen 1
      have v2 := hz.frozen 2
      have v3 := hz.frozen 3
      simp at u0 u1 u2 u3
      have L2 := hd ⟨2, .phase⟩ (by simp) rfl
      have L6 := hd ⟨6, .chain⟩ (by simp) rfl
      have hgo : gr < w.heap.size := hgl
      have hB : Below g5 ww ((((ww.setCell ⟨g5, 0, none⟩ (.int .i64 op)).setCell ⟨g5, 1, none⟩ (.int .i64 aa)).setCell ⟨g5, 2, none⟩ (.int .i64 0)).setCell ⟨g5, 3, none⟩ (.int .i64 0)) := ((((Below.refl g5 ww).setCell (p := ⟨g5, 0, none⟩) (Nat.le_refl _) _).setCell (p := ⟨g5, 1, none⟩) (Nat.le_refl _) _).setCell (p := ⟨g5, 2, none⟩) (Nat.le_refl _) _).setCell (p := ⟨g5, 3, none⟩) (Nat.le_refl _) _
      have RDN := I0.below hB (by omega)
      have G1 := World.grownBy.trans g0 I1
      have RES := (r0.far I1 (fun e => by injection e with e; omega)).keep hB hg5
      have HB0 := hB
      refine wpOp_step rfl (fun K' hK => ?_)
      go_simp
      refine hK _ _ ?_
      exact ⟨_, _, _, _, _, _, _, _, _, rfl, (by rw [upd_other (by decide), upd_other (by decide)]; exact RDN), (grown_below I1 (hB.mono (by have := HZ.out; omega))), (fun _ => upd_keep (hd ⟨6, .chain⟩ (by simp) rfl)), (fun _ => upd_keep (hd ⟨2, .phase⟩ (by simp) rfl)), (fun _ => upd_keep (hd ⟨8, .data⟩ (by simp) rfl)), (fun _ => upd_keep (hd ⟨3, .phase⟩ (by simp) rfl)), (fun _ => upd_keep (hd ⟨4, .phase⟩ (by simp) rfl)), (fun _ => .inl upd_self), (kp f1), (kp f2), (fun _ => .inl upd_self), (kp f4), (kp f5), (kp f6), (kp f7), (fun _ => ⟨g5, _, _, _, _, rfl, hg5, (((hz.put 0 _).put 1 _).put 2 _).put 3 _⟩), (fun _ => ⟨g5, op, aa, rfl, ⟨RDN.more (by rw [L2, L6]; simp), grown_below G1 (hB.mono (by omega)), (((hz.put 0 _).put 1 _).put 2 _).put 3 _, RES, hg5, hgo⟩, p1, p2, p3, p4⟩)⟩
  case hdone =>
    rintro L ac ww hall ⟨t5, t6, t7, t8, t9, t10, t11, t12, t13, rfl, I0, I1, I2, I3, I4, I5, I6, f0, f1, f2, f3, f4, f5, f6, f7, f8, f9⟩
    have e0 := f0 (hall 0 (by decide))
    have e1 := f1 (hall 1 (by decide))
    have e2 := f2 (hall 2 (by decide))
    have e3 := f3 (hall 3 (by decide))
    have e4 := f4 (hall 4 (by decide))
    have e5 := f5 (hall 5 (by decide))
    have e6 := f6 (hall 6 (by decide))
    have e7 := f7 (hall 7 (by decide))
    have e8 := f8 (hall 8 (by decide))
    have e9 := f9 (hall 9 (by decide))
    clear f0 f1 f2 f3 f4 f5 f6 f7 f8 f9
    obtain ⟨b, op, aa, rfl, S, p1, p2, p3, p4⟩ := e9
    clear e0 e1 e2 e3 e4 e5 e6 e7 e8 I0 I1 I2 I3 I4 I5 I6 h0 r0 g0 HZ
    have y0 : ww.cell? ⟨b, 0, none⟩ = some (.int .i64 op) := S.box.cell 0
    have hlo := S.lo
    have hold := S.old
    clear hgl h
    go_upto_block 0 with fail
    go_cut [] from 14 (fun wc => ∃ o : Cm, Hps.okCm o = true ∧ CmSt w wc gr (N + 7) b o)
    case first =>
      have hcases : op = 1 ∨ op = 2 ∨ op = 3 ∨ op = 4 ∨ op = 5 ∨ op = 6 := by omega
      rcases hcases with rfl | rfl | rfl | rfl | rfl | rfl
      · go_wp2_with fail
        refine (pick_any _ _ _ _ S.rd (by omega) (by omega)).mono ?_
        rintro e w1 ⟨x1, rfl, ax1, cx1, hrx1, gx1⟩
        replace S := S.pick hrx1 gx1
        have cx1' : x1 < 4 := by omega
        clear cx1 hrx1 gx1
        go_wp2_with fail
        refine (pick_any _ _ _ _ S.rd (by omega) (by omega)).mono ?_
        rintro e w2 ⟨x2, rfl, ax2, cx2, hrx2, gx2⟩
        replace S := S.pick hrx2 gx2
        have cx2' : x2 < 3 := by omega
        clear cx2 hrx2 gx2
        have hsz := S.box.lt
        have T := Rw.new w2 3 #[.int .i64 x1, .int .i64 (1 + x2)]
        replace S := S.alloc (.cells #[.int .i64 x1, .int .i64 (1 + x2)] 3)
        go_wp2_with fail
        refine (pick_any _ _ _ _ S.rd (by omega) (by omega)).mono ?_
        rintro e w3 ⟨j, rfl, aj, cj, hrj, gj⟩
        have T3 := T.far gj (fun e => by injection e with e; omega)
        have t0 := T3.cell 0
        have t1 := T3.cell 1
        simp at t0 t1
        replace S := S.pick hrj gj
        have hjj : j = 0 ∨ j = 1 := by omega
        clear aj cj hrj gj T T3 hsz
        rcases hjj with rfl | rfl
        · have v2 := S.box.cell 2
          have fz2 := S.box.frozen 2
          replace S := S.put 2 (.int .i64 x1) (o' := ⟨1, aa, x1, 0⟩) rfl
          go_wp2_with fail
          refine (pick_any _ _ _ _ S.rd (by omega) (by omega)).mono ?_
          rintro e w4 ⟨x4, rfl, ax4, cx4, hrx4, gx4⟩
          replace S := S.pick hrx4 gx4
          have cx4' : x4 < 100 := by omega
          clear cx4 hrx4 gx4
          have v3 := S.box.cell 3
          have fz3 := S.box.frozen 3
          replace S := S.put 3 (.int .i64 x4) (o' := ⟨1, aa, x1, x4⟩) rfl
          go_wp2_with fail
          go_meet
          case rel => exact ⟨⟨1, aa, x1, x4⟩, (Hps.okCm_new rfl).2 ⟨⟨p3, p4⟩, ⟨by show (0 : Int) ≤ x1; omega, by show x1 ≤ (3 : Int); omega⟩, ⟨ax4, by show x4 ≤ 99; omega⟩⟩, S.more (by omega)⟩
        · have v2 := S.box.cell 2
          have fz2 := S.box.frozen 2
          replace S := S.put 2 (.int .i64 (1 + x2)) (o' := ⟨1, aa, (1 + x2), 0⟩) rfl
          go_wp2_with fail
          refine (pick_any _ _ _ _ S.rd (by omega) (by omega)).mono ?_
          rintro e w4 ⟨x4, rfl, ax4, cx4, hrx4, gx4⟩
          replace S := S.pick hrx4 gx4
          have cx4' : x4 < 100 := by omega
          clear cx4 hrx4 gx4
          have v3 := S.box.cell 3
          have fz3 := S.box.frozen 3
          replace S := S.put 3 (.int .i64 x4) (o' := ⟨1, aa, (1 + x2), x4⟩) rfl
          go_wp2_with fail
          go_meet
          case rel => exact ⟨⟨1, aa, (1 + x2), x4⟩, (Hps.okCm_new rfl).2 ⟨⟨p3, p4⟩, ⟨by show (0 : Int) ≤ (1 + x2); omega, by show (1 + x2) ≤ (3 : Int); omega⟩, ⟨ax4, by show x4 ≤ 99; omega⟩⟩, S.more (by omega)⟩
      · go_wp2_with fail
        refine (pick_any _ _ _ _ S.rd (by omega) (by omega)).mono ?_
        rintro e w1 ⟨x1, rfl, ax1, cx1, hrx1, gx1⟩
        replace S := S.pick hrx1 gx1
        have cx1' : x1 < 4 := by omega
        clear cx1 hrx1 gx1
        have v2 := S.box.cell 2
        have fz2 := S.box.frozen 2
        replace S := S.put 2 (.int .i64 x1) (o' := ⟨2, aa, x1, 0⟩) rfl
        go_wp2_with fail
        refine (pick_any _ _ _ _ S.rd (by omega) (by omega)).mono ?_
        rintro e w2 ⟨x2, rfl, ax2, cx2, hrx2, gx2⟩
        replace S := S.pick hrx2 gx2
        have cx2' : x2 < 3 := by omega
        clear cx2 hrx2 gx2
        have hw : IntKind.i64.wrap (1 + x2) = 1 + x2 := IntWalk.i64_in _ (by omega)
        go_wp2_with fail
        refine (pick_any _ _ _ _ S.rd (by omega) (by omega)).mono ?_
        rintro e w3 ⟨x3, rfl, ax3, cx3, hrx3, gx3⟩
        replace S := S.pick hrx3 gx3
        have cx3' : x3 < 3 := by omega
        clear cx3 hrx3 gx3
        have v3 := S.box.cell 3
        have fz3 := S.box.frozen 3
        replace S := S.put 3 (.int .i64 x3) (o' := ⟨2, aa, x1, x3⟩) rfl
        go_wp2_with fail
        go_meet
        case rel => exact ⟨⟨2, aa, x1, x3⟩, (Hps.okCm_get (.inl rfl)).2 ⟨⟨p3, p4⟩, ⟨ax1, by show x1 ≤ 3; omega⟩, ⟨ax3, by show x3 ≤ 2; omega⟩⟩, S.more (by omega)⟩
      · go_wp2_with fail
        refine (pick_any _ _ _ _ S.rd (by omega) (by omega)).mono ?_
        rintro e w1 ⟨x1, rfl, ax1, cx1, hrx1, gx1⟩
        replace S := S.pick hrx1 gx1
        have cx1' : x1 < 4 := by omega
        clear cx1 hrx1 gx1
        have v2 := S.box.cell 2
        have fz2 := S.box.frozen 2
        replace S := S.put 2 (.int .i64 x1) (o' := ⟨3, aa, x1, 0⟩) rfl
        go_wp2_with fail
        refine (pick_any _ _ _ _ S.rd (by omega) (by omega)).mono ?_
        rintro e w2 ⟨x2, rfl, ax2, cx2, hrx2, gx2⟩
        replace S := S.pick hrx2 gx2
        have cx2' : x2 < 3 := by omega
        clear cx2 hrx2 gx2
        have hw : IntKind.i64.wrap (1 + x2) = 1 + x2 := IntWalk.i64_in _ (by omega)
        go_wp2_with fail
        refine (pick_any _ _ _ _ S.rd (by omega) (by omega)).mono ?_
        rintro e w3 ⟨x3, rfl, ax3, cx3, hrx3, gx3⟩
        replace S := S.pick hrx3 gx3
        have cx3' : x3 < 3 := by omega
        clear cx3 hrx3 gx3
        have v3 := S.box.cell 3
        have fz3 := S.box.frozen 3
        replace S := S.put 3 (.int .i64 x3) (o' := ⟨3, aa, x1, x3⟩) rfl
        go_wp2_with fail
        go_meet
        case rel => exact ⟨⟨3, aa, x1, x3⟩, (Hps.okCm_get (.inr rfl)).2 ⟨⟨p3, p4⟩, ⟨ax1, by show x1 ≤ 3; omega⟩, ⟨ax3, by show x3 ≤ 2; omega⟩⟩, S.more (by omega)⟩
      · go_wp2_with fail
        refine (pick_any _ _ _ _ S.rd (by omega) (by omega)).mono ?_
        rintro e w1 ⟨x1, rfl, ax1, cx1, hrx1, gx1⟩
        replace S := S.pick hrx1 gx1
        have cx1' : x1 < 4 := by omega
        clear cx1 hrx1 gx1
        have v2 := S.box.cell 2
        have fz2 := S.box.frozen 2
        replace S := S.put 2 (.int .i64 x1) (o' := ⟨4, aa, x1, 0⟩) rfl
        go_wp2_with fail
        go_meet
        case rel => exact ⟨⟨4, aa, x1, 0⟩, (Hps.okCm_copy rfl).2 ⟨⟨p3, p4⟩, ⟨ax1, by show x1 ≤ 3; omega⟩, rfl⟩, S.more (by omega)⟩
      · go_wp2_with fail
        go_meet
        case rel => exact ⟨⟨5, aa, 0, 0⟩, (Hps.okCm_drop rfl).2 ⟨⟨p3, p4⟩, rfl, rfl⟩, S.more (by omega)⟩
      · go_wp2_with fail
        refine (pick_any _ _ _ _ S.rd (by omega) (by omega)).mono ?_
        rintro e w1 ⟨x1, rfl, ax1, cx1, hrx1, gx1⟩
        replace S := S.pick hrx1 gx1
        have cx1' : x1 < 100 := by omega
        clear cx1 hrx1 gx1
        have v2 := S.box.cell 2
        have fz2 := S.box.frozen 2
        replace S := S.put 2 (.int .i64 x1) (o' := ⟨6, aa, x1, 0⟩) rfl
        go_wp2_with fail
        go_meet
        case rel => exact ⟨⟨6, aa, x1, 0⟩, (Hps.okCm_data rfl).2 ⟨⟨p3, p4⟩, ⟨ax1, by show x1 ≤ 99; omega⟩, rfl⟩, S.more (by omega)⟩
    case rest =>
      clear y0 S p1 p2 p3 p4
      obtain ⟨o, ho, S⟩ := hcut
      have so := small_of_ok ho
      by_cases hn1 : n = 0
      · subst hn1
        have SS := Lib.hid S
        have HO := Lib.hid ho
        have SO := Lib.hid so
        have b0 : wc.cell? ⟨b, 0, none⟩ = some (.int .i64 o.op) := S.box.cell 0
        have b1 : wc.cell? ⟨b, 1, none⟩ = some (.int .i64 o.a) := S.box.cell 1
        have b2 : wc.cell? ⟨b, 2, none⟩ = some (.int .i64 o.b) := S.box.cell 2
        have b3 : wc.cell? ⟨b, 3, none⟩ = some (.int .i64 o.c) := S.box.cell 3
        have R := Lib.hid S.rd
        clear S ho so
        go_wp2_with fail
        refine (odd_zero' _ _ _ R.out).mono ?_
        rintro e w' ⟨rfl, rfl⟩
        have S9 := SS.out
        have rr := S9.res
        have r2 : (wc).frozen? ⟨w.heap.size, 0, none⟩ = false := rr.frozen 0
        have r3 : (wc).frozen? ⟨w.heap.size, 1, none⟩ = false := rr.frozen 1
        have r4 : (wc).frozen? ⟨w.heap.size, 2, none⟩ = false := rr.frozen 2
        have r5 : (wc).frozen? ⟨w.heap.size, 3, none⟩ = false := rr.frozen 3
        have s2 : (wc).cell? ⟨w.heap.size, 0, none⟩ = some (.int .i64 0) := rr.cell 0
        have s3 : (wc).cell? ⟨w.heap.size, 1, none⟩ = some (.int .i64 0) := rr.cell 1
        have s4 : (wc).cell? ⟨w.heap.size, 2, none⟩ = some (.int .i64 0) := rr.cell 2
        have s5 : (wc).cell? ⟨w.heap.size, 3, none⟩ = some (.int .i64 0) := rr.cell 3
        have bN : Below w.heap.size (wc) (((((wc).setCell ⟨w.heap.size, 0, none⟩ (.int .i64 (o.op))).setCell ⟨w.heap.size, 1, none⟩ (.int .i64 (o.a))).setCell ⟨w.heap.size, 2, none⟩ (.int .i64 (o.b))).setCell ⟨w.heap.size, 3, none⟩ (.int .i64 (o.c))) := ((((Below.refl _ _).setCell (p := ⟨w.heap.size, 0, none⟩) (Nat.le_refl _) _).setCell (p := ⟨w.heap.size, 1, none⟩) (Nat.le_refl _) _).setCell (p := ⟨w.heap.size, 2, none⟩) (Nat.le_refl _) _).setCell (p := ⟨w.heap.size, 3, none⟩) (Nat.le_refl _) _
        have RN := (((rr.put 0 (.int .i64 (o.op))).put 1 (.int .i64 (o.a))).put 2 (.int .i64 (o.b))).put 3 (.int .i64 (o.c))
        have n0 := RN.cell 0
        have n1 := RN.cell 1
        have n2 := RN.cell 2
        have n3 := RN.cell 3
        simp at n0 n1 n2 n3
        have rdN := (S9.rd.below bN hold).more (N' := N + 12) (by omega)
        have gN := grown_below S9.grown bN
        clear rr RN bN
        clear S9
        go_wp2_with fail
        exact bodyPost_ret (v := cmV o) (by simp [results, Try.results101, go_sem, *]) rfl ⟨o, rfl, (fun _ => HO.out), SO.out, rdN, gN⟩
      · have hn2 : 1 ≤ n := by omega
        have SO := Lib.hid so
        have R := Lib.hid S.rd
        clear ho so
        go_wp2_with fail
        refine (odd_any _ _ _ _ R.out (by omega) hn2 (by omega)).mono ?_
        rintro e w1 ⟨bb, rfl, hr1, g1⟩
        replace S := S.pick hr1 g1
        clear hr1 g1 R wc
        cases bb
        · have SS := Lib.hid S
          have b0 : w1.cell? ⟨b, 0, none⟩ = some (.int .i64 o.op) := S.box.cell 0
          have b1 : w1.cell? ⟨b, 1, none⟩ = some (.int .i64 o.a) := S.box.cell 1
          have b2 : w1.cell? ⟨b, 2, none⟩ = some (.int .i64 o.b) := S.box.cell 2
          have b3 : w1.cell? ⟨b, 3, none⟩ = some (.int .i64 o.c) := S.box.cell 3
          clear S
          have S9 := SS.out
          have rr := S9.res
          have r2 : (w1).frozen? ⟨w.heap.size, 0, none⟩ = false := rr.frozen 0
          have r3 : (w1).frozen? ⟨w.heap.size, 1, none⟩ = false := rr.frozen 1
          have r4 : (w1).frozen? ⟨w.heap.size, 2, none⟩ = false := rr.frozen 2
          have r5 : (w1).frozen? ⟨w.heap.size, 3, none⟩ = false := rr.frozen 3
          have s2 : (w1).cell? ⟨w.heap.size, 0, none⟩ = some (.int .i64 0) := rr.cell 0
          have s3 : (w1).cell? ⟨w.heap.size, 1, none⟩ = some (.int .i64 0) := rr.cell 1
          have s4 : (w1).cell? ⟨w.heap.size, 2, none⟩ = some (.int .i64 0) := rr.cell 2
          have s5 : (w1).cell? ⟨w.heap.size, 3, none⟩ = some (.int .i64 0) := rr.cell 3
          have bN : Below w.heap.size (w1) (((((w1).setCell ⟨w.heap.size, 0, none⟩ (.int .i64 (o.op))).setCell ⟨w.heap.size, 1, none⟩ (.int .i64 (o.a))).setCell ⟨w.heap.size, 2, none⟩ (.int .i64 (o.b))).setCell ⟨w.heap.size, 3, none⟩ (.int .i64 (o.c))) := ((((Below.refl _ _).setCell (p := ⟨w.heap.size, 0, none⟩) (Nat.le_refl _) _).setCell (p := ⟨w.heap.size, 1, none⟩) (Nat.le_refl _) _).setCell (p := ⟨w.heap.size, 2, none⟩) (Nat.le_refl _) _).setCell (p := ⟨w.heap.size, 3, none⟩) (Nat.le_refl _) _
          have RN := (((rr.put 0 (.int .i64 (o.op))).put 1 (.int .i64 (o.a))).put 2 (.int .i64 (o.b))).put 3 (.int .i64 (o.c))
          have n0 := RN.cell 0
          have n1 := RN.cell 1
          have n2 := RN.cell 2
          have n3 := RN.cell 3
          simp at n0 n1 n2 n3
          have rdN := (S9.rd.below bN hold).more (N' := N + 12) (by omega)
          have gN := grown_below S9.grown bN
          clear rr RN bN
          clear S9
          go_wp2_with fail
          exact bodyPost_ret (v := cmV o) (by simp [results, Try.results101, go_sem, *]) rfl ⟨o, rfl, (fun h => absurd h hn1), SO.out, rdN, gN⟩
        · go_wp2_with fail
          refine (pick_any _ _ _ _ S.rd (by omega) (by omega)).mono ?_
          rintro e w2 ⟨j, rfl, a2, c2, hr2, g2⟩
          replace S := S.pick hr2 g2
          clear hr2 g2
          have hj : j = 0 ∨ j = 1 ∨ j = 2 ∨ j = 3 := by omega
          clear a2 c2
          rcases hj with rfl | rfl | rfl | rfl
          · have hsz := S.box.lt
            have T := Rw.new w2 3 #[.int .i64 0, .int .i64 7]
            replace S := S.alloc (.cells #[.int .i64 0, .int .i64 7] 3)
            go_wp2_with fail
            refine (pick_any _ _ _ _ S.rd (by omega) (by omega)).mono ?_
            rintro e w3 ⟨j, rfl, aj, cj, hrj, gj⟩
            have T3 := T.far gj (fun e => by injection e with e; omega)
            have t0 := T3.cell 0
            have t1 := T3.cell 1
            simp at t0 t1
            replace S := S.pick hrj gj
            have hjj : j = 0 ∨ j = 1 := by omega
            clear aj cj hrj gj T T3 hsz
            obtain ⟨q, hq, q1, q2⟩ : ∃ q : Int, (j = 0 ∧ q = 0 ∨ j = 1 ∧ q = 7) ∧ -1 ≤ q ∧ q ≤ 100 := by
              rcases hjj with e | e
              · exact ⟨_, .inl ⟨e, rfl⟩, by omega, by omega⟩
              · exact ⟨_, .inr ⟨e, rfl⟩, by omega, by omega⟩
            have S8 := S.put 0 (.int .i64 q) (o' := ⟨q, o.a, o.b, o.c⟩) rfl
            have v0 := S.box.cell 0
            have fz0 := S.box.frozen 0
            have sm : SmallCm ⟨q, o.a, o.b, o.c⟩ := by
              obtain ⟨k1, k2, k3, k4⟩ := SO.out
              refine ⟨?_, ?_, ?_, ?_⟩ <;> first | assumption | (simp only; omega)
            obtain ⟨o', ho'⟩ : ∃ o' : Cm, o' = ⟨q, o.a, o.b, o.c⟩ := ⟨_, rfl⟩
            have W8 : ∃ w8, w3.setCell ⟨b, 0, none⟩ (.int .i64 q) = w8 := ⟨_, rfl⟩
            rw [← ho'] at S8 sm
            have b0 : (w3.setCell ⟨b, 0, none⟩ (.int .i64 q)).cell? ⟨b, 0, none⟩ = some (.int .i64 o'.op) := S8.box.cell 0
            have b1 : (w3.setCell ⟨b, 0, none⟩ (.int .i64 q)).cell? ⟨b, 1, none⟩ = some (.int .i64 o'.a) := S8.box.cell 1
            have b2 : (w3.setCell ⟨b, 0, none⟩ (.int .i64 q)).cell? ⟨b, 2, none⟩ = some (.int .i64 o'.b) := S8.box.cell 2
            have b3 : (w3.setCell ⟨b, 0, none⟩ (.int .i64 q)).cell? ⟨b, 3, none⟩ = some (.int .i64 o'.c) := S8.box.cell 3
            have S9 := S8
            have rr := S9.res
            have r2 : (w3.setCell ⟨b, 0, none⟩ (.int .i64 q)).frozen? ⟨w.heap.size, 0, none⟩ = false := rr.frozen 0
            have r3 : (w3.setCell ⟨b, 0, none⟩ (.int .i64 q)).frozen? ⟨w.heap.size, 1, none⟩ = false := rr.frozen 1
            have r4 : (w3.setCell ⟨b, 0, none⟩ (.int .i64 q)).frozen? ⟨w.heap.size, 2, none⟩ = false := rr.frozen 2
            have r5 : (w3.setCell ⟨b, 0, none⟩ (.int .i64 q)).frozen? ⟨w.heap.size, 3, none⟩ = false := rr.frozen 3
            have s2 : (w3.setCell ⟨b, 0, none⟩ (.int .i64 q)).cell? ⟨w.heap.size, 0, none⟩ = some (.int .i64 0) := rr.cell 0
            have s3 : (w3.setCell ⟨b, 0, none⟩ (.int .i64 q)).cell? ⟨w.heap.size, 1, none⟩ = some (.int .i64 0) := rr.cell 1
            have s4 : (w3.setCell ⟨b, 0, none⟩ (.int .i64 q)).cell? ⟨w.heap.size, 2, none⟩ = some (.int .i64 0) := rr.cell 2
            have s5 : (w3.setCell ⟨b, 0, none⟩ (.int .i64 q)).cell? ⟨w.heap.size, 3, none⟩ = some (.int .i64 0) := rr.cell 3
            have bN : Below w.heap.size (w3.setCell ⟨b, 0, none⟩ (.int .i64 q)) (((((w3.setCell ⟨b, 0, none⟩ (.int .i64 q)).setCell ⟨w.heap.size, 0, none⟩ (.int .i64 (o'.op))).setCell ⟨w.heap.size, 1, none⟩ (.int .i64 (o'.a))).setCell ⟨w.heap.size, 2, none⟩ (.int .i64 (o'.b))).setCell ⟨w.heap.size, 3, none⟩ (.int .i64 (o'.c))) := ((((Below.refl _ _).setCell (p := ⟨w.heap.size, 0, none⟩) (Nat.le_refl _) _).setCell (p := ⟨w.heap.size, 1, none⟩) (Nat.le_refl _) _).setCell (p := ⟨w.heap.size, 2, none⟩) (Nat.le_refl _) _).setCell (p := ⟨w.heap.size, 3, none⟩) (Nat.le_refl _) _
            have RN := (((rr.put 0 (.int .i64 (o'.op))).put 1 (.int .i64 (o'.a))).put 2 (.int .i64 (o'.b))).put 3 (.int .i64 (o'.c))
            have n0 := RN.cell 0
            have n1 := RN.cell 1
            have n2 := RN.cell 2
            have n3 := RN.cell 3
            simp at n0 n1 n2 n3
            have rdN := (S9.rd.below bN hold).more (N' := N + 12) (by omega)
            have gN := grown_below S9.grown bN
            clear rr RN bN
            have SM := Lib.hid sm
            clear S9 S8 S sm W8 ho' hjj
            rcases hq with ⟨rfl, rfl⟩ | ⟨rfl, rfl⟩ <;>
            · go_wp2_with fail
              exact bodyPost_ret (v := cmV o') (by simp [results, Try.results101, go_sem, *]) rfl ⟨o', rfl, fun h => absurd h hn1, SM.out, rdN, gN⟩
          · have hsz := S.box.lt
            have T := Rw.new w2 3 #[.int .i64 (-1), .int .i64 4]
            replace S := S.alloc (.cells #[.int .i64 (-1), .int .i64 4] 3)
            go_wp2_with fail
            refine (pick_any _ _ _ _ S.rd (by omega) (by omega)).mono ?_
            rintro e w3 ⟨j, rfl, aj, cj, hrj, gj⟩
            have T3 := T.far gj (fun e => by injection e with e; omega)
            have t0 := T3.cell 0
            have t1 := T3.cell 1
            simp at t0 t1
            replace S := S.pick hrj gj
            have hjj : j = 0 ∨ j = 1 := by omega
            clear aj cj hrj gj T T3 hsz
            obtain ⟨q, hq, q1, q2⟩ : ∃ q : Int, (j = 0 ∧ q = (-1) ∨ j = 1 ∧ q = 4) ∧ -1 ≤ q ∧ q ≤ 100 := by
              rcases hjj with e | e
              · exact ⟨_, .inl ⟨e, rfl⟩, by omega, by omega⟩
              · exact ⟨_, .inr ⟨e, rfl⟩, by omega, by omega⟩
            have S8 := S.put 1 (.int .i64 q) (o' := ⟨o.op, q, o.b, o.c⟩) rfl
            have v1 := S.box.cell 1
            have fz1 := S.box.frozen 1
            have sm : SmallCm ⟨o.op, q, o.b, o.c⟩ := by
              obtain ⟨k1, k2, k3, k4⟩ := SO.out
              refine ⟨?_, ?_, ?_, ?_⟩ <;> first | assumption | (simp only; omega)
            obtain ⟨o', ho'⟩ : ∃ o' : Cm, o' = ⟨o.op, q, o.b, o.c⟩ := ⟨_, rfl⟩
            have W8 : ∃ w8, w3.setCell ⟨b, 1, none⟩ (.int .i64 q) = w8 := ⟨_, rfl⟩
            rw [← ho'] at S8 sm
            have b0 : (w3.setCell ⟨b, 1, none⟩ (.int .i64 q)).cell? ⟨b, 0, none⟩ = some (.int .i64 o'.op) := S8.box.cell 0
            have b1 : (w3.setCell ⟨b, 1, none⟩ (.int .i64 q)).cell? ⟨b, 1, none⟩ = some (.int .i64 o'.a) := S8.box.cell 1
            have b2 : (w3.setCell ⟨b, 1, none⟩ (.int .i64 q)).cell? ⟨b, 2, none⟩ = some (.int .i64 o'.b) := S8.box.cell 2
            have b3 : (w3.setCell ⟨b, 1, none⟩ (.int .i64 q)).cell? ⟨b, 3, none⟩ = some (.int .i64 o'.c) := S8.box.cell 3
            have S9 := S8
            have rr := S9.res
            have r2 : (w3.setCell ⟨b, 1, none⟩ (.int .i64 q)).frozen? ⟨w.heap.size, 0, none⟩ = false := rr.frozen 0
            have r3 : (w3.setCell ⟨b, 1, none⟩ (.int .i64 q)).frozen? ⟨w.heap.size, 1, none⟩ = false := rr.frozen 1
            have r4 : (w3.setCell ⟨b, 1, none⟩ (.int .i64 q)).frozen? ⟨w.heap.size, 2, none⟩ = false := rr.frozen 2
            have r5 : (w3.setCell ⟨b, 1, none⟩ (.int .i64 q)).frozen? ⟨w.heap.size, 3, none⟩ = false := rr.frozen 3
            have s2 : (w3.setCell ⟨b, 1, none⟩ (.int .i64 q)).cell? ⟨w.heap.size, 0, none⟩ = some (.int .i64 0) := rr.cell 0
            have s3 : (w3.setCell ⟨b, 1, none⟩ (.int .i64 q)).cell? ⟨w.heap.size, 1, none⟩ = some (.int .i64 0) := rr.cell 1
            have s4 : (w3.setCell ⟨b, 1, none⟩ (.int .i64 q)).cell? ⟨w.heap.size, 2, none⟩ = some (.int .i64 0) := rr.cell 2
            have s5 : (w3.setCell ⟨b, 1, none⟩ (.int .i64 q)).cell? ⟨w.heap.size, 3, none⟩ = some (.int .i64 0) := rr.cell 3
            have bN : Below w.heap.size (w3.setCell ⟨b, 1, none⟩ (.int .i64 q)) (((((w3.setCell ⟨b, 1, none⟩ (.int .i64 q)).setCell ⟨w.heap.size, 0, none⟩ (.int .i64 (o'.op))).setCell ⟨w.heap.size, 1, none⟩ (.int .i64 (o'.a))).setCell ⟨w.heap.size, 2, none⟩ (.int .i64 (o'.b))).setCell ⟨w.heap.size, 3, none⟩ (.int .i64 (o'.c))) := ((((Below.refl _ _).setCell (p := ⟨w.heap.size, 0, none⟩) (Nat.le_refl _) _).setCell (p := ⟨w.heap.size, 1, none⟩) (Nat.le_refl _) _).setCell (p := ⟨w.heap.size, 2, none⟩) (Nat.le_refl _) _).setCell (p := ⟨w.heap.size, 3, none⟩) (Nat.le_refl _) _
            have RN := (((rr.put 0 (.int .i64 (o'.op))).put 1 (.int .i64 (o'.a))).put 2 (.int .i64 (o'.b))).put 3 (.int .i64 (o'.c))
            have n0 := RN.cell 0
            have n1 := RN.cell 1
            have n2 := RN.cell 2
            have n3 := RN.cell 3
            simp at n0 n1 n2 n3
            have rdN := (S9.rd.below bN hold).more (N' := N + 12) (by omega)
            have gN := grown_below S9.grown bN
            clear rr RN bN
            have SM := Lib.hid sm
            clear S9 S8 S sm W8 ho' hjj
            rcases hq with ⟨rfl, rfl⟩ | ⟨rfl, rfl⟩ <;>
            · go_wp2_with fail
              exact bodyPost_ret (v := cmV o') (by simp [results, Try.results101, go_sem, *]) rfl ⟨o', rfl, fun h => absurd h hn1, SM.out, rdN, gN⟩
          · have hsz := S.box.lt
            have T := Rw.new w2 3 #[.int .i64 (-1), .int .i64 100]
            replace S := S.alloc (.cells #[.int .i64 (-1), .int .i64 100] 3)
            go_wp2_with fail
            refine (pick_any _ _ _ _ S.rd (by omega) (by omega)).mono ?_
            rintro e w3 ⟨j, rfl, aj, cj, hrj, gj⟩
            have T3 := T.far gj (fun e => by injection e with e; omega)
            have t0 := T3.cell 0
            have t1 := T3.cell 1
            simp at t0 t1
            replace S := S.pick hrj gj
            have hjj : j = 0 ∨ j = 1 := by omega
            clear aj cj hrj gj T T3 hsz
            obtain ⟨q, hq, q1, q2⟩ : ∃ q : Int, (j = 0 ∧ q = (-1) ∨ j = 1 ∧ q = 100) ∧ -1 ≤ q ∧ q ≤ 100 := by
              rcases hjj with e | e
              · exact ⟨_, .inl ⟨e, rfl⟩, by omega, by omega⟩
              · exact ⟨_, .inr ⟨e, rfl⟩, by omega, by omega⟩
            have S8 := S.put 2 (.int .i64 q) (o' := ⟨o.op, o.a, q, o.c⟩) rfl
            have v2 := S.box.cell 2
            have fz2 := S.box.frozen 2
            have sm : SmallCm ⟨o.op, o.a, q, o.c⟩ := by
              obtain ⟨k1, k2, k3, k4⟩ := SO.out
              refine ⟨?_, ?_, ?_, ?_⟩ <;> first | assumption | (simp only; omega)
            obtain ⟨o', ho'⟩ : ∃ o' : Cm, o' = ⟨o.op, o.a, q, o.c⟩ := ⟨_, rfl⟩
            have W8 : ∃ w8, w3.setCell ⟨b, 2, none⟩ (.int .i64 q) = w8 := ⟨_, rfl⟩
            rw [← ho'] at S8 sm
            have b0 : (w3.setCell ⟨b, 2, none⟩ (.int .i64 q)).cell? ⟨b, 0, none⟩ = some (.int .i64 o'.op) := S8.box.cell 0
            have b1 : (w3.setCell ⟨b, 2, none⟩ (.int .i64 q)).cell? ⟨b, 1, none⟩ = some (.int .i64 o'.a) := S8.box.cell 1
            have b2 : (w3.setCell ⟨b, 2, none⟩ (.int .i64 q)).cell? ⟨b, 2, none⟩ = some (.int .i64 o'.b) := S8.box.cell 2
            have b3 : (w3.setCell ⟨b, 2, none⟩ (.int .i64 q)).cell? ⟨b, 3, none⟩ = some (.int .i64 o'.c) := S8.box.cell 3
            have S9 := S8
            have rr := S9.res
            have r2 : (w3.setCell ⟨b, 2, none⟩ (.int .i64 q)).frozen? ⟨w.heap.size, 0, none⟩ = false := rr.frozen 0
            have r3 : (w3.setCell ⟨b, 2, none⟩ (.int .i64 q)).frozen? ⟨w.heap.size, 1, none⟩ = false := rr.frozen 1
            have r4 : (w3.setCell ⟨b, 2, none⟩ (.int .i64 q)).frozen? ⟨w.heap.size, 2, none⟩ = false := rr.frozen 2
            have r5 : (w3.setCell ⟨b, 2, none⟩ (.int .i64 q)).frozen? ⟨w.heap.size, 3, none⟩ = false := rr.frozen 3
            have s2 : (w3.setCell ⟨b, 2, none⟩ (.int .i64 q)).cell? ⟨w.heap.size, 0, none⟩ = some (.int .i64 0) := rr.cell 0
            have s3 : (w3.setCell ⟨b, 2, none⟩ (.int .i64 q)).cell? ⟨w.heap.size, 1, none⟩ = some (.int .i64 0) := rr.cell 1
            have s4 : (w3.setCell ⟨b, 2, none⟩ (.int .i64 q)).cell? ⟨w.heap.size, 2, none⟩ = some (.int .i64 0) := rr.cell 2
            have s5 : (w3.setCell ⟨b, 2, none⟩ (.int .i64 q)).cell? ⟨w.heap.size, 3, none⟩ = some (.int .i64 0) := rr.cell 3
            have bN : Below w.heap.size (w3.setCell ⟨b, 2, none⟩ (.int .i64 q)) (((((w3.setCell ⟨b, 2, none⟩ (.int .i64 q)).setCell ⟨w.heap.size, 0, none⟩ (.int .i64 (o'.op))).setCell ⟨w.heap.size, 1, none⟩ (.int .i64 (o'.a))).setCell ⟨w.heap.size, 2, none⟩ (.int .i64 (o'.b))).setCell ⟨w.heap.size, 3, none⟩ (.int .i64 (o'.c))) := ((((Below.refl _ _).setCell (p := ⟨w.heap.size, 0, none⟩) (Nat.le_refl _) _).setCell (p := ⟨w.heap.size, 1, none⟩) (Nat.le_refl _) _).setCell (p := ⟨w.heap.size, 2, none⟩) (Nat.le_refl _) _).setCell (p := ⟨w.heap.size, 3, none⟩) (Nat.le_refl _) _
            have RN := (((rr.put 0 (.int .i64 (o'.op))).put 1 (.int .i64 (o'.a))).put 2 (.int .i64 (o'.b))).put 3 (.int .i64 (o'.c))
            have n0 := RN.cell 0
            have n1 := RN.cell 1
            have n2 := RN.cell 2
            have n3 := RN.cell 3
            simp at n0 n1 n2 n3
            have rdN := (S9.rd.below bN hold).more (N' := N + 12) (by omega)
            have gN := grown_below S9.grown bN
            clear rr RN bN
            have SM := Lib.hid sm
            clear S9 S8 S sm W8 ho' hjj
            rcases hq with ⟨rfl, rfl⟩ | ⟨rfl, rfl⟩ <;>
            · go_wp2_with fail
              exact bodyPost_ret (v := cmV o') (by simp [results, Try.results101, go_sem, *]) rfl ⟨o', rfl, fun h => absurd h hn1, SM.out, rdN, gN⟩
          · have hsz := S.box.lt
            have T := Rw.new w2 3 #[.int .i64 (-1), .int .i64 100]
            replace S := S.alloc (.cells #[.int .i64 (-1), .int .i64 100] 3)
            go_wp2_with fail
            refine (pick_any _ _ _ _ S.rd (by omega) (by omega)).mono ?_
            rintro e w3 ⟨j, rfl, aj, cj, hrj, gj⟩
            have T3 := T.far gj (fun e => by injection e with e; omega)
            have t0 := T3.cell 0
            have t1 := T3.cell 1
            simp at t0 t1
            replace S := S.pick hrj gj
            have hjj : j = 0 ∨ j = 1 := by omega
            clear aj cj hrj gj T T3 hsz
            obtain ⟨q, hq, q1, q2⟩ : ∃ q : Int, (j = 0 ∧ q = (-1) ∨ j = 1 ∧ q = 100) ∧ -1 ≤ q ∧ q ≤ 100 := by
              rcases hjj with e | e
              · exact ⟨_, .inl ⟨e, rfl⟩, by omega, by omega⟩
              · exact ⟨_, .inr ⟨e, rfl⟩, by omega, by omega⟩
            have S8 := S.put 3 (.int .i64 q) (o' := ⟨o.op, o.a, o.b, q⟩) rfl
            have v3 := S.box.cell 3
            have fz3 := S.box.frozen 3
            have sm : SmallCm ⟨o.op, o.a, o.b, q⟩ := by
              obtain ⟨k1, k2, k3, k4⟩ := SO.out
              refine ⟨?_, ?_, ?_, ?_⟩ <;> first | assumption | (simp only; omega)
            obtain ⟨o', ho'⟩ : ∃ o' : Cm, o' = ⟨o.op, o.a, o.b, q⟩ := ⟨_, rfl⟩
            have W8 : ∃ w8, w3.setCell ⟨b, 3, none⟩ (.int .i64 q) = w8 := ⟨_, rfl⟩
            rw [← ho'] at S8 sm
            have b0 : (w3.setCell ⟨b, 3, none⟩ (.int .i64 q)).cell? ⟨b, 0, none⟩ = some (.int .i64 o'.op) := S8.box.cell 0
            have b1 : (w3.setCell ⟨b, 3, none⟩ (.int .i64 q)).cell? ⟨b, 1, none⟩ = some (.int .i64 o'.a) := S8.box.cell 1
            have b2 : (w3.setCell ⟨b, 3, none⟩ (.int .i64 q)).cell? ⟨b, 2, none⟩ = some (.int .i64 o'.b) := S8.box.cell 2
            have b3 : (w3.setCell ⟨b, 3, none⟩ (.int .i64 q)).cell? ⟨b, 3, none⟩ = some (.int .i64 o'.c) := S8.box.cell 3
            have S9 := S8
            have rr := S9.res
            have r2 : (w3.setCell ⟨b, 3, none⟩ (.int .i64 q)).frozen? ⟨w.heap.size, 0, none⟩ = false := rr.frozen 0
            have r3 : (w3.setCell ⟨b, 3, none⟩ (.int .i64 q)).frozen? ⟨w.heap.size, 1, none⟩ = false := rr.frozen 1
            have r4 : (w3.setCell ⟨b, 3, none⟩ (.int .i64 q)).frozen? ⟨w.heap.size, 2, none⟩ = false := rr.frozen 2
            have r5 : (w3.setCell ⟨b, 3, none⟩ (.int .i64 q)).frozen? ⟨w.heap.size, 3, none⟩ = false := rr.frozen 3
            have s2 : (w3.setCell ⟨b, 3, none⟩ (.int .i64 q)).cell? ⟨w.heap.size, 0, none⟩ = some (.int .i64 0) := rr.cell 0
            have s3 : (w3.setCell ⟨b, 3, none⟩ (.int .i64 q)).cell? ⟨w.heap.size, 1, none⟩ = some (.int .i64 0) := rr.cell 1
            have s4 : (w3.setCell ⟨b, 3, none⟩ (.int .i64 q)).cell? ⟨w.heap.size, 2, none⟩ = some (.int .i64 0) := rr.cell 2
            have s5 : (w3.setCell ⟨b, 3, none⟩ (.int .i64 q)).cell? ⟨w.heap.size, 3, none⟩ = some (.int .i64 0) := rr.cell 3
            have bN : Below w.heap.size (w3.setCell ⟨b, 3, none⟩ (.int .i64 q)) (((((w3.setCell ⟨b, 3, none⟩ (.int .i64 q)).setCell ⟨w.heap.size, 0, none⟩ (.int .i64 (o'.op))).setCell ⟨w.heap.size, 1, none⟩ (.int .i64 (o'.a))).setCell ⟨w.heap.size, 2, none⟩ (.int .i64 (o'.b))).setCell ⟨w.heap.size, 3, none⟩ (.int .i64 (o'.c))) := ((((Below.refl _ _).setCell (p := ⟨w.heap.size, 0, none⟩) (Nat.le_refl _) _).setCell (p := ⟨w.heap.size, 1, none⟩) (Nat.le_refl _) _).setCell (p := ⟨w.heap.size, 2, none⟩) (Nat.le_refl _) _).setCell (p := ⟨w.heap.size, 3, none⟩) (Nat.le_refl _) _
            have RN := (((rr.put 0 (.int .i64 (o'.op))).put 1 (.int .i64 (o'.a))).put 2 (.int .i64 (o'.b))).put 3 (.int .i64 (o'.c))
            have n0 := RN.cell 0
            have n1 := RN.cell 1
            have n2 := RN.cell 2
            have n3 := RN.cell 3
            simp at n0 n1 n2 n3
            have rdN := (S9.rd.below bN hold).more (N' := N + 12) (by omega)
            have gN := grown_below S9.grown bN
            clear rr RN bN
            have SM := Lib.hid sm
            clear S9 S8 S sm W8 ho' hjj
            rcases hq with ⟨rfl, rfl⟩ | ⟨rfl, rfl⟩ <;>
            · go_wp2_with fail
              exact bodyPost_ret (v := cmV o') (by simp [results, Try.results101, go_sem, *]) rfl ⟨o', rfl, fun h => absurd h hn1, SM.out, rdN, gN⟩
end Go.Proofs.Ytakdjiojahlnmaa
