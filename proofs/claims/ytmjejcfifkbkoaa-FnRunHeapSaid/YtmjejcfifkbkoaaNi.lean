/- For every list of bytes the law FnRunHeap returns true (P51), over the program's contracts. No conditions. -/
import Derived.Test.YtmjejcfifkbkoaaNb
import Derived.Test.YtmjejcfifkbkoaaNe
import Derived.Test.YtmjejcfifkbkoaaKw
import Derived.Test.YtmjejcfifkbkoaaGg
import Derived.Test.YtmjejcfifkbkoaaGa
import Derived.Deep.Cut
namespace Go.Proofs.Ytmjejcfifkbkoaa
open Go.RowKit
set_option maxRecDepth 100000

namespace Hps
/-- the last instruction, in the heap after those before it -/
theorem run_last {l : List Cm} {q : Nat} {o : Cm} (hv : okCms l = true) (hl : l.length = q + 1) (ho : l[q]? = some o) : (stepH (runH (l.take q)) o).1 = runH l := by
  have hq : okCms (l.take q) = true := by
    obtain ⟨h1, h2⟩ := okCms_iff.1 hv
    exact okCms_iff.2 ⟨fun x hx => h1 x (List.mem_of_mem_take hx), by rw [List.length_take]; omega⟩
  have e : l = l.take q ++ [o] := by
    have : l.take (q + 1) = l := List.take_of_length_le (by omega)
    rw [List.take_add_one, ho] at this
    exact this.symm
  have e2 : runH l = runFrom emptyH l := by rw [runH, if_pos hv]
  rw [e2, e, runFrom, List.foldl_append]
  rw [runH, if_pos (by rw [← e]; exact hq)]
  rw [← e]
  rfl
end Hps

set_option maxHeartbeats 8000000 in
theorem runHeapLaw_walk (A : Option Addr) (n c : Nat) (w : World) (h : Bytes w w.heap.size A n) (hc : n ≤ c) (hn : n ≤ 9223372036854775807) :
    Calls Try.prog 3 #[.slice A n c] w fun e w' => e = .returned (.bool true) ∧ Below w.heap.size w w' := by
  by_cases hs : n ≤ 1048576
  case neg =>
    have hs' : (1048576 : Int) < (n : Int) := by omega
    go_enter Try.func3, Try.ntmps3
    go_wp2
    go_ret
    exact ⟨rfl, Below.refl _ _⟩
  have hs' : decide ((1048576 : Int) < (n : Int)) = false := by simp; omega
  go_enter Try.func3, Try.ntmps3
  go_wp2_with fail
  refine (drawRunHeap_any _ _ _ _ h hc hn).mono ?_
  rintro e w1 ⟨A1, nn, c1, l, rfl, hc1, hn41, ow, -, bb⟩
  have m1 := ow.reads
  have hln := m1.1
  have T := tiny_run l
  obtain ⟨h2, hh2⟩ : ∃ h2, Hps.runH l = h2 := ⟨_, rfl⟩
  rw [hh2] at T
  have H2 := Lib.hid hh2
  obtain ⟨n5, hn5⟩ : ∃ n5, h2.cs.length = n5 := ⟨_, rfl⟩
  obtain ⟨m5, hm5⟩ : ∃ m5, h2.rt.length = m5 := ⟨_, rfl⟩
  have hn40 : n5 ≤ 40 := by have := T.1; omega
  have hm5' : m5 ≤ 4 := by have := T.2.1; omega
  have H3 := Lib.hid (fun cl (hcl : cl ∈ h2.cs) => show cl.r.length ≤ 1000000 by have := T.2.2 cl hcl; omega)
  have E0 := Lib.hid hn5
  have E4 := Lib.hid hm5
  clear hh2 hn5 hm5 T ow
  go_wp2_with fail
  refine (runHeap_any _ _ _ l _ m1 (by omega) hc1).mono ?_
  rw [H2.out]
  rintro e w3 ⟨vc, vr, rfl, ⟨rvs, own⟩, b3⟩
  obtain ⟨A5, c5, R5, d5, rfl, rfl, hc5, hd5, -⟩ := own.form
  rw [E0.out] at own hc5 ⊢
  rw [E4.out] at own hd5 ⊢
  have bA : Below w3.heap.size w3 (w3.alloc (.cells #[.slice A5 n5 c5, .slice R5 m5 d5] 28)) := (Below.refl _ _).alloc (Nat.le_refl _) _
  have r5 := own.reads.up bA
  have q5 := Rw.new w3 28 #[.slice A5 n5 c5, .slice R5 m5 d5]
  replace m1 := (m1.up b3).up bA
  replace bb := (bb.trans (b3.mono bb.size)).trans (bA.mono (bb.trans (b3.mono bb.size)).size)
  clear b3 own bA
  go_upto_region 5 with fail
  generalize w3.alloc (.cells #[.slice A5 n5 c5, .slice R5 m5 d5] 28) = w4 at m1 bb r5 q5 ⊢
  generalize w3.heap.size = g5 at q5 ⊢
  have hg5 := q5.lt
  have x0 : w4.cell? ⟨g5, 0, none⟩ = some (.slice A5 n5 c5) := q5.cell 0
  have x1 : w4.cell? ⟨g5, 1, none⟩ = some (.slice R5 m5 d5) := q5.cell 1
  refine wp_region_inv (by kernel_rfl) (by kernel_rfl) (fun L ac ww => ∃ t15 t16 t17 t18 t19 : Value, ac = { tmps := #[Value.slice A n c, undef, Value.bool false, Value.slice A1 nn c1, Value.pointer (some { block := g5, off := 0 }), undef, undef, undef, Value.slice A n c, Value.int IntKind.i64 ↑n, Value.bool false, Value.slice A n c, Value.slice A1 nn c1, Value.slice A1 nn c1, Value.agg #[Value.slice A5 n5 c5, Value.slice R5 m5 d5], t15, t16, t17, t18, t19, undef, undef, undef, undef, undef, undef, undef, undef, undef, undef, undef, undef, undef, undef, undef, undef, undef, undef, undef, undef, undef, undef, undef, undef, undef, undef, undef, undef, undef, undef, undef], defers := [] } ∧ (Below w4.heap.size w4 ww) ∧ (L 0 = true → t15 = .agg #[.slice A5 n5 c5, .slice R5 m5 d5]) ∧ (L 1 = true → t16 = .slice A1 nn c1) ∧ (L 2 = true → ∃ (A' : Option Addr) (c' : Nat) (R' : Option Addr) (d' : Nat), t17 = .agg #[.slice A' n5 c', .slice R' m5 d'] ∧ HS ww ww.heap.size A' n5 R' m5 h2) ∧ (L 3 = true → t18 = .bool true) ∧ (L 4 = true → t19 = .bool false)) ?h0 ?hstep ?hdone
  case h0 => exact ⟨_, _, _, _, _, rfl, (Below.refl _ _).drew, (fun h => absurd h Bool.false_ne_true), (fun h => absurd h Bool.false_ne_true), (fun h => absurd h Bool.false_ne_true), (fun h => absurd h Bool.false_ne_true), (fun h => absurd h Bool.false_ne_true)⟩
  case hstep =>
    rintro L ac ww i o ho hL hd ⟨t15, t16, t17, t18, t19, rfl, I0, f0, f1, f2, f3, f4⟩
    have hi : i < 5 := (Array.getElem?_eq_some_iff.1 ho).1
    obtain rfl | rfl | rfl | rfl | rfl : i = 0 ∨ i = 1 ∨ i = 2 ∨ i = 3 ∨ i = 4 := by omega
    · obtain rfl := Option.some.inj ho
      have y0 : ww.cell? ⟨g5, 0, none⟩ = some (.slice A5 n5 c5) := (I0.cell (p := ⟨g5, 0, none⟩) hg5).trans x0
      have y1 : ww.cell? ⟨g5, 1, none⟩ = some (.slice R5 m5 d5) := (I0.cell (p := ⟨g5, 1, none⟩) hg5).trans x1
      refine wpOp_step rfl (fun K' hK => ?_)
      go_simp
      refine hK _ _ ?_
      exact ⟨_, _, _, _, _, rfl, (I0), (fun _ => rfl), (kp f1), (kp f2), (kp f3), (kp f4)⟩
    · obtain rfl := Option.some.inj ho
      refine wpOp_step rfl (fun K' hK => ?_)
      go_simp
      refine hK _ _ ?_
      exact ⟨_, _, _, _, _, rfl, (I0), (kp f0), (fun _ => rfl), (kp f2), (kp f3), (kp f4)⟩
    · obtain rfl := Option.some.inj ho
      have g1 := f1 (hd ⟨1, .data⟩ (by simp) rfl)
      subst g1
      refine wpOp_step rfl (fun K' hK => ?_)
      go_simp
      refine (mRunHeap_any _ _ _ l ww (m1.up I0) (by omega)).mono ?_
      rw [H2.out]
      rintro e w' ⟨vc, vr, rfl, ⟨rv, ow⟩, b5⟩
      obtain ⟨A', c', R', d', rfl, rfl, -⟩ := ow.form
      rw [E0.out, E4.out] at ow ⊢
      have hr9 := ow.reads
      refine hK _ _ ?_
      exact ⟨_, _, _, _, _, rfl, (I0.trans (b5.mono I0.size)), (kp f0), (kp f1), (fun _ => ⟨A', c', R', d', rfl, hr9⟩), (kp f3), (kp f4)⟩
    · obtain rfl := Option.some.inj ho
      have g0 := f0 (hd ⟨0, .data⟩ (by simp) rfl)
      have g2 := f2 (hd ⟨2, .data⟩ (by simp) rfl)
      subst g0
      obtain ⟨A', c', R', d', rfl, hr9⟩ := g2
      refine wpOp_step rfl (fun K' hK => ?_)
      go_simp
      refine (sameHeap_same _ _ _ _ _ _ _ _ _ _ h2 ww (r5.up I0) hr9 (by omega) (by omega) H3.out).mono ?_
      rintro e w' ⟨rfl, b5⟩
      refine hK _ _ ?_
      exact ⟨_, _, _, _, _, rfl, (I0.trans (b5.mono I0.size)), (kp f0), (kp f1), (fun _ => ⟨A', c', R', d', rfl, hr9.up b5⟩), (fun _ => rfl), (kp f4)⟩
    · obtain rfl := Option.some.inj ho
      have g3 := f3 (hd ⟨3, .data⟩ (by simp) rfl)
      subst g3
      refine wpOp_step rfl (fun K' hK => ?_)
      go_simp
      refine hK _ _ ?_
      exact ⟨_, _, _, _, _, rfl, (I0), (kp f0), (kp f1), (kp f2), (kp f3), (fun _ => rfl)⟩
  case hdone =>
    rintro L ac ww hall ⟨t15, t16, t17, t18, t19, rfl, I0, f0, f1, f2, f3, f4⟩
    have e0 := f0 (hall 0 (by decide))
    have e1 := f1 (hall 1 (by decide))
    have e2 := f2 (hall 2 (by decide))
    have e3 := f3 (hall 3 (by decide))
    have e4 := f4 (hall 4 (by decide))
    clear f0 f1 f2 f3 f4
    subst e3 e4
    clear e0 e1 e2 hall x0 x1 hg5
    replace m1 := m1.up I0
    replace r5 := r5.up I0
    replace q5 := q5.keep I0 q5.lt
    replace bb := bb.trans (I0.mono bb.size)
    clear I0
    generalize ww = w6 at *
    obtain ⟨v, hv⟩ : ∃ v, Hps.okCms l = v := ⟨_, rfl⟩
    have HV := Lib.hid hv
    go_wp2_with fail
    refine (mCommandsValid_any _ _ _ l _ m1 (by omega)).mono ?_
    rw [HV.out]
    rintro e w7 ⟨rfl, b7⟩
    replace m1 := m1.up b7
    replace r5 := r5.up b7
    replace q5 := q5.keep b7 q5.lt
    replace bb := bb.trans (b7.mono bb.size)
    clear b7
    cases v
    · go_wp2_with fail
      refine (alive_any _).mono ?_
      rintro e w8 ⟨rfl, b8⟩
      replace bb := bb.trans (b8.mono bb.size)
      go_wp2_with fail
      go_ret
      exact ⟨rfl, bb⟩
    by_cases hz : nn = 0
    · subst hz
      go_wp2_with fail
      refine (alive_any _).mono ?_
      rintro e w8 ⟨rfl, b8⟩
      replace bb := bb.trans (b8.mono bb.size)
      go_wp2_with fail
      go_ret
      exact ⟨rfl, bb⟩
    have hz' : ((nn : Int) == 0) = false := by rw [beq_eq_false_iff_ne]; omega
    obtain ⟨q, rfl⟩ : ∃ q, nn = q + 1 := ⟨nn - 1, by omega⟩
    have hqw : IntKind.i64.wrap (((q + 1 : Nat) : Int) - 1) = q := by rw [IntWalk.i64_in _ (by omega)]; omega
    obtain ⟨g, og, o, rfl, hg, ho, k0, k1, k2, k3⟩ := m1.at_ (k := q) (by omega)
    have HLast := Hps.run_last hv hln ho
    have hvl := Hps.runH_valid hv
    have T1 := tiny_run (l.take q)
    rw [H2.out] at HLast hvl
    obtain ⟨h1, hh1⟩ : ∃ h1, Hps.runH (l.take q) = h1 := ⟨_, rfl⟩
    rw [hh1] at HLast T1
    obtain ⟨vb, hvb⟩ : ∃ vb, (Hps.stepH h1 o).2 = vb := ⟨_, rfl⟩
    have HH1 := Lib.hid hh1
    have HH := Lib.hid HLast
    have HVB := Lib.hid hvb
    have HVL := Lib.hid hvl
    obtain ⟨n1, hn1⟩ : ∃ n1, h1.cs.length = n1 := ⟨_, rfl⟩
    obtain ⟨m1', hm1⟩ : ∃ m1', h1.rt.length = m1' := ⟨_, rfl⟩
    have hn140 : n1 ≤ 40 := by have := T1.1; omega
    have hm14 : m1' ≤ 4 := by have := T1.2.1; omega
    have E01 := Lib.hid hn1
    have E41 := Lib.hid hm1
    have mt := m1.take (k := q) (by omega)
    have hqc : (q : Int) ≤ c1 := by omega
    have hqn : (q : Int) < ((q + 1 : Nat) : Int) := by omega
    have hqn2 : (q : Int) < (q : Int) + 1 := by omega
    have hqn3 : (0 : Int) ≤ q := by omega
    clear hh1 HLast hvl hvb hn1 hm1 T1 hz ho hv
    go_upto_region 10 with fail
    refine wp_region_inv (by kernel_rfl) (by kernel_rfl) (fun L ac ww => ∃ t6 t7 t32 t33 t34 t35 t36 t37 t38 t39 t40 t41 t42 t43 : Value, ac = { tmps := #[Value.slice A n c, undef, Value.bool false, Value.slice (some { block := g, off := og }) (q + 1) c1, Value.pointer (some { block := g5, off := 0 }), Value.int IntKind.i64 ↑q, t6, t7, Value.slice A n c, Value.int IntKind.i64 ↑n, Value.bool false, Value.slice A n c, Value.slice (some { block := g, off := og }) (q + 1) c1, Value.slice (some { block := g, off := og }) (q + 1) c1, Value.agg #[Value.slice A5 n5 c5, Value.slice R5 m5 d5], t15, t16, t17, Value.bool true, Value.bool false, Value.slice (some { block := g, off := og }) (q + 1) c1, Value.bool true, Value.bool false, Value.bool false, Value.slice (some { block := g, off := og }) (q + 1) c1, Value.int IntKind.i64 (↑q + 1), Value.bool (↑q + 1 == 0), Value.bool (↑q + 1 == 0), undef, Value.slice (some { block := g, off := og }) (q + 1) c1, Value.int IntKind.i64 (↑q + 1), Value.int IntKind.i64 ↑q, t32, t33, t34, t35, t36, t37, t38, t39, t40, t41, t42, t43, undef, undef, undef, undef, undef, undef, undef], defers := [] } ∧ (Below w7.heap.size w7 ww) ∧ (L 0 = true → t33 = .slice (some ⟨g, og, none⟩) (q + 1) c1) ∧ (L 1 = true → t34 = .int .i64 (q : Nat)) ∧ (L 2 = true → t35 = .slice (some ⟨g, og, none⟩) q c1) ∧ (L 3 = true → (L 8 = true ∨ ∃ (A' : Option Addr) (c' : Nat) (R' : Option Addr) (d' : Nat), t36 = .agg #[.slice A' n1 c', .slice R' m1' d'] ∧ n1 ≤ c' ∧ m1' ≤ d' ∧ HS ww ww.heap.size A' n1 R' m1' h1)) ∧ (L 4 = true → t37 = .slice (some ⟨g, og, none⟩) (q + 1) c1) ∧ (L 5 = true → t38 = .int .i64 (q : Nat)) ∧ (L 6 = true → t39 = (.pointer (some ⟨g, og + q * 4, none⟩))) ∧ (L 7 = true → t40 = .agg #[.int .i64 o.op, .int .i64 o.a, .int .i64 o.b, .int .i64 o.c]) ∧ (L 8 = true → ∃ (A' : Option Addr) (c' : Nat) (R' : Option Addr) (d' : Nat) (rvs : List Value), t41 = .tuple #[.agg #[.slice A' n5 c', .slice R' m5 d'], .bool vb] ∧ OwnHx ww w7.heap.size (.slice A' n5 c') (.slice R' m5 d') rvs h2 ∧ L 8 = true) ∧ (L 9 = true → ∃ (A' : Option Addr) (c' : Nat) (R' : Option Addr) (d' : Nat) (rvs : List Value), t32 = .tuple #[.agg #[.slice A' n5 c', .slice R' m5 d'], .bool vb] ∧ OwnHx ww w7.heap.size (.slice A' n5 c') (.slice R' m5 d') rvs h2 ∧ L 8 = true) ∧ (L 10 = true → ∃ (A' : Option Addr) (c' : Nat) (R' : Option Addr) (d' : Nat) (rvs : List Value), t42 = .agg #[.slice A' n5 c', .slice R' m5 d'] ∧ OwnHx ww w7.heap.size (.slice A' n5 c') (.slice R' m5 d') rvs h2 ∧ L 8 = true) ∧ (L 11 = true → t43 = .bool vb) ∧ (L 12 = true → ∃ g : Nat, t6 = .pointer (some ⟨g, 0, none⟩) ∧ w7.heap.size ≤ g ∧ (L 13 = true ∨ Rw ww g 28 #[.slice none 0 0, .slice none 0 0])) ∧ (L 13 = true → ∃ (g : Nat) (A' : Option Addr) (c' : Nat) (R' : Option Addr) (d' : Nat) (rvs : List Value), t6 = .pointer (some ⟨g, 0, none⟩) ∧ w7.heap.size ≤ g ∧ Rw ww g 28 #[.slice A' n5 c', .slice R' m5 d'] ∧ OwnHx ww w7.heap.size (.slice A' n5 c') (.slice R' m5 d') rvs h2 ∧ L 12 = true ∧ L 8 = true) ∧ (L 14 = true → t7 = .bool vb)) ?h0 ?hstep ?hdone
    case h0 => exact ⟨_, _, _, _, _, _, _, _, _, _, _, _, _, _, rfl, (Below.refl _ _).drew, (fun h => absurd h Bool.false_ne_true), (fun h => absurd h Bool.false_ne_true), (fun h => absurd h Bool.false_ne_true), (fun h => absurd h Bool.false_ne_true), (fun h => absurd h Bool.false_ne_true), (fun h => absurd h Bool.false_ne_true), (fun h => absurd h Bool.false_ne_true), (fun h => absurd h Bool.false_ne_true), (fun h => absurd h Bool.false_ne_true), (fun h => absurd h Bool.false_ne_true), (fun h => absurd h Bool.false_ne_true), (fun h => absurd h Bool.false_ne_true), (fun h => absurd h Bool.false_ne_true), (fun h => absurd h Bool.false_ne_true), (fun h => absurd h Bool.false_ne_true)⟩
    case hstep =>
      rintro L ac ww i o ho hL hd ⟨t6, t7, t32, t33, t34, t35, t36, t37, t38, t39, t40, t41, t42, t43, rfl, I0, f0, f1, f2, f3, f4, f5, f6, f7, f8, f9, f10, f11, f12, f13, f14⟩
      have hi : i < 15 := (Array.getElem?_eq_some_iff.1 ho).1
      obtain rfl | rfl | rfl | rfl | rfl | rfl | rfl | rfl | rfl | rfl | rfl | rfl | rfl | rfl | rfl : i = 0 ∨ i = 1 ∨ i = 2 ∨ i = 3 ∨ i = 4 ∨ i = 5 ∨ i = 6 ∨ i = 7 ∨ i = 8 ∨ i = 9 ∨ i = 10 ∨ i = 11 ∨ i = 12 ∨ i = 13 ∨ i = 14 := by omega
      · obtain rfl := Option.some.inj ho
        refine wpOp_step rfl (fun K' hK => ?_)
        go_simp
        refine hK _ _ ?_
        exact ⟨_, _, _, _, _, _, _, _, _, _, _, _, _, _, rfl, (I0), (fun _ => rfl), (kp f1), (kp f2), (fun h => (f3 (upd_ne h (by decide))).imp (fun e => upd_keep e) id), (kp f4), (kp f5), (kp f6), (kp f7), (fun h => by
          obtain ⟨A', c', R', d', rvs, e, q, l⟩ := f8 (upd_ne h (by decide))
          exact ⟨A', c', R', d', rvs, e, q, upd_keep l⟩), (fun h => by
          obtain ⟨A', c', R', d', rvs, e, q, l⟩ := f9 (upd_ne h (by decide))
          exact ⟨A', c', R', d', rvs, e, q, upd_keep l⟩), (fun h => by
          obtain ⟨A', c', R', d', rvs, e, q, l⟩ := f10 (upd_ne h (by decide))
          exact ⟨A', c', R', d', rvs, e, q, upd_keep l⟩), (kp f11), (fun h => by
          obtain ⟨g, e, hg, r⟩ := f12 (upd_ne h (by decide))
          exact ⟨g, e, hg, r.imp (fun e => upd_keep e) (fun r => r)⟩), (fun h => by
          obtain ⟨g, A', c', R', d', rvs, e, hg, r, q, la, lf⟩ := f13 (upd_ne h (by decide))
          exact ⟨g, A', c', R', d', rvs, e, hg, r, q, upd_keep la, upd_keep lf⟩), (kp f14)⟩
      · obtain rfl := Option.some.inj ho
        refine wpOp_step rfl (fun K' hK => ?_)
        go_simp
        refine hK _ _ ?_
        exact ⟨_, _, _, _, _, _, _, _, _, _, _, _, _, _, rfl, (I0), (kp f0), (fun _ => rfl), (kp f2), (fun h => (f3 (upd_ne h (by decide))).imp (fun e => upd_keep e) id), (kp f4), (kp f5), (kp f6), (kp f7), (fun h => by
          obtain ⟨A', c', R', d', rvs, e, q, l⟩ := f8 (upd_ne h (by decide))
          exact ⟨A', c', R', d', rvs, e, q, upd_keep l⟩), (fun h => by
          obtain ⟨A', c', R', d', rvs, e, q, l⟩ := f9 (upd_ne h (by decide))
          exact ⟨A', c', R', d', rvs, e, q, upd_keep l⟩), (fun h => by
          obtain ⟨A', c', R', d', rvs, e, q, l⟩ := f10 (upd_ne h (by decide))
          exact ⟨A', c', R', d', rvs, e, q, upd_keep l⟩), (kp f11), (fun h => by
          obtain ⟨g, e, hg, r⟩ := f12 (upd_ne h (by decide))
          exact ⟨g, e, hg, r.imp (fun e => upd_keep e) (fun r => r)⟩), (fun h => by
          obtain ⟨g, A', c', R', d', rvs, e, hg, r, q, la, lf⟩ := f13 (upd_ne h (by decide))
          exact ⟨g, A', c', R', d', rvs, e, hg, r, q, upd_keep la, upd_keep lf⟩), (kp f14)⟩
      · obtain rfl := Option.some.inj ho
        have g0 := f0 (hd ⟨0, .data⟩ (by simp) rfl)
        have g1 := f1 (hd ⟨1, .data⟩ (by simp) rfl)
        subst g0
        subst g1
        refine wpOp_step rfl (fun K' hK => ?_)
        go_simp
        refine hK _ _ ?_
        exact ⟨_, _, _, _, _, _, _, _, _, _, _, _, _, _, rfl, (I0), (kp f0), (kp f1), (fun _ => rfl), (fun h => (f3 (upd_ne h (by decide))).imp (fun e => upd_keep e) id), (kp f4), (kp f5), (kp f6), (kp f7), (fun h => by
          obtain ⟨A', c', R', d', rvs, e, q, l⟩ := f8 (upd_ne h (by decide))
          exact ⟨A', c', R', d', rvs, e, q, upd_keep l⟩), (fun h => by
          obtain ⟨A', c', R', d', rvs, e, q, l⟩ := f9 (upd_ne h (by decide))
          exact ⟨A', c', R', d', rvs, e, q, upd_keep l⟩), (fun h => by
          obtain ⟨A', c', R', d', rvs, e, q, l⟩ := f10 (upd_ne h (by decide))
          exact ⟨A', c', R', d', rvs, e, q, upd_keep l⟩), (kp f11), (fun h => by
          obtain ⟨g, e, hg, r⟩ := f12 (upd_ne h (by decide))
          exact ⟨g, e, hg, r.imp (fun e => upd_keep e) (fun r => r)⟩), (fun h => by
          obtain ⟨g, A', c', R', d', rvs, e, hg, r, q, la, lf⟩ := f13 (upd_ne h (by decide))
          exact ⟨g, A', c', R', d', rvs, e, hg, r, q, upd_keep la, upd_keep lf⟩), (kp f14)⟩
      · obtain rfl := Option.some.inj ho
        have g2 := f2 (hd ⟨2, .data⟩ (by simp) rfl)
        subst g2
        refine wpOp_step rfl (fun K' hK => ?_)
        go_simp
        refine (runHeap_any _ _ _ (l.take q) ww (mt.up I0) (by omega) (by omega)).mono ?_
        rw [HH1.out]
        rintro e w' ⟨vc, vr, rfl, ⟨rv, ow⟩, b5⟩
        obtain ⟨A', c', R', d', rfl, rfl, hc', hd', -⟩ := ow.form
        rw [E01.out] at ow hc' ⊢
        rw [E41.out] at ow hd' ⊢
        have hr9 := ow.reads
        refine hK _ _ ?_
        exact ⟨_, _, _, _, _, _, _, _, _, _, _, _, _, _, rfl, (I0.trans (b5.mono I0.size)), (kp f0), (kp f1), (kp f2), (fun _ => .inr ⟨A', c', R', d', rfl, hc', hd', hr9⟩), (kp f4), (kp f5), (kp f6), (kp f7), (fun h => by
          obtain ⟨A', c', R', d', rvs, e, q, l⟩ := f8 (upd_ne h (by decide))
          exact ⟨A', c', R', d', rvs, e, q.below b5 (Nat.le_refl _), upd_keep l⟩), (fun h => by
          obtain ⟨A', c', R', d', rvs, e, q, l⟩ := f9 (upd_ne h (by decide))
          exact ⟨A', c', R', d', rvs, e, q.below b5 (Nat.le_refl _), upd_keep l⟩), (fun h => by
          obtain ⟨A', c', R', d', rvs, e, q, l⟩ := f10 (upd_ne h (by decide))
          exact ⟨A', c', R', d', rvs, e, q.below b5 (Nat.le_refl _), upd_keep l⟩), (kp f11), (fun h => by
          obtain ⟨g, e, hg, r⟩ := f12 (upd_ne h (by decide))
          exact ⟨g, e, hg, r.imp (fun e => upd_keep e) (fun r => r.keep b5 r.lt)⟩), (fun h => by
          obtain ⟨g, A', c', R', d', rvs, e, hg, r, q, la, lf⟩ := f13 (upd_ne h (by decide))
          exact ⟨g, A', c', R', d', rvs, e, hg, r.keep b5 r.lt, q.below b5 (Nat.le_refl _), upd_keep la, upd_keep lf⟩), (kp f14)⟩
      · obtain rfl := Option.some.inj ho
        refine wpOp_step rfl (fun K' hK => ?_)
        go_simp
        refine hK _ _ ?_
        exact ⟨_, _, _, _, _, _, _, _, _, _, _, _, _, _, rfl, (I0), (kp f0), (kp f1), (kp f2), (fun h => (f3 (upd_ne h (by decide))).imp (fun e => upd_keep e) id), (fun _ => rfl), (kp f5), (kp f6), (kp f7), (fun h => by
          obtain ⟨A', c', R', d', rvs, e, q, l⟩ := f8 (upd_ne h (by decide))
          exact ⟨A', c', R', d', rvs, e, q, upd_keep l⟩), (fun h => by
          obtain ⟨A', c', R', d', rvs, e, q, l⟩ := f9 (upd_ne h (by decide))
          exact ⟨A', c', R', d', rvs, e, q, upd_keep l⟩), (fun h => by
          obtain ⟨A', c', R', d', rvs, e, q, l⟩ := f10 (upd_ne h (by decide))
          exact ⟨A', c', R', d', rvs, e, q, upd_keep l⟩), (kp f11), (fun h => by
          obtain ⟨g, e, hg, r⟩ := f12 (upd_ne h (by decide))
          exact ⟨g, e, hg, r.imp (fun e => upd_keep e) (fun r => r)⟩), (fun h => by
          obtain ⟨g, A', c', R', d', rvs, e, hg, r, q, la, lf⟩ := f13 (upd_ne h (by decide))
          exact ⟨g, A', c', R', d', rvs, e, hg, r, q, upd_keep la, upd_keep lf⟩), (kp f14)⟩
      · obtain rfl := Option.some.inj ho
        refine wpOp_step rfl (fun K' hK => ?_)
        go_simp
        refine hK _ _ ?_
        exact ⟨_, _, _, _, _, _, _, _, _, _, _, _, _, _, rfl, (I0), (kp f0), (kp f1), (kp f2), (fun h => (f3 (upd_ne h (by decide))).imp (fun e => upd_keep e) id), (kp f4), (fun _ => rfl), (kp f6), (kp f7), (fun h => by
          obtain ⟨A', c', R', d', rvs, e, q, l⟩ := f8 (upd_ne h (by decide))
          exact ⟨A', c', R', d', rvs, e, q, upd_keep l⟩), (fun h => by
          obtain ⟨A', c', R', d', rvs, e, q, l⟩ := f9 (upd_ne h (by decide))
          exact ⟨A', c', R', d', rvs, e, q, upd_keep l⟩), (fun h => by
          obtain ⟨A', c', R', d', rvs, e, q, l⟩ := f10 (upd_ne h (by decide))
          exact ⟨A', c', R', d', rvs, e, q, upd_keep l⟩), (kp f11), (fun h => by
          obtain ⟨g, e, hg, r⟩ := f12 (upd_ne h (by decide))
          exact ⟨g, e, hg, r.imp (fun e => upd_keep e) (fun r => r)⟩), (fun h => by
          obtain ⟨g, A', c', R', d', rvs, e, hg, r, q, la, lf⟩ := f13 (upd_ne h (by decide))
          exact ⟨g, A', c', R', d', rvs, e, hg, r, q, upd_keep la, upd_keep lf⟩), (kp f14)⟩
      · obtain rfl := Option.some.inj ho
        have g4 := f4 (hd ⟨4, .data⟩ (by simp) rfl)
        have g5 := f5 (hd ⟨5, .data⟩ (by simp) rfl)
        subst g4
        subst g5
        refine wpOp_step rfl (fun K' hK => ?_)
        go_simp
        refine hK _ _ ?_
        exact ⟨_, _, _, _, _, _, _, _, _, _, _, _, _, _, rfl, (I0), (kp f0), (kp f1), (kp f2), (fun h => (f3 (upd_ne h (by decide))).imp (fun e => upd_keep e) id), (kp f4), (kp f5), (fun _ => rfl), (kp f7), (fun h => by
          obtain ⟨A', c', R', d', rvs, e, q, l⟩ := f8 (upd_ne h (by decide))
          exact ⟨A', c', R', d', rvs, e, q, upd_keep l⟩), (fun h => by
          obtain ⟨A', c', R', d', rvs, e, q, l⟩ := f9 (upd_ne h (by decide))
          exact ⟨A', c', R', d', rvs, e, q, upd_keep l⟩), (fun h => by
          obtain ⟨A', c', R', d', rvs, e, q, l⟩ := f10 (upd_ne h (by decide))
          exact ⟨A', c', R', d', rvs, e, q, upd_keep l⟩), (kp f11), (fun h => by
          obtain ⟨g, e, hg, r⟩ := f12 (upd_ne h (by decide))
          exact ⟨g, e, hg, r.imp (fun e => upd_keep e) (fun r => r)⟩), (fun h => by
          obtain ⟨g, A', c', R', d', rvs, e, hg, r, q, la, lf⟩ := f13 (upd_ne h (by decide))
          exact ⟨g, A', c', R', d', rvs, e, hg, r, q, upd_keep la, upd_keep lf⟩), (kp f14)⟩
      · obtain rfl := Option.some.inj ho
        have g6 := f6 (hd ⟨6, .data⟩ (by simp) rfl)
        subst g6
        have y0 : ww.cell? ⟨g, og + q * 4, none⟩ = some (.int .i64 o.op) := (I0.cell (p := ⟨g, og + q * 4, none⟩) hg).trans k0
        have y1 : ww.cell? ⟨g, og + q * 4 + 1, none⟩ = some (.int .i64 o.a) := (I0.cell (p := ⟨g, og + q * 4 + 1, none⟩) hg).trans k1
        have y2 : ww.cell? ⟨g, og + q * 4 + 2, none⟩ = some (.int .i64 o.b) := (I0.cell (p := ⟨g, og + q * 4 + 2, none⟩) hg).trans k2
        have y3 : ww.cell? ⟨g, og + q * 4 + 3, none⟩ = some (.int .i64 o.c) := (I0.cell (p := ⟨g, og + q * 4 + 3, none⟩) hg).trans k3
        refine wpOp_step rfl (fun K' hK => ?_)
        go_simp
        refine hK _ _ ?_
        exact ⟨_, _, _, _, _, _, _, _, _, _, _, _, _, _, rfl, (I0), (kp f0), (kp f1), (kp f2), (fun h => (f3 (upd_ne h (by decide))).imp (fun e => upd_keep e) id), (kp f4), (kp f5), (kp f6), (fun _ => rfl), (fun h => by
          obtain ⟨A', c', R', d', rvs, e, q, l⟩ := f8 (upd_ne h (by decide))
          exact ⟨A', c', R', d', rvs, e, q, upd_keep l⟩), (fun h => by
          obtain ⟨A', c', R', d', rvs, e, q, l⟩ := f9 (upd_ne h (by decide))
          exact ⟨A', c', R', d', rvs, e, q, upd_keep l⟩), (fun h => by
          obtain ⟨A', c', R', d', rvs, e, q, l⟩ := f10 (upd_ne h (by decide))
          exact ⟨A', c', R', d', rvs, e, q, upd_keep l⟩), (kp f11), (fun h => by
          obtain ⟨g, e, hg, r⟩ := f12 (upd_ne h (by decide))
          exact ⟨g, e, hg, r.imp (fun e => upd_keep e) (fun r => r)⟩), (fun h => by
          obtain ⟨g, A', c', R', d', rvs, e, hg, r, q, la, lf⟩ := f13 (upd_ne h (by decide))
          exact ⟨g, A', c', R', d', rvs, e, hg, r, q, upd_keep la, upd_keep lf⟩), (kp f14)⟩
      · obtain rfl := Option.some.inj ho
        have g3 := f3 (hd ⟨3, .data⟩ (by simp) rfl)
        have g7 := f7 (hd ⟨7, .data⟩ (by simp) rfl)
        subst g7
        rcases g3 with q' | ⟨A', c', R', d', rfl, hc', hd', hr9⟩
        · rw [hL] at q'
          cases q'
        refine wpOp_step rfl (fun K' hK => ?_)
        go_simp
        refine (stepHeap_any _ _ _ _ _ _ h1 o ww hr9 (by omega) (by omega) hc' hd').mono ?_
        rw [HH.out, HVB.out]
        rintro e w' ⟨vc, vr, rfl, ⟨rvs, ow⟩, b5⟩
        obtain ⟨A', c', R', d', rfl, rfl, -⟩ := ow.form
        rw [E0.out, E4.out] at ow ⊢
        have ob := ow.base I0.size
        refine hK _ _ ?_
        exact ⟨_, _, _, _, _, _, _, _, _, _, _, _, _, _, rfl, (I0.trans (b5.mono I0.size)), (kp f0), (kp f1), (kp f2), (fun _ => .inl upd_self), (kp f4), (kp f5), (kp f6), (kp f7), (fun _ => ⟨A', c', R', d', rvs, rfl, ob, upd_self⟩), (fun h => by
          obtain ⟨A', c', R', d', rvs, e, q, l⟩ := f9 (upd_ne h (by decide))
          rw [hL] at l
          cases l), (fun h => by
          obtain ⟨A', c', R', d', rvs, e, q, l⟩ := f10 (upd_ne h (by decide))
          rw [hL] at l
          cases l), (kp f11), (fun h => by
          obtain ⟨g, e, hg, r⟩ := f12 (upd_ne h (by decide))
          exact ⟨g, e, hg, r.imp (fun e => upd_keep e) (fun r => r.keep b5 r.lt)⟩), (fun h => by
          obtain ⟨g, A', c', R', d', rvs, e, hg, r, q, la, lf⟩ := f13 (upd_ne h (by decide))
          rw [hL] at lf
          cases lf), (kp f14)⟩
      · obtain rfl := Option.some.inj ho
        have g8 := f8 (hd ⟨8, .data⟩ (by simp) rfl)
        obtain ⟨A', c', R', d', rvs, rfl, ow, lf⟩ := g8
        refine wpOp_step rfl (fun K' hK => ?_)
        go_simp
        refine hK _ _ ?_
        exact ⟨_, _, _, _, _, _, _, _, _, _, _, _, _, _, rfl, (I0), (kp f0), (kp f1), (kp f2), (fun h => (f3 (upd_ne h (by decide))).imp (fun e => upd_keep e) id), (kp f4), (kp f5), (kp f6), (kp f7), (fun _ => ⟨A', c', R', d', rvs, rfl, ow, upd_keep lf⟩), (fun _ => ⟨A', c', R', d', rvs, rfl, ow, upd_keep lf⟩), (fun h => by
          obtain ⟨A', c', R', d', rvs, e, q, l⟩ := f10 (upd_ne h (by decide))
          exact ⟨A', c', R', d', rvs, e, q, upd_keep l⟩), (kp f11), (fun h => by
          obtain ⟨g, e, hg, r⟩ := f12 (upd_ne h (by decide))
          exact ⟨g, e, hg, r.imp (fun e => upd_keep e) (fun r => r)⟩), (fun h => by
          obtain ⟨g, A', c', R', d', rvs, e, hg, r, q, la, lf⟩ := f13 (upd_ne h (by decide))
          exact ⟨g, A', c', R', d', rvs, e, hg, r, q, upd_keep la, upd_keep lf⟩), (kp f14)⟩
      · obtain rfl := Option.some.inj ho
        have g9 := f9 (hd ⟨9, .data⟩ (by simp) rfl)
        obtain ⟨A', c', R', d', rvs, rfl, ow, lf⟩ := g9
        refine wpOp_step rfl (fun K' hK => ?_)
        go_simp
        refine hK _ _ ?_
        exact ⟨_, _, _, _, _, _, _, _, _, _, _, _, _, _, rfl, (I0), (kp f0), (kp f1), (kp f2), (fun h => (f3 (upd_ne h (by decide))).imp (fun e => upd_keep e) id), (kp f4), (kp f5), (kp f6), (kp f7), (fun h => by
          obtain ⟨A', c', R', d', rvs, e, q, l⟩ := f8 (upd_ne h (by decide))
          exact ⟨A', c', R', d', rvs, e, q, upd_keep l⟩), (fun _ => ⟨A', c', R', d', rvs, rfl, ow, upd_keep lf⟩), (fun _ => ⟨A', c', R', d', rvs, rfl, ow, upd_keep lf⟩), (kp f11), (fun h => by
          obtain ⟨g, e, hg, r⟩ := f12 (upd_ne h (by decide))
          exact ⟨g, e, hg, r.imp (fun e => upd_keep e) (fun r => r)⟩), (fun h => by
          obtain ⟨g, A', c', R', d', rvs, e, hg, r, q, la, lf⟩ := f13 (upd_ne h (by decide))
          exact ⟨g, A', c', R', d', rvs, e, hg, r, q, upd_keep la, upd_keep lf⟩), (kp f14)⟩
      · obtain rfl := Option.some.inj ho
        have g9 := f9 (hd ⟨9, .data⟩ (by simp) rfl)
        obtain ⟨A', c', R', d', rvs, rfl, ow, lf⟩ := g9
        refine wpOp_step rfl (fun K' hK => ?_)
        go_simp
        refine hK _ _ ?_
        exact ⟨_, _, _, _, _, _, _, _, _, _, _, _, _, _, rfl, (I0), (kp f0), (kp f1), (kp f2), (fun h => (f3 (upd_ne h (by decide))).imp (fun e => upd_keep e) id), (kp f4), (kp f5), (kp f6), (kp f7), (fun h => by
          obtain ⟨A', c', R', d', rvs, e, q, l⟩ := f8 (upd_ne h (by decide))
          exact ⟨A', c', R', d', rvs, e, q, upd_keep l⟩), (fun _ => ⟨A', c', R', d', rvs, rfl, ow, upd_keep lf⟩), (fun h => by
          obtain ⟨A', c', R', d', rvs, e, q, l⟩ := f10 (upd_ne h (by decide))
          exact ⟨A', c', R', d', rvs, e, q, upd_keep l⟩), (fun _ => rfl), (fun h => by
          obtain ⟨g, e, hg, r⟩ := f12 (upd_ne h (by decide))
          exact ⟨g, e, hg, r.imp (fun e => upd_keep e) (fun r => r)⟩), (fun h => by
          obtain ⟨g, A', c', R', d', rvs, e, hg, r, q, la, lf⟩ := f13 (upd_ne h (by decide))
          exact ⟨g, A', c', R', d', rvs, e, hg, r, q, upd_keep la, upd_keep lf⟩), (kp f14)⟩
      · obtain rfl := Option.some.inj ho
        have bA : Below ww.heap.size ww (ww.alloc (.cells #[.slice none 0 0, .slice none 0 0] 28)) := (Below.refl _ _).alloc (Nat.le_refl _) _
        refine wpOp_step rfl (fun K' hK => ?_)
        go_simp
        refine hK _ _ ?_
        exact ⟨_, _, _, _, _, _, _, _, _, _, _, _, _, _, rfl, (I0.trans (bA.mono I0.size)), (kp f0), (kp f1), (kp f2), (fun h => (f3 (upd_ne h (by decide))).imp (fun e => upd_keep e) (fun ⟨A', c', R', d', e, h1, h2, q⟩ => ⟨A', c', R', d', e, h1, h2, q.up bA⟩)), (kp f4), (kp f5), (kp f6), (kp f7), (fun h => by
          obtain ⟨A', c', R', d', rvs, e, q, l⟩ := f8 (upd_ne h (by decide))
          exact ⟨A', c', R', d', rvs, e, q.below bA (Nat.le_refl _), upd_keep l⟩), (fun h => by
          obtain ⟨A', c', R', d', rvs, e, q, l⟩ := f9 (upd_ne h (by decide))
          exact ⟨A', c', R', d', rvs, e, q.below bA (Nat.le_refl _), upd_keep l⟩), (fun h => by
          obtain ⟨A', c', R', d', rvs, e, q, l⟩ := f10 (upd_ne h (by decide))
          exact ⟨A', c', R', d', rvs, e, q.below bA (Nat.le_refl _), upd_keep l⟩), (kp f11), (fun _ => ⟨ww.heap.size, rfl, I0.size, .inr (Rw.new ww _ _)⟩), (fun h => by
          obtain ⟨g, A', c', R', d', rvs, e, hg, r, q, la, lf⟩ := f13 (upd_ne h (by decide))
          rw [hL] at la
          cases la), (kp f14)⟩
      · obtain rfl := Option.some.inj ho
        have g10 := f10 (hd ⟨10, .data⟩ (by simp) rfl)
        have g12 := f12 (hd ⟨12, .data⟩ (by simp) rfl)
        obtain ⟨gz, rfl, hgz, rz⟩ := g12
        rcases rz with q' | rz
        · rw [hL] at q'
          cases q'
        obtain ⟨A', c', R', d', rvs, rfl, ow, lf⟩ := g10
        have u0 := rz.cell 0
        have u1 := rz.cell 1
        have v0 := rz.frozen 0
        have v1 := rz.frozen 1
        simp at u0 u1
        have la := hd ⟨12, .data⟩ (by simp) rfl
        refine wpOp_step rfl (fun K' hK => ?_)
        go_simp
        refine hK _ _ ?_
        exact ⟨_, _, _, _, _, _, _, _, _, _, _, _, _, _, rfl, ((I0.setCell (p := ⟨gz, 0, none⟩) hgz _).setCell (p := ⟨gz, 1, none⟩) hgz _), (kp f0), (kp f1), (kp f2), (fun _ => .inl (upd_keep lf)), (kp f4), (kp f5), (kp f6), (kp f7), (fun h => by
          obtain ⟨A', c', R', d', rvs, e, q, l⟩ := f8 (upd_ne h (by decide))
          exact ⟨A', c', R', d', rvs, e, q.put2 rz _ _, upd_keep l⟩), (fun h => by
          obtain ⟨A', c', R', d', rvs, e, q, l⟩ := f9 (upd_ne h (by decide))
          exact ⟨A', c', R', d', rvs, e, q.put2 rz _ _, upd_keep l⟩), (fun _ => ⟨A', c', R', d', rvs, rfl, ow.put2 rz _ _, upd_keep lf⟩), (kp f11), (fun _ => ⟨gz, rfl, hgz, .inl upd_self⟩), (fun _ => ⟨gz, A', c', R', d', rvs, rfl, hgz, (rz.put 0 _).put 1 _, ow.put2 rz _ _, upd_keep la, upd_keep lf⟩), (kp f14)⟩
      · obtain rfl := Option.some.inj ho
        have g11 := f11 (hd ⟨11, .data⟩ (by simp) rfl)
        subst g11
        refine wpOp_step rfl (fun K' hK => ?_)
        go_simp
        refine hK _ _ ?_
        exact ⟨_, _, _, _, _, _, _, _, _, _, _, _, _, _, rfl, (I0), (kp f0), (kp f1), (kp f2), (fun h => (f3 (upd_ne h (by decide))).imp (fun e => upd_keep e) id), (kp f4), (kp f5), (kp f6), (kp f7), (fun h => by
          obtain ⟨A', c', R', d', rvs, e, q, l⟩ := f8 (upd_ne h (by decide))
          exact ⟨A', c', R', d', rvs, e, q, upd_keep l⟩), (fun h => by
          obtain ⟨A', c', R', d', rvs, e, q, l⟩ := f9 (upd_ne h (by decide))
          exact ⟨A', c', R', d', rvs, e, q, upd_keep l⟩), (fun h => by
          obtain ⟨A', c', R', d', rvs, e, q, l⟩ := f10 (upd_ne h (by decide))
          exact ⟨A', c', R', d', rvs, e, q, upd_keep l⟩), (kp f11), (fun h => by
          obtain ⟨g, e, hg, r⟩ := f12 (upd_ne h (by decide))
          exact ⟨g, e, hg, r.imp (fun e => upd_keep e) (fun r => r)⟩), (fun h => by
          obtain ⟨g, A', c', R', d', rvs, e, hg, r, q, la, lf⟩ := f13 (upd_ne h (by decide))
          exact ⟨g, A', c', R', d', rvs, e, hg, r, q, upd_keep la, upd_keep lf⟩), (fun _ => rfl)⟩
    case hdone =>
      rintro L ac ww hall ⟨t6, t7, t32, t33, t34, t35, t36, t37, t38, t39, t40, t41, t42, t43, rfl, I0, f0, f1, f2, f3, f4, f5, f6, f7, f8, f9, f10, f11, f12, f13, f14⟩
      have e0 := f0 (hall 0 (by decide))
      have e1 := f1 (hall 1 (by decide))
      have e2 := f2 (hall 2 (by decide))
      have e3 := f3 (hall 3 (by decide))
      have e4 := f4 (hall 4 (by decide))
      have e5 := f5 (hall 5 (by decide))
      have e6 := f6 (hall 6 (by decide))
      have e7 := f7 (hall 7 (by decide))
      have e8 := f8 (hall 8 (by decide))
      have e9 := f9 (hall 9 (by decide))
      have e10 := f10 (hall 10 (by decide))
      have e11 := f11 (hall 11 (by decide))
      have e12 := f12 (hall 12 (by decide))
      have e13 := f13 (hall 13 (by decide))
      have e14 := f14 (hall 14 (by decide))
      clear f0 f1 f2 f3 f4 f5 f6 f7 f8 f9 f10 f11 f12 f13 f14
      have ht7 := e14
      obtain ⟨g9, A9, c9, R9, d9, rvs9, ep, hg9, x9, o9, -⟩ := e13
      clear e0 e1 e2 e3 e4 e5 e6 e7 e8 e9 e10 e11 e12 e14 hall
      subst ht7 ep
      have r9 := o9.reads
      replace r5 := r5.up I0
      replace q5 := q5.keep I0 q5.lt
      replace bb := bb.trans (I0.mono bb.size)
      clear I0 o9
      generalize ww = w9 at *
      have x0 : w9.cell? ⟨g5, 0, none⟩ = some (.slice A5 n5 c5) := q5.cell 0
      have x1 : w9.cell? ⟨g5, 1, none⟩ = some (.slice R5 m5 d5) := q5.cell 1
      have y0 : w9.cell? ⟨g9, 0, none⟩ = some (.slice A9 n5 c9) := x9.cell 0
      have y1 : w9.cell? ⟨g9, 1, none⟩ = some (.slice R9 m5 d9) := x9.cell 1
      go_wp2_with fail
      refine (sameHeap_same _ _ _ _ _ _ _ _ _ _ h2 _ r9 r5 (by omega) (by omega) H3.out).mono ?_
      rintro e w10 ⟨rfl, b10⟩
      replace r5 := r5.up b10
      replace q5 := q5.keep b10 q5.lt
      replace bb := bb.trans (b10.mono bb.size)
      clear b10 x0 x1 y0 y1 x9 r9
      have x0 : w10.cell? ⟨g5, 0, none⟩ = some (.slice A5 n5 c5) := q5.cell 0
      have x1 : w10.cell? ⟨g5, 1, none⟩ = some (.slice R5 m5 d5) := q5.cell 1
      go_wp2_with fail
      refine (heapValid_any _ _ _ _ _ _ h2 _ r5 (by omega) (by omega) hc5 hd5).mono ?_
      rw [HVL.out]
      rintro e w11 ⟨rfl, b11⟩
      replace bb := bb.trans (b11.mono bb.size)
      go_wp2_with fail
      go_ret
      exact ⟨rfl, bb⟩
end Go.Proofs.Ytmjejcfifkbkoaa
