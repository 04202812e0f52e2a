/- The exact law of LazyValid returns true, over the program's contract: for every lazy heap. No conditions. -/
import Derived.Test.YtakdjiojahlnmaaTl
import Derived.Test.YtakdjiojahlnmaaTd
import Derived.Test.YtakdjiojahlnmaaTg
import Derived.Test.YtakdjiojahlnmaaTh
import Derived.Deep.Cut
namespace Go.Proofs.Ytakdjiojahlnmaa
open Go.RowKit
set_option maxRecDepth 100000
theorem sizeY_small {h : Hp} (hz : sizeH h ≤ 1048576) : h.cs.length ≤ 1048576 ∧ h.rt.length ≤ 1048576 ∧ ∀ cl ∈ h.cs, cl.r.length ≤ 1048576 := by
  unfold sizeH at hz
  exact ⟨by omega, by omega, fun cl hcl => by have := refN_mem hcl; omega⟩

set_option maxHeartbeats 8000000 in
theorem exactLazyValid_walk (A R K : Option Addr) (n c m d p q : Nat) (h : Hp) (l : List Bool) (i : Int) (w : World) (hs : HS w w.heap.size A n R m h) (hk : OS w w.heap.size K p l) (hn : n ≤ 9223372036854775807) (hm : m ≤ 9223372036854775807) (hp : p ≤ 9223372036854775807) (hb : ∀ cl ∈ h.cs, cl.r.length ≤ 9223372036854775807) :
    Calls Try.prog 8 #[lzV A n c R m d K p q i] w fun e w' => e = .returned (.bool true) ∧ Below w.heap.size w w' := by
  have b0 : Below w.heap.size w (w.alloc (.cells #[.slice A n c, .slice R m d, .slice K p q, .int .i64 i] 57)) := (Below.refl _ _).alloc (Nat.le_refl _) _
  have s0 := hs.up b0
  have k0 := hk.up b0
  have q0 := Rw.new w 57 #[.slice A n c, .slice R m d, .slice K p q, .int .i64 i]
  have hlc := hs.cells.1
  have hlr := hs.roots.1
  have hlk := hk.1
  go_enter Try.func8, Try.ntmps8
  go_wp2_with fail
  refine (szLazy_any _ _ _ _ _ _ _ _ _ h l i _ _ s0 k0 (by omega) (by omega) hn hm hp hb).mono ?_
  rintro e w1 ⟨rfl, b1⟩
  replace q0 := q0.keep b1 q0.lt
  have bbk := b0.trans (b1.mono b0.size)
  clear b1 b0 s0 k0
  by_cases hz : sizeZ h l ≤ 1048576
  case neg =>
    have HL : leftOf 1048576 (sizeZ h l) = -1 := by rw [leftOf, if_neg (by omega)]
    rw [HL]
    go_wp2_with fail
    go_ret
    exact ⟨rfl, bbk⟩
  have HL : leftOf 1048576 (sizeZ h l) = 1048576 - ((sizeZ h l : Nat) : Int) := by rw [leftOf, if_pos (by omega)]
  rw [HL]
  have hz2 : sizeH h ≤ 1048576 ∧ l.length ≤ 1048576 := by unfold sizeZ at hz; omega
  obtain ⟨z1, z2, z3⟩ := sizeY_small hz2.1
  have z4 := hz2.2
  rw [hlc] at z1
  rw [hlr] at z2
  rw [hlk] at z4
  have HZX2 := Lib.hid hz2.1
  have Z3 := Lib.hid (fun cl (hcl : cl ∈ h.cs) => show cl.r.length ≤ 1099511627776 by have := z3 cl hcl; omega)
  have HZX := Lib.hid (show sizeH h ≤ 1000000000 by omega)
  obtain ⟨lz, hlz⟩ : ∃ lz : Int, (1048576 : Int) - ((sizeZ h l : Nat) : Int) = lz := ⟨_, rfl⟩
  have hlz0 : decide (lz < 0) = false := decide_eq_false (by omega)
  rw [hlz]
  obtain ⟨ga, hga⟩ : ∃ ga, w.heap.size = ga := ⟨_, rfl⟩
  rw [hga] at q0 ⊢
  have HGA := Lib.hid hga
  have hgl := q0.lt
  have xa0 : w1.cell? ⟨ga, 0, none⟩ = some (.slice A n c) := q0.cell 0
  have xa1 : w1.cell? ⟨ga, 1, none⟩ = some (.slice R m d) := q0.cell 1
  have xa2 : w1.cell? ⟨ga, 2, none⟩ = some (.slice K p q) := q0.cell 2
  have xa3 : w1.cell? ⟨ga, 3, none⟩ = some (.int .i64 i) := q0.cell 3
  have E6 := Lib.hid hk.1
  clear HL hlz hz hz2 z3 hb hga hlc hlr hlk
  go_wp2_with fail
  refine (toLazy_any _ _ _ _ _ _ _ _ _ h l i w1 (hs.up (bbk)) (hk.up (bbk)) (by omega) (by omega) (by omega) Z3.out).mono ?_
  rintro e w2 ⟨u1, u2, u3, rfl, ⟨rv, ow⟩, b2⟩
  have h9r := ow.heap.reads
  have h9k := ow.mks.reads
  replace q0 := q0.keep b2 q0.lt
  replace bbk := bbk.trans (b2.mono bbk.size)
  clear ow b2 xa0 xa1 xa2 xa3
  go_wp2_with fail
  refine (mLazyValid_any _ _ _ _ _ _ _ _ _ i h l w2 h9r h9k (by omega) (by omega) (by omega)).mono ?_
  rintro e w3 ⟨⟨v, rfl, hv⟩, b3⟩
  have HV := Lib.hid hv
  clear hv
  have hvv : (v != v) = false := by cases v <;> rfl
  replace q0 := q0.keep b3 q0.lt
  replace bbk := bbk.trans (b3.mono bbk.size)
  clear b3 hgl h9r h9k
  have xa0 : w3.cell? ⟨ga, 0, none⟩ = some (.slice A n c) := q0.cell 0
  have xa1 : w3.cell? ⟨ga, 1, none⟩ = some (.slice R m d) := q0.cell 1
  have xa2 : w3.cell? ⟨ga, 2, none⟩ = some (.slice K p q) := q0.cell 2
  have xa3 : w3.cell? ⟨ga, 3, none⟩ = some (.int .i64 i) := q0.cell 3
  go_wp2_with fail
  refine (toLazy_any _ _ _ _ _ _ _ _ _ h l i w3 (hs.up (bbk)) (hk.up (bbk)) (by omega) (by omega) (by omega) Z3.out).mono ?_
  rintro e w4 ⟨g1, g2, g3, rfl, ⟨rvsx, own⟩, b4⟩
  have bA : Below w4.heap.size w4 (w4.alloc (.cells #[.slice (some ⟨g1, 0, none⟩) n n, .slice (some ⟨g2, 0, none⟩) m m, .slice (some ⟨g3, 0, none⟩) p p, .int .i64 i] 30)) := (Below.refl _ _).alloc (Nat.le_refl _) _
  have ox := own.below bA (Nat.le_refl _)
  have qx := Rw.new w4 30 #[.slice (some ⟨g1, 0, none⟩) n n, .slice (some ⟨g2, 0, none⟩) m m, .slice (some ⟨g3, 0, none⟩) p p, .int .i64 i]
  replace q0 := (q0.keep b4 q0.lt).alloc (.cells #[.slice (some ⟨g1, 0, none⟩) n n, .slice (some ⟨g2, 0, none⟩) m m, .slice (some ⟨g3, 0, none⟩) p p, .int .i64 i] 30)
  replace bbk := (bbk.trans (b4.mono bbk.size)).trans (bA.mono (bbk.trans (b4.mono bbk.size)).size)
  have xr := ox.heap.reads
  have xk := ox.mks.reads
  clear own bA b4 ox xa0 xa1 xa2 xa3
  go_upto_region 7 with fail
  generalize w4.alloc (.cells #[.slice (some ⟨g1, 0, none⟩) n n, .slice (some ⟨g2, 0, none⟩) m m, .slice (some ⟨g3, 0, none⟩) p p, .int .i64 i] 30) = w5 at qx q0 bbk xr xk ⊢
  generalize w4.heap.size = gx at qx ⊢
  have xc0 : w5.cell? ⟨gx, 0, none⟩ = some (.slice (some ⟨g1, 0, none⟩) n n) := qx.cell 0
  have xc1 : w5.cell? ⟨gx, 1, none⟩ = some (.slice (some ⟨g2, 0, none⟩) m m) := qx.cell 1
  have xc2 : w5.cell? ⟨gx, 2, none⟩ = some (.slice (some ⟨g3, 0, none⟩) p p) := qx.cell 2
  have xc3 : w5.cell? ⟨gx, 3, none⟩ = some (.int .i64 i) := qx.cell 3
  go_wp2_with fail
  refine (lazyValid_any _ _ _ _ _ _ _ _ _ i h l w5 xr xk (by omega) (by omega) (by omega) (Nat.le_refl _) (Nat.le_refl _)).mono ?_
  rintro e w6 ⟨⟨v2, rfl, hv2⟩, b6⟩
  obtain rfl : v = v2 := by
    have := HV.out
    cases v <;> cases v2 <;> simp_all
  clear hv2
  replace xr := xr.up b6
  replace xk := xk.up b6
  replace qx := qx.keep b6 qx.lt
  replace q0 := q0.keep b6 q0.lt
  replace bbk := bbk.trans (b6.mono bbk.size)
  clear b6 xc0 xc1 xc2 xc3
  have hgx := qx.lt
  have hgl := q0.lt
  have xa0 : w6.cell? ⟨ga, 0, none⟩ = some (.slice A n c) := q0.cell 0
  have xa1 : w6.cell? ⟨ga, 1, none⟩ = some (.slice R m d) := q0.cell 1
  have xa2 : w6.cell? ⟨ga, 2, none⟩ = some (.slice K p q) := q0.cell 2
  have xa3 : w6.cell? ⟨ga, 3, none⟩ = some (.int .i64 i) := q0.cell 3
  have xc0 : w6.cell? ⟨gx, 0, none⟩ = some (.slice (some ⟨g1, 0, none⟩) n n) := qx.cell 0
  have xc1 : w6.cell? ⟨gx, 1, none⟩ = some (.slice (some ⟨g2, 0, none⟩) m m) := qx.cell 1
  have xc2 : w6.cell? ⟨gx, 2, none⟩ = some (.slice (some ⟨g3, 0, none⟩) p p) := qx.cell 2
  have xc3 : w6.cell? ⟨gx, 3, none⟩ = some (.int .i64 i) := qx.cell 3
  go_upto_region 10 with fail
  refine wp_region_inv (by kernel_rfl) (by kernel_rfl) (fun L ac ww => ∃ t22 t23 t24 t25 t26 : Value, ac = { tmps := #[lzV A n c R m d K p q i, Value.pointer (some { block := ga, off := 0 }), Value.bool false, Value.int IntKind.i64 lz, Value.bool v, Value.pointer (some { block := gx, off := 0 }), Value.bool v, Value.agg #[Value.slice A n c, Value.slice R m d, Value.slice K p q, Value.int IntKind.i64 i], Value.int IntKind.i64 1048576, Value.int IntKind.i64 lz, Value.int IntKind.i64 lz, Value.bool false, Value.agg #[Value.slice A n c, Value.slice R m d, Value.slice K p q, Value.int IntKind.i64 i], lzV (some { block := u1, off := 0 }) n n (some { block := u2, off := 0 }) m m (some { block := u3, off := 0 }) p p i, Value.bool v, Value.agg #[Value.slice A n c, Value.slice R m d, Value.slice K p q, Value.int IntKind.i64 i], lzV (some { block := g1, off := 0 }) n n (some { block := g2, off := 0 }) m m (some { block := g3, off := 0 }) p p i, Value.agg #[Value.slice (some { block := g1, off := 0 }) n n, Value.slice (some { block := g2, off := 0 }) m m, Value.slice (some { block := g3, off := 0 }) p p, Value.int IntKind.i64 i], Value.bool v, Value.bool v, Value.bool v, Value.bool false, t22, t23, t24, t25, t26], defers := [] } ∧ (Below w6.heap.size w6 ww) ∧ (L 0 = true → t22 = .agg #[.slice (some ⟨g1, 0, none⟩) n n, .slice (some ⟨g2, 0, none⟩) m m, .slice (some ⟨g3, 0, none⟩) p p, .int .i64 i]) ∧ (L 1 = true → t23 = .agg #[.slice A n c, .slice R m d, .slice K p q, .int .i64 i]) ∧ (L 2 = true → ∃ u1 u2 u3 : Nat, t24 = .agg #[.slice (some ⟨u1, 0, none⟩) n n, .slice (some ⟨u2, 0, none⟩) m m, .slice (some ⟨u3, 0, none⟩) p p, .int .i64 i] ∧ HS ww ww.heap.size (some ⟨u1, 0, none⟩) n (some ⟨u2, 0, none⟩) m h ∧ OS ww ww.heap.size (some ⟨u3, 0, none⟩) p l) ∧ (L 3 = true → t25 = .bool true) ∧ (L 4 = true → t26 = .bool false)) ?h0 ?hstep ?hdone
  case h0 => exact ⟨_, _, _, _, _, rfl, (Below.refl _ _).drew, (fun h => absurd h Bool.false_ne_true), (fun h => absurd h Bool.false_ne_true), (fun h => absurd h Bool.false_ne_true), (fun h => absurd h Bool.false_ne_true), (fun h => absurd h Bool.false_ne_true)⟩
  case hstep =>
    rintro L ac ww i o ho hL hd ⟨t22, t23, t24, t25, t26, rfl, I0, f0, f1, f2, f3, f4⟩
    have hi : i < 5 := (Array.getElem?_eq_some_iff.1 ho).1
    obtain rfl | rfl | rfl | rfl | rfl : i = 0 ∨ i = 1 ∨ i = 2 ∨ i = 3 ∨ i = 4 := by omega
    · obtain rfl := Option.some.inj ho
      have y0 : ww.cell? ⟨gx, 0, none⟩ = some (.slice (some ⟨g1, 0, none⟩) n n) := (I0.cell (p := ⟨gx, 0, none⟩) hgx).trans xc0
      have y1 : ww.cell? ⟨gx, 1, none⟩ = some (.slice (some ⟨g2, 0, none⟩) m m) := (I0.cell (p := ⟨gx, 1, none⟩) hgx).trans xc1
      have y2 : ww.cell? ⟨gx, 2, none⟩ = some (.slice (some ⟨g3, 0, none⟩) p p) := (I0.cell (p := ⟨gx, 2, none⟩) hgx).trans xc2
      have y3 : ww.cell? ⟨gx, 3, none⟩ = some (.int .i64 i) := (I0.cell (p := ⟨gx, 3, none⟩) hgx).trans xc3
      refine wpOp_step rfl (fun K' hK => ?_)
      go_simp
      refine hK _ _ ?_
      exact ⟨_, _, _, _, _, rfl, (I0), (fun _ => rfl), (kp f1), (kp f2), (kp f3), (kp f4)⟩
    · obtain rfl := Option.some.inj ho
      have y0 : ww.cell? ⟨ga, 0, none⟩ = some (.slice A n c) := (I0.cell (p := ⟨ga, 0, none⟩) hgl).trans xa0
      have y1 : ww.cell? ⟨ga, 1, none⟩ = some (.slice R m d) := (I0.cell (p := ⟨ga, 1, none⟩) hgl).trans xa1
      have y2 : ww.cell? ⟨ga, 2, none⟩ = some (.slice K p q) := (I0.cell (p := ⟨ga, 2, none⟩) hgl).trans xa2
      have y3 : ww.cell? ⟨ga, 3, none⟩ = some (.int .i64 i) := (I0.cell (p := ⟨ga, 3, none⟩) hgl).trans xa3
      refine wpOp_step rfl (fun K' hK => ?_)
      go_simp
      refine hK _ _ ?_
      exact ⟨_, _, _, _, _, rfl, (I0), (kp f0), (fun _ => rfl), (kp f2), (kp f3), (kp f4)⟩
    · obtain rfl := Option.some.inj ho
      have g1 := f1 (hd ⟨1, .data⟩ (by simp) rfl)
      subst g1
      refine wpOp_step rfl (fun K' hK => ?_)
      go_simp
      refine (toLazy_any _ _ _ _ _ _ _ _ _ h l i ww (hs.up (bbk.trans (I0.mono bbk.size))) (hk.up (bbk.trans (I0.mono bbk.size))) (by omega) (by omega) (by omega) Z3.out).mono ?_
      rintro e w' ⟨u1, u2, u3, rfl, oc, b5⟩
      obtain ⟨rv, ow⟩ := oc
      have h9r := ow.heap.reads
      have h9k := ow.mks.reads
      refine hK _ _ ?_
      exact ⟨_, _, _, _, _, rfl, (I0.trans (b5.mono I0.size)), (kp f0), (kp f1), (fun _ => ⟨u1, u2, u3, rfl, h9r, h9k⟩), (kp f3), (kp f4)⟩
    · obtain rfl := Option.some.inj ho
      have g0 := f0 (hd ⟨0, .data⟩ (by simp) rfl)
      have g2 := f2 (hd ⟨2, .data⟩ (by simp) rfl)
      subst g0
      obtain ⟨u1, u2, u3, rfl, h9r, h9k⟩ := g2
      refine wpOp_step rfl (fun K' hK => ?_)
      go_simp
      refine (eqLazy_any _ _ _ _ _ _ _ _ _ _ _ _ _ _ _ _ _ _ h h l l i i ww (xr.up I0) (xk.up I0) h9r h9k (by omega) (by omega) (by omega) (by omega) (by omega) (by omega) Z3.out Z3.out).mono ?_
      rw [decide_eq_true (show h = h ∧ l = l ∧ i = i from ⟨rfl, rfl, rfl⟩)]
      rintro e w' ⟨rfl, b5⟩
      refine hK _ _ ?_
      exact ⟨_, _, _, _, _, rfl, (I0.trans (b5.mono I0.size)), (kp f0), (kp f1), (fun _ => ⟨u1, u2, u3, rfl, h9r.up b5, h9k.up b5⟩), (fun _ => rfl), (kp f4)⟩
    · obtain rfl := Option.some.inj ho
      have g3 := f3 (hd ⟨3, .data⟩ (by simp) rfl)
      subst g3
      refine wpOp_step rfl (fun K' hK => ?_)
      go_simp
      refine hK _ _ ?_
      exact ⟨_, _, _, _, _, rfl, (I0), (kp f0), (kp f1), (kp f2), (kp f3), (fun _ => rfl)⟩
  case hdone =>
    rintro L ac ww hall ⟨t22, t23, t24, t25, t26, rfl, I0, f0, f1, f2, f3, f4⟩
    have e0 := f0 (hall 0 (by decide))
    have e1 := f1 (hall 1 (by decide))
    have e2 := f2 (hall 2 (by decide))
    have e3 := f3 (hall 3 (by decide))
    have e4 := f4 (hall 4 (by decide))
    clear f0 f1 f2 f3 f4
    subst e3 e4
    clear e0 e1 e2
    have bbf := bbk.trans (I0.mono bbk.size)
    go_wp2_with fail
    go_ret
    exact ⟨rfl, bbf⟩
end Go.Proofs.Ytakdjiojahlnmaa
