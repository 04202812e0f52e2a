/- For every list of bytes the law FnMarkSame returns true (P123), over the program's contracts. No conditions. -/
import Derived.Test.YtmjejcfifkbkoaaQm
import Derived.Test.YtmjejcfifkbkoaaQi
import Derived.Test.YtmjejcfifkbkoaaQf
import Derived.Test.YtmjejcfifkbkoaaHs
import Derived.Test.YtmjejcfifkbkoaaGx
import Derived.Test.YtmjejcfifkbkoaaHx
import Derived.Test.YtmjejcfifkbkoaaGa
import Derived.Deep.Cut
namespace Go.Proofs.Ytmjejcfifkbkoaa
open Go.RowKit
set_option maxRecDepth 100000

set_option maxRecDepth 100000 in
set_option maxHeartbeats 8000000 in
theorem markSameLaw_walk (A : Option Addr) (n c : Nat) (w : World) (h : Bytes w w.heap.size A n) (hc : n ≤ c) (hn : n ≤ 9223372036854775807) :
    Calls Try.prog 10 #[.slice A n c] w fun e w' => e = .returned (.bool true) ∧ Below w.heap.size w w' := by
  by_cases hs : n ≤ 1048576
  case neg =>
    have hs' : (1048576 : Int) < (n : Int) := by omega
    go_enter Try.func10, Try.ntmps10
    go_wp2
    go_ret
    exact ⟨rfl, Below.refl _ _⟩
  have hs' : decide ((1048576 : Int) < (n : Int)) = false := by simp; omega
  go_enter Try.func10, Try.ntmps10
  go_wp2_with fail
  refine (drawMarkDepth_any _ _ _ _ h hc hn).mono ?_
  rintro e w1 ⟨A1, nn, c1, R1, m, d1, hh, rfl, hc1, hd1, hsH, hsm, b1⟩
  have hn41 : nn ≤ 41 := by rw [← hsH.cells.1]; exact hsm.1
  have hm4 : m ≤ 4 := by rw [← hsH.roots.1]; exact hsm.2.1
  have bA : Below w1.heap.size w1 (w1.alloc (.cells #[.slice A1 nn c1, .slice R1 m d1] 28)) := (Below.refl _ _).alloc (Nat.le_refl _) _
  have hs2 := hsH.up bA
  have bx := Rw.new w1 28 #[.slice A1 nn c1, .slice R1 m d1]
  have bb := b1.trans (bA.mono b1.size)
  clear hsH bA hsm b1
  go_upto_region 4 with fail
  generalize w1.alloc (.cells #[.slice A1 nn c1, .slice R1 m d1] 28) = w2 at hs2 bx bb ⊢
  generalize w1.heap.size = b at bx ⊢
  have x0 : w2.cell? ⟨b, 0, none⟩ = some (.slice A1 nn c1) := bx.cell 0
  have x1 : w2.cell? ⟨b, 1, none⟩ = some (.slice R1 m d1) := bx.cell 1
  obtain ⟨xs, hxs⟩ : ∃ xs, Hps.depthH hh = xs := ⟨_, rfl⟩
  have HX := Lib.hid hxs
  have hxl : xs.length ≤ 41 := by rw [← hxs]; have := Hps.depth_le hh; have := hs2.cells.1; omega
  clear hxs
  go_wp2_with fail
  refine (markDepth_any _ _ _ _ _ _ hh _ hs2 (by omega) (by omega) hc1 hd1).mono ?_
  rw [HX.out]
  rintro e w3 ⟨v, rfl, ov, b3⟩
  obtain ⟨Av, cv, rfl, -⟩ := ov.form
  have bx3 := bx.keep b3 bx.lt
  have hs3 := hs2.up b3
  have bb3 := bb.trans (b3.mono bb.size)
  have y0 : w3.cell? ⟨b, 0, none⟩ = some (.slice A1 nn c1) := bx3.cell 0
  have y1 : w3.cell? ⟨b, 1, none⟩ = some (.slice R1 m d1) := bx3.cell 1
  have hr3 := ov.reads
  clear hs2 bx x0 x1 ov b3 bb
  go_wp2_with fail
  refine (mMarkDepth_any _ _ _ _ _ _ hh _ hs3 (by omega) (by omega)).mono ?_
  rw [HX.out]
  rintro e w4 ⟨v, rfl, ov4, b4⟩
  obtain ⟨Aw, cw, rfl, -⟩ := ov4.form
  have bx4 := bx3.keep b4 bx3.lt
  have hs4 := hs3.up b4
  have bb4 := bb3.trans (b4.mono bb3.size)
  have hr4 := hr3.up b4
  have hr4' := ov4.reads
  clear hs3 bx3 y0 y1 ov4 b4 bb3 hr3
  go_wp2_with fail
  refine (sameInts_any _ _ _ _ _ _ xs xs _ hr4 hr4' (by omega) (by omega)).mono ?_
  rw [decide_eq_true rfl]
  rintro e w5 ⟨rfl, b5⟩
  have bx5 := bx4.keep b5 bx4.lt
  have hs5 := hs4.up b5
  have bb5 := bb4.trans (b5.mono bb4.size)
  have hr5 := hr4.up b5
  have y0 : w5.cell? ⟨b, 0, none⟩ = some (.slice A1 nn c1) := bx5.cell 0
  have y1 : w5.cell? ⟨b, 1, none⟩ = some (.slice R1 m d1) := bx5.cell 1
  clear hs4 bx4 hr4' b5 bb4 hr4
  go_wp2_with fail
  obtain ⟨ys, hys⟩ : ∃ ys, Hps.orderH hh = ys := ⟨_, rfl⟩
  have HY := Lib.hid hys
  have HLE := Lib.hid (show xs.length = ys.length by rw [← HX.out, ← HY.out]; exact Hps.depth_len hh)
  have HFE := Lib.hid (show xs.head? = ys.head? by rw [← HX.out, ← HY.out]; exact Hps.depth_first hh)
  have HIN : Hid (∀ x ∈ xs, ∃ k : Nat, x = k ∧ k < nn) := Lib.hid (by rw [← HX.out, ← hs5.cells.1]; exact fun x hx => Hps.depth_nat hx)
  have HSU : Hid (∀ x ∈ ys, x ∈ xs) := Lib.hid (by rw [← HX.out, ← HY.out]; exact fun x hx => Hps.depth_order.2 hx)
  clear hys
  refine (metOrder_any _ _ _ _ _ _ hh _ hs5 (by omega) (by omega) hc1 hd1).mono ?_
  rw [HY.out]
  rintro e w6 ⟨v6, rfl, o6, b6⟩
  obtain ⟨A6, c6, rfl, -⟩ := o6.form
  have bx6 := bx5.keep b6 bx5.lt
  have bb6 := bb5.trans (b6.mono bb5.size)
  have hr6 := hr5.up b6
  have hq6 := o6.reads
  have x0 : w6.cell? ⟨b, 0, none⟩ = some (.slice A1 nn c1) := bx6.cell 0
  have hmk := makeO w6 nn (by omega)
  have ow := own_madeO w6 nn (by omega)
  have bM : Below w6.heap.size w6 (w6.alloc (.cells (Array.replicate nn (.bool false)) 4)) := (Below.refl _ _).alloc (Nat.le_refl _) _
  obtain ⟨w7, hw7⟩ : ∃ w7, w6.alloc (.cells (Array.replicate nn (.bool false)) 4) = w7 := ⟨_, rfl⟩
  rw [hw7] at hmk ow bM
  have HR6 := Lib.hid hr6
  have HQ6 := Lib.hid hq6
  obtain ⟨ly, hly⟩ : ∃ ly, ys.length = ly := ⟨_, rfl⟩
  have HLY := Lib.hid hly
  rw [hly] at HQ6 ⊢
  have hly41 : ly ≤ 41 := by have := HLE.out; omega
  clear hw7 hs5 bx5 b6 bb5 hr5 y0 y1 hr6 bx6 hq6 o6 hly
  go_wp2_with fail
  clear hmk x0
  go_loopw [7] (fun i wr => ∃ (k : Nat) (outs : List Bool), k ≤ xs.length ∧ i = .int .i64 k ∧ OwnO wr w6.heap.size (.slice (some ⟨w6.heap.size, 0, none⟩) nn nn) outs ∧ outs.length = nn ∧ Hid (∀ j : Nat, outs[j]? = some true ↔ (j : Int) ∈ xs.take k) ∧ Below w6.heap.size w6 wr) (fun i _ => xs.length - (intOf i).toNat)
  case atStart => exact ⟨0, _, Nat.zero_le _, rfl, ow, by simp, Lib.hid (fun j => by simp [List.getElem?_replicate]), bM⟩
  case round =>
    clear ow bM
    obtain ⟨k, outs, hk, rfl, ow, hol, HM, bw⟩ := hrel
    by_cases hlt : k < xs.length
    · have hlt' : (k : Int) < xs.length := by omega
      obtain ⟨gl, ol, x, e1, hgl, hx, d1⟩ := (HR6.out.below bw).at_ hlt
      subst e1
      obtain ⟨y, rfl, hy⟩ := HIN.out x (List.mem_of_getElem? hx)
      obtain ⟨g', o', bo, e2, _, hbk, d2⟩ := ow.reads.at_ (k := y) hy
      injection e2 with e2
      injection e2 with e3 e4
      subst e3 e4
      rw [Nat.zero_add] at d2
      have fz : wr.frozen? ⟨w6.heap.size, y, none⟩ = false := ow.frozen hol y
      have hneg : decide ((y : Int) < 0) = false := decide_eq_false (by omega)
      have hge : decide ((nn : Int) ≤ (y : Int)) = false := decide_eq_false (by omega)
      have hyn : (y : Int) < nn := by omega
      have ow2 := ow.put' (j := y) hol true
      have HM2 : Hid (∀ j : Nat, (outs.set y true)[j]? = some true ↔ (j : Int) ∈ xs.take (k + 1)) := Lib.hid (fun j => by
        rw [List.take_add_one, hx, List.mem_append, ← HM.out j, List.getElem?_set]
        by_cases e : y = j
        · subst e
          simp [hol, hy]
        · rw [if_neg e]
          simp
          omega)
      have bw2 := bw.setCell (p := ⟨w6.heap.size, y, none⟩) (Nat.le_refl _) (.bool true)
      clear hx hbk ow
      go_wp2_with fail
      go_roundw
      case rel => exact ⟨k + 1, _, by omega, by go_num, ow2, by simp [hol], HM2, bw2⟩
      case measure => simp [intOf]; omega
    · obtain rfl : k = xs.length := by omega
      have HMA : Hid (∀ j : Nat, outs[j]? = some true ↔ (j : Int) ∈ xs) := Lib.hid (fun j => by
        have := HM.out j
        rwa [List.take_of_length_le (Nat.le_refl _)] at this)
      have bb7 := bb6.trans (bw.mono bb6.size)
      have ro := ow.reads
      have hr7 := HR6.out.up bw
      have hq7 := HQ6.out.up bw
      clear ow HM bw HR6 HQ6 hlt hk
      go_wp2_with fail
      go_loopw [8] (fun i ww => ∃ k : Nat, k ≤ ly ∧ i = .int .i64 k ∧ ww = wr) (fun i _ => ly - (intOf i).toNat)
      case atStart => exact ⟨0, Nat.zero_le _, rfl, rfl⟩
      case round =>
        obtain ⟨k, hk, rfl, rfl⟩ := hrel
        by_cases hlt : k < ly
        · have hlt' : (k : Int) < ly := by omega
          obtain ⟨gl, ol, x, e1, hgl, hx, d1⟩ := hq7.at_ hlt
          subst e1
          have hxm := HSU.out x (List.mem_of_getElem? hx)
          obtain ⟨y, rfl, hy⟩ := HIN.out x hxm
          obtain ⟨g', o', bo, e2, _, hbk, d2⟩ := ro.at_ (k := y) hy
          injection e2 with e2
          injection e2 with e3 e4
          subst e3 e4
          rw [Nat.zero_add] at d2
          rw [(HMA.out y).2 hxm] at hbk
          obtain rfl := Option.some.inj hbk
          have hneg : decide ((y : Int) < 0) = false := decide_eq_false (by omega)
          have hge : decide ((nn : Int) ≤ (y : Int)) = false := decide_eq_false (by omega)
          have hyn : (y : Int) < nn := by omega
          clear hx hxm
          go_wp2_with fail
          go_roundw
          case rel => exact ⟨k + 1, by omega, by go_num, trivial⟩
          case measure => simp [intOf]; omega
        · obtain rfl : k = ly := by omega
          obtain ⟨lx, hlx⟩ : ∃ lx, xs.length = lx := ⟨_, rfl⟩
          have hle : lx = k := by rw [← hlx, HLE.out, HLY.out]
          subst hle
          have HLX := Lib.hid hlx
          rw [hlx] at hr7 hxl ⊢
          clear hlx hlt hk ro
          go_upto_region 20 with fail
          by_cases h0 : lx = 0
          · have hz : ((lx : Int) == 0) = true := by rw [h0]; rfl
            clear h0
            refine wp_region_inv (by kernel_rfl) (by kernel_rfl) (fun L ac ww => ∃ t2 t83 t84 t85 t86 t87 t88 t89 t90 t91 t92 t93 t94 t95 t96 t97 t98 t99 t100 t101 t102 t103 t104 : Value, ac = { tmps := #[Value.slice A n c, undef, t2, Value.pointer (some { block := b, off := 0 }), Value.slice Av lx cv, Value.slice A6 lx c6, Value.slice (some { block := w6.heap.size, off := 0 }) nn nn, Value.int IntKind.i64 ↑lx, Value.int IntKind.i64 ↑lx, Value.slice A n c, Value.int IntKind.i64 ↑n, Value.bool false, Value.slice A n c, heapV A1 nn c1 R1 m d1, Value.agg #[Value.slice A1 nn c1, Value.slice R1 m d1], Value.slice Av lx cv, Value.slice Av lx cv, Value.agg #[Value.slice A1 nn c1, Value.slice R1 m d1], Value.slice Aw lx cw, Value.bool true, Value.bool false, Value.agg #[Value.slice A1 nn c1, Value.slice R1 m d1], Value.slice A6 lx c6, Value.pointer (some { block := b, off := 0 }), Value.slice A1 nn c1, Value.int IntKind.i64 ↑nn, Value.slice (some { block := w6.heap.size, off := 0 }) nn nn, Value.int IntKind.i64 ↑lx, Value.slice Av lx cv, Value.int IntKind.i64 ↑lx, Value.bool false, u31, u32, u33, u34, u35, u36, u37, u38, u39, u40, u41, u42, u43, u44, u45, u46, u47, u48, u49, u50, u51, u52, Value.int IntKind.i64 ↑lx, Value.slice A6 lx c6, Value.int IntKind.i64 ↑lx, Value.bool false, u57, u58, u59, u60, u61, u62, u63, u64, u65, u66, u67, u68, u69, u70, u71, u72, u73, u74, u75, u76, u77, u78, u79, u80, u81, u82, t83, t84, t85, t86, t87, t88, t89, t90, t91, t92, t93, t94, t95, t96, t97, t98, t99, t100, t101, t102, t103, t104], defers := [] } ∧ (Below wr.heap.size wr ww) ∧ (L 0 = true → t83 = Value.slice Av lx cv) ∧ (L 1 = true → t84 = .int .i64 (lx : Nat)) ∧ (L 2 = true → t85 = Value.slice A6 lx c6) ∧ (L 3 = true → t86 = .int .i64 (lx : Nat)) ∧ (L 4 = true → t87 = .bool true) ∧ (L 5 = true → t88 = .bool true) ∧ (L 6 = true → t89 = Value.slice Av lx cv) ∧ (L 7 = true → t90 = .int .i64 (lx : Nat)) ∧ (L 8 = true → t91 = .bool true) ∧ (L 9 = true → t92 = .bool true) ∧ (L 10 = true → True) ∧ (L 11 = true → True) ∧ (L 12 = true → True) ∧ (L 13 = true → True) ∧ (L 14 = true → True) ∧ (L 15 = true → True) ∧ (L 16 = true → True) ∧ (L 17 = true → t100 = .bool true) ∧ (L 18 = true → t101 = .bool true) ∧ (L 19 = true → t102 = .bool true) ∧ (L 20 = true → t103 = .bool true) ∧ (L 21 = true → t104 = .bool true) ∧ (L 22 = true → t2 = .bool true)) ?h0 ?hstep ?hdone
            case h0 => exact ⟨_, _, _, _, _, _, _, _, _, _, _, _, _, _, _, _, _, _, _, _, _, _, _, rfl, (Below.refl _ _).drew, (fun h => absurd h Bool.false_ne_true), (fun h => absurd h Bool.false_ne_true), (fun h => absurd h Bool.false_ne_true), (fun h => absurd h Bool.false_ne_true), (fun h => absurd h Bool.false_ne_true), (fun h => absurd h Bool.false_ne_true), (fun h => absurd h Bool.false_ne_true), (fun h => absurd h Bool.false_ne_true), (fun h => absurd h Bool.false_ne_true), (fun h => absurd h Bool.false_ne_true), (fun h => absurd h Bool.false_ne_true), (fun h => absurd h Bool.false_ne_true), (fun h => absurd h Bool.false_ne_true), (fun h => absurd h Bool.false_ne_true), (fun h => absurd h Bool.false_ne_true), (fun h => absurd h Bool.false_ne_true), (fun h => absurd h Bool.false_ne_true), (fun h => absurd h Bool.false_ne_true), (fun h => absurd h Bool.false_ne_true), (fun h => absurd h Bool.false_ne_true), (fun h => absurd h Bool.false_ne_true), (fun h => absurd h Bool.false_ne_true), (fun h => absurd h Bool.false_ne_true)⟩
            case hstep =>
              rintro L ac ww i o ho hL hd ⟨t2, t83, t84, t85, t86, t87, t88, t89, t90, t91, t92, t93, t94, t95, t96, t97, t98, t99, t100, t101, t102, t103, t104, rfl, I0, f0, f1, f2, f3, f4, f5, f6, f7, f8, f9, f10, f11, f12, f13, f14, f15, f16, f17, f18, f19, f20, f21, f22⟩
              have hi : i < 23 := (Array.getElem?_eq_some_iff.1 ho).1
              obtain rfl | rfl | rfl | rfl | rfl | rfl | rfl | rfl | rfl | rfl | rfl | rfl | rfl | rfl | rfl | rfl | rfl | rfl | rfl | rfl | rfl | rfl | rfl : i = 0 ∨ i = 1 ∨ i = 2 ∨ i = 3 ∨ i = 4 ∨ i = 5 ∨ i = 6 ∨ i = 7 ∨ i = 8 ∨ i = 9 ∨ i = 10 ∨ i = 11 ∨ i = 12 ∨ i = 13 ∨ i = 14 ∨ i = 15 ∨ i = 16 ∨ i = 17 ∨ i = 18 ∨ i = 19 ∨ i = 20 ∨ i = 21 ∨ i = 22 := by omega
              · obtain rfl := Option.some.inj ho
                refine wpOp_step rfl (fun K' hK => ?_)
                go_simp
                refine hK _ _ ?_
                exact ⟨_, _, _, _, _, _, _, _, _, _, _, _, _, _, _, _, _, _, _, _, _, _, _, rfl, (I0), (fun _ => rfl), (kp f1), (kp f2), (kp f3), (kp f4), (kp f5), (kp f6), (kp f7), (kp f8), (kp f9), (kp f10), (kp f11), (kp f12), (kp f13), (kp f14), (kp f15), (kp f16), (kp f17), (kp f18), (kp f19), (kp f20), (kp f21), (kp f22)⟩
              · obtain rfl := Option.some.inj ho
                have g0 := f0 (hd ⟨0, .data⟩ (by simp) rfl)
                subst g0
                refine wpOp_step rfl (fun K' hK => ?_)
                go_simp
                refine hK _ _ ?_
                exact ⟨_, _, _, _, _, _, _, _, _, _, _, _, _, _, _, _, _, _, _, _, _, _, _, rfl, (I0), (kp f0), (fun _ => rfl), (kp f2), (kp f3), (kp f4), (kp f5), (kp f6), (kp f7), (kp f8), (kp f9), (kp f10), (kp f11), (kp f12), (kp f13), (kp f14), (kp f15), (kp f16), (kp f17), (kp f18), (kp f19), (kp f20), (kp f21), (kp f22)⟩
              · obtain rfl := Option.some.inj ho
                refine wpOp_step rfl (fun K' hK => ?_)
                go_simp
                refine hK _ _ ?_
                exact ⟨_, _, _, _, _, _, _, _, _, _, _, _, _, _, _, _, _, _, _, _, _, _, _, rfl, (I0), (kp f0), (kp f1), (fun _ => rfl), (kp f3), (kp f4), (kp f5), (kp f6), (kp f7), (kp f8), (kp f9), (kp f10), (kp f11), (kp f12), (kp f13), (kp f14), (kp f15), (kp f16), (kp f17), (kp f18), (kp f19), (kp f20), (kp f21), (kp f22)⟩
              · obtain rfl := Option.some.inj ho
                have g2 := f2 (hd ⟨2, .data⟩ (by simp) rfl)
                subst g2
                refine wpOp_step rfl (fun K' hK => ?_)
                go_simp
                refine hK _ _ ?_
                exact ⟨_, _, _, _, _, _, _, _, _, _, _, _, _, _, _, _, _, _, _, _, _, _, _, rfl, (I0), (kp f0), (kp f1), (kp f2), (fun _ => rfl), (kp f4), (kp f5), (kp f6), (kp f7), (kp f8), (kp f9), (kp f10), (kp f11), (kp f12), (kp f13), (kp f14), (kp f15), (kp f16), (kp f17), (kp f18), (kp f19), (kp f20), (kp f21), (kp f22)⟩
              · obtain rfl := Option.some.inj ho
                have g1 := f1 (hd ⟨1, .data⟩ (by simp) rfl)
                have g3 := f3 (hd ⟨3, .data⟩ (by simp) rfl)
                subst g1
                subst g3
                refine wpOp_step rfl (fun K' hK => ?_)
                go_simp
                refine hK _ _ ?_
                exact ⟨_, _, _, _, _, _, _, _, _, _, _, _, _, _, _, _, _, _, _, _, _, _, _, rfl, (I0), (kp f0), (kp f1), (kp f2), (kp f3), (fun _ => rfl), (kp f5), (kp f6), (kp f7), (kp f8), (kp f9), (kp f10), (kp f11), (kp f12), (kp f13), (kp f14), (kp f15), (kp f16), (kp f17), (kp f18), (kp f19), (kp f20), (kp f21), (kp f22)⟩
              · obtain rfl := Option.some.inj ho
                have g4 := f4 (hd ⟨4, .data⟩ (by simp) rfl)
                subst g4
                refine wpOp_step rfl (fun K' hK => ?_)
                go_simp
                refine hK _ _ ?_
                exact ⟨_, _, _, _, _, _, _, _, _, _, _, _, _, _, _, _, _, _, _, _, _, _, _, rfl, (I0), (kp f0), (kp f1), (kp f2), (kp f3), (kp f4), (fun _ => rfl), (kp f6), (kp f7), (kp f8), (kp f9), (kp f10), (kp f11), (kp f12), (kp f13), (kp f14), (kp f15), (kp f16), (kp f17), (kp f18), (kp f19), (kp f20), (kp f21), (kp f22)⟩
              · obtain rfl := Option.some.inj ho
                have g5 := f5 (hd ⟨5, .guard⟩ (by simp) rfl)
                subst g5
                refine wpOp_step rfl (fun K' hK => ?_)
                go_simp
                refine hK _ _ ?_
                exact ⟨_, _, _, _, _, _, _, _, _, _, _, _, _, _, _, _, _, _, _, _, _, _, _, rfl, (I0), (kp f0), (kp f1), (kp f2), (kp f3), (kp f4), (kp f5), (fun _ => rfl), (kp f7), (kp f8), (kp f9), (kp f10), (kp f11), (kp f12), (kp f13), (kp f14), (kp f15), (kp f16), (kp f17), (kp f18), (kp f19), (kp f20), (kp f21), (kp f22)⟩
              · obtain rfl := Option.some.inj ho
                have g6 := f6 (hd ⟨6, .data⟩ (by simp) rfl)
                subst g6
                have g5 := f5 (hd ⟨5, .guard⟩ (by simp) rfl)
                subst g5
                refine wpOp_step rfl (fun K' hK => ?_)
                go_simp
                refine hK _ _ ?_
                exact ⟨_, _, _, _, _, _, _, _, _, _, _, _, _, _, _, _, _, _, _, _, _, _, _, rfl, (I0), (kp f0), (kp f1), (kp f2), (kp f3), (kp f4), (kp f5), (kp f6), (fun _ => rfl), (kp f8), (kp f9), (kp f10), (kp f11), (kp f12), (kp f13), (kp f14), (kp f15), (kp f16), (kp f17), (kp f18), (kp f19), (kp f20), (kp f21), (kp f22)⟩
              · obtain rfl := Option.some.inj ho
                have g7 := f7 (hd ⟨7, .data⟩ (by simp) rfl)
                subst g7
                have g5 := f5 (hd ⟨5, .guard⟩ (by simp) rfl)
                subst g5
                refine wpOp_step rfl (fun K' hK => ?_)
                go_simp
                refine hK _ _ ?_
                exact ⟨_, _, _, _, _, _, _, _, _, _, _, _, _, _, _, _, _, _, _, _, _, _, _, rfl, (I0), (kp f0), (kp f1), (kp f2), (kp f3), (kp f4), (kp f5), (kp f6), (kp f7), (fun _ => rfl), (kp f9), (kp f10), (kp f11), (kp f12), (kp f13), (kp f14), (kp f15), (kp f16), (kp f17), (kp f18), (kp f19), (kp f20), (kp f21), (kp f22)⟩
              · obtain rfl := Option.some.inj ho
                have g8 := f8 (hd ⟨8, .data⟩ (by simp) rfl)
                subst g8
                have g5 := f5 (hd ⟨5, .guard⟩ (by simp) rfl)
                subst g5
                refine wpOp_step rfl (fun K' hK => ?_)
                go_simp
                refine hK _ _ ?_
                exact ⟨_, _, _, _, _, _, _, _, _, _, _, _, _, _, _, _, _, _, _, _, _, _, _, rfl, (I0), (kp f0), (kp f1), (kp f2), (kp f3), (kp f4), (kp f5), (kp f6), (kp f7), (kp f8), (fun _ => rfl), (kp f10), (kp f11), (kp f12), (kp f13), (kp f14), (kp f15), (kp f16), (kp f17), (kp f18), (kp f19), (kp f20), (kp f21), (kp f22)⟩
              · obtain rfl := Option.some.inj ho
                have g9 := f9 (hd ⟨9, .guard⟩ (by simp) rfl)
                subst g9
                refine wpOp_step rfl (fun K' hK => ?_)
                go_simp
                refine hK _ _ ?_
                exact ⟨_, _, _, _, _, _, _, _, _, _, _, _, _, _, _, _, _, _, _, _, _, _, _, rfl, (I0), (kp f0), (kp f1), (kp f2), (kp f3), (kp f4), (kp f5), (kp f6), (kp f7), (kp f8), (kp f9), (fun _ => trivial), (kp f11), (kp f12), (kp f13), (kp f14), (kp f15), (kp f16), (kp f17), (kp f18), (kp f19), (kp f20), (kp f21), (kp f22)⟩
              · obtain rfl := Option.some.inj ho
                have g10 := f10 (hd ⟨10, .data⟩ (by simp) rfl)
                have g9 := f9 (hd ⟨9, .guard⟩ (by simp) rfl)
                subst g9
                refine wpOp_step rfl (fun K' hK => ?_)
                go_simp
                refine hK _ _ ?_
                exact ⟨_, _, _, _, _, _, _, _, _, _, _, _, _, _, _, _, _, _, _, _, _, _, _, rfl, (I0), (kp f0), (kp f1), (kp f2), (kp f3), (kp f4), (kp f5), (kp f6), (kp f7), (kp f8), (kp f9), (kp f10), (fun _ => trivial), (kp f12), (kp f13), (kp f14), (kp f15), (kp f16), (kp f17), (kp f18), (kp f19), (kp f20), (kp f21), (kp f22)⟩
              · obtain rfl := Option.some.inj ho
                have g11 := f11 (hd ⟨11, .data⟩ (by simp) rfl)
                have g9 := f9 (hd ⟨9, .guard⟩ (by simp) rfl)
                subst g9
                refine wpOp_step rfl (fun K' hK => ?_)
                go_simp
                refine hK _ _ ?_
                exact ⟨_, _, _, _, _, _, _, _, _, _, _, _, _, _, _, _, _, _, _, _, _, _, _, rfl, (I0), (kp f0), (kp f1), (kp f2), (kp f3), (kp f4), (kp f5), (kp f6), (kp f7), (kp f8), (kp f9), (kp f10), (kp f11), (fun _ => trivial), (kp f13), (kp f14), (kp f15), (kp f16), (kp f17), (kp f18), (kp f19), (kp f20), (kp f21), (kp f22)⟩
              · obtain rfl := Option.some.inj ho
                have g9 := f9 (hd ⟨9, .guard⟩ (by simp) rfl)
                subst g9
                refine wpOp_step rfl (fun K' hK => ?_)
                go_simp
                refine hK _ _ ?_
                exact ⟨_, _, _, _, _, _, _, _, _, _, _, _, _, _, _, _, _, _, _, _, _, _, _, rfl, (I0), (kp f0), (kp f1), (kp f2), (kp f3), (kp f4), (kp f5), (kp f6), (kp f7), (kp f8), (kp f9), (kp f10), (kp f11), (kp f12), (fun _ => trivial), (kp f14), (kp f15), (kp f16), (kp f17), (kp f18), (kp f19), (kp f20), (kp f21), (kp f22)⟩
              · obtain rfl := Option.some.inj ho
                have g13 := f13 (hd ⟨13, .data⟩ (by simp) rfl)
                have g9 := f9 (hd ⟨9, .guard⟩ (by simp) rfl)
                subst g9
                refine wpOp_step rfl (fun K' hK => ?_)
                go_simp
                refine hK _ _ ?_
                exact ⟨_, _, _, _, _, _, _, _, _, _, _, _, _, _, _, _, _, _, _, _, _, _, _, rfl, (I0), (kp f0), (kp f1), (kp f2), (kp f3), (kp f4), (kp f5), (kp f6), (kp f7), (kp f8), (kp f9), (kp f10), (kp f11), (kp f12), (kp f13), (fun _ => trivial), (kp f15), (kp f16), (kp f17), (kp f18), (kp f19), (kp f20), (kp f21), (kp f22)⟩
              · obtain rfl := Option.some.inj ho
                have g14 := f14 (hd ⟨14, .data⟩ (by simp) rfl)
                have g9 := f9 (hd ⟨9, .guard⟩ (by simp) rfl)
                subst g9
                refine wpOp_step rfl (fun K' hK => ?_)
                go_simp
                refine hK _ _ ?_
                exact ⟨_, _, _, _, _, _, _, _, _, _, _, _, _, _, _, _, _, _, _, _, _, _, _, rfl, (I0), (kp f0), (kp f1), (kp f2), (kp f3), (kp f4), (kp f5), (kp f6), (kp f7), (kp f8), (kp f9), (kp f10), (kp f11), (kp f12), (kp f13), (kp f14), (fun _ => trivial), (kp f16), (kp f17), (kp f18), (kp f19), (kp f20), (kp f21), (kp f22)⟩
              · obtain rfl := Option.some.inj ho
                have g12 := f12 (hd ⟨12, .data⟩ (by simp) rfl)
                have g15 := f15 (hd ⟨15, .data⟩ (by simp) rfl)
                have g9 := f9 (hd ⟨9, .guard⟩ (by simp) rfl)
                subst g9
                refine wpOp_step rfl (fun K' hK => ?_)
                go_simp
                refine hK _ _ ?_
                exact ⟨_, _, _, _, _, _, _, _, _, _, _, _, _, _, _, _, _, _, _, _, _, _, _, rfl, (I0), (kp f0), (kp f1), (kp f2), (kp f3), (kp f4), (kp f5), (kp f6), (kp f7), (kp f8), (kp f9), (kp f10), (kp f11), (kp f12), (kp f13), (kp f14), (kp f15), (fun _ => trivial), (kp f17), (kp f18), (kp f19), (kp f20), (kp f21), (kp f22)⟩
              · obtain rfl := Option.some.inj ho
                have g9 := f9 (hd ⟨9, .data⟩ (by simp) rfl)
                have g16 := f16 (hd ⟨16, .data⟩ (by simp) rfl)
                subst g9
                have g5 := f5 (hd ⟨5, .guard⟩ (by simp) rfl)
                subst g5
                refine wpOp_step rfl (fun K' hK => ?_)
                go_simp
                refine hK _ _ ?_
                exact ⟨_, _, _, _, _, _, _, _, _, _, _, _, _, _, _, _, _, _, _, _, _, _, _, rfl, (I0), (kp f0), (kp f1), (kp f2), (kp f3), (kp f4), (kp f5), (kp f6), (kp f7), (kp f8), (kp f9), (kp f10), (kp f11), (kp f12), (kp f13), (kp f14), (kp f15), (kp f16), (fun _ => rfl), (kp f18), (kp f19), (kp f20), (kp f21), (kp f22)⟩
              · obtain rfl := Option.some.inj ho
                have g5 := f5 (hd ⟨5, .data⟩ (by simp) rfl)
                have g17 := f17 (hd ⟨17, .data⟩ (by simp) rfl)
                subst g5
                subst g17
                refine wpOp_step rfl (fun K' hK => ?_)
                go_simp
                refine hK _ _ ?_
                exact ⟨_, _, _, _, _, _, _, _, _, _, _, _, _, _, _, _, _, _, _, _, _, _, _, rfl, (I0), (kp f0), (kp f1), (kp f2), (kp f3), (kp f4), (kp f5), (kp f6), (kp f7), (kp f8), (kp f9), (kp f10), (kp f11), (kp f12), (kp f13), (kp f14), (kp f15), (kp f16), (kp f17), (fun _ => rfl), (kp f19), (kp f20), (kp f21), (kp f22)⟩
              · obtain rfl := Option.some.inj ho
                have g18 := f18 (hd ⟨18, .data⟩ (by simp) rfl)
                subst g18
                refine wpOp_step rfl (fun K' hK => ?_)
                go_simp
                refine hK _ _ ?_
                exact ⟨_, _, _, _, _, _, _, _, _, _, _, _, _, _, _, _, _, _, _, _, _, _, _, rfl, (I0), (kp f0), (kp f1), (kp f2), (kp f3), (kp f4), (kp f5), (kp f6), (kp f7), (kp f8), (kp f9), (kp f10), (kp f11), (kp f12), (kp f13), (kp f14), (kp f15), (kp f16), (kp f17), (kp f18), (fun _ => rfl), (kp f20), (kp f21), (kp f22)⟩
              · obtain rfl := Option.some.inj ho
                have g19 := f19 (hd ⟨19, .guard⟩ (by simp) rfl)
                subst g19
                refine wpOp_step rfl (fun K' hK => ?_)
                go_simp
                refine (alive_any ww).mono ?_
                rintro e w' ⟨rfl, b5⟩
                refine hK _ _ ?_
                exact ⟨_, _, _, _, _, _, _, _, _, _, _, _, _, _, _, _, _, _, _, _, _, _, _, rfl, (I0.trans (b5.mono I0.size)), (kp f0), (kp f1), (kp f2), (kp f3), (kp f4), (kp f5), (kp f6), (kp f7), (kp f8), (kp f9), (kp f10), (kp f11), (kp f12), (kp f13), (kp f14), (kp f15), (kp f16), (kp f17), (kp f18), (kp f19), (fun _ => rfl), (kp f21), (kp f22)⟩
              · obtain rfl := Option.some.inj ho
                have g19 := f19 (hd ⟨19, .data⟩ (by simp) rfl)
                have g20 := f20 (hd ⟨20, .data⟩ (by simp) rfl)
                subst g19
                subst g20
                refine wpOp_step rfl (fun K' hK => ?_)
                go_simp
                refine hK _ _ ?_
                exact ⟨_, _, _, _, _, _, _, _, _, _, _, _, _, _, _, _, _, _, _, _, _, _, _, rfl, (I0), (kp f0), (kp f1), (kp f2), (kp f3), (kp f4), (kp f5), (kp f6), (kp f7), (kp f8), (kp f9), (kp f10), (kp f11), (kp f12), (kp f13), (kp f14), (kp f15), (kp f16), (kp f17), (kp f18), (kp f19), (kp f20), (fun _ => rfl), (kp f22)⟩
              · obtain rfl := Option.some.inj ho
                have g21 := f21 (hd ⟨21, .data⟩ (by simp) rfl)
                subst g21
                refine wpOp_step rfl (fun K' hK => ?_)
                go_simp
                refine hK _ _ ?_
                exact ⟨_, _, _, _, _, _, _, _, _, _, _, _, _, _, _, _, _, _, _, _, _, _, _, rfl, (I0), (kp f0), (kp f1), (kp f2), (kp f3), (kp f4), (kp f5), (kp f6), (kp f7), (kp f8), (kp f9), (kp f10), (kp f11), (kp f12), (kp f13), (kp f14), (kp f15), (kp f16), (kp f17), (kp f18), (kp f19), (kp f20), (kp f21), (fun _ => rfl)⟩
            case hdone =>
              rintro L ac ww hall ⟨t2, t83, t84, t85, t86, t87, t88, t89, t90, t91, t92, t93, t94, t95, t96, t97, t98, t99, t100, t101, t102, t103, t104, rfl, I0, f0, f1, f2, f3, f4, f5, f6, f7, f8, f9, f10, f11, f12, f13, f14, f15, f16, f17, f18, f19, f20, f21, f22⟩
              have e0 := f0 (hall 0 (by decide))
              have e1 := f1 (hall 1 (by decide))
              have e2 := f2 (hall 2 (by decide))
              have e3 := f3 (hall 3 (by decide))
              have e4 := f4 (hall 4 (by decide))
              have e5 := f5 (hall 5 (by decide))
              have e6 := f6 (hall 6 (by decide))
              have e7 := f7 (hall 7 (by decide))
              have e8 := f8 (hall 8 (by decide))
              have e9 := f9 (hall 9 (by decide))
              have e10 := f10 (hall 10 (by decide))
              have e11 := f11 (hall 11 (by decide))
              have e12 := f12 (hall 12 (by decide))
              have e13 := f13 (hall 13 (by decide))
              have e14 := f14 (hall 14 (by decide))
              have e15 := f15 (hall 15 (by decide))
              have e16 := f16 (hall 16 (by decide))
              have e17 := f17 (hall 17 (by decide))
              have e18 := f18 (hall 18 (by decide))
              have e19 := f19 (hall 19 (by decide))
              have e20 := f20 (hall 20 (by decide))
              have e21 := f21 (hall 21 (by decide))
              have e22 := f22 (hall 22 (by decide))
              clear f0 f1 f2 f3 f4 f5 f6 f7 f8 f9 f10 f11 f12 f13 f14 f15 f16 f17 f18 f19 f20 f21 f22
              subst e22
              have bbf := bb7.trans (I0.mono bb7.size)
              clear e0 e1 e2 e3 e4 e5 e6 e7 e8 e9 e10 e11 e12 e13 e14 e15 e16 e17 e18 e19 e20 e21
              go_wp2_with fail
              go_ret
              exact ⟨rfl, bbf⟩
          · have hz : ((lx : Int) == 0) = false := by rw [beq_eq_false_iff_ne]; omega
            obtain ⟨ga, oa, x, e1, hga, hx, dA⟩ := hr7.at_ (k := 0) (by omega)
            obtain ⟨gb, ob, y, e2, hgb, hy, dB⟩ := hq7.at_ (k := 0) (by omega)
            subst e1 e2
            have hxy : x = y := by
              have h1 := HFE.out
              rw [List.head?_eq_getElem?, List.head?_eq_getElem?, hx, hy] at h1
              exact Option.some.inj h1
            subst hxy
            rw [Nat.add_zero] at dA dB
            have h0x : (0 : Int) < lx := by omega
            have h0y : 0 < lx := by omega
            clear hx hy
            refine wp_region_inv (by kernel_rfl) (by kernel_rfl) (fun L ac ww => ∃ t2 t83 t84 t85 t86 t87 t88 t89 t90 t91 t92 t93 t94 t95 t96 t97 t98 t99 t100 t101 t102 t103 t104 : Value, ac = { tmps := #[Value.slice A n c, undef, t2, Value.pointer (some { block := b, off := 0 }), Value.slice (some { block := ga, off := oa }) lx cv, Value.slice (some { block := gb, off := ob }) lx c6, Value.slice (some { block := w6.heap.size, off := 0 }) nn nn, Value.int IntKind.i64 ↑lx, Value.int IntKind.i64 ↑lx, Value.slice A n c, Value.int IntKind.i64 ↑n, Value.bool false, Value.slice A n c, heapV A1 nn c1 R1 m d1, Value.agg #[Value.slice A1 nn c1, Value.slice R1 m d1], Value.slice (some { block := ga, off := oa }) lx cv, Value.slice (some { block := ga, off := oa }) lx cv, Value.agg #[Value.slice A1 nn c1, Value.slice R1 m d1], Value.slice Aw lx cw, Value.bool true, Value.bool false, Value.agg #[Value.slice A1 nn c1, Value.slice R1 m d1], Value.slice (some { block := gb, off := ob }) lx c6, Value.pointer (some { block := b, off := 0 }), Value.slice A1 nn c1, Value.int IntKind.i64 ↑nn, Value.slice (some { block := w6.heap.size, off := 0 }) nn nn, Value.int IntKind.i64 ↑lx, Value.slice (some { block := ga, off := oa }) lx cv, Value.int IntKind.i64 ↑lx, Value.bool false, u31, u32, u33, u34, u35, u36, u37, u38, u39, u40, u41, u42, u43, u44, u45, u46, u47, u48, u49, u50, u51, u52, Value.int IntKind.i64 ↑lx, Value.slice (some { block := gb, off := ob }) lx c6, Value.int IntKind.i64 ↑lx, Value.bool false, u57, u58, u59, u60, u61, u62, u63, u64, u65, u66, u67, u68, u69, u70, u71, u72, u73, u74, u75, u76, u77, u78, u79, u80, u81, u82, t83, t84, t85, t86, t87, t88, t89, t90, t91, t92, t93, t94, t95, t96, t97, t98, t99, t100, t101, t102, t103, t104], defers := [] } ∧ (Below wr.heap.size wr ww) ∧ (L 0 = true → t83 = Value.slice (some { block := ga, off := oa }) lx cv) ∧ (L 1 = true → t84 = .int .i64 (lx : Nat)) ∧ (L 2 = true → t85 = Value.slice (some { block := gb, off := ob }) lx c6) ∧ (L 3 = true → t86 = .int .i64 (lx : Nat)) ∧ (L 4 = true → t87 = .bool true) ∧ (L 5 = true → t88 = .bool true) ∧ (L 6 = true → t89 = Value.slice (some { block := ga, off := oa }) lx cv) ∧ (L 7 = true → t90 = .int .i64 (lx : Nat)) ∧ (L 8 = true → t91 = .bool false) ∧ (L 9 = true → t92 = .bool false) ∧ (L 10 = true → t93 = Value.slice (some { block := ga, off := oa }) lx cv) ∧ (L 11 = true → t94 = .pointer (some ⟨ga, oa, none⟩)) ∧ (L 12 = true → t95 = .int .i64 x) ∧ (L 13 = true → t96 = Value.slice (some { block := gb, off := ob }) lx c6) ∧ (L 14 = true → t97 = .pointer (some ⟨gb, ob, none⟩)) ∧ (L 15 = true → t98 = .int .i64 x) ∧ (L 16 = true → t99 = .bool true) ∧ (L 17 = true → t100 = .bool true) ∧ (L 18 = true → t101 = .bool true) ∧ (L 19 = true → t102 = .bool true) ∧ (L 20 = true → t103 = .bool true) ∧ (L 21 = true → t104 = .bool true) ∧ (L 22 = true → t2 = .bool true)) ?h0 ?hstep ?hdone
            case h0 => exact ⟨_, _, _, _, _, _, _, _, _, _, _, _, _, _, _, _, _, _, _, _, _, _, _, rfl, (Below.refl _ _).drew, (fun h => absurd h Bool.false_ne_true), (fun h => absurd h Bool.false_ne_true), (fun h => absurd h Bool.false_ne_true), (fun h => absurd h Bool.false_ne_true), (fun h => absurd h Bool.false_ne_true), (fun h => absurd h Bool.false_ne_true), (fun h => absurd h Bool.false_ne_true), (fun h => absurd h Bool.false_ne_true), (fun h => absurd h Bool.false_ne_true), (fun h => absurd h Bool.false_ne_true), (fun h => absurd h Bool.false_ne_true), (fun h => absurd h Bool.false_ne_true), (fun h => absurd h Bool.false_ne_true), (fun h => absurd h Bool.false_ne_true), (fun h => absurd h Bool.false_ne_true), (fun h => absurd h Bool.false_ne_true), (fun h => absurd h Bool.false_ne_true), (fun h => absurd h Bool.false_ne_true), (fun h => absurd h Bool.false_ne_true), (fun h => absurd h Bool.false_ne_true), (fun h => absurd h Bool.false_ne_true), (fun h => absurd h Bool.false_ne_true), (fun h => absurd h Bool.false_ne_true)⟩
            case hstep =>
              rintro L ac ww i o ho hL hd ⟨t2, t83, t84, t85, t86, t87, t88, t89, t90, t91, t92, t93, t94, t95, t96, t97, t98, t99, t100, t101, t102, t103, t104, rfl, I0, f0, f1, f2, f3, f4, f5, f6, f7, f8, f9, f10, f11, f12, f13, f14, f15, f16, f17, f18, f19, f20, f21, f22⟩
              have hi : i < 23 := (Array.getElem?_eq_some_iff.1 ho).1
              obtain rfl | rfl | rfl | rfl | rfl | rfl | rfl | rfl | rfl | rfl | rfl | rfl | rfl | rfl | rfl | rfl | rfl | rfl | rfl | rfl | rfl | rfl | rfl : i = 0 ∨ i = 1 ∨ i = 2 ∨ i = 3 ∨ i = 4 ∨ i = 5 ∨ i = 6 ∨ i = 7 ∨ i = 8 ∨ i = 9 ∨ i = 10 ∨ i = 11 ∨ i = 12 ∨ i = 13 ∨ i = 14 ∨ i = 15 ∨ i = 16 ∨ i = 17 ∨ i = 18 ∨ i = 19 ∨ i = 20 ∨ i = 21 ∨ i = 22 := by omega
              · obtain rfl := Option.some.inj ho
                refine wpOp_step rfl (fun K' hK => ?_)
                go_simp
                refine hK _ _ ?_
                exact ⟨_, _, _, _, _, _, _, _, _, _, _, _, _, _, _, _, _, _, _, _, _, _, _, rfl, (I0), (fun _ => rfl), (kp f1), (kp f2), (kp f3), (kp f4), (kp f5), (kp f6), (kp f7), (kp f8), (kp f9), (kp f10), (kp f11), (kp f12), (kp f13), (kp f14), (kp f15), (kp f16), (kp f17), (kp f18), (kp f19), (kp f20), (kp f21), (kp f22)⟩
              · obtain rfl := Option.some.inj ho
                have g0 := f0 (hd ⟨0, .data⟩ (by simp) rfl)
                subst g0
                refine wpOp_step rfl (fun K' hK => ?_)
                go_simp
                refine hK _ _ ?_
                exact ⟨_, _, _, _, _, _, _, _, _, _, _, _, _, _, _, _, _, _, _, _, _, _, _, rfl, (I0), (kp f0), (fun _ => rfl), (kp f2), (kp f3), (kp f4), (kp f5), (kp f6), (kp f7), (kp f8), (kp f9), (kp f10), (kp f11), (kp f12), (kp f13), (kp f14), (kp f15), (kp f16), (kp f17), (kp f18), (kp f19), (kp f20), (kp f21), (kp f22)⟩
              · obtain rfl := Option.some.inj ho
                refine wpOp_step rfl (fun K' hK => ?_)
                go_simp
                refine hK _ _ ?_
                exact ⟨_, _, _, _, _, _, _, _, _, _, _, _, _, _, _, _, _, _, _, _, _, _, _, rfl, (I0), (kp f0), (kp f1), (fun _ => rfl), (kp f3), (kp f4), (kp f5), (kp f6), (kp f7), (kp f8), (kp f9), (kp f10), (kp f11), (kp f12), (kp f13), (kp f14), (kp f15), (kp f16), (kp f17), (kp f18), (kp f19), (kp f20), (kp f21), (kp f22)⟩
              · obtain rfl := Option.some.inj ho
                have g2 := f2 (hd ⟨2, .data⟩ (by simp) rfl)
                subst g2
                refine wpOp_step rfl (fun K' hK => ?_)
                go_simp
                refine hK _ _ ?_
                exact ⟨_, _, _, _, _, _, _, _, _, _, _, _, _, _, _, _, _, _, _, _, _, _, _, rfl, (I0), (kp f0), (kp f1), (kp f2), (fun _ => rfl), (kp f4), (kp f5), (kp f6), (kp f7), (kp f8), (kp f9), (kp f10), (kp f11), (kp f12), (kp f13), (kp f14), (kp f15), (kp f16), (kp f17), (kp f18), (kp f19), (kp f20), (kp f21), (kp f22)⟩
              · obtain rfl := Option.some.inj ho
                have g1 := f1 (hd ⟨1, .data⟩ (by simp) rfl)
                have g3 := f3 (hd ⟨3, .data⟩ (by simp) rfl)
                subst g1
                subst g3
                refine wpOp_step rfl (fun K' hK => ?_)
                go_simp
                refine hK _ _ ?_
                exact ⟨_, _, _, _, _, _, _, _, _, _, _, _, _, _, _, _, _, _, _, _, _, _, _, rfl, (I0), (kp f0), (kp f1), (kp f2), (kp f3), (fun _ => rfl), (kp f5), (kp f6), (kp f7), (kp f8), (kp f9), (kp f10), (kp f11), (kp f12), (kp f13), (kp f14), (kp f15), (kp f16), (kp f17), (kp f18), (kp f19), (kp f20), (kp f21), (kp f22)⟩
              · obtain rfl := Option.some.inj ho
                have g4 := f4 (hd ⟨4, .data⟩ (by simp) rfl)
                subst g4
                refine wpOp_step rfl (fun K' hK => ?_)
                go_simp
                refine hK _ _ ?_
                exact ⟨_, _, _, _, _, _, _, _, _, _, _, _, _, _, _, _, _, _, _, _, _, _, _, rfl, (I0), (kp f0), (kp f1), (kp f2), (kp f3), (kp f4), (fun _ => rfl), (kp f6), (kp f7), (kp f8), (kp f9), (kp f10), (kp f11), (kp f12), (kp f13), (kp f14), (kp f15), (kp f16), (kp f17), (kp f18), (kp f19), (kp f20), (kp f21), (kp f22)⟩
              · obtain rfl := Option.some.inj ho
                have g5 := f5 (hd ⟨5, .guard⟩ (by simp) rfl)
                subst g5
                refine wpOp_step rfl (fun K' hK => ?_)
                go_simp
                refine hK _ _ ?_
                exact ⟨_, _, _, _, _, _, _, _, _, _, _, _, _, _, _, _, _, _, _, _, _, _, _, rfl, (I0), (kp f0), (kp f1), (kp f2), (kp f3), (kp f4), (kp f5), (fun _ => rfl), (kp f7), (kp f8), (kp f9), (kp f10), (kp f11), (kp f12), (kp f13), (kp f14), (kp f15), (kp f16), (kp f17), (kp f18), (kp f19), (kp f20), (kp f21), (kp f22)⟩
              · obtain rfl := Option.some.inj ho
                have g6 := f6 (hd ⟨6, .data⟩ (by simp) rfl)
                subst g6
                have g5 := f5 (hd ⟨5, .guard⟩ (by simp) rfl)
                subst g5
                refine wpOp_step rfl (fun K' hK => ?_)
                go_simp
                refine hK _ _ ?_
                exact ⟨_, _, _, _, _, _, _, _, _, _, _, _, _, _, _, _, _, _, _, _, _, _, _, rfl, (I0), (kp f0), (kp f1), (kp f2), (kp f3), (kp f4), (kp f5), (kp f6), (fun _ => rfl), (kp f8), (kp f9), (kp f10), (kp f11), (kp f12), (kp f13), (kp f14), (kp f15), (kp f16), (kp f17), (kp f18), (kp f19), (kp f20), (kp f21), (kp f22)⟩
              · obtain rfl := Option.some.inj ho
                have g7 := f7 (hd ⟨7, .data⟩ (by simp) rfl)
                subst g7
                have g5 := f5 (hd ⟨5, .guard⟩ (by simp) rfl)
                subst g5
                refine wpOp_step rfl (fun K' hK => ?_)
                go_simp
                refine hK _ _ ?_
                exact ⟨_, _, _, _, _, _, _, _, _, _, _, _, _, _, _, _, _, _, _, _, _, _, _, rfl, (I0), (kp f0), (kp f1), (kp f2), (kp f3), (kp f4), (kp f5), (kp f6), (kp f7), (fun _ => rfl), (kp f9), (kp f10), (kp f11), (kp f12), (kp f13), (kp f14), (kp f15), (kp f16), (kp f17), (kp f18), (kp f19), (kp f20), (kp f21), (kp f22)⟩
              · obtain rfl := Option.some.inj ho
                have g8 := f8 (hd ⟨8, .data⟩ (by simp) rfl)
                subst g8
                have g5 := f5 (hd ⟨5, .guard⟩ (by simp) rfl)
                subst g5
                refine wpOp_step rfl (fun K' hK => ?_)
                go_simp
                refine hK _ _ ?_
                exact ⟨_, _, _, _, _, _, _, _, _, _, _, _, _, _, _, _, _, _, _, _, _, _, _, rfl, (I0), (kp f0), (kp f1), (kp f2), (kp f3), (kp f4), (kp f5), (kp f6), (kp f7), (kp f8), (fun _ => rfl), (kp f10), (kp f11), (kp f12), (kp f13), (kp f14), (kp f15), (kp f16), (kp f17), (kp f18), (kp f19), (kp f20), (kp f21), (kp f22)⟩
              · obtain rfl := Option.some.inj ho
                have g9 := f9 (hd ⟨9, .guard⟩ (by simp) rfl)
                subst g9
                refine wpOp_step rfl (fun K' hK => ?_)
                go_simp
                refine hK _ _ ?_
                exact ⟨_, _, _, _, _, _, _, _, _, _, _, _, _, _, _, _, _, _, _, _, _, _, _, rfl, (I0), (kp f0), (kp f1), (kp f2), (kp f3), (kp f4), (kp f5), (kp f6), (kp f7), (kp f8), (kp f9), (fun _ => rfl), (kp f11), (kp f12), (kp f13), (kp f14), (kp f15), (kp f16), (kp f17), (kp f18), (kp f19), (kp f20), (kp f21), (kp f22)⟩
              · obtain rfl := Option.some.inj ho
                have g10 := f10 (hd ⟨10, .data⟩ (by simp) rfl)
                subst g10
                have g9 := f9 (hd ⟨9, .guard⟩ (by simp) rfl)
                subst g9
                refine wpOp_step rfl (fun K' hK => ?_)
                go_simp
                refine hK _ _ ?_
                exact ⟨_, _, _, _, _, _, _, _, _, _, _, _, _, _, _, _, _, _, _, _, _, _, _, rfl, (I0), (kp f0), (kp f1), (kp f2), (kp f3), (kp f4), (kp f5), (kp f6), (kp f7), (kp f8), (kp f9), (kp f10), (fun _ => by first | rfl | simp), (kp f12), (kp f13), (kp f14), (kp f15), (kp f16), (kp f17), (kp f18), (kp f19), (kp f20), (kp f21), (kp f22)⟩
              · obtain rfl := Option.some.inj ho
                have g11 := f11 (hd ⟨11, .data⟩ (by simp) rfl)
                subst g11
                have g9 := f9 (hd ⟨9, .guard⟩ (by simp) rfl)
                subst g9
                have z1 : ww.cell? ⟨ga, oa, none⟩ = some (.int .i64 x) := (I0.cell (p := ⟨ga, oa, none⟩) hga).trans dA
                refine wpOp_step rfl (fun K' hK => ?_)
                go_simp
                refine hK _ _ ?_
                exact ⟨_, _, _, _, _, _, _, _, _, _, _, _, _, _, _, _, _, _, _, _, _, _, _, rfl, (I0), (kp f0), (kp f1), (kp f2), (kp f3), (kp f4), (kp f5), (kp f6), (kp f7), (kp f8), (kp f9), (kp f10), (kp f11), (fun _ => rfl), (kp f13), (kp f14), (kp f15), (kp f16), (kp f17), (kp f18), (kp f19), (kp f20), (kp f21), (kp f22)⟩
              · obtain rfl := Option.some.inj ho
                have g9 := f9 (hd ⟨9, .guard⟩ (by simp) rfl)
                subst g9
                refine wpOp_step rfl (fun K' hK => ?_)
                go_simp
                refine hK _ _ ?_
                exact ⟨_, _, _, _, _, _, _, _, _, _, _, _, _, _, _, _, _, _, _, _, _, _, _, rfl, (I0), (kp f0), (kp f1), (kp f2), (kp f3), (kp f4), (kp f5), (kp f6), (kp f7), (kp f8), (kp f9), (kp f10), (kp f11), (kp f12), (fun _ => rfl), (kp f14), (kp f15), (kp f16), (kp f17), (kp f18), (kp f19), (kp f20), (kp f21), (kp f22)⟩
              · obtain rfl := Option.some.inj ho
                have g13 := f13 (hd ⟨13, .data⟩ (by simp) rfl)
                subst g13
                have g9 := f9 (hd ⟨9, .guard⟩ (by simp) rfl)
                subst g9
                refine wpOp_step rfl (fun K' hK => ?_)
                go_simp
                refine hK _ _ ?_
                exact ⟨_, _, _, _, _, _, _, _, _, _, _, _, _, _, _, _, _, _, _, _, _, _, _, rfl, (I0), (kp f0), (kp f1), (kp f2), (kp f3), (kp f4), (kp f5), (kp f6), (kp f7), (kp f8), (kp f9), (kp f10), (kp f11), (kp f12), (kp f13), (fun _ => by first | rfl | simp), (kp f15), (kp f16), (kp f17), (kp f18), (kp f19), (kp f20), (kp f21), (kp f22)⟩
              · obtain rfl := Option.some.inj ho
                have g14 := f14 (hd ⟨14, .data⟩ (by simp) rfl)
                subst g14
                have g9 := f9 (hd ⟨9, .guard⟩ (by simp) rfl)
                subst g9
                have z2 : ww.cell? ⟨gb, ob, none⟩ = some (.int .i64 x) := (I0.cell (p := ⟨gb, ob, none⟩) hgb).trans dB
                refine wpOp_step rfl (fun K' hK => ?_)
                go_simp
                refine hK _ _ ?_
                exact ⟨_, _, _, _, _, _, _, _, _, _, _, _, _, _, _, _, _, _, _, _, _, _, _, rfl, (I0), (kp f0), (kp f1), (kp f2), (kp f3), (kp f4), (kp f5), (kp f6), (kp f7), (kp f8), (kp f9), (kp f10), (kp f11), (kp f12), (kp f13), (kp f14), (fun _ => rfl), (kp f16), (kp f17), (kp f18), (kp f19), (kp f20), (kp f21), (kp f22)⟩
              · obtain rfl := Option.some.inj ho
                have g12 := f12 (hd ⟨12, .data⟩ (by simp) rfl)
                have g15 := f15 (hd ⟨15, .data⟩ (by simp) rfl)
                subst g12
                subst g15
                have g9 := f9 (hd ⟨9, .guard⟩ (by simp) rfl)
                subst g9
                refine wpOp_step rfl (fun K' hK => ?_)
                go_simp
                refine hK _ _ ?_
                exact ⟨_, _, _, _, _, _, _, _, _, _, _, _, _, _, _, _, _, _, _, _, _, _, _, rfl, (I0), (kp f0), (kp f1), (kp f2), (kp f3), (kp f4), (kp f5), (kp f6), (kp f7), (kp f8), (kp f9), (kp f10), (kp f11), (kp f12), (kp f13), (kp f14), (kp f15), (fun _ => rfl), (kp f17), (kp f18), (kp f19), (kp f20), (kp f21), (kp f22)⟩
              · obtain rfl := Option.some.inj ho
                have g9 := f9 (hd ⟨9, .data⟩ (by simp) rfl)
                have g16 := f16 (hd ⟨16, .data⟩ (by simp) rfl)
                subst g9
                subst g16
                have g5 := f5 (hd ⟨5, .guard⟩ (by simp) rfl)
                subst g5
                refine wpOp_step rfl (fun K' hK => ?_)
                go_simp
                refine hK _ _ ?_
                exact ⟨_, _, _, _, _, _, _, _, _, _, _, _, _, _, _, _, _, _, _, _, _, _, _, rfl, (I0), (kp f0), (kp f1), (kp f2), (kp f3), (kp f4), (kp f5), (kp f6), (kp f7), (kp f8), (kp f9), (kp f10), (kp f11), (kp f12), (kp f13), (kp f14), (kp f15), (kp f16), (fun _ => rfl), (kp f18), (kp f19), (kp f20), (kp f21), (kp f22)⟩
              · obtain rfl := Option.some.inj ho
                have g5 := f5 (hd ⟨5, .data⟩ (by simp) rfl)
                have g17 := f17 (hd ⟨17, .data⟩ (by simp) rfl)
                subst g5
                subst g17
                refine wpOp_step rfl (fun K' hK => ?_)
                go_simp
                refine hK _ _ ?_
                exact ⟨_, _, _, _, _, _, _, _, _, _, _, _, _, _, _, _, _, _, _, _, _, _, _, rfl, (I0), (kp f0), (kp f1), (kp f2), (kp f3), (kp f4), (kp f5), (kp f6), (kp f7), (kp f8), (kp f9), (kp f10), (kp f11), (kp f12), (kp f13), (kp f14), (kp f15), (kp f16), (kp f17), (fun _ => rfl), (kp f19), (kp f20), (kp f21), (kp f22)⟩
              · obtain rfl := Option.some.inj ho
                have g18 := f18 (hd ⟨18, .data⟩ (by simp) rfl)
                subst g18
                refine wpOp_step rfl (fun K' hK => ?_)
                go_simp
                refine hK _ _ ?_
                exact ⟨_, _, _, _, _, _, _, _, _, _, _, _, _, _, _, _, _, _, _, _, _, _, _, rfl, (I0), (kp f0), (kp f1), (kp f2), (kp f3), (kp f4), (kp f5), (kp f6), (kp f7), (kp f8), (kp f9), (kp f10), (kp f11), (kp f12), (kp f13), (kp f14), (kp f15), (kp f16), (kp f17), (kp f18), (fun _ => rfl), (kp f20), (kp f21), (kp f22)⟩
              · obtain rfl := Option.some.inj ho
                have g19 := f19 (hd ⟨19, .guard⟩ (by simp) rfl)
                subst g19
                refine wpOp_step rfl (fun K' hK => ?_)
                go_simp
                refine (alive_any ww).mono ?_
                rintro e w' ⟨rfl, b5⟩
                refine hK _ _ ?_
                exact ⟨_, _, _, _, _, _, _, _, _, _, _, _, _, _, _, _, _, _, _, _, _, _, _, rfl, (I0.trans (b5.mono I0.size)), (kp f0), (kp f1), (kp f2), (kp f3), (kp f4), (kp f5), (kp f6), (kp f7), (kp f8), (kp f9), (kp f10), (kp f11), (kp f12), (kp f13), (kp f14), (kp f15), (kp f16), (kp f17), (kp f18), (kp f19), (fun _ => rfl), (kp f21), (kp f22)⟩
              · obtain rfl := Option.some.inj ho
                have g19 := f19 (hd ⟨19, .data⟩ (by simp) rfl)
                have g20 := f20 (hd ⟨20, .data⟩ (by simp) rfl)
                subst g19
                subst g20
                refine wpOp_step rfl (fun K' hK => ?_)
                go_simp
                refine hK _ _ ?_
                exact ⟨_, _, _, _, _, _, _, _, _, _, _, _, _, _, _, _, _, _, _, _, _, _, _, rfl, (I0), (kp f0), (kp f1), (kp f2), (kp f3), (kp f4), (kp f5), (kp f6), (kp f7), (kp f8), (kp f9), (kp f10), (kp f11), (kp f12), (kp f13), (kp f14), (kp f15), (kp f16), (kp f17), (kp f18), (kp f19), (kp f20), (fun _ => rfl), (kp f22)⟩
              · obtain rfl := Option.some.inj ho
                have g21 := f21 (hd ⟨21, .data⟩ (by simp) rfl)
                subst g21
                refine wpOp_step rfl (fun K' hK => ?_)
                go_simp
                refine hK _ _ ?_
                exact ⟨_, _, _, _, _, _, _, _, _, _, _, _, _, _, _, _, _, _, _, _, _, _, _, rfl, (I0), (kp f0), (kp f1), (kp f2), (kp f3), (kp f4), (kp f5), (kp f6), (kp f7), (kp f8), (kp f9), (kp f10), (kp f11), (kp f12), (kp f13), (kp f14), (kp f15), (kp f16), (kp f17), (kp f18), (kp f19), (kp f20), (kp f21), (fun _ => rfl)⟩
            case hdone =>
              rintro L ac ww hall ⟨t2, t83, t84, t85, t86, t87, t88, t89, t90, t91, t92, t93, t94, t95, t96, t97, t98, t99, t100, t101, t102, t103, t104, rfl, I0, f0, f1, f2, f3, f4, f5, f6, f7, f8, f9, f10, f11, f12, f13, f14, f15, f16, f17, f18, f19, f20, f21, f22⟩
              have e0 := f0 (hall 0 (by decide))
              have e1 := f1 (hall 1 (by decide))
              have e2 := f2 (hall 2 (by decide))
              have e3 := f3 (hall 3 (by decide))
              have e4 := f4 (hall 4 (by decide))
              have e5 := f5 (hall 5 (by decide))
              have e6 := f6 (hall 6 (by decide))
              have e7 := f7 (hall 7 (by decide))
              have e8 := f8 (hall 8 (by decide))
              have e9 := f9 (hall 9 (by decide))
              have e10 := f10 (hall 10 (by decide))
              have e11 := f11 (hall 11 (by decide))
              have e12 := f12 (hall 12 (by decide))
              have e13 := f13 (hall 13 (by decide))
              have e14 := f14 (hall 14 (by decide))
              have e15 := f15 (hall 15 (by decide))
              have e16 := f16 (hall 16 (by decide))
              have e17 := f17 (hall 17 (by decide))
              have e18 := f18 (hall 18 (by decide))
              have e19 := f19 (hall 19 (by decide))
              have e20 := f20 (hall 20 (by decide))
              have e21 := f21 (hall 21 (by decide))
              have e22 := f22 (hall 22 (by decide))
              clear f0 f1 f2 f3 f4 f5 f6 f7 f8 f9 f10 f11 f12 f13 f14 f15 f16 f17 f18 f19 f20 f21 f22
              subst e22
              have bbf := bb7.trans (I0.mono bb7.size)
              clear e0 e1 e2 e3 e4 e5 e6 e7 e8 e9 e10 e11 e12 e13 e14 e15 e16 e17 e18 e19 e20 e21
              go_wp2_with fail
              go_ret
              exact ⟨rfl, bbf⟩
end Go.Proofs.Ytmjejcfifkbkoaa
