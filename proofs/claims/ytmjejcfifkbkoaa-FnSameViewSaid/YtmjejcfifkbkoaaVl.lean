/- What the model's l15Move returns: for every valid heap and every list of the cells that can be reached. No conditions. -/
import Derived.Test.YtmjejcfifkbkoaaGw
import Derived.Test.YtmjejcfifkbkoaaKf
import Derived.Test.YtmjejcfifkbkoaaGa
import Derived.Deep.Cut
namespace Go.Proofs.Ytmjejcfifkbkoaa
open Go.RowKit
set_option maxRecDepth 100000

namespace Hps
def movedC (h : Hp) (o : List Int) (n : Int) : Cl := ⟨true, (cellAt h.cs n).d, (cellAt h.cs n).r.map (nameL o)⟩
def movedTo (h : Hp) (o : List Int) (k j : Nat) : Hp := ⟨(o.take k).map (movedC h o), (h.rt.take j).map (nameL o)⟩
theorem moved_cell {h : Hp} {o : List Int} {k : Nat} {n : Int} (hn : o[k]? = some n) : (o.take (k + 1)).map (movedC h o) = (o.take k).map (movedC h o) ++ [movedC h o n] := by
  rw [List.take_add_one, hn]
  simp
theorem moved_step {h : Hp} {o : List Int} {k : Nat} {n : Int} {cl : Cl} {l : List Int} (hn : o[k]? = some n) (hc : cellAt h.cs n = cl) (hl : l = cl.r.map (nameL o)) : movedTo h o (k + 1) 0 = ⟨(movedTo h o k 0).cs ++ [⟨true, cl.d, l⟩], (movedTo h o k 0).rt⟩ := by
  subst hc
  subst hl
  simp only [movedTo, moved_cell hn, movedC, List.take_zero]
theorem moved_root {h : Hp} {o : List Int} {k j : Nat} {x : Int} (hn : h.rt[j]? = some x) : movedTo h o k (j + 1) = ⟨(movedTo h o k j).cs, (movedTo h o k j).rt ++ [nameL o x]⟩ := by
  simp [movedTo, List.take_add_one, hn]
end Hps

set_option maxHeartbeats 8000000 in
theorem l15Move_any (A R AO : Option Addr) (n c m d no co : Nat) (h : Hp) (o : List Int) (w : World) (hs : HS w w.heap.size A n R m h) (ho : IS w w.heap.size AO no o) (hv : Hps.validH h = true) (L : Hps.Lives h o) :
    Calls Try.prog 118 #[heapV A n c R m d, .slice AO no co] w (GaveH w (Hps.moveH h o)) := by
  have hlc := hs.cells.1
  have hlr := hs.roots.1
  have hol := ho.1
  obtain ⟨s1, s2, s3⟩ := Hps.valid_small hv
  have hno : no ≤ 40 := by have := L.len hv; omega
  have hn40 : n ≤ 40 := by omega
  have hm4 : m = 4 := by omega
  have HM := Lib.hid hm4
  have hm40 : m ≤ 40 := by omega
  have HLV : Hid (∀ x ∈ o, ∃ y : Nat, x = y ∧ y < n) := Lib.hid (fun x hx => by
    obtain ⟨y, e, hy⟩ := (L.mem x).1 hx
    exact ⟨y, e, by have := Hps.usedAt_lt (hy.live hv); omega⟩)
  have HS3 := Lib.hid s3
  have HOL := Lib.hid hol
  have HLR := Lib.hid hlr
  have bW : Below w.heap.size w ((w.alloc (.cells #[.slice A n c, .slice R m d] 28)).alloc (.cells #[.slice none 0 0, .slice none 0 0] 28)) := ((Below.refl _ _).alloc (Nat.le_refl _) _).alloc (by simp) _
  have q0 := (Rw.new w 28 #[.slice A n c, .slice R m d]).alloc (.cells #[.slice none 0 0, .slice none 0 0] 28)
  have q1 := Rw.new (w.alloc (.cells #[.slice A n c, .slice R m d] 28)) 28 #[.slice none 0 0, .slice none 0 0]
  rw [World.size_alloc] at q1
  obtain ⟨rvs0, S0⟩ := BoxSt.of (own_zeroH ((w.alloc (.cells #[.slice A n c, .slice R m d] 28)).alloc (.cells #[.slice none 0 0, .slice none 0 0] 28)) _ (Nat.le_refl _)) (Below.refl _ _)
  have hsz0 : ((w.alloc (.cells #[.slice A n c, .slice R m d] 28)).alloc (.cells #[.slice none 0 0, .slice none 0 0] 28)).heap.size = w.heap.size + 1 + 1 := by simp
  clear L hv hm4 s1 s2 s3 hlc hlr hol
  go_enter Try.func118, Try.ntmps118
  go_upto_region 2 with fail
  rw [hsz0] at S0
  generalize (w.alloc (.cells #[.slice A n c, .slice R m d] 28)).alloc (.cells #[.slice none 0 0, .slice none 0 0] 28) = W0 at bW q0 q1 S0 hsz0 ⊢
  generalize W0.alloc (.cells #[.slice none 0 0, .slice none 0 0] 28) = w1 at S0 ⊢
  have HZ := Lib.hid hsz0
  clear hsz0
  go_wp2_with fail
  go_loopw [6] (fun i wr => ∃ (k : Nat) (vc : Value) (rvs : List Value), k ≤ no ∧ i = .int .i64 k ∧ BoxSt W0 wr (w.heap.size + 1 + 1) vc (.slice none 0 0) rvs (Hps.movedTo h o k 0)) (fun i _ => no - (intOf i).toNat)
  case atStart => exact ⟨0, _, _, Nat.zero_le _, rfl, S0⟩
  case round =>
    clear S0
    obtain ⟨k, vc, rvs, hk, rfl, S⟩ := hrel
    have bw := bW.trans (S.low.mono bW.size)
    have hq0 : w.heap.size < W0.heap.size := by have := HZ.out; omega
    have hq1 : w.heap.size + 1 < W0.heap.size := by have := HZ.out; omega
    by_cases hlt : k < no
    · have hlt' : (k : Int) < no := by omega
      obtain ⟨g6, o6, yi, e6, hg6, hy6, d6⟩ := (ho.below bw).at_ hlt
      subst e6
      obtain ⟨y, rfl, hy⟩ := HLV.out yi (List.mem_of_getElem? hy6)
      obtain ⟨g, q, cl, A', m', cc, e1, hg, hcl, d1, d2, d3, hmc, hi⟩ := hs.cells.at_ (k := y) hy
      subst e1
      have z0 : wr.cell? ⟨w.heap.size, 0, none⟩ = some (.slice (some ⟨g, q, none⟩) n c) := (q0.keep S.low hq0).cell 0
      have e1' := (bw.cell (p := ⟨g, q + y * 3, none⟩) hg).trans d1
      have e2' := (bw.cell (p := ⟨g, q + y * 3 + 1, none⟩) hg).trans d2
      have e3' := (bw.cell (p := ⟨g, q + y * 3 + 2, none⟩) hg).trans d3
      have hy' : (y : Int) < n := by omega
      have hm3 : m' ≤ 3 := by have := HS3.out cl (List.mem_of_getElem? hcl); have := hi.1; omega
      have HY6 := Lib.hid hy6
      have HCA := Lib.hid (show Hps.cellAt h.cs (y : Int) = cl by rw [Hps.cellAt, Int.toNat_natCast, hcl]; rfl)
      have hgw : g < wr.heap.size := Nat.lt_of_lt_of_le hg bw.size
      have hg6w : g6 < wr.heap.size := Nat.lt_of_lt_of_le hg6 bw.size
      have hbw : w.heap.size < wr.heap.size := (q0.keep S.low hq0).lt
      have SS := Lib.hid S
      clear hy6 hcl d1 d2 d3 S
      go_upto_region 5 with fail
      refine wp_region_inv (by kernel_rfl) (by kernel_rfl) (fun L ac ww => ∃ t7 t18 t19 t20 t21 t22 t23 t24 t25 : Value, ac = { tmps := #[heapV (some { block := g, off := q }) n c R m d, Value.slice (some { block := g6, off := o6 }) no co, Value.pointer (some { block := w.heap.size, off := 0 }), undef, Value.pointer (some { block := w.heap.size + 1, off := 0 }), Value.pointer (some { block := w.heap.size + 1 + 1, off := 0 }), Value.int IntKind.i64 ↑k, t7, u8, u9, undef, Value.agg #[Value.slice none 0 0, Value.slice none 0 0], Value.int IntKind.i64 ↑k, Value.slice (some { block := g6, off := o6 }) no co, Value.int IntKind.i64 ↑no, Value.bool true, u16, u17, t18, t19, t20, t21, t22, t23, t24, t25, u26, u27, u28, u29, u30, u31, u32, u33, u34, u35, u36, u37, u38, u39, u40, u41, u42, u43, u44, u45, u46, u47, u48, u49, u50, u51, u52, undef, undef, undef, undef, undef, undef, undef, undef, undef, undef, undef, undef, undef, undef, undef, undef, undef, undef, undef, undef], defers := [] } ∧ (Below wr.heap.size wr ww) ∧ (L 0 = true → t18 = .pointer (some ⟨w.heap.size, 0, none⟩)) ∧ (L 1 = true → t19 = .slice (some ⟨g, q, none⟩) n c) ∧ (L 2 = true → t20 = .slice (some ⟨g6, o6, none⟩) no co) ∧ (L 3 = true → t21 = .int .i64 k) ∧ (L 4 = true → t22 = .pointer (some ⟨g6, o6 + k, none⟩)) ∧ (L 5 = true → t23 = .int .i64 y) ∧ (L 6 = true → t24 = .pointer (some ⟨g, q + y * 3, none⟩)) ∧ (L 7 = true → t25 = .agg #[.bool cl.u, .int .i64 cl.d, .slice A' m' cc]) ∧ (L 8 = true → ∃ q7, t7 = .pointer (some ⟨q7, 0, none⟩) ∧ wr.heap.size ≤ q7 ∧ ∃ cs, Rw ww q7 61 cs ∧ cs = (if L 9 = true then #[.bool cl.u, .int .i64 cl.d, .slice A' m' cc] else #[.bool false, .int .i64 0, .slice none 0 0])) ∧ (L 9 = true → L 8 = true ∧ True)) ?h0 ?hstep ?hdone
      case h0 => exact ⟨_, _, _, _, _, _, _, _, _, rfl, (Below.refl _ _).drew, (fun h => absurd h Bool.false_ne_true), (fun h => absurd h Bool.false_ne_true), (fun h => absurd h Bool.false_ne_true), (fun h => absurd h Bool.false_ne_true), (fun h => absurd h Bool.false_ne_true), (fun h => absurd h Bool.false_ne_true), (fun h => absurd h Bool.false_ne_true), (fun h => absurd h Bool.false_ne_true), (fun h => absurd h Bool.false_ne_true), (fun h => absurd h Bool.false_ne_true)⟩
      case hstep =>
        rintro L ac ww i o ho hL hd ⟨t7, t18, t19, t20, t21, t22, t23, t24, t25, rfl, I0, f0, f1, f2, f3, f4, f5, f6, f7, f8, f9⟩
        have hi : i < 10 := (Array.getElem?_eq_some_iff.1 ho).1
        obtain rfl | rfl | rfl | rfl | rfl | rfl | rfl | rfl | rfl | rfl : i = 0 ∨ i = 1 ∨ i = 2 ∨ i = 3 ∨ i = 4 ∨ i = 5 ∨ i = 6 ∨ i = 7 ∨ i = 8 ∨ i = 9 := by omega
        · obtain rfl := Option.some.inj ho
          refine wpOp_step rfl (fun K' hK => ?_)
          go_simp
          refine hK _ _ ?_
          exact ⟨_, _, _, _, _, _, _, _, _, rfl, (I0), (fun _ => rfl), (kp f1), (kp f2), (kp f3), (kp f4), (kp f5), (kp f6), (kp f7), (fun h => by
            obtain ⟨q7, e7, h7, cs, h5, h6⟩ := f8 (upd_ne h (by decide))
            exact ⟨q7, e7, h7, cs, h5, by rw [h6, upd_other (by decide)]⟩), (fun h => ⟨by first | exact upd_self | (rw [upd_other (by decide)]; exact (f9 (upd_ne h (by decide))).1), trivial⟩)⟩
        · obtain rfl := Option.some.inj ho
          have g0 := f0 (hd ⟨0, .data⟩ (by simp) rfl)
          subst g0
          have x0 : ww.cell? ⟨w.heap.size, 0, none⟩ = some (.slice (some ⟨g, q, none⟩) n c) := (I0.cell (p := ⟨w.heap.size, 0, none⟩) hbw).trans z0
          refine wpOp_step rfl (fun K' hK => ?_)
          go_simp
          refine hK _ _ ?_
          exact ⟨_, _, _, _, _, _, _, _, _, rfl, (I0), (kp f0), (fun _ => rfl), (kp f2), (kp f3), (kp f4), (kp f5), (kp f6), (kp f7), (fun h => by
            obtain ⟨q7, e7, h7, cs, h5, h6⟩ := f8 (upd_ne h (by decide))
            exact ⟨q7, e7, h7, cs, h5, by rw [h6, upd_other (by decide)]⟩), (fun h => ⟨by first | exact upd_self | (rw [upd_other (by decide)]; exact (f9 (upd_ne h (by decide))).1), trivial⟩)⟩
        · obtain rfl := Option.some.inj ho
          refine wpOp_step rfl (fun K' hK => ?_)
          go_simp
          refine hK _ _ ?_
          exact ⟨_, _, _, _, _, _, _, _, _, rfl, (I0), (kp f0), (kp f1), (fun _ => rfl), (kp f3), (kp f4), (kp f5), (kp f6), (kp f7), (fun h => by
            obtain ⟨q7, e7, h7, cs, h5, h6⟩ := f8 (upd_ne h (by decide))
            exact ⟨q7, e7, h7, cs, h5, by rw [h6, upd_other (by decide)]⟩), (fun h => ⟨by first | exact upd_self | (rw [upd_other (by decide)]; exact (f9 (upd_ne h (by decide))).1), trivial⟩)⟩
        · obtain rfl := Option.some.inj ho
          refine wpOp_step rfl (fun K' hK => ?_)
          go_simp
          refine hK _ _ ?_
          exact ⟨_, _, _, _, _, _, _, _, _, rfl, (I0), (kp f0), (kp f1), (kp f2), (fun _ => rfl), (kp f4), (kp f5), (kp f6), (kp f7), (fun h => by
            obtain ⟨q7, e7, h7, cs, h5, h6⟩ := f8 (upd_ne h (by decide))
            exact ⟨q7, e7, h7, cs, h5, by rw [h6, upd_other (by decide)]⟩), (fun h => ⟨by first | exact upd_self | (rw [upd_other (by decide)]; exact (f9 (upd_ne h (by decide))).1), trivial⟩)⟩
        · obtain rfl := Option.some.inj ho
          have g2 := f2 (hd ⟨2, .data⟩ (by simp) rfl)
          have g3 := f3 (hd ⟨3, .data⟩ (by simp) rfl)
          subst g2
          subst g3
          refine wpOp_step rfl (fun K' hK => ?_)
          go_simp
          refine hK _ _ ?_
          exact ⟨_, _, _, _, _, _, _, _, _, rfl, (I0), (kp f0), (kp f1), (kp f2), (kp f3), (fun _ => rfl), (kp f5), (kp f6), (kp f7), (fun h => by
            obtain ⟨q7, e7, h7, cs, h5, h6⟩ := f8 (upd_ne h (by decide))
            exact ⟨q7, e7, h7, cs, h5, by rw [h6, upd_other (by decide)]⟩), (fun h => ⟨by first | exact upd_self | (rw [upd_other (by decide)]; exact (f9 (upd_ne h (by decide))).1), trivial⟩)⟩
        · obtain rfl := Option.some.inj ho
          have g4 := f4 (hd ⟨4, .data⟩ (by simp) rfl)
          subst g4
          have x0 : ww.cell? ⟨g6, o6 + k, none⟩ = some (.int .i64 y) := (I0.cell (p := ⟨g6, o6 + k, none⟩) hg6w).trans d6
          refine wpOp_step rfl (fun K' hK => ?_)
          go_simp
          refine hK _ _ ?_
          exact ⟨_, _, _, _, _, _, _, _, _, rfl, (I0), (kp f0), (kp f1), (kp f2), (kp f3), (kp f4), (fun _ => rfl), (kp f6), (kp f7), (fun h => by
            obtain ⟨q7, e7, h7, cs, h5, h6⟩ := f8 (upd_ne h (by decide))
            exact ⟨q7, e7, h7, cs, h5, by rw [h6, upd_other (by decide)]⟩), (fun h => ⟨by first | exact upd_self | (rw [upd_other (by decide)]; exact (f9 (upd_ne h (by decide))).1), trivial⟩)⟩
        · obtain rfl := Option.some.inj ho
          have g1 := f1 (hd ⟨1, .data⟩ (by simp) rfl)
          have g5 := f5 (hd ⟨5, .data⟩ (by simp) rfl)
          subst g1
          subst g5
          refine wpOp_step rfl (fun K' hK => ?_)
          go_simp
          refine hK _ _ ?_
          exact ⟨_, _, _, _, _, _, _, _, _, rfl, (I0), (kp f0), (kp f1), (kp f2), (kp f3), (kp f4), (kp f5), (fun _ => rfl), (kp f7), (fun h => by
            obtain ⟨q7, e7, h7, cs, h5, h6⟩ := f8 (upd_ne h (by decide))
            exact ⟨q7, e7, h7, cs, h5, by rw [h6, upd_other (by decide)]⟩), (fun h => ⟨by first | exact upd_self | (rw [upd_other (by decide)]; exact (f9 (upd_ne h (by decide))).1), trivial⟩)⟩
        · obtain rfl := Option.some.inj ho
          have g6 := f6 (hd ⟨6, .data⟩ (by simp) rfl)
          subst g6
          have x0 : ww.cell? ⟨g, q + y * 3, none⟩ = some (.bool cl.u) := (I0.cell (p := ⟨g, q + y * 3, none⟩) hgw).trans e1'
          have x1 : ww.cell? ⟨g, q + y * 3 + 1, none⟩ = some (.int .i64 cl.d) := (I0.cell (p := ⟨g, q + y * 3 + 1, none⟩) hgw).trans e2'
          have x2 : ww.cell? ⟨g, q + y * 3 + 2, none⟩ = some (.slice A' m' cc) := (I0.cell (p := ⟨g, q + y * 3 + 2, none⟩) hgw).trans e3'
          refine wpOp_step rfl (fun K' hK => ?_)
          go_simp
          refine hK _ _ ?_
          exact ⟨_, _, _, _, _, _, _, _, _, rfl, (I0), (kp f0), (kp f1), (kp f2), (kp f3), (kp f4), (kp f5), (kp f6), (fun _ => rfl), (fun h => by
            obtain ⟨q7, e7, h7, cs, h5, h6⟩ := f8 (upd_ne h (by decide))
            exact ⟨q7, e7, h7, cs, h5, by rw [h6, upd_other (by decide)]⟩), (fun h => ⟨by first | exact upd_self | (rw [upd_other (by decide)]; exact (f9 (upd_ne h (by decide))).1), trivial⟩)⟩
        · obtain rfl := Option.some.inj ho
          have hL9 : L 9 = false := by
            cases e : L 9
            · rfl
            · exact absurd (f9 e).1 (by rw [hL]; decide)
          refine wpOp_step rfl (fun K' hK => ?_)
          go_simp
          refine hK _ _ ?_
          exact ⟨_, _, _, _, _, _, _, _, _, rfl, (I0.alloc I0.size _), (kp f0), (kp f1), (kp f2), (kp f3), (kp f4), (kp f5), (kp f6), (kp f7), (fun _ => ⟨_, rfl, I0.size, _, Rw.new _ _ _, by rw [upd_other (by decide), hL9, if_neg (by decide)]⟩), (fun h => ⟨by first | exact upd_self | (rw [upd_other (by decide)]; exact (f9 (upd_ne h (by decide))).1), trivial⟩)⟩
        · obtain rfl := Option.some.inj ho
          have g7 := f7 (hd ⟨7, .data⟩ (by simp) rfl)
          have g8 := f8 (hd ⟨8, .data⟩ (by simp) rfl)
          subst g7
          have l8 := Lib.hid (hd ⟨8, .data⟩ (by simp) rfl)
          obtain ⟨q7, e7, h7, cs, h5, h6⟩ := g8
          rw [hL, if_neg (by decide)] at h6
          subst h6
          subst e7
          have c0_ := h5.cell 0
          have c1_ := h5.cell 1
          have c2_ := h5.cell 2
          have fz0 := h5.frozen 0
          have fz1 := h5.frozen 1
          have fz2 := h5.frozen 2
          simp only [List.getElem?_toArray, List.getElem?_cons_zero, List.getElem?_cons_succ] at c0_ c1_ c2_
          refine wpOp_step rfl (fun K' hK => ?_)
          go_simp
          refine hK _ _ ?_
          exact ⟨_, _, _, _, _, _, _, _, _, rfl, ((((I0.setCell (p := ⟨q7, 0, none⟩) (by show wr.heap.size ≤ q7; omega) (.bool cl.u)).setCell (p := ⟨q7, 1, none⟩) (by show wr.heap.size ≤ q7; omega) (.int .i64 cl.d)).setCell (p := ⟨q7, 2, none⟩) (by show wr.heap.size ≤ q7; omega) (.slice A' m' cc))), (kp f0), (kp f1), (kp f2), (kp f3), (kp f4), (kp f5), (kp f6), (kp f7), (fun _ => ⟨q7, rfl, h7, _, (((h5.put 0 (.bool cl.u)).put 1 (.int .i64 cl.d)).put 2 (.slice A' m' cc)), by rw [upd_self, if_pos rfl]; rfl⟩), (fun _ => ⟨upd_mono l8.out, trivial⟩)⟩
      case hdone =>
        rintro L ac ww hall ⟨t7, t18, t19, t20, t21, t22, t23, t24, t25, rfl, I0, f0, f1, f2, f3, f4, f5, f6, f7, f8, f9⟩
        have e0 := f0 (hall 0 (by decide))
        have e1 := f1 (hall 1 (by decide))
        have e2 := f2 (hall 2 (by decide))
        have e3 := f3 (hall 3 (by decide))
        have e4 := f4 (hall 4 (by decide))
        have e5 := f5 (hall 5 (by decide))
        have e6 := f6 (hall 6 (by decide))
        have e7 := f7 (hall 7 (by decide))
        have e8 := f8 (hall 8 (by decide))
        have e9 := f9 (hall 9 (by decide))
        clear f0 f1 f2 f3 f4 f5 f6 f7 f8 f9
        obtain ⟨q7, rfl, h7, cs, R7, e10⟩ := e8
        rw [hall 9 (by decide), if_pos rfl] at e10
        subst e10
        have S := SS.out.up I0
        have bw5 := bw.trans (I0.mono bw.size)
        clear e0 e1 e2 e3 e4 e5 e6 e7 e9 hall z0 e1' e2' e3' d6 SS I0 h7 hgw hg6w hbw bw L
        generalize ww = w5 at S R7 bw5 ⊢
        have on := own_noneI w5 w5.heap.size (Nat.le_refl _)
        have bn : Below w5.heap.size w5 (w5.alloc (.cells #[] 3)) := (Below.refl _ _).alloc (Nat.le_refl _) _
        go_wp2_with fail
        go_loopw [8, 9] (fun lv i wr => ∃ (p : Nat) (l' : List Int), p ≤ m' ∧ i = .int .i64 p ∧ OwnI wr w5.heap.size lv l' ∧ Hid (l' = (cl.r.take p).map (Hps.nameL o)) ∧ l'.length = p ∧ Below w5.heap.size w5 wr) (fun _ i _ => m' - (intOf i).toNat)
        case atStart => exact ⟨0, [], Nat.zero_le _, rfl, on, Lib.hid (by simp), rfl, bn⟩
        case round =>
          clear on bn
          obtain ⟨p, l', hp, rfl, ol, HL, hll, bq⟩ := hrel
          have R8 := R7.keep bq R7.lt
          have u2 : wr.cell? ⟨q7, 2, none⟩ = some (.slice A' m' cc) := R8.cell 2
          have bw6 := bw5.trans (bq.mono bw5.size)
          by_cases hlt : p < m'
          · have hlt' : (p : Int) < m' := by omega
            obtain ⟨gr, or, x, e2, hgr, hx, d0⟩ := hi.at_ hlt
            subst e2
            have d1 := (bw6.cell (p := ⟨gr, or + p, none⟩) hgr).trans d0
            have HX := Lib.hid hx
            clear hx
            go_wp2_with fail
            refine (l9Name_any _ no co o x wr (ho.up bw6) (by omega)).mono ?_
            rintro e w3 ⟨rfl, b3⟩
            have ow := World.ownsRow.alloc (ol.below b3 (Nat.le_refl _)) (.cells #[.int .i64 (Hps.nameL o x)] 3)
            have bq3 := (bq.trans (b3.mono bq.size)).alloc (bq.trans (b3.mono bq.size)).size (.cells #[.int .i64 (Hps.nameL o x)] 3)
            have rr : IS (w3.alloc (.cells #[.int .i64 (Hps.nameL o x)] 3)) (w3.alloc (.cells #[.int .i64 (Hps.nameL o x)] 3)).heap.size (some ⟨w3.heap.size, 0, none⟩) 1 [Hps.nameL o x] := (own_oneI w3 _ 0 (Nat.zero_le _)).reads
            have hyn : l'.length + 1 ≤ 1099511627776 := by omega
            clear d1 d0 u2 b3 R8
            go_wp2_with (at_builtin; refine wpList_appendI rfl (.tmp 34) (.tmp 42) rfl w5.heap.size _ l' rfl ow (some ⟨w3.heap.size, 0, none⟩) 1 1 _ [Hps.nameL o x] rfl rr hyn bq3.size ?_; intro v6 w6 o6' g6' s6')
            go_roundw
            case rel => exact ⟨p + 1, _, by omega, by go_num, o6', Lib.hid (by rw [Hps.map_snoc _ _ HX.out, ← HL.out]), by simp [hll], bq3.grown g6' bq3.size (fun kk hk => (World.ownsRow.lt ow kk hk).1)⟩
            case measure => simp [intOf]; omega
          · obtain rfl : p = m' := by omega
            have HL2 := Lib.hid (show l' = cl.r.map (Hps.nameL o) by
              have := HL.out
              rwa [List.take_of_length_le (by have := hi.1; omega)] at this)
            have u1 : wr.cell? ⟨q7, 1, none⟩ = some (.int .i64 cl.d) := R8.cell 1
            have S6 := S.up bq
            obtain ⟨A8, c8, rfl, -⟩ := ol.form
            rw [hll] at ol ⊢
            obtain ⟨Ac, cx, Rx, dx, e1, -, -⟩ := S6.own.form
            subst e1
            have hck : (Hps.movedTo h o k 0).cs.length = k := by simp [Hps.movedTo, HOL.out]; omega
            rw [hck] at S6 S
            have v0 : wr.cell? ⟨w.heap.size + 1 + 1, 0, none⟩ = some (.slice Ac k cx) := S6.box.cell 0
            have own6 := World.ownsRow.alloc S6.own.row (.cells #[.bool true, .int .i64 cl.d, .slice A8 p c8] 61)
            rw [hck] at own6
            have q12 := Rw.new wr 61 #[.bool true, .int .i64 cl.d, .slice A8 p c8]
            have B1 : Below wr.heap.size wr (wr.alloc (.cells #[.bool true, .int .i64 cl.d, .slice A8 p c8] 61)) := (Below.refl _ _).alloc (Nat.le_refl _) _
            have SB := S6.up B1
            have ol8 := ol.below B1 (Nat.le_refl _)
            have hlo5 := S.low.size
            have hap : ∀ v ∈ (Value.slice Ac k cx) :: (.slice none 0 0) :: rvs, (Value.slice A8 p c8).ownBlock = none ∨ (Value.slice A8 p c8).ownBlock ≠ v.ownBlock := fun v hv => by
              cases e8 : (Value.slice A8 p c8).ownBlock with
              | none => exact .inl rfl
              | some g8 =>
                refine .inr (fun e2 => ?_)
                have a1 := (World.ownsRow.lt ol8 _ e8).1
                have a2 := (S.own.blocks hv e2.symm).2
                omega
            have h8b : (Value.slice A8 p c8).ownBlock ≠ some (w.heap.size + 1 + 1) := fun e => by
              have a1 := (World.ownsRow.lt ol8 _ e).1
              have a2 := S.box.lt
              omega
            have GO := Lib.hid (fun v9 w9 (g9 : (wr.alloc (.cells #[.bool true, .int .i64 cl.d, .slice A8 p c8] 61)).grownBy w9 (Value.slice Ac k cx).ownBlock) o9 s9 => SB.snoc (cl := ⟨true, cl.d, l'⟩) (v9 := v9) (v8 := .slice A8 p c8) (w1 := w9) g9 (by rw [hck]; exact o9) s9 (ol8.base hlo5) hap h8b)
            have hbase : W0.heap.size ≤ (wr.alloc (.cells #[.bool true, .int .i64 cl.d, .slice A8 p c8] 61)).heap.size := SB.low.size
            have FB := Lib.hid (fun w9 (g9 : (wr.alloc (.cells #[.bool true, .int .i64 cl.d, .slice A8 p c8] 61)).grownBy w9 (Value.slice Ac k cx).ownBlock) => Rw.far SB.box g9 (row_type own6 SB.box (by decide)))
            clear S6 SB ol8 hap h8b B1
            go_wp2_with (at_builtin; refine wpList_appendC rfl (.tmp 45) (.tmp 50) rfl W0.heap.size _ k _ rfl own6 wr.heap.size true cl.d A8 p c8 rfl q12 (by omega) hbase ?_; intro v9 w9 A9 c9 e9 o9 g9 s9; subst e9; have SN := GO.out _ w9 g9 o9 s9; have z9 := (FB.out w9 g9).cell 0; have f9 := (FB.out w9 g9).frozen 0; clear o9 g9 s9)
            go_roundw
            case rel => exact ⟨k + 1, _, _, by omega, by go_num, by rw [Hps.moved_step HY6.out HCA.out HL2.out]; exact SN⟩
            case measure => simp [intOf]; omega
    · obtain rfl : k = no := by omega
      clear hq0 hq1 bw
      go_wp2_with fail
      go_loopw [10] (fun i wr => ∃ (j : Nat) (vr : Value) (rv : List Value), j ≤ m ∧ i = .int .i64 j ∧ BoxSt W0 wr (w.heap.size + 1 + 1) vc vr rv (Hps.movedTo h o k j)) (fun i _ => m - (intOf i).toNat)
      case atStart => exact ⟨0, _, _, Nat.zero_le _, rfl, S⟩
      case round =>
        clear S
        obtain ⟨j, vr, rv, hj, rfl, S⟩ := hrel
        have bw := bW.trans (S.low.mono bW.size)
        have hq0 : w.heap.size < W0.heap.size := by have := HZ.out; omega
        have z1 : wr.cell? ⟨w.heap.size, 1, none⟩ = some (.slice R m d) := (q0.keep S.low hq0).cell 1
        have hcj : (Hps.movedTo h o k j).rt.length = j := by simp [Hps.movedTo, HLR.out]; omega
        by_cases hlt : j < m
        · have hlt' : (j : Int) < m := by omega
          obtain ⟨g6, o6, y, e6, hg6, hy6, d6⟩ := (hs.roots.below bw).at_ hlt
          subst e6
          obtain ⟨Ar, cr, e1, -⟩ := S.own.roots.form
          subst e1
          rw [hcj] at S
          have x1 : wr.cell? ⟨w.heap.size + 1 + 1, 1, none⟩ = some (.slice Ar j cr) := S.box.cell 1
          have hbl := S.box.lt
          have hbw : w.heap.size < wr.heap.size := (q0.keep S.low hq0).lt
          have hgw : g6 < wr.heap.size := Nat.lt_of_lt_of_le hg6 bw.size
          have HVB : Hid (some (w.heap.size + 1 + 1) ≠ (Value.slice Ar j cr).ownBlock) := Lib.hid (by
            rcases S.apart (.slice Ar j cr) (by simp) with e | e
            · rw [e]; simp
            · exact fun h => e h.symm)
          have HY := Lib.hid hy6
          have HO := Lib.hid ho
          have HCJ := Lib.hid hcj
          have SS := Lib.hid S
          clear hy6 S hcj
          go_upto_region 15 with fail
          refine wp_region_inv (by kernel_rfl) (by kernel_rfl) (fun L ac ww => ∃ t60 t61 t62 t63 t64 t65 t66 t67 t68 t69 t70 t71 : Value, ac = { tmps := #[heapV A n c (some { block := g6, off := o6 }) m d, Value.slice AO k co, Value.pointer (some { block := w.heap.size, off := 0 }), undef, Value.pointer (some { block := w.heap.size + 1, off := 0 }), Value.pointer (some { block := w.heap.size + 1 + 1, off := 0 }), Value.int IntKind.i64 ↑k, u7, u8, u9, Value.int IntKind.i64 ↑j, Value.agg #[Value.slice none 0 0, Value.slice none 0 0], Value.int IntKind.i64 ↑k, Value.slice AO k co, Value.int IntKind.i64 ↑k, Value.bool false, u16, u17, u18, u19, u20, u21, u22, u23, u24, u25, u26, u27, u28, u29, u30, u31, u32, u33, u34, u35, u36, u37, u38, u39, u40, u41, u42, u43, u44, u45, u46, u47, u48, u49, u50, u51, u52, Value.int IntKind.i64 ↑j, Value.pointer (some { block := w.heap.size, off := 1 }), Value.slice (some { block := g6, off := o6 }) m d, Value.int IntKind.i64 ↑m, Value.bool true, u58, u59, t60, t61, t62, t63, t64, t65, t66, t67, t68, t69, t70, t71, undef], defers := [] } ∧ (L 10 = false → Below wr.heap.size wr ww) ∧ (Closed [(1, 0), (4, 3), (6, 4), (6, 5), (7, 6), (8, 2), (8, 7), (9, 8), (10, 1), (10, 8), (10, 9)] L) ∧ (L 0 = true → t60 = .pointer (some ⟨w.heap.size + 1 + 1, 1, none⟩)) ∧ (L 1 = true → t61 = .slice Ar j cr) ∧ (L 2 = true → t62 = .slice AO k co) ∧ (L 3 = true → t63 = .pointer (some ⟨w.heap.size, 1, none⟩)) ∧ (L 4 = true → t64 = .slice (some ⟨g6, o6, none⟩) m d) ∧ (L 5 = true → t65 = .int .i64 j) ∧ (L 6 = true → t66 = .pointer (some ⟨g6, o6 + j, none⟩)) ∧ (L 7 = true → t67 = .int .i64 y) ∧ (L 8 = true → t68 = .int .i64 (Hps.nameL o y)) ∧ (L 9 = true → ∃ g9, t69 = .slice (some ⟨g9, 0, none⟩) 1 1 ∧ (L 10 = false → IS ww ww.heap.size (some ⟨g9, 0, none⟩) 1 [Hps.nameL o y])) ∧ (L 10 = true → ∃ wp w9, ww = (if L 12 = true then w9.setCell ⟨w.heap.size + 1 + 1, 1, none⟩ t70 else w9) ∧ Below wr.heap.size wr wp ∧ wp.grownBy w9 (Value.slice Ar j cr).ownBlock ∧ OwnI w9 W0.heap.size t70 ((Hps.movedTo h o k j).rt ++ [Hps.nameL o y]) ∧ (t70.ownBlock = (Value.slice Ar j cr).ownBlock ∨ t70.ownBlock = some wp.heap.size)) ∧ (L 11 = true → t71 = .pointer (some ⟨w.heap.size + 1 + 1, 1, none⟩)) ∧ (L 12 = true → L 10 = true)) ?h0 ?hstep ?hdone
          case h0 => exact ⟨_, _, _, _, _, _, _, _, _, _, _, _, rfl, fun _ => (Below.refl _ _).drew, fun _ _ h => absurd h Bool.false_ne_true, (fun h => absurd h Bool.false_ne_true), (fun h => absurd h Bool.false_ne_true), (fun h => absurd h Bool.false_ne_true), (fun h => absurd h Bool.false_ne_true), (fun h => absurd h Bool.false_ne_true), (fun h => absurd h Bool.false_ne_true), (fun h => absurd h Bool.false_ne_true), (fun h => absurd h Bool.false_ne_true), (fun h => absurd h Bool.false_ne_true), (fun h => absurd h Bool.false_ne_true), (fun h => absurd h Bool.false_ne_true), (fun h => absurd h Bool.false_ne_true), (fun h => absurd h Bool.false_ne_true)⟩
          case hstep =>
            rintro L ac ww i o ho hL hd ⟨t60, t61, t62, t63, t64, t65, t66, t67, t68, t69, t70, t71, rfl, I0, I1, f0, f1, f2, f3, f4, f5, f6, f7, f8, f9, f10, f11, f12⟩
            have hi : i < 13 := (Array.getElem?_eq_some_iff.1 ho).1
            obtain rfl | rfl | rfl | rfl | rfl | rfl | rfl | rfl | rfl | rfl | rfl | rfl | rfl : i = 0 ∨ i = 1 ∨ i = 2 ∨ i = 3 ∨ i = 4 ∨ i = 5 ∨ i = 6 ∨ i = 7 ∨ i = 8 ∨ i = 9 ∨ i = 10 ∨ i = 11 ∨ i = 12 := by omega
            · obtain rfl := Option.some.inj ho
              have hL10 : L 10 = false := by
                cases e : L 10
                · rfl
                · exact absurd (I1.get (i := 1) (j := 0) (by decide) (I1.get (i := 10) (j := 1) (by decide) e)) (by rw [hL]; decide)
              have J := I0 hL10
              refine wpOp_step rfl (fun K' hK => ?_)
              go_simp
              refine hK _ _ ?_
              exact ⟨_, _, _, _, _, _, _, _, _, _, _, _, rfl, (fun _ => J), (Closed.step I1 (by
                intro p hp e
                simp only [List.mem_cons, List.not_mem_nil, or_false] at hp
                rcases hp with rfl | rfl | rfl | rfl | rfl | rfl | rfl | rfl | rfl | rfl | rfl
                · exact absurd e (by decide)
                · exact absurd e (by decide)
                · exact absurd e (by decide)
                · exact absurd e (by decide)
                · exact absurd e (by decide)
                · exact absurd e (by decide)
                · exact absurd e (by decide)
                · exact absurd e (by decide)
                · exact absurd e (by decide)
                · exact absurd e (by decide)
                · exact absurd e (by decide))), (fun _ => rfl), (kp f1), (kp f2), (kp f3), (kp f4), (kp f5), (kp f6), (kp f7), (kp f8), (fun h => by
                obtain ⟨g9, e9, r9⟩ := f9 (upd_ne h (by decide))
                exact ⟨g9, e9, fun h10 => r9 (by rw [upd_other (by decide)] at h10; exact h10)⟩), (fun h => absurd (I1.get (i := 1) (j := 0) (by decide) (I1.get (i := 10) (j := 1) (by decide) (upd_ne h (by decide)))) (by rw [hL]; decide)), (kp f11), (fun h => upd_mono (f12 (upd_ne h (by decide))))⟩
            · obtain rfl := Option.some.inj ho
              have g0 := f0 (hd ⟨0, .data⟩ (by simp) rfl)
              subst g0
              have hL10 : L 10 = false := by
                cases e : L 10
                · rfl
                · exact absurd (I1.get (i := 10) (j := 1) (by decide) e) (by rw [hL]; decide)
              have J := I0 hL10
              have c1 : ww.cell? ⟨w.heap.size + 1 + 1, 1, none⟩ = some (.slice Ar j cr) := (J.cell (p := ⟨w.heap.size + 1 + 1, 1, none⟩) hbl).trans x1
              refine wpOp_step rfl (fun K' hK => ?_)
              go_simp
              refine hK _ _ ?_
              exact ⟨_, _, _, _, _, _, _, _, _, _, _, _, rfl, (fun _ => J), (Closed.step I1 (by
                intro p hp e
                simp only [List.mem_cons, List.not_mem_nil, or_false] at hp
                rcases hp with rfl | rfl | rfl | rfl | rfl | rfl | rfl | rfl | rfl | rfl | rfl
                · exact hd ⟨0, .data⟩ (by simp) rfl
                · exact absurd e (by decide)
                · exact absurd e (by decide)
                · exact absurd e (by decide)
                · exact absurd e (by decide)
                · exact absurd e (by decide)
                · exact absurd e (by decide)
                · exact absurd e (by decide)
                · exact absurd e (by decide)
                · exact absurd e (by decide)
                · exact absurd e (by decide))), (kp f0), (fun _ => rfl), (kp f2), (kp f3), (kp f4), (kp f5), (kp f6), (kp f7), (kp f8), (fun h => by
                obtain ⟨g9, e9, r9⟩ := f9 (upd_ne h (by decide))
                exact ⟨g9, e9, fun h10 => r9 (by rw [upd_other (by decide)] at h10; exact h10)⟩), (fun h => absurd (I1.get (i := 10) (j := 1) (by decide) (upd_ne h (by decide))) (by rw [hL]; decide)), (kp f11), (fun h => upd_mono (f12 (upd_ne h (by decide))))⟩
            · obtain rfl := Option.some.inj ho
              have hL10 : L 10 = false := by
                cases e : L 10
                · rfl
                · exact absurd (I1.get (i := 8) (j := 2) (by decide) (I1.get (i := 10) (j := 8) (by decide) e)) (by rw [hL]; decide)
              have J := I0 hL10
              refine wpOp_step rfl (fun K' hK => ?_)
              go_simp
              refine hK _ _ ?_
              exact ⟨_, _, _, _, _, _, _, _, _, _, _, _, rfl, (fun _ => J), (Closed.step I1 (by
                intro p hp e
                simp only [List.mem_cons, List.not_mem_nil, or_false] at hp
                rcases hp with rfl | rfl | rfl | rfl | rfl | rfl | rfl | rfl | rfl | rfl | rfl
                · exact absurd e (by decide)
                · exact absurd e (by decide)
                · exact absurd e (by decide)
                · exact absurd e (by decide)
                · exact absurd e (by decide)
                · exact absurd e (by decide)
                · exact absurd e (by decide)
                · exact absurd e (by decide)
                · exact absurd e (by decide)
                · exact absurd e (by decide)
                · exact absurd e (by decide))), (kp f0), (kp f1), (fun _ => rfl), (kp f3), (kp f4), (kp f5), (kp f6), (kp f7), (kp f8), (fun h => by
                obtain ⟨g9, e9, r9⟩ := f9 (upd_ne h (by decide))
                exact ⟨g9, e9, fun h10 => r9 (by rw [upd_other (by decide)] at h10; exact h10)⟩), (fun h => absurd (I1.get (i := 8) (j := 2) (by decide) (I1.get (i := 10) (j := 8) (by decide) (upd_ne h (by decide)))) (by rw [hL]; decide)), (kp f11), (fun h => upd_mono (f12 (upd_ne h (by decide))))⟩
            · obtain rfl := Option.some.inj ho
              have hL10 : L 10 = false := by
                cases e : L 10
                · rfl
                · exact absurd (I1.get (i := 4) (j := 3) (by decide) (I1.get (i := 6) (j := 4) (by decide) (I1.get (i := 7) (j := 6) (by decide) (I1.get (i := 8) (j := 7) (by decide) (I1.get (i := 10) (j := 8) (by decide) e))))) (by rw [hL]; decide)
              have J := I0 hL10
              refine wpOp_step rfl (fun K' hK => ?_)
              go_simp
              refine hK _ _ ?_
              exact ⟨_, _, _, _, _, _, _, _, _, _, _, _, rfl, (fun _ => J), (Closed.step I1 (by
                intro p hp e
                simp only [List.mem_cons, List.not_mem_nil, or_false] at hp
                rcases hp with rfl | rfl | rfl | rfl | rfl | rfl | rfl | rfl | rfl | rfl | rfl
                · exact absurd e (by decide)
                · exact absurd e (by decide)
                · exact absurd e (by decide)
                · exact absurd e (by decide)
                · exact absurd e (by decide)
                · exact absurd e (by decide)
                · exact absurd e (by decide)
                · exact absurd e (by decide)
                · exact absurd e (by decide)
                · exact absurd e (by decide)
                · exact absurd e (by decide))), (kp f0), (kp f1), (kp f2), (fun _ => rfl), (kp f4), (kp f5), (kp f6), (kp f7), (kp f8), (fun h => by
                obtain ⟨g9, e9, r9⟩ := f9 (upd_ne h (by decide))
                exact ⟨g9, e9, fun h10 => r9 (by rw [upd_other (by decide)] at h10; exact h10)⟩), (fun h => absurd (I1.get (i := 4) (j := 3) (by decide) (I1.get (i := 6) (j := 4) (by decide) (I1.get (i := 7) (j := 6) (by decide) (I1.get (i := 8) (j := 7) (by decide) (I1.get (i := 10) (j := 8) (by decide) (upd_ne h (by decide))))))) (by rw [hL]; decide)), (kp f11), (fun h => upd_mono (f12 (upd_ne h (by decide))))⟩
            · obtain rfl := Option.some.inj ho
              have g3 := f3 (hd ⟨3, .data⟩ (by simp) rfl)
              subst g3
              have hL10 : L 10 = false := by
                cases e : L 10
                · rfl
                · exact absurd (I1.get (i := 6) (j := 4) (by decide) (I1.get (i := 7) (j := 6) (by decide) (I1.get (i := 8) (j := 7) (by decide) (I1.get (i := 10) (j := 8) (by decide) e)))) (by rw [hL]; decide)
              have J := I0 hL10
              have c1 : ww.cell? ⟨w.heap.size, 1, none⟩ = some (.slice (some ⟨g6, o6, none⟩) m d) := (J.cell (p := ⟨w.heap.size, 1, none⟩) hbw).trans z1
              refine wpOp_step rfl (fun K' hK => ?_)
              go_simp
              refine hK _ _ ?_
              exact ⟨_, _, _, _, _, _, _, _, _, _, _, _, rfl, (fun _ => J), (Closed.step I1 (by
                intro p hp e
                simp only [List.mem_cons, List.not_mem_nil, or_false] at hp
                rcases hp with rfl | rfl | rfl | rfl | rfl | rfl | rfl | rfl | rfl | rfl | rfl
                · exact absurd e (by decide)
                · exact hd ⟨3, .data⟩ (by simp) rfl
                · exact absurd e (by decide)
                · exact absurd e (by decide)
                · exact absurd e (by decide)
                · exact absurd e (by decide)
                · exact absurd e (by decide)
                · exact absurd e (by decide)
                · exact absurd e (by decide)
                · exact absurd e (by decide)
                · exact absurd e (by decide))), (kp f0), (kp f1), (kp f2), (kp f3), (fun _ => rfl), (kp f5), (kp f6), (kp f7), (kp f8), (fun h => by
                obtain ⟨g9, e9, r9⟩ := f9 (upd_ne h (by decide))
                exact ⟨g9, e9, fun h10 => r9 (by rw [upd_other (by decide)] at h10; exact h10)⟩), (fun h => absurd (I1.get (i := 6) (j := 4) (by decide) (I1.get (i := 7) (j := 6) (by decide) (I1.get (i := 8) (j := 7) (by decide) (I1.get (i := 10) (j := 8) (by decide) (upd_ne h (by decide)))))) (by rw [hL]; decide)), (kp f11), (fun h => upd_mono (f12 (upd_ne h (by decide))))⟩
            · obtain rfl := Option.some.inj ho
              have hL10 : L 10 = false := by
                cases e : L 10
                · rfl
                · exact absurd (I1.get (i := 6) (j := 5) (by decide) (I1.get (i := 7) (j := 6) (by decide) (I1.get (i := 8) (j := 7) (by decide) (I1.get (i := 10) (j := 8) (by decide) e)))) (by rw [hL]; decide)
              have J := I0 hL10
              refine wpOp_step rfl (fun K' hK => ?_)
              go_simp
              refine hK _ _ ?_
              exact ⟨_, _, _, _, _, _, _, _, _, _, _, _, rfl, (fun _ => J), (Closed.step I1 (by
                intro p hp e
                simp only [List.mem_cons, List.not_mem_nil, or_false] at hp
                rcases hp with rfl | rfl | rfl | rfl | rfl | rfl | rfl | rfl | rfl | rfl | rfl
                · exact absurd e (by decide)
                · exact absurd e (by decide)
                · exact absurd e (by decide)
                · exact absurd e (by decide)
                · exact absurd e (by decide)
                · exact absurd e (by decide)
                · exact absurd e (by decide)
                · exact absurd e (by decide)
                · exact absurd e (by decide)
                · exact absurd e (by decide)
                · exact absurd e (by decide))), (kp f0), (kp f1), (kp f2), (kp f3), (kp f4), (fun _ => rfl), (kp f6), (kp f7), (kp f8), (fun h => by
                obtain ⟨g9, e9, r9⟩ := f9 (upd_ne h (by decide))
                exact ⟨g9, e9, fun h10 => r9 (by rw [upd_other (by decide)] at h10; exact h10)⟩), (fun h => absurd (I1.get (i := 6) (j := 5) (by decide) (I1.get (i := 7) (j := 6) (by decide) (I1.get (i := 8) (j := 7) (by decide) (I1.get (i := 10) (j := 8) (by decide) (upd_ne h (by decide)))))) (by rw [hL]; decide)), (kp f11), (fun h => upd_mono (f12 (upd_ne h (by decide))))⟩
            · obtain rfl := Option.some.inj ho
              have g4 := f4 (hd ⟨4, .data⟩ (by simp) rfl)
              have g5 := f5 (hd ⟨5, .data⟩ (by simp) rfl)
              subst g4
              subst g5
              have hL10 : L 10 = false := by
                cases e : L 10
                · rfl
                · exact absurd (I1.get (i := 7) (j := 6) (by decide) (I1.get (i := 8) (j := 7) (by decide) (I1.get (i := 10) (j := 8) (by decide) e))) (by rw [hL]; decide)
              have J := I0 hL10
              refine wpOp_step rfl (fun K' hK => ?_)
              go_simp
              refine hK _ _ ?_
              exact ⟨_, _, _, _, _, _, _, _, _, _, _, _, rfl, (fun _ => J), (Closed.step I1 (by
                intro p hp e
                simp only [List.mem_cons, List.not_mem_nil, or_false] at hp
                rcases hp with rfl | rfl | rfl | rfl | rfl | rfl | rfl | rfl | rfl | rfl | rfl
                · exact absurd e (by decide)
                · exact absurd e (by decide)
                · exact hd ⟨4, .data⟩ (by simp) rfl
                · exact hd ⟨5, .data⟩ (by simp) rfl
                · exact absurd e (by decide)
                · exact absurd e (by decide)
                · exact absurd e (by decide)
                · exact absurd e (by decide)
                · exact absurd e (by decide)
                · exact absurd e (by decide)
                · exact absurd e (by decide))), (kp f0), (kp f1), (kp f2), (kp f3), (kp f4), (kp f5), (fun _ => rfl), (kp f7), (kp f8), (fun h => by
                obtain ⟨g9, e9, r9⟩ := f9 (upd_ne h (by decide))
                exact ⟨g9, e9, fun h10 => r9 (by rw [upd_other (by decide)] at h10; exact h10)⟩), (fun h => absurd (I1.get (i := 7) (j := 6) (by decide) (I1.get (i := 8) (j := 7) (by decide) (I1.get (i := 10) (j := 8) (by decide) (upd_ne h (by decide))))) (by rw [hL]; decide)), (kp f11), (fun h => upd_mono (f12 (upd_ne h (by decide))))⟩
            · obtain rfl := Option.some.inj ho
              have g6 := f6 (hd ⟨6, .data⟩ (by simp) rfl)
              subst g6
              have hL10 : L 10 = false := by
                cases e : L 10
                · rfl
                · exact absurd (I1.get (i := 8) (j := 7) (by decide) (I1.get (i := 10) (j := 8) (by decide) e)) (by rw [hL]; decide)
              have J := I0 hL10
              have c1 : ww.cell? ⟨g6, o6 + j, none⟩ = some (.int .i64 y) := (J.cell (p := ⟨g6, o6 + j, none⟩) hgw).trans d6
              refine wpOp_step rfl (fun K' hK => ?_)
              go_simp
              refine hK _ _ ?_
              exact ⟨_, _, _, _, _, _, _, _, _, _, _, _, rfl, (fun _ => J), (Closed.step I1 (by
                intro p hp e
                simp only [List.mem_cons, List.not_mem_nil, or_false] at hp
                rcases hp with rfl | rfl | rfl | rfl | rfl | rfl | rfl | rfl | rfl | rfl | rfl
                · exact absurd e (by decide)
                · exact absurd e (by decide)
                · exact absurd e (by decide)
                · exact absurd e (by decide)
                · exact hd ⟨6, .data⟩ (by simp) rfl
                · exact absurd e (by decide)
                · exact absurd e (by decide)
                · exact absurd e (by decide)
                · exact absurd e (by decide)
                · exact absurd e (by decide)
                · exact absurd e (by decide))), (kp f0), (kp f1), (kp f2), (kp f3), (kp f4), (kp f5), (kp f6), (fun _ => rfl), (kp f8), (fun h => by
                obtain ⟨g9, e9, r9⟩ := f9 (upd_ne h (by decide))
                exact ⟨g9, e9, fun h10 => r9 (by rw [upd_other (by decide)] at h10; exact h10)⟩), (fun h => absurd (I1.get (i := 8) (j := 7) (by decide) (I1.get (i := 10) (j := 8) (by decide) (upd_ne h (by decide)))) (by rw [hL]; decide)), (kp f11), (fun h => upd_mono (f12 (upd_ne h (by decide))))⟩
            · obtain rfl := Option.some.inj ho
              have g2 := f2 (hd ⟨2, .data⟩ (by simp) rfl)
              have g7 := f7 (hd ⟨7, .data⟩ (by simp) rfl)
              subst g2
              subst g7
              have hL10 : L 10 = false := by
                cases e : L 10
                · rfl
                · exact absurd (I1.get (i := 10) (j := 8) (by decide) e) (by rw [hL]; decide)
              have J := I0 hL10
              refine wpOp_step rfl (fun K' hK => ?_)
              go_simp
              refine (l9Name_any _ k co o y ww (HO.out.up (bw.trans (J.mono bw.size))) (by omega)).mono ?_
              rintro e w' ⟨rfl, b5⟩
              refine hK _ _ ?_
              exact ⟨_, _, _, _, _, _, _, _, _, _, _, _, rfl, (fun _ => J.trans (b5.mono J.size)), (Closed.step I1 (by
                intro p hp e
                simp only [List.mem_cons, List.not_mem_nil, or_false] at hp
                rcases hp with rfl | rfl | rfl | rfl | rfl | rfl | rfl | rfl | rfl | rfl | rfl
                · exact absurd e (by decide)
                · exact absurd e (by decide)
                · exact absurd e (by decide)
                · exact absurd e (by decide)
                · exact absurd e (by decide)
                · exact hd ⟨2, .data⟩ (by simp) rfl
                · exact hd ⟨7, .data⟩ (by simp) rfl
                · exact absurd e (by decide)
                · exact absurd e (by decide)
                · exact absurd e (by decide)
                · exact absurd e (by decide))), (kp f0), (kp f1), (kp f2), (kp f3), (kp f4), (kp f5), (kp f6), (kp f7), (fun _ => rfl), (fun h => absurd (I1.get (i := 9) (j := 8) (by decide) (upd_ne h (by decide))) (by rw [hL]; decide)), (fun h => absurd (I1.get (i := 10) (j := 8) (by decide) (upd_ne h (by decide))) (by rw [hL]; decide)), (kp f11), (fun h => upd_mono (f12 (upd_ne h (by decide))))⟩
            · obtain rfl := Option.some.inj ho
              have g8 := f8 (hd ⟨8, .data⟩ (by simp) rfl)
              subst g8
              have hL10 : L 10 = false := by
                cases e : L 10
                · rfl
                · exact absurd (I1.get (i := 10) (j := 9) (by decide) e) (by rw [hL]; decide)
              have J := I0 hL10
              refine wpOp_step rfl (fun K' hK => ?_)
              go_simp
              refine hK _ _ ?_
              exact ⟨_, _, _, _, _, _, _, _, _, _, _, _, rfl, (fun _ => J.alloc J.size _), (Closed.step I1 (by
                intro p hp e
                simp only [List.mem_cons, List.not_mem_nil, or_false] at hp
                rcases hp with rfl | rfl | rfl | rfl | rfl | rfl | rfl | rfl | rfl | rfl | rfl
                · exact absurd e (by decide)
                · exact absurd e (by decide)
                · exact absurd e (by decide)
                · exact absurd e (by decide)
                · exact absurd e (by decide)
                · exact absurd e (by decide)
                · exact absurd e (by decide)
                · exact hd ⟨8, .data⟩ (by simp) rfl
                · exact absurd e (by decide)
                · exact absurd e (by decide)
                · exact absurd e (by decide))), (kp f0), (kp f1), (kp f2), (kp f3), (kp f4), (kp f5), (kp f6), (kp f7), (kp f8), (fun _ => ⟨_, rfl, fun _ => (own_oneI ww _ 0 (Nat.zero_le _)).reads⟩), (fun h => absurd (I1.get (i := 10) (j := 9) (by decide) (upd_ne h (by decide))) (by rw [hL]; decide)), (kp f11), (fun h => upd_mono (f12 (upd_ne h (by decide))))⟩
            · obtain rfl := Option.some.inj ho
              have g1 := f1 (hd ⟨1, .data⟩ (by simp) rfl)
              have g9 := f9 (hd ⟨9, .data⟩ (by simp) rfl)
              subst g1
              have J := I0 hL
              obtain ⟨g9, e9, r9⟩ := g9
              subst e9
              have S6 := SS.out.up J
              have own6 : OwnI ww W0.heap.size (.slice Ar j cr) (Hps.movedTo h o k j).rt := S6.own.roots
              have hw0 := S6.low.size
              have hll := HCJ.out
              refine wpOp_step rfl (fun K' hK => ?_)
              refine app_stepI rfl (.tmp 61) (.tmp 69) rfl W0.heap.size _ _ rfl own6 (some ⟨g9, 0, none⟩) 1 1 _ [Hps.nameL o y] rfl (r9 hL) (by omega) hw0 ?_
              intro v' w' o1 g1 s1
              refine hK _ _ ?_
              exact ⟨_, _, _, _, _, _, _, _, _, _, _, _, rfl, (fun h => absurd h (by rw [upd_self]; decide)), (Closed.step I1 (by
                intro p hp e
                simp only [List.mem_cons, List.not_mem_nil, or_false] at hp
                rcases hp with rfl | rfl | rfl | rfl | rfl | rfl | rfl | rfl | rfl | rfl | rfl
                · exact absurd e (by decide)
                · exact absurd e (by decide)
                · exact absurd e (by decide)
                · exact absurd e (by decide)
                · exact absurd e (by decide)
                · exact absurd e (by decide)
                · exact absurd e (by decide)
                · exact absurd e (by decide)
                · exact hd ⟨1, .data⟩ (by simp) rfl
                · exact hd ⟨8, .chain⟩ (by simp) rfl
                · exact hd ⟨9, .data⟩ (by simp) rfl)), (kp f0), (kp f1), (kp f2), (kp f3), (kp f4), (kp f5), (kp f6), (kp f7), (kp f8), (fun _ => ⟨g9, rfl, fun h => absurd h (by rw [upd_self]; decide)⟩), (fun _ => ⟨ww, w', by
                rw [upd_other (by decide)]
                cases e : L 12
                · rw [if_neg (by decide)]
                · exact absurd (f12 e) (by rw [hL]; decide), J, g1, o1, s1⟩), (kp f11), (fun h => upd_mono (f12 (upd_ne h (by decide))))⟩
            · obtain rfl := Option.some.inj ho
              refine wpOp_step rfl (fun K' hK => ?_)
              go_simp
              refine hK _ _ ?_
              exact ⟨_, _, _, _, _, _, _, _, _, _, _, _, rfl, (fun h => I0 (by rw [upd_other (by decide)] at h; exact h)), (Closed.step I1 (by
                intro p hp e
                simp only [List.mem_cons, List.not_mem_nil, or_false] at hp
                rcases hp with rfl | rfl | rfl | rfl | rfl | rfl | rfl | rfl | rfl | rfl | rfl
                · exact absurd e (by decide)
                · exact absurd e (by decide)
                · exact absurd e (by decide)
                · exact absurd e (by decide)
                · exact absurd e (by decide)
                · exact absurd e (by decide)
                · exact absurd e (by decide)
                · exact absurd e (by decide)
                · exact absurd e (by decide)
                · exact absurd e (by decide)
                · exact absurd e (by decide))), (kp f0), (kp f1), (kp f2), (kp f3), (kp f4), (kp f5), (kp f6), (kp f7), (kp f8), (fun h => by
                obtain ⟨g9, e9, r9⟩ := f9 (upd_ne h (by decide))
                exact ⟨g9, e9, fun h10 => r9 (by rw [upd_other (by decide)] at h10; exact h10)⟩), (fun h => by
                obtain ⟨wp, w9, e, r⟩ := f10 (upd_ne h (by decide))
                exact ⟨wp, w9, by rw [upd_other (by decide)]; exact e, r⟩), (fun _ => rfl), (fun h => upd_mono (f12 (upd_ne h (by decide))))⟩
            · obtain rfl := Option.some.inj ho
              have g10 := f10 (hd ⟨10, .data⟩ (by simp) rfl)
              have g11 := f11 (hd ⟨11, .data⟩ (by simp) rfl)
              subst g11
              have l10 := Lib.hid (hd ⟨10, .data⟩ (by simp) rfl)
              obtain ⟨wp, w9, e10, r1, r2, r3, r4⟩ := g10
              rw [hL, if_neg (by decide)] at e10
              subst e10
              obtain ⟨A9, c9, e9, -⟩ := r3.form
              rw [List.length_append, List.length_singleton] at e9
              subst e9
              have hb9 : Rw ww (w.heap.size + 1 + 1) 28 #[vc, .slice Ar j cr] := Rw.far (SS.out.up r1).box r2 HVB.out
              have z0 := hb9.cell 1
              have zf := hb9.frozen 1
              simp only [List.getElem?_toArray, List.getElem?_cons_zero, List.getElem?_cons_succ] at z0
              refine wpOp_step rfl (fun K' hK => ?_)
              go_simp
              refine hK _ _ ?_
              exact ⟨_, _, _, _, _, _, _, _, _, _, _, _, rfl, (fun h => absurd l10.out (by rw [upd_other (by decide)] at h; rw [h]; decide)), (Closed.step I1 (by
                intro p hp e
                simp only [List.mem_cons, List.not_mem_nil, or_false] at hp
                rcases hp with rfl | rfl | rfl | rfl | rfl | rfl | rfl | rfl | rfl | rfl | rfl
                · exact absurd e (by decide)
                · exact absurd e (by decide)
                · exact absurd e (by decide)
                · exact absurd e (by decide)
                · exact absurd e (by decide)
                · exact absurd e (by decide)
                · exact absurd e (by decide)
                · exact absurd e (by decide)
                · exact absurd e (by decide)
                · exact absurd e (by decide)
                · exact absurd e (by decide))), (kp f0), (kp f1), (kp f2), (kp f3), (kp f4), (kp f5), (kp f6), (kp f7), (kp f8), (fun h => by
                obtain ⟨g9, e9, r9⟩ := f9 (upd_ne h (by decide))
                exact ⟨g9, e9, fun h10 => absurd l10.out (by rw [upd_other (by decide)] at h10; rw [h10]; decide)⟩), (fun _ => ⟨wp, ww, by rw [upd_self, if_pos rfl], r1, r2, r3, r4⟩), (kp f11), (fun _ => upd_mono l10.out)⟩
          case hdone =>
            rintro L ac ww hall ⟨t60, t61, t62, t63, t64, t65, t66, t67, t68, t69, t70, t71, rfl, I0, I1, f0, f1, f2, f3, f4, f5, f6, f7, f8, f9, f10, f11, f12⟩
            have e0 := f0 (hall 0 (by decide))
            have e1 := f1 (hall 1 (by decide))
            have e2 := f2 (hall 2 (by decide))
            have e3 := f3 (hall 3 (by decide))
            have e4 := f4 (hall 4 (by decide))
            have e5 := f5 (hall 5 (by decide))
            have e6 := f6 (hall 6 (by decide))
            have e7 := f7 (hall 7 (by decide))
            have e8 := f8 (hall 8 (by decide))
            have e9 := f9 (hall 9 (by decide))
            have e10 := f10 (hall 10 (by decide))
            have e11 := f11 (hall 11 (by decide))
            have e12 := f12 (hall 12 (by decide))
            clear f0 f1 f2 f3 f4 f5 f6 f7 f8 f9 f10 f11 f12
            obtain ⟨wp, w9, e17, r1, r2, r3, r4⟩ := e10
            rw [hall 12 (by decide), if_pos rfl] at e17
            subst e17
            have SN := (SS.out.up r1).rootSnoc r2 r3 r4
            clear e0 e1 e2 e3 e4 e5 e6 e7 e8 e9 e11 e12 hall SS r1 r2 r3 r4 x1 z1 d6 HVB I0 I1
            go_wp2_with fail
            go_roundw
            case rel => exact ⟨j + 1, _, rv, by omega, by go_num, by rw [Hps.moved_root HY.out]; exact SN⟩
            case measure => simp [intOf]; omega
        · obtain rfl : j = m := by omega
          have HE : Hps.movedTo h o k j = Hps.moveH h o := by
            rw [Hps.movedTo, List.take_of_length_le (by have := HOL.out; omega), List.take_of_length_le (by have := HLR.out; omega)]
            rfl
          rw [HE] at S
          obtain ⟨Ac, cc, Rc, dc, e1, e2, -⟩ := S.own.form
          subst e1 e2
          have hn1 : (Hps.moveH h o).cs.length = k := by simp [Hps.moveH, HOL.out]
          have hn2 : (Hps.moveH h o).rt.length = j := by simp [Hps.moveH, HLR.out]
          rw [hn1, hn2] at S
          have x0 : wr.cell? ⟨w.heap.size + 1 + 1, 0, none⟩ = some (.slice Ac k cc) := S.box.cell 0
          have x1 : wr.cell? ⟨w.heap.size + 1 + 1, 1, none⟩ = some (.slice Rc j dc) := S.box.cell 1
          have hq1 : w.heap.size + 1 < W0.heap.size := by have := HZ.out; omega
          have q3 := q1.keep S.low hq1
          have r2 : wr.frozen? ⟨w.heap.size + 1, 0, none⟩ = false := q3.frozen 0
          have r3 : wr.frozen? ⟨w.heap.size + 1, 1, none⟩ = false := q3.frozen 1
          have r4 : wr.cell? ⟨w.heap.size + 1, 0, none⟩ = some (.slice none 0 0) := q3.cell 0
          have r5 : wr.cell? ⟨w.heap.size + 1, 1, none⟩ = some (.slice none 0 0) := q3.cell 1
          have r6 : ((wr.setCell ⟨w.heap.size + 1, 0, none⟩ (.slice Ac k cc)).setCell ⟨w.heap.size + 1, 1, none⟩ (.slice Rc j dc)).cell? ⟨w.heap.size + 1, 0, none⟩ = some (.slice Ac k cc) := ((q3.put 0 (.slice Ac k cc)).put 1 (.slice Rc j dc)).cell 0
          have r7 : ((wr.setCell ⟨w.heap.size + 1, 0, none⟩ (.slice Ac k cc)).setCell ⟨w.heap.size + 1, 1, none⟩ (.slice Rc j dc)).cell? ⟨w.heap.size + 1, 1, none⟩ = some (.slice Rc j dc) := ((q3.put 0 (.slice Ac k cc)).put 1 (.slice Rc j dc)).cell 1
          have D := Lib.hid (OwnH.out (w := w) (g := w.heap.size + 1) ⟨rv, S.own⟩ hq1 bw (by omega))
          clear S q3
          go_wp2_with fail
          exact bodyPost_ret (v := .agg #[.slice Ac k cc, .slice Rc j dc]) (by simp [results, Try.results118, go_sem, *]) rfl ⟨_, _, rfl, D.out.1, D.out.2⟩
end Go.Proofs.Ytmjejcfifkbkoaa
