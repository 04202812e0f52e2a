/- What the program's Reachable and UsedCells return: for every heap. No conditions. -/
import Derived.Test.YtakdjiojahlnmaaHw
import Derived.Test.YtakdjiojahlnmaaHd
import Derived.Test.YtakdjiojahlnmaaGa
namespace Go.Proofs.Ytakdjiojahlnmaa
open Go.RowKit
set_option maxRecDepth 100000

theorem cloneI_any (A : Option Addr) (n c : Nat) (xs : List Int) (w : World) (h : IS w w.heap.size A n xs) (hn : n ≤ 1099511627776) :
    Calls Try.prog 83 #[.slice A n c] w (GaveI w xs) := by
  have q : ∀ (w : World) (a : Option Addr) (n c n' c' : Nat), (binOp .eql 24 (.slice a n c) (.slice none n' c')).run Try.prog w = .ok (.bool a.isNone) w := fun w a n c n' c' => Lib.run_eql_slice_nil w _ _ a n c n' c' Try.underlying24
  cases A with
  | none =>
    have h0 : n = 0 := by
      rcases Nat.eq_zero_or_pos n with h0 | h0
      · exact h0
      · obtain ⟨g, o, e, _⟩ := h.2 h0
        cases e
    have : xs = [] := List.eq_nil_of_length_eq_zero (h.1.trans h0)
    subst this h0
    go_enter Try.func83, Try.ntmps83
    go_wp2
    go_ret
    exact ⟨_, rfl, World.ownsRow_nil _ _ _ _, Below.refl _ _⟩
  | some a =>
    have o0 := own_noneI w w.heap.size (Nat.le_refl _)
    have bl0 : Below w.heap.size w (w.alloc (.cells #[] 3)) := (Below.refl _ _).alloc (Nat.le_refl _) _
    have r0 := h.below bl0
    go_enter Try.func83, Try.ntmps83
    go_wp2_with (at_builtin; refine wpList_appendI rfl (.tmp 5) (.tmp 6) rfl w.heap.size _ [] rfl o0 (some a) n c w.heap.size xs rfl r0 (by simp <;> omega) (by simp) ?_; intro v1 w1 o1 g1 s1)
    go_ret
    exact ⟨_, rfl, OwnI.cast (by simp) o1, bl0.grown g1 (by simp) (fun k hk => (World.ownsRow.lt o0 k hk).1)⟩

/-- a slice of the call's own is cut short -/
theorem OwnI.cut {w : World} {base n c k : Nat} {A : Option Addr} {xs : List Int} (h : OwnI w base (.slice A n c) xs) (hk : k ≤ n) : OwnI w base (.slice A k c) (xs.take k) := by
  have hl : (xs.take k).length = k := by rw [List.length_take, ← h.cap.1]; omega
  unfold OwnI
  rw [hl]
  refine ⟨by rw [List.length_map, hl, Nat.mul_one], ?_⟩
  rcases h.2 with ⟨e, h0⟩ | ⟨g, cap, cur, e, hb, hh, hnc, hcap, hsz, hx⟩
  · injection e with e1 e2 e3
    subst e1 e3
    left
    have : k = 0 := by omega
    rw [this]
    exact ⟨rfl, rfl⟩
  · injection e with e1 e2 e3
    subst e1 e3
    right
    refine ⟨g, c, cur, rfl, hb, hh, by omega, hcap, hsz, ?_⟩
    rw [List.map_take, ← hx, Nat.mul_one, Nat.mul_one, List.take_take, Nat.min_eq_left (by omega)]

namespace Hps
/-- the first k of n cells as bools, the others false -/
def flagL (V n k : Nat) : List Bool := (List.range k).map V.testBit ++ List.replicate (n - k) false
theorem flagL_len {V n k : Nat} (h : k ≤ n) : (flagL V n k).length = n := by simp [flagL]; omega
theorem flagL_zero (V n : Nat) : flagL V n 0 = List.replicate n false := by simp [flagL]
theorem flagL_end (V n : Nat) : flagL V n n = (List.range n).map V.testBit := by simp [flagL]
theorem flagL_succ {V n k : Nat} (h : k < n) : (flagL V n k).set k (V.testBit k) = flagL V n (k + 1) := by
  apply List.ext_getElem?
  intro i
  unfold flagL
  rw [List.getElem?_set, List.length_append, List.length_map, List.length_range, List.length_replicate]
  rcases Nat.lt_trichotomy i k with h1 | h1 | h1
  · rw [if_neg (by omega), List.getElem?_append_left (by simp; omega), List.getElem?_append_left (by simp; omega), List.getElem?_map, List.getElem?_map, List.getElem?_range h1, List.getElem?_range (by omega)]
  · subst h1
    rw [if_pos rfl, if_pos (by omega), List.getElem?_append_left (by simp), List.getElem?_map, List.getElem?_range (by omega)]
    rfl
  · rw [if_neg (by omega), List.getElem?_append_right (by simp; omega), List.getElem?_append_right (by simp; omega)]
    simp only [List.length_map, List.length_range, List.getElem?_replicate]
    congr 1
    apply propext
    omega
end Hps

set_option maxHeartbeats 1000000 in
theorem cflags_any (V n : Nat) (w : World) (hV : V < 18446744073709551616) (hn : n ≤ 64) :
    Calls Try.prog 49 #[.int .u64 V, .int .i64 n] w (GaveO w ((List.range n).map V.testBit)) := by
  have hmk := makeO w n (by omega)
  have o2 := own_madeO w n (by omega)
  have b2 : Below w.heap.size w (w.alloc (.cells (Array.replicate n (.bool false)) 4)) := (Below.refl _ _).alloc (Nat.le_refl _) _
  obtain ⟨w2, hw2⟩ : ∃ w2, w.alloc (.cells (Array.replicate n (.bool false)) 4) = w2 := ⟨_, rfl⟩
  rw [hw2] at hmk o2 b2
  rw [← Hps.flagL_zero V n] at o2
  have HE := Lib.hid (Hps.flagL_end V n)
  clear hw2
  go_enter Try.func49, Try.ntmps49
  go_wp2
  clear hmk
  go_loopw [11] (fun i wr => ∃ k : Nat, k ≤ n ∧ i = .int .i64 k ∧ OwnO wr w.heap.size (.slice (some ⟨w.heap.size, 0, none⟩) n n) (Hps.flagL V n k) ∧ Below w.heap.size w wr) (fun i _ => n - (intOf i).toNat)
  case atStart => exact ⟨0, Nat.zero_le _, rfl, o2, b2⟩
  case round =>
    clear o2 b2
    obtain ⟨k, hk, rfl, ho, hb⟩ := hrel
    have hlen := Hps.flagL_len (V := V) hk
    by_cases hlt : k < n
    · have fz : wr.frozen? ⟨w.heap.size, k, none⟩ = false := ho.frozen hlen k
      obtain ⟨g', o', x, e', _, _, c1⟩ := ho.reads.at_ (k := k) (by omega)
      injection e' with e'
      injection e' with e1 e2
      subst e1 e2
      rw [Nat.zero_add] at c1
      have t1 : (k : Int) < n := by omega
      have on := OwnO.cast (Hps.flagL_succ (V := V) hlt) (ho.put' (j := k) hlen (V.testBit k))
      have bn := hb.setCell (p := ⟨w.heap.size, k, none⟩) (Nat.le_refl _) (.bool (V.testBit k))
      have HB := Lib.hid (show Hps.hasB V (k : Int) = V.testBit k by simp [Hps.hasB])
      clear ho hlen
      go_wp2_with fail
      refine (has_any V k _ hV).mono ?_
      rw [HB.out]
      obtain ⟨b, hbe⟩ : ∃ b, V.testBit k = b := ⟨_, rfl⟩
      rw [hbe] at on bn ⊢
      clear hbe HB
      rintro e w3 ⟨rfl, rfl⟩
      go_wp2_with fail
      go_roundw
      case rel => exact ⟨k + 1, by omega, by go_num, on, bn⟩
      case measure => simp [intOf]; omega
    · obtain rfl : k = n := by omega
      clear hlen
      go_wp2_with fail
      go_ret
      exact ⟨_, rfl, OwnO.cast HE.out ho, hb⟩

/-- what a round of the work list leaves to do -/
def stkLeft (n : Nat) : Value → Value → Nat
  | .int _ V, .slice _ m _ => m + 4 * (n - pcN V.toNat n)
  | _, _ => 0

set_option maxHeartbeats 2000000 in
theorem ledTo_any (A R : Option Addr) (n c m d : Nat) (h : Hp) (w : World) (hcs : CS w w.heap.size A n h.cs) (hrs : IS w w.heap.size R m h.rt) (hv : Hps.OkG h) :
    Calls Try.prog 84 #[.slice A n c, .slice R m d] w fun e w' => e = .returned (.int .u64 (Hps.reachW h : Nat)) ∧ Below w.heap.size w w' := by
  have hlc := hcs.1
  have s1 := hv.len
  have hmf := hv.few
  have hm4 := hrs.1
  have HV := Lib.hid hv
  have HS3 := Lib.hid hv.small
  have HS := Lib.hid (Hps.Stk.start hv)
  clear hv
  go_enter Try.func84, Try.ntmps84
  go_wp2_with fail
  refine (cloneI_any _ _ _ h.rt _ hrs (by omega)).mono ?_
  rintro e w1 ⟨v1, rfl, o1, b1⟩
  go_wp2_with fail
  go_loopw [5, 6] (fun v lv wr => ∃ (V : Nat) (l : List Int), v = .int .u64 V ∧ Hid (Hps.Stk h V l) ∧ OwnI wr w.heap.size lv l ∧ Below w.heap.size w wr) (fun v lv _ => stkLeft n v lv)
  case atStart => exact ⟨0, h.rt, rfl, HS, o1, b1⟩
  case round =>
    clear HS o1 b1
    obtain ⟨V, l, rfl, HST, ow, bb⟩ := hrel
    have hz := bb.size
    have hpc := Pc.pc_le V n
    have hll := HST.out.len
    rw [hlc] at hll
    have hV : V < 18446744073709551616 := Nat.lt_of_lt_of_le HST.out.lo (Bm.pow64 (by omega))
    obtain ⟨A1, c1, e1, _⟩ := ow.form
    subst e1
    have hcap := ow.cap.2
    rcases List.eq_nil_or_concat l with hl | ⟨l', x, hl⟩
    · subst hl
      have HF := Lib.hid HST.out.fin
      go_wp2_with fail
      go_ret
      exact ⟨by rw [← HF.out]; rfl, bb⟩
    · rw [List.concat_eq_append] at hl
      subst hl
      have hlen : (l' ++ [x]).length = l'.length + 1 := by simp
      rw [hlen] at ow hcap hll ⊢
      obtain ⟨g6, o6, y, e6, hg6, hy, d6⟩ := ow.reads.at_ (k := l'.length) (by omega)
      subst e6
      have hyx : y = x := by simpa using hy.symm
      subst hyx
      have hL : ((l'.length + 1 : Nat) : Int) = (l'.length : Int) + 1 := by omega
      have oc := OwnI.cast (show (l' ++ [y]).take l'.length = l' by simp) (ow.cut (k := l'.length) (by omega))
      obtain ⟨q, hq⟩ : ∃ q, l'.length = q := ⟨_, rfl⟩
      have HQ := Lib.hid hq
      rw [hq] at d6 hcap hll hL oc ⊢
      have hqc : (q : Int) ≤ c1 := by omega
      have hq0 : (q : Int) + 1 > 0 := by omega
      have hw64 : IntKind.i64.wrap ((q : Int) + 1 - 1) = q := by rw [IntWalk.i64_in _ (by omega)]; omega
      clear hlen hy hq ow
      by_cases hm1 : y = -1
      · subst hm1
        have HP := Lib.hid (HST.out.pop (.inl rfl))
        go_wp2_with fail
        go_roundw
        case rel => exact ⟨V, l', rfl, HP, oc, bb⟩
        case measure => simp [stkLeft]
      · have hne : (y == -1) = false := by rw [beq_eq_false_iff_ne]; exact hm1
        obtain ⟨k, hk, hkn⟩ := HST.out.at_ HV.out hm1
        rw [hlc] at hkn
        subst hk
        have HB := Lib.hid (show Hps.hasB V (k : Int) = V.testBit k by simp [Hps.hasB])
        clear hm1
        cases hbit : V.testBit k
        · obtain ⟨g, o, cl, A', m', cc, e1, hg, hcl, _, _, d3, hmc, hi⟩ := hcs.at_ hkn
          subst e1
          have d3' := (bb.cell (p := ⟨g, o + k * 3 + 2, none⟩) hg).trans d3
          have hm3 : m' ≤ 3 := by have := HS3.out cl (List.mem_of_getElem? hcl); have := hi.1; omega
          have rr := (hi.below bb).more bb.size
          have HM := Lib.hid (HST.out.mark HV.out hbit hcl)
          have HPC := Lib.hid (Hps.pc_mark hbit hkn)
          have hpc1 : pcN (V ||| 2 ^ k) n ≤ n := Pc.pc_le _ _
          rw [HPC.out] at hpc1
          have hkn' : (k : Int) < n := by omega
          have hkneg : ¬ ((k : Int) < 0) := by omega
          obtain ⟨p1, p2, p3⟩ := Hps.pow_in (k := k) (by omega)
          have hor := Hps.or_in (V := V) (k := k) hV (by omega)
          have HBF := Lib.hid (HB.out.trans hbit)
          have hqm : l'.length + m' ≤ 1099511627776 := by rw [HQ.out]; omega
          have HI := Lib.hid hi.1
          clear hcl d3 hbit HB HST
          go_wp2_with fail
          refine (has_any V k _ hV).mono ?_
          rw [HBF.out]
          rintro e w3 ⟨rfl, rfl⟩
          go_wp2_with (at_builtin; refine wpList_appendI rfl (.tmp 35) (.tmp 40) rfl w.heap.size _ l' rfl oc A' m' cc _ cl.r rfl rr hqm hz ?_; intro v5 w5 o5 g5 s5)
          have b5 := bb.grown g5 (by omega) (fun kk hk => by have := (World.ownsRow.lt oc kk hk).1; omega)
          obtain ⟨A5, c5, e5, _⟩ := o5.form
          subst e5
          go_roundw
          case rel => exact ⟨V ||| 2 ^ k, _, rfl, HM, o5, b5⟩
          case measure =>
            have hL5 : (l' ++ cl.r).length = q + m' := by rw [List.length_append, HQ.out, HI.out]
            simp [stkLeft, HPC.out, HQ.out, HI.out]
            omega
        · have HP := Lib.hid (HST.out.pop (.inr (HB.out.trans hbit)))
          have HBT := Lib.hid (HB.out.trans hbit)
          clear hbit HB HST
          go_wp2_with fail
          refine (has_any V k _ hV).mono ?_
          rw [HBT.out]
          rintro e w3 ⟨rfl, rfl⟩
          go_wp2_with fail
          go_roundw
          case rel => exact ⟨V, l', rfl, HP, oc, bb⟩
          case measure => simp [stkLeft]

theorem reachedSet_any (A R : Option Addr) (n c m d : Nat) (h : Hp) (w : World) (hs : HS w w.heap.size A n R m h) (hv : Hps.validH h = true) :
    Calls Try.prog 41 #[heapV A n c R m d] w fun e w' => e = .returned (.int .u64 (Hps.reachW h : Nat)) ∧ Below w.heap.size w w' := by
  have HV := Lib.hid (Hps.OkG.valid hv)
  have b0 : Below w.heap.size w (w.alloc (.cells #[.slice A n c, .slice R m d] 26)) := (Below.refl _ _).alloc (Nat.le_refl _) _
  have r0 := hs.up b0
  clear hv
  go_enter Try.func41, Try.ntmps41
  go_wp2_with fail
  refine (ledTo_any A R n c m d h _ r0.cells r0.roots HV.out).mono ?_
  rintro e w1 ⟨rfl, b1⟩
  have bb1 := b0.trans (b1.mono b0.size)
  go_wp2_with fail
  go_ret
  exact ⟨rfl, bb1⟩

set_option maxHeartbeats 1000000 in
theorem reachable_any (A R : Option Addr) (n c m d : Nat) (h : Hp) (w : World) (hs : HS w w.heap.size A n R m h) (hn : n ≤ 1099511627776) (hm : m ≤ 1099511627776) (hc : n ≤ c) (hd : m ≤ d) :
    Calls Try.prog 18 #[heapV A n c R m d] w (GaveO w (Hps.reachH h)) := by
  have hlc := hs.cells.1
  have b0 : Below w.heap.size w (w.alloc (.cells #[.slice A n c, .slice R m d] 26)) := (Below.refl _ _).alloc (Nat.le_refl _) _
  have r0 := hs.up b0
  have hw0 := Rw.new w 26 #[.slice A n c, .slice R m d]
  cases hv : Hps.validH h
  · have HR := Lib.hid (show Hps.reachH h = [] by rw [Hps.reachH, hv]; rfl)
    have HV := Lib.hid hv
    clear hv
    go_enter Try.func18, Try.ntmps18
    go_wp2_with fail
    refine (heapValid_any _ _ _ _ _ _ h _ r0 hn hm hc hd).mono ?_
    rw [HV.out]
    rintro e w1 ⟨rfl, b1⟩
    have bb1 := b0.trans (b1.mono b0.size)
    go_wp2_with fail
    go_ret
    exact ⟨_, rfl, by rw [HR.out]; exact World.ownsRow_nil _ _ _ _, bb1⟩
  · have HR := Lib.hid (show Hps.reachH h = Hps.reachL h.cs h.rt by rw [Hps.reachH, hv]; rfl)
    obtain ⟨s1, s2, s3⟩ := Hps.valid_small hv
    have HV := Lib.hid hv
    have hWlt := Hps.reachW_lt (h := h) (by omega)
    have HFL := Lib.hid (Hps.reach_flags hlc)
    obtain ⟨W, hW⟩ : ∃ W, Hps.reachW h = W := ⟨_, rfl⟩
    have HW := Lib.hid hW
    rw [hW] at hWlt HFL
    clear hv s3 hW
    go_enter Try.func18, Try.ntmps18
    go_wp2_with fail
    refine (heapValid_any _ _ _ _ _ _ h _ r0 hn hm hc hd).mono ?_
    rw [HV.out]
    rintro e w1 ⟨rfl, b1⟩
    have bb1 := b0.trans (b1.mono b0.size)
    have r1 := r0.up b1
    have hw1 := hw0.keep b1 (by simp)
    have z0 : w1.cell? ⟨w.heap.size, 0, none⟩ = some (.slice A n c) := hw1.cell 0
    have z1 : w1.cell? ⟨w.heap.size, 1, none⟩ = some (.slice R m d) := hw1.cell 1
    clear r0 hw0
    have hwl := hw1.lt
    go_wp2_with fail
    refine wp_region_inv (by kernel_rfl) (by kernel_rfl) (fun L ac ww => ∃ t2 t6 t7 t8 t9 t10 t11 : Value, ac = { tmps := #[heapV A n c R m d, .pointer (some ⟨w.heap.size, 0, none⟩), t2, .agg #[.slice A n c, .slice R m d], .bool true, .bool false, t6, t7, t8, t9, t10, t11], defers := [] } ∧ (Below w1.heap.size w1 ww) ∧ (L 0 = true → t6 = heapV A n c R m d) ∧ (L 1 = true → t7 = .int .u64 (W : Nat)) ∧ (L 2 = true → t8 = (.pointer (some ⟨w.heap.size, 0, none⟩))) ∧ (L 3 = true → t9 = .slice A n c) ∧ (L 4 = true → t10 = .int .i64 (n : Nat)) ∧ (L 5 = true → OwnO ww w1.heap.size t11 (Hps.reachL h.cs h.rt)) ∧ (L 6 = true → OwnO ww w1.heap.size t2 (Hps.reachL h.cs h.rt))) ?h0 ?hstep ?hdone
    case h0 => exact ⟨_, _, _, _, _, _, _, rfl, (Below.refl _ _).drew, (fun h => absurd h Bool.false_ne_true), (fun h => absurd h Bool.false_ne_true), (fun h => absurd h Bool.false_ne_true), (fun h => absurd h Bool.false_ne_true), (fun h => absurd h Bool.false_ne_true), (fun h => absurd h Bool.false_ne_true), (fun h => absurd h Bool.false_ne_true)⟩
    case hstep =>
      rintro L ac ww i o ho hL hd ⟨t2, t6, t7, t8, t9, t10, t11, rfl, I0, f0, f1, f2, f3, f4, f5, f6⟩
      have hi : i < 7 := (Array.getElem?_eq_some_iff.1 ho).1
      obtain rfl | rfl | rfl | rfl | rfl | rfl | rfl : i = 0 ∨ i = 1 ∨ i = 2 ∨ i = 3 ∨ i = 4 ∨ i = 5 ∨ i = 6 := by omega
      · obtain rfl := Option.some.inj ho
        have y0 : ww.cell? ⟨w.heap.size, 0, none⟩ = some (.slice A n c) := (I0.cell (p := ⟨w.heap.size, 0, none⟩) hwl).trans z0
        have y1 : ww.cell? ⟨w.heap.size, 1, none⟩ = some (.slice R m d) := (I0.cell (p := ⟨w.heap.size, 1, none⟩) hwl).trans z1
        refine wpOp_step rfl (fun K' hK => ?_)
        go_simp
        refine hK _ _ ?_
        exact ⟨_, _, _, _, _, _, _, rfl, (I0), (fun _ => rfl), (kp f1), (kp f2), (kp f3), (kp f4), (kp f5), (kp f6)⟩
      · obtain rfl := Option.some.inj ho
        have g0 := f0 (hd ⟨0, .data⟩ (by simp) rfl)
        subst g0
        refine wpOp_step rfl (fun K' hK => ?_)
        go_simp
        refine (reachedSet_any _ _ _ _ _ _ h ww (r1.up I0) HV.out).mono ?_
        rw [HW.out]
        rintro e w' ⟨rfl, b5⟩
        refine hK _ _ ?_
        exact ⟨_, _, _, _, _, _, _, rfl, (I0.trans (b5.mono I0.size)), (kp f0), (fun _ => rfl), (kp f2), (kp f3), (kp f4), (fun h => (f5 (upd_ne h (by decide))).below b5 (Nat.le_refl _)), (fun h => (f6 (upd_ne h (by decide))).below b5 (Nat.le_refl _))⟩
      · obtain rfl := Option.some.inj ho
        refine wpOp_step rfl (fun K' hK => ?_)
        go_simp
        refine hK _ _ ?_
        exact ⟨_, _, _, _, _, _, _, rfl, (I0), (kp f0), (kp f1), (fun _ => rfl), (kp f3), (kp f4), (kp f5), (kp f6)⟩
      · obtain rfl := Option.some.inj ho
        have g2 := f2 (hd ⟨2, .data⟩ (by simp) rfl)
        subst g2
        have y0 : ww.cell? ⟨w.heap.size, 0, none⟩ = some (.slice A n c) := (I0.cell (p := ⟨w.heap.size, 0, none⟩) hwl).trans z0
        have y1 : ww.cell? ⟨w.heap.size, 1, none⟩ = some (.slice R m d) := (I0.cell (p := ⟨w.heap.size, 1, none⟩) hwl).trans z1
        refine wpOp_step rfl (fun K' hK => ?_)
        go_simp
        refine hK _ _ ?_
        exact ⟨_, _, _, _, _, _, _, rfl, (I0), (kp f0), (kp f1), (kp f2), (fun _ => rfl), (kp f4), (kp f5), (kp f6)⟩
      · obtain rfl := Option.some.inj ho
        have g3 := f3 (hd ⟨3, .data⟩ (by simp) rfl)
        subst g3
        refine wpOp_step rfl (fun K' hK => ?_)
        go_simp
        refine hK _ _ ?_
        exact ⟨_, _, _, _, _, _, _, rfl, (I0), (kp f0), (kp f1), (kp f2), (kp f3), (fun _ => rfl), (kp f5), (kp f6)⟩
      · obtain rfl := Option.some.inj ho
        have g1 := f1 (hd ⟨1, .data⟩ (by simp) rfl)
        have g4 := f4 (hd ⟨4, .data⟩ (by simp) rfl)
        subst g1
        subst g4
        refine wpOp_step rfl (fun K' hK => ?_)
        go_simp
        refine (cflags_any W n ww hWlt (by omega)).mono ?_
        rw [HFL.out]
        rintro e w' ⟨v5, rfl, o5, b5⟩
        refine hK _ _ ?_
        exact ⟨_, _, _, _, _, _, _, rfl, (I0.trans (b5.mono I0.size)), (kp f0), (kp f1), (kp f2), (kp f3), (kp f4), (fun _ => o5.base I0.size), (fun h => (f6 (upd_ne h (by decide))).below b5 (Nat.le_refl _))⟩
      · obtain rfl := Option.some.inj ho
        have g5 := f5 (hd ⟨5, .data⟩ (by simp) rfl)
        refine wpOp_step rfl (fun K' hK => ?_)
        go_simp
        refine hK _ _ ?_
        exact ⟨_, _, _, _, _, _, _, rfl, (I0), (kp f0), (kp f1), (kp f2), (kp f3), (kp f4), (kp f5), (fun _ => g5)⟩
    case hdone =>
      rintro L ac ww hall ⟨t2, t6, t7, t8, t9, t10, t11, rfl, I0, f0, f1, f2, f3, f4, f5, f6⟩
      have e0 := f0 (hall 0 (by decide))
      have e1 := f1 (hall 1 (by decide))
      have e2 := f2 (hall 2 (by decide))
      have e3 := f3 (hall 3 (by decide))
      have e4 := f4 (hall 4 (by decide))
      have e5 := f5 (hall 5 (by decide))
      have e6 := f6 (hall 6 (by decide))
      clear f0 f1 f2 f3 f4 f5 f6
      go_wp2
      go_ret
      exact ⟨_, rfl, by rw [HR.out]; exact e6.base bb1.size, bb1.trans (I0.mono bb1.size)⟩

set_option maxHeartbeats 1000000 in
theorem usedCells_any (A R : Option Addr) (n c m d : Nat) (h : Hp) (w : World) (hs : HS w w.heap.size A n R m h) (hn : n ≤ 1099511627776) (hm : m ≤ 1099511627776) (hc : n ≤ c) (hd : m ≤ d) :
    Calls Try.prog 27 #[heapV A n c R m d] w fun e w' => e = .returned (.tuple #[.int .i64 (Hps.usedH h).1, .int .i64 (Hps.usedH h).2]) ∧ Below w.heap.size w w' := by
  have hlc := hs.cells.1
  have b0 : Below w.heap.size w (w.alloc (.cells #[.slice A n c, .slice R m d] 26)) := (Below.refl _ _).alloc (Nat.le_refl _) _
  have r0 := hs.up b0
  have hw0 := Rw.new w 26 #[.slice A n c, .slice R m d]
  cases hv : Hps.validH h
  · have HR := Lib.hid (show Hps.usedH h = (-1, -1) by rw [Hps.usedH, hv]; rfl)
    have HV := Lib.hid hv
    clear hv
    go_enter Try.func27, Try.ntmps27
    go_wp2_with fail
    refine (heapValid_any _ _ _ _ _ _ h _ r0 hn hm hc hd).mono ?_
    rw [HV.out]
    rintro e w1 ⟨rfl, b1⟩
    have bb1 := b0.trans (b1.mono b0.size)
    go_wp2_with fail
    go_ret2
    exact ⟨by rw [HR.out]; rfl, bb1⟩
  · have HR := Lib.hid (show Hps.usedH h = ((Hps.usedTo h.cs n : Int), (Hps.liveTo (Hps.reachL h.cs h.rt) n : Int)) by rw [Hps.usedH, hv, if_pos rfl, hlc])
    obtain ⟨s1, s2, s3⟩ := Hps.valid_small hv
    have HV := Lib.hid hv
    have hWlt := Hps.reachW_lt (h := h) (by omega)
    have hUlt := Hps.usedW_lt (cs := h.cs) (by omega)
    have hA := Hps.used_count hlc (by omega)
    have hB : pcN (Hps.reachW h) 64 = Hps.liveTo (Hps.reachL h.cs h.rt) n := Hps.live_count ((Hps.reachL_len _ _).trans hlc) (by omega)
    obtain ⟨W, hW⟩ : ∃ W, Hps.reachW h = W := ⟨_, rfl⟩
    obtain ⟨U, hU⟩ : ∃ U, Hps.usedW h.cs = U := ⟨_, rfl⟩
    obtain ⟨a, ha⟩ : ∃ a, Hps.usedTo h.cs n = a := ⟨_, rfl⟩
    obtain ⟨b, hb⟩ : ∃ b, Hps.liveTo (Hps.reachL h.cs h.rt) n = b := ⟨_, rfl⟩
    have HW := Lib.hid hW
    have HU := Lib.hid hU
    rw [hW] at hWlt hB
    rw [hU] at hUlt hA
    rw [ha] at hA HR
    rw [hb] at hB HR
    have HA := Lib.hid hA
    have HB := Lib.hid hB
    clear hv s3 hW hU ha hb hA hB
    go_enter Try.func27, Try.ntmps27
    go_wp2_with fail
    refine (heapValid_any _ _ _ _ _ _ h _ r0 hn hm hc hd).mono ?_
    rw [HV.out]
    rintro e w1 ⟨rfl, b1⟩
    have bb1 := b0.trans (b1.mono b0.size)
    have r1 := r0.up b1
    have hw1 := hw0.keep b1 (by simp)
    have z0 : w1.cell? ⟨w.heap.size, 0, none⟩ = some (.slice A n c) := hw1.cell 0
    have z1 : w1.cell? ⟨w.heap.size, 1, none⟩ = some (.slice R m d) := hw1.cell 1
    clear r0 hw0
    have hwl := hw1.lt
    go_wp2_with fail
    refine wp_region_inv (by kernel_rfl) (by kernel_rfl) (fun L ac ww => ∃ t2 t3 t7 t8 t9 t10 t11 t12 t13 : Value, ac = { tmps := #[heapV A n c R m d, .pointer (some ⟨w.heap.size, 0, none⟩), t2, t3, .agg #[.slice A n c, .slice R m d], .bool true, .bool false, t7, t8, t9, t10, t11, t12, t13], defers := [] } ∧ (Below w1.heap.size w1 ww) ∧ (L 0 = true → t7 = (.pointer (some ⟨w.heap.size, 0, none⟩))) ∧ (L 1 = true → t8 = .slice A n c) ∧ (L 2 = true → t9 = .int .u64 (U : Nat)) ∧ (L 3 = true → t10 = .int .i64 (a : Nat)) ∧ (L 4 = true → t11 = heapV A n c R m d) ∧ (L 5 = true → t12 = .int .u64 (W : Nat)) ∧ (L 6 = true → t13 = .int .i64 (b : Nat)) ∧ (L 7 = true → t2 = .int .i64 (a : Nat)) ∧ (L 8 = true → t3 = .int .i64 (b : Nat))) ?h0 ?hstep ?hdone
    case h0 => exact ⟨_, _, _, _, _, _, _, _, _, rfl, (Below.refl _ _).drew, (fun h => absurd h Bool.false_ne_true), (fun h => absurd h Bool.false_ne_true), (fun h => absurd h Bool.false_ne_true), (fun h => absurd h Bool.false_ne_true), (fun h => absurd h Bool.false_ne_true), (fun h => absurd h Bool.false_ne_true), (fun h => absurd h Bool.false_ne_true), (fun h => absurd h Bool.false_ne_true), (fun h => absurd h Bool.false_ne_true)⟩
    case hstep =>
      rintro L ac ww i o ho hL hd ⟨t2, t3, t7, t8, t9, t10, t11, t12, t13, rfl, I0, f0, f1, f2, f3, f4, f5, f6, f7, f8⟩
      have hi : i < 9 := (Array.getElem?_eq_some_iff.1 ho).1
      obtain rfl | rfl | rfl | rfl | rfl | rfl | rfl | rfl | rfl : i = 0 ∨ i = 1 ∨ i = 2 ∨ i = 3 ∨ i = 4 ∨ i = 5 ∨ i = 6 ∨ i = 7 ∨ i = 8 := by omega
      · obtain rfl := Option.some.inj ho
        refine wpOp_step rfl (fun K' hK => ?_)
        go_simp
        refine hK _ _ ?_
        exact ⟨_, _, _, _, _, _, _, _, _, rfl, (I0), (fun _ => rfl), (kp f1), (kp f2), (kp f3), (kp f4), (kp f5), (kp f6), (kp f7), (kp f8)⟩
      · obtain rfl := Option.some.inj ho
        have g0 := f0 (hd ⟨0, .data⟩ (by simp) rfl)
        subst g0
        have y0 : ww.cell? ⟨w.heap.size, 0, none⟩ = some (.slice A n c) := (I0.cell (p := ⟨w.heap.size, 0, none⟩) hwl).trans z0
        have y1 : ww.cell? ⟨w.heap.size, 1, none⟩ = some (.slice R m d) := (I0.cell (p := ⟨w.heap.size, 1, none⟩) hwl).trans z1
        refine wpOp_step rfl (fun K' hK => ?_)
        go_simp
        refine hK _ _ ?_
        exact ⟨_, _, _, _, _, _, _, _, _, rfl, (I0), (kp f0), (fun _ => rfl), (kp f2), (kp f3), (kp f4), (kp f5), (kp f6), (kp f7), (kp f8)⟩
      · obtain rfl := Option.some.inj ho
        have g1 := f1 (hd ⟨1, .data⟩ (by simp) rfl)
        subst g1
        refine wpOp_step rfl (fun K' hK => ?_)
        go_simp
        refine (usedSet_any _ _ _ h.cs ww (r1.up I0).cells (by omega)).mono ?_
        rw [HU.out]
        rintro e w' ⟨rfl, b5⟩
        refine hK _ _ ?_
        exact ⟨_, _, _, _, _, _, _, _, _, rfl, (I0.trans (b5.mono I0.size)), (kp f0), (kp f1), (fun _ => rfl), (kp f3), (kp f4), (kp f5), (kp f6), (kp f7), (kp f8)⟩
      · obtain rfl := Option.some.inj ho
        have g2 := f2 (hd ⟨2, .data⟩ (by simp) rfl)
        subst g2
        refine wpOp_step rfl (fun K' hK => ?_)
        go_simp
        refine (count_any U ww hUlt).mono ?_
        rw [HA.out]
        rintro e w' ⟨rfl, rfl⟩
        refine hK _ _ ?_
        exact ⟨_, _, _, _, _, _, _, _, _, rfl, (I0), (kp f0), (kp f1), (kp f2), (fun _ => rfl), (kp f4), (kp f5), (kp f6), (kp f7), (kp f8)⟩
      · obtain rfl := Option.some.inj ho
        have y0 : ww.cell? ⟨w.heap.size, 0, none⟩ = some (.slice A n c) := (I0.cell (p := ⟨w.heap.size, 0, none⟩) hwl).trans z0
        have y1 : ww.cell? ⟨w.heap.size, 1, none⟩ = some (.slice R m d) := (I0.cell (p := ⟨w.heap.size, 1, none⟩) hwl).trans z1
        refine wpOp_step rfl (fun K' hK => ?_)
        go_simp
        refine hK _ _ ?_
        exact ⟨_, _, _, _, _, _, _, _, _, rfl, (I0), (kp f0), (kp f1), (kp f2), (kp f3), (fun _ => rfl), (kp f5), (kp f6), (kp f7), (kp f8)⟩
      · obtain rfl := Option.some.inj ho
        have g4 := f4 (hd ⟨4, .data⟩ (by simp) rfl)
        subst g4
        refine wpOp_step rfl (fun K' hK => ?_)
        go_simp
        refine (reachedSet_any _ _ _ _ _ _ h ww (r1.up I0) HV.out).mono ?_
        rw [HW.out]
        rintro e w' ⟨rfl, b5⟩
        refine hK _ _ ?_
        exact ⟨_, _, _, _, _, _, _, _, _, rfl, (I0.trans (b5.mono I0.size)), (kp f0), (kp f1), (kp f2), (kp f3), (kp f4), (fun _ => rfl), (kp f6), (kp f7), (kp f8)⟩
      · obtain rfl := Option.some.inj ho
        have g5 := f5 (hd ⟨5, .data⟩ (by simp) rfl)
        subst g5
        refine wpOp_step rfl (fun K' hK => ?_)
        go_simp
        refine (count_any W ww hWlt).mono ?_
        rw [HB.out]
        rintro e w' ⟨rfl, rfl⟩
        refine hK _ _ ?_
        exact ⟨_, _, _, _, _, _, _, _, _, rfl, (I0), (kp f0), (kp f1), (kp f2), (kp f3), (kp f4), (kp f5), (fun _ => rfl), (kp f7), (kp f8)⟩
      · obtain rfl := Option.some.inj ho
        have g3 := f3 (hd ⟨3, .data⟩ (by simp) rfl)
        subst g3
        refine wpOp_step rfl (fun K' hK => ?_)
        go_simp
        refine hK _ _ ?_
        exact ⟨_, _, _, _, _, _, _, _, _, rfl, (I0), (kp f0), (kp f1), (kp f2), (kp f3), (kp f4), (kp f5), (kp f6), (fun _ => rfl), (kp f8)⟩
      · obtain rfl := Option.some.inj ho
        have g6 := f6 (hd ⟨6, .data⟩ (by simp) rfl)
        subst g6
        refine wpOp_step rfl (fun K' hK => ?_)
        go_simp
        refine hK _ _ ?_
        exact ⟨_, _, _, _, _, _, _, _, _, rfl, (I0), (kp f0), (kp f1), (kp f2), (kp f3), (kp f4), (kp f5), (kp f6), (kp f7), (fun _ => rfl)⟩
    case hdone =>
      rintro L ac ww hall ⟨t2, t3, t7, t8, t9, t10, t11, t12, t13, rfl, I0, f0, f1, f2, f3, f4, f5, f6, f7, f8⟩
      have e0 := f0 (hall 0 (by decide))
      have e1 := f1 (hall 1 (by decide))
      have e2 := f2 (hall 2 (by decide))
      have e3 := f3 (hall 3 (by decide))
      have e4 := f4 (hall 4 (by decide))
      have e5 := f5 (hall 5 (by decide))
      have e6 := f6 (hall 6 (by decide))
      have e7 := f7 (hall 7 (by decide))
      have e8 := f8 (hall 8 (by decide))
      clear f0 f1 f2 f3 f4 f5 f6 f7 f8
      subst e7 e8
      go_wp2
      go_ret2
      exact ⟨by rw [HR.out]; rfl, bb1.trans (I0.mono bb1.size)⟩
end Go.Proofs.Ytakdjiojahlnmaa
