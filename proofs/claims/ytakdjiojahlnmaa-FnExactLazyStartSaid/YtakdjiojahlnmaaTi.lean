/- What the program's sets of cells and its lazy sweeper do: holds, firstCells, next, cutLost. No conditions. -/
import Derived.Test.YtakdjiojahlnmaaTb
import Derived.Test.YtakdjiojahlnmaaGg
import Derived.Test.YtakdjiojahlnmaaRq
import Derived.Test.YtakdjiojahlnmaaKd
namespace Go.Proofs.Ytakdjiojahlnmaa
open Go.RowKit
set_option maxRecDepth 100000

theorem Hps.holds_iff {V U : Nat} (hV : V < 18446744073709551616) (hU : U < 18446744073709551616) : U &&& (18446744073709551615 - V) = 0 ↔ ∀ k, U.testBit k = true → V.testBit k = true := by
  constructor
  · intro e k hk
    have h1 : (U &&& (18446744073709551615 - V)).testBit k = false := by rw [e]; simp
    have hk64 : k < 64 := by
      rcases Nat.lt_or_ge k 64 with h | h
      · exact h
      · rw [Nat.testBit_lt_two_pow (Nat.lt_of_lt_of_le hU (Nat.pow_le_pow_right (n := 2) (by omega) h))] at hk
        cases hk
    rw [Nat.testBit_and, Hps.not_bit hV hk64, hk] at h1
    simpa using h1
  · intro h
    refine Bm.zero_bits fun k => ?_
    rw [Nat.testBit_and]
    cases e : U.testBit k with
    | false => simp
    | true =>
      have hk64 : k < 64 := by
        rcases Nat.lt_or_ge k 64 with h | h
        · exact h
        · rw [Nat.testBit_lt_two_pow (Nat.lt_of_lt_of_le hU (Nat.pow_le_pow_right (n := 2) (by omega) h))] at e
          cases e
      rw [Hps.not_bit hV hk64, h k e]
      rfl
theorem holds_any (V U : Nat) (w : World) (hV : V < 18446744073709551616) (hU : U < 18446744073709551616) :
    Calls Try.prog 53 #[.int .u64 V, .int .u64 U] w fun e w' => e = .returned (.bool (decide (U &&& (18446744073709551615 - V) = 0))) ∧ w = w' := by
  have HAN := u64_andNot_nat U V hU hV
  obtain ⟨r, hr⟩ : ∃ r, U &&& (18446744073709551615 - V) = r := ⟨_, rfl⟩
  rw [hr] at HAN ⊢
  have HD : ((r : Int) == 0) = decide (r = 0) := by
    by_cases h : r = 0
    · subst h
      rfl
    · rw [decide_eq_false h, beq_eq_false_iff_ne]
      omega
  clear hr
  go_enter Try.func53, Try.ntmps53
  go_wp2_with fail
  go_ret
  simp
theorem firstCells_any (k : Nat) (w : World) (hk : k < 64) :
    Calls Try.prog 54 #[.int .i64 k] w fun e w' => e = .returned (.int .u64 ((2 ^ k - 1 : Nat) : Int)) ∧ w = w' := by
  obtain ⟨p1, p2, p3⟩ := Hps.pow_in hk
  have hp : (1 : Nat) ≤ 2 ^ k := Nat.one_le_two_pow
  have hc : ((2 ^ k - 1 : Nat) : Int) = 2 ^ k - 1 := by
    rw [Int.ofNat_sub hp]
    simp
  have hw : IntKind.u64.wrap ((2 : Int) ^ k - 1) = 2 ^ k - 1 := by
    rw [IntKind.wrap_u64]
    have e : ((2 ^ k : Nat) : Int) = (2 : Int) ^ k := by rw [Int.natCast_pow]; rfl
    omega
  rw [hc]
  go_enter Try.func54, Try.ntmps54
  go_wp2_with fail
  go_ret
  simp

/-- a heap of the call's own in the box b of a lazy sweeper, with its marked cells and its number -/
structure BoxW (w0 wr : World) (b : Nat) (vc vr : Value) (rvs : List Value) (h : Hp) (V : Nat) (i : Int) : Prop where
  own : OwnHx wr w0.heap.size vc vr rvs h
  apart : Apart (some b) (vc :: vr :: rvs)
  box : Rw wr b 69 #[vc, vr, .int .u64 V, .int .i64 i]
  low : Below w0.heap.size w0 wr
  lo : w0.heap.size ≤ b
section
variable {w0 wr w1 : World} {b g d c k x i V : Nat} {vc vr : Value} {rvs : List Value} {h : Hp} {cl old : Cl} {ai : Int}
theorem BoxW.boxNe (S : BoxW w0 wr b vc vr rvs h V ai) {v : Value} (hv : v ∈ vc :: vr :: rvs) (hg : v.ownBlock = some g) : b ≠ g := by
  rcases S.apart v hv with e | e
  · rw [hg] at e; cases e
  · intro e'; rw [hg] at e; exact e (by rw [e'])
theorem BoxW.up (S : BoxW w0 wr b vc vr rvs h V ai) (hw : Below wr.heap.size wr w1) : BoxW w0 w1 b vc vr rvs h V ai :=
  ⟨S.own.below hw (Nat.le_refl _), S.apart, S.box.keep hw S.box.lt, S.low.trans (hw.mono S.low.size), S.lo⟩
theorem BoxW.move (S : BoxW w0 wr b vc vr rvs h V ai) (j : Int) : BoxW w0 (wr.setCell ⟨b, 3, none⟩ (.int .i64 j)) b vc vr rvs h V j :=
  ⟨S.own.far (put_any wr b 3 _) S.apart, S.apart, by simpa using S.box.put 3 (.int .i64 j), S.low.setCell (p := ⟨b, 3, none⟩) S.lo _, S.lo⟩
theorem BoxW.mark (S : BoxW w0 wr b vc vr rvs h V ai) (U : Nat) : BoxW w0 (wr.setCell ⟨b, 2, none⟩ (.int .u64 U)) b vc vr rvs h U ai :=
  ⟨S.own.far (put_any wr b 2 _) S.apart, S.apart, by simpa using S.box.put 2 (.int .u64 U), S.low.setCell (p := ⟨b, 2, none⟩) S.lo _, S.lo⟩
theorem BoxW.ref1 {m : Nat} (S : BoxW w0 wr b vc vr rvs h V ai) (hc : h.cs[k]? = some cl) (hv : rvs[k]? = some (.slice (some ⟨g, 0, none⟩) m d)) (hm : cl.r.length = m) (y : Int) : BoxW w0 (wr.setCell ⟨g, i, none⟩ (.int .i64 y)) b vc vr rvs ⟨h.cs.set k ⟨cl.u, cl.d, cl.r.set i y⟩, h.rt⟩ V ai := by
  subst hm
  have hmem : (Value.slice (some ⟨g, 0, none⟩) cl.r.length d) ∈ vc :: vr :: rvs := by simp [List.mem_of_getElem? hv]
  have h1 : w0.heap.size ≤ g ∧ g < wr.heap.size := S.own.blocks hmem rfl
  exact ⟨S.own.ref1 hc hv y, S.apart, S.box.other (S.boxNe hmem rfl) _, S.low.setCell (p := ⟨g, i, none⟩) (by show w0.heap.size ≤ g; omega) _, S.lo⟩
theorem BoxW.took {n : Nat} (S : BoxW w0 wr b (.slice (some ⟨g, 0, none⟩) n c) vr rvs h V ai) (hn : h.cs.length = n) (hc : h.cs[k]? = some old) :
    BoxW w0 (((wr.setCell ⟨g, k * 3, none⟩ (.bool true)).setCell ⟨g, k * 3 + 1, none⟩ (.int .i64 0)).setCell ⟨g, k * 3 + 2, none⟩ (.slice none 0 0)) b (.slice (some ⟨g, 0, none⟩) n c) vr (rvs.set k (.slice none 0 0)) ⟨h.cs.set k Hps.tookCl, h.rt⟩ V ai := by
  subst hn
  have hm : (Value.slice (some ⟨g, 0, none⟩) h.cs.length c) ∈ (Value.slice (some ⟨g, 0, none⟩) h.cs.length c) :: vr :: rvs := by simp
  have h1 : w0.heap.size ≤ g ∧ g < wr.heap.size := S.own.blocks hm rfl
  have h2 : b ≠ g := S.boxNe hm rfl
  refine ⟨S.own.cell (cl := Hps.tookCl) hc (World.ownsRow_nil _ _ _ _) (fun _ _ => .inl rfl), fun u hu => ?_, ((S.box.other h2 _).other h2 _).other h2 _, ?_, S.lo⟩
  · simp only [List.mem_cons] at hu
    rcases hu with rfl | rfl | hu
    · exact S.apart _ (by simp)
    · exact S.apart u (by simp)
    · rcases List.mem_or_eq_of_mem_set hu with hu | rfl
      · exact S.apart u (by simp [hu])
      · exact .inl rfl
  · exact ((S.low.setCell (p := ⟨g, k * 3, none⟩) (by show w0.heap.size ≤ g; omega) _).setCell (p := ⟨g, k * 3 + 1, none⟩) (by show w0.heap.size ≤ g; omega) _).setCell (p := ⟨g, k * 3 + 2, none⟩) (by show w0.heap.size ≤ g; omega) _
/-- the number in the box -/
def atS (wr : World) (b : Nat) : Nat := match wr.cell? ⟨b, 3, none⟩ with
  | some (.int _ x) => x.toNat
  | _ => 0
theorem BoxW.at_ (S : BoxW w0 wr b vc vr rvs h V (k : Int)) : atS wr b = k := by
  have : wr.cell? ⟨b, 3, none⟩ = some (.int .i64 k) := S.box.cell 3
  rw [atS, this]
  rfl
end

theorem Hps.cut_cellP {ms : List Bool} {cs : List Cl} {a j : Nat} {c : Cl} (hc : cs[a]? = some c) : ∃ c', (Hps.cutIJ ms cs a j)[a]? = some c' ∧ c'.u = c.u ∧ c'.d = c.d ∧ c'.r.length = c.r.length ∧ ∀ x, c'.r[j]? = some x → c.r[j]? = some x := by
  rw [Hps.cut_at hc]
  split
  · rw [if_neg (Nat.lt_irrefl _), if_pos rfl]
    refine ⟨_, rfl, rfl, rfl, ?_, fun x hx => ?_⟩
    · show ((c.r.take j).map (Hps.cutR ms) ++ c.r.drop j).length = _
      rw [List.length_append, List.length_map, List.length_take, List.length_drop]
      omega
    · have hx' : ((c.r.take j).map (Hps.cutR ms) ++ c.r.drop j)[j]? = some x := hx
      rcases Nat.lt_or_ge j c.r.length with hj | hj
      · have hl : ((c.r.take j).map (Hps.cutR ms)).length = j := by rw [List.length_map, List.length_take]; omega
        rw [List.getElem?_append_right (by rw [hl]; exact Nat.le_refl _), hl, Nat.sub_self, List.getElem?_drop, Nat.add_zero] at hx'
        exact hx'
      · rw [List.getElem?_eq_none (by rw [List.length_append, List.length_map, List.length_take, List.length_drop]; omega)] at hx'
        cases hx'
  · exact ⟨c, rfl, rfl, rfl, rfl, fun x hx => hx⟩
/-- a reference of a cell that is not marked, to no marked cell: it is -1 then -/
theorem Hps.cut_putP {ms : List Bool} {cs : List Cl} {a j : Nat} {c c' : Cl} {x : Int} (hc : cs[a]? = some c) (hn : c.r[j]? = some x) (hm : ms[a]? = some false) (hx : x = -1 ∨ (0 ≤ x ∧ ms[x.toNat]? = some false)) (hc' : (Hps.cutIJ ms cs a j)[a]? = some c') : Hps.cutIJ ms cs a (j + 1) = (Hps.cutIJ ms cs a j).set a ⟨c'.u, c'.d, c'.r.set j (-1)⟩ := by
  obtain ⟨c2, h1, h2, h3, _, _, h6⟩ := Hps.cut_ref hc hn hm
  rw [hc'] at h1
  obtain rfl := Option.some.inj h1
  rw [h6]
  rcases hx with rfl | hx
  · rw [Hps.cutR, if_neg (fun e => by omega)]
  · rw [Hps.cutR, if_pos hx]

set_option maxHeartbeats 4000000 in
theorem next_any (w0 w : World) (b : Nat) (vc vr : Value) (rvs : List Value) (h : Hp) (ms : List Bool) (i : Nat) (S0 : BoxW w0 w b vc vr rvs h (Bm.wordN ms true) (i : Int)) (hl : ms.length = h.cs.length) (h40 : h.cs.length ≤ 40) (hi : i ≤ h.cs.length) :
    Calls Try.prog 90 #[.pointer (some ⟨b, 0, none⟩)] w fun e w' => (Hps.unAt ms i < ms.length ∧ e = .returned (.int .i64 (Hps.unAt ms i : Nat)) ∧ BoxW w0 w' b vc vr rvs h (Bm.wordN ms true) ((Hps.unAt ms i : Nat) + 1 : Int)) ∨ (¬ Hps.unAt ms i < ms.length ∧ e = .returned (.int .i64 (-1)) ∧ BoxW w0 w' b vc vr rvs h (Bm.wordN ms true) (ms.length : Nat)) := by
  obtain ⟨A, c, R, d, rfl, rfl, -⟩ := S0.own.form
  have hM := Bm.wordN_lt ms true (by omega)
  have HBIT := Lib.hid (Bm.wordN_bit ms true)
  obtain ⟨M, hMe⟩ : ∃ M, Bm.wordN ms true = M := ⟨_, rfl⟩
  rw [hMe] at S0 hM HBIT ⊢
  obtain ⟨n, hn⟩ : ∃ n, h.cs.length = n := ⟨_, rfl⟩
  obtain ⟨m, hm⟩ : ∃ m, h.rt.length = m := ⟨_, rfl⟩
  rw [hn] at S0 hl h40 hi ⊢
  rw [hm] at S0 ⊢
  have HLM := Lib.hid hl
  rw [hl]
  clear hMe hn hm hl
  go_enter Try.func90, Try.ntmps90
  go_wp2_with fail
  go_loopw [3] (fun _ wr => ∃ k : Nat, i ≤ k ∧ k ≤ n ∧ Hid (Hps.unAt ms i = Hps.unAt ms k) ∧ BoxW w0 wr b (.slice A n c) (.slice R m d) rvs h M (k : Int)) (fun _ wr => n - atS wr b)
  case atStart => exact ⟨i, Nat.le_refl _, hi, Lib.hid rfl, S0⟩
  case round =>
    clear S0
    obtain ⟨k, hik, hkn, HU, S⟩ := hrel
    have x0 : wr.cell? ⟨b, 0, none⟩ = some (.slice A n c) := S.box.cell 0
    have x3 : wr.cell? ⟨b, 3, none⟩ = some (.int .i64 k) := S.box.cell 3
    have HAT := Lib.hid S.at_
    by_cases hlt : k < n
    · have hlt' : (k : Int) < n := by omega
      have hB : Hps.hasB M (k : Int) = M.testBit k := by simp [Hps.hasB]
      have HB := Lib.hid hB
      clear hB
      go_wp2_with fail
      go_big_quiet (fail)
      have S' := S.up (below_drewN (Below.refl wr.heap.size wr) nq)
      clear S x0 x3
      generalize wr.drewN nq = w4 at S' ⊢
      have x0 : w4.cell? ⟨b, 0, none⟩ = some (.slice A n c) := S'.box.cell 0
      have x2 : w4.cell? ⟨b, 2, none⟩ = some (.int .u64 M) := S'.box.cell 2
      have x3 : w4.cell? ⟨b, 3, none⟩ = some (.int .i64 k) := S'.box.cell 3
      have fz : w4.frozen? ⟨b, 3, none⟩ = false := S'.box.frozen 3
      have S1 := S'.move ((k : Int) + 1)
      have y2 : (w4.setCell ⟨b, 3, none⟩ (.int .i64 ((k : Int) + 1))).cell? ⟨b, 2, none⟩ = some (.int .u64 M) := S1.box.cell 2
      clear S'
      go_upto_region 4 with fail
      generalize w4.setCell ⟨b, 3, none⟩ (.int .i64 ((k : Int) + 1)) = w5 at S1 y2 ⊢
      clear x0 x2 x3 fz
      go_wp2_with fail
      refine (has_any M (k : Int) w5 hM).mono ?_
      rw [HB.out, HBIT.out]
      obtain ⟨mb, hmb⟩ : ∃ mb, ms[k]? = some mb := ⟨_, List.getElem?_eq_getElem (by rw [HLM.out]; exact hlt)⟩
      cases mb
      · rw [hmb]
        have HE := Lib.hid (show Hps.unAt ms i = k by rw [HU.out, Hps.unAt_un hmb])
        clear hmb
        rintro e w6 ⟨rfl, rfl⟩
        go_wp2_with fail
        go_ret
        left
        rw [HE.out]
        exact ⟨hlt, rfl, S1⟩
      · rw [hmb]
        have HU2 := Lib.hid (HU.out.trans (Hps.unAt_set hmb))
        clear hmb
        rintro e w6 ⟨rfl, rfl⟩
        have HAT1 := Lib.hid (BoxW.at_ (k := k + 1) (by simpa using S1))
        go_wp2_with fail
        go_roundw
        case rel => exact ⟨k + 1, by omega, by omega, HU2, by simpa using S1⟩
        case measure =>
          rw [HAT.out, HAT1.out]
          omega
    · obtain rfl : n = k := by omega
      have HE := Lib.hid (show Hps.unAt ms i = n by rw [HU.out, Hps.unAt_end (by rw [HLM.out]; exact Nat.le_refl _)])
      go_wp2_with fail
      go_big_quiet (fail)
      have S' := S.up (below_drewN (Below.refl wr.heap.size wr) nq)
      go_wp2_with fail
      go_ret
      right
      rw [HE.out]
      exact ⟨Nat.lt_irrefl _, rfl, S'⟩

set_option maxHeartbeats 8000000 in
theorem cutLost_any (w0 w : World) (b : Nat) (vc vr : Value) (rvs : List Value) (h : Hp) (ms : List Bool) (i : Int) (S0 : BoxW w0 w b vc vr rvs h (Bm.wordN ms true) i) (hl : ms.length = h.cs.length) (h40 : h.cs.length ≤ 40) (h3 : ∀ cl ∈ h.cs, cl.r.length ≤ 3) (hrf : ∀ cl ∈ h.cs, Hps.okRefs h.cs cl.r = true) :
    Calls Try.prog 91 #[.pointer (some ⟨b, 0, none⟩)] w fun e w' => (∃ v, e = .returned v) ∧ BoxW w0 w' b vc vr rvs ⟨Hps.cutL ms h.cs, h.rt⟩ (Bm.wordN ms true) i := by
  obtain ⟨A, c, R, d, rfl, rfl, -⟩ := S0.own.form
  have hM := Bm.wordN_lt ms true (by omega)
  have HBIT := Lib.hid (Bm.wordN_bit ms true)
  obtain ⟨M, hMe⟩ : ∃ M, Bm.wordN ms true = M := ⟨_, rfl⟩
  rw [hMe] at S0 hM HBIT ⊢
  obtain ⟨n, hn⟩ : ∃ n, h.cs.length = n := ⟨_, rfl⟩
  obtain ⟨m, hm⟩ : ∃ m, h.rt.length = m := ⟨_, rfl⟩
  have HLC := Lib.hid hn
  rw [hn] at S0 hl h40 ⊢
  rw [hm] at S0 ⊢
  have HLM := Lib.hid hl
  have H3 := Lib.hid h3
  have HRF := Lib.hid hrf
  clear hMe hn hm hl h3 hrf
  have x0 : w.cell? ⟨b, 0, none⟩ = some (.slice A n c) := S0.box.cell 0
  go_enter Try.func91, Try.ntmps91
  go_wp2_with fail
  clear x0
  go_loopw [12] (fun iv wr => ∃ a : Nat, a ≤ n ∧ iv = .int .i64 a ∧ BoxW w0 wr b (.slice A n c) (.slice R m d) rvs ⟨Hps.cutIJ ms h.cs a 0, h.rt⟩ M i) (fun iv _ => n - (intOf iv).toNat)
  case atStart => exact ⟨0, by omega, rfl, by rw [Hps.cut_start]; exact S0⟩
  case round =>
    clear S0
    obtain ⟨a, ha, rfl, S⟩ := hrel
    by_cases hlt : a < n
    · have hlt' : (a : Int) < n := by omega
      obtain ⟨cl, hcl⟩ : ∃ cl, h.cs[a]? = some cl := ⟨_, List.getElem?_eq_getElem (by rw [HLC.out]; exact hlt)⟩
      have HCL := Lib.hid hcl
      obtain ⟨len, hlen⟩ : ∃ len, cl.r.length = len := ⟨_, rfl⟩
      have HLEN := Lib.hid hlen
      have hl3 : len ≤ 3 := by
        rw [← hlen]
        exact H3.out cl (List.mem_of_getElem? hcl)
      clear hcl hlen
      obtain ⟨c', hc', hu', hd', hl', hr'⟩ := Hps.cut_cellP (ms := ms) (j := 0) HCL.out
      obtain ⟨gc, v, e4, -, hgc, hv, oi, y0, y1, y2, fz⟩ := S.own.cell_at hc'
      subst e4
      obtain ⟨A2, c2, e5, f5⟩ := oi.form
      rw [hl', HLEN.out] at e5 f5
      subst e5
      have HV := Lib.hid hv
      have S1 := S.up (w1 := wr.alloc (.cells #[.bool c'.u, .int .i64 c'.d, .slice A2 len c2] 45)) ((Below.refl _ _).alloc (Nat.le_refl _) _)
      have QC := Rw.new wr 45 #[.bool c'.u, .int .i64 c'.d, .slice A2 len c2]
      have hlow := S.low.size
      clear hc' hu' hd' hl' hr' hv oi fz S
      go_upto_region 3 with fail
      generalize wr.alloc (.cells #[.bool c'.u, .int .i64 c'.d, .slice A2 len c2] 45) = w4 at S1 QC ⊢
      obtain ⟨gq, hgq⟩ : ∃ gq, wr.heap.size = gq := ⟨_, rfl⟩
      rw [hgq] at QC hlow hgc f5 ⊢
      have HF5 := Lib.hid f5
      clear hgq y0 y1 y2 f5
      have z2 : w4.cell? ⟨gq, 2, none⟩ = some (.slice A2 len c2) := QC.cell 2
      have x2 : w4.cell? ⟨b, 2, none⟩ = some (.int .u64 M) := S1.box.cell 2
      have HB := Lib.hid (show Hps.hasB M (a : Int) = decide (ms[a]? = some true) by rw [← HBIT.out]; simp [Hps.hasB])
      go_wp2_with fail
      refine (has_any M (a : Int) w4 hM).mono ?_
      rw [HB.out]
      obtain ⟨mb, hmb⟩ : ∃ mb, ms[a]? = some mb := ⟨_, List.getElem?_eq_getElem (by rw [HLM.out]; exact hlt)⟩
      cases mb
      case true =>
        rw [hmb]
        have HN := Lib.hid (show Hps.cutIJ ms h.cs a 0 = Hps.cutIJ ms h.cs (a + 1) 0 by
          rw [Hps.cut_marked (j' := cl.r.length) (by rw [hmb]; simp)]
          exact Hps.cut_next HCL.out)
        rw [HN.out] at S1
        clear hmb HN
        rintro e w6 ⟨rfl, rfl⟩
        go_wp2_with fail
        go_roundw
        case rel => exact ⟨a + 1, by omega, by go_num, S1⟩
        case measure => simp [intOf]; omega
      rw [hmb]
      have HMB := Lib.hid hmb
      clear hmb
      rintro e w6 ⟨rfl, rfl⟩
      go_wp2_with fail
      clear x2 z2
      go_loopw [26] (fun jv wr => ∃ j : Nat, j ≤ len ∧ jv = .int .i64 j ∧ BoxW w0 wr b (.slice (some ⟨gc, 0, none⟩) n c) (.slice R m d) rvs ⟨Hps.cutIJ ms h.cs a j, h.rt⟩ M i ∧ Rw wr gq 45 #[.bool c'.u, .int .i64 c'.d, .slice A2 len c2]) (fun jv _ => len - (intOf jv).toNat)
      case atStart => exact ⟨0, by omega, rfl, S1, QC⟩
      case round =>
        clear S1 QC
        obtain ⟨j, hj, rfl, S, QC⟩ := hrel
        by_cases hjl : j < len
        · have hjl' : (j : Int) < len := by omega
          obtain ⟨c3, hc3, -, -, hl3', hr3⟩ := Hps.cut_cellP (ms := ms) (j := j) HCL.out
          obtain ⟨_, v, -, -, -, hv, oi, -, -, -, -⟩ := S.own.cell_at hc3
          rw [HV.out] at hv
          obtain rfl := Option.some.inj hv
          obtain ⟨gr, hA2, hgr1, hgr⟩ := HF5.out (by omega)
          subst hA2
          obtain ⟨_, _, x, e7, -, hx, d7⟩ := oi.reads.at_ (k := j) hjl
          injection e7 with e7
          injection e7 with e7 e8
          subst e7 e8
          rw [Nat.zero_add] at d7
          have hcx := hr3 x hx
          have z2 : wr.cell? ⟨gq, 2, none⟩ = some (.slice (some ⟨gr, 0, none⟩) len c2) := QC.cell 2
          have x2 : wr.cell? ⟨b, 2, none⟩ = some (.int .u64 M) := S.box.cell 2
          have HB2 := Lib.hid (show Hps.hasB M x = true ↔ 0 ≤ x ∧ ms[x.toNat]? = some true by
            rw [Hps.hasB, HBIT.out]
            simp)
          have hok := Hps.okRefs_at (HRF.out cl (List.mem_of_getElem? HCL.out)) hcx
          go_wp2_with fail
          refine (has_any M x wr hM).mono ?_
          cases hb : Hps.hasB M x
          case true =>
            have hb2 := HB2.out.1 hb
            have HN := Lib.hid (Hps.cut_same (ms := ms) (i := a) (j := j) HCL.out hcx (.inr (by rw [Hps.cutR, if_neg (fun e => by rw [hb2.2] at e; cases e.2)])))
            clear hb hb2 hok HB2 hcx hx hc3 hr3 oi hv d7
            rintro e w6 ⟨rfl, rfl⟩
            go_wp2_with fail
            go_roundw
            case rel => exact ⟨j + 1, by omega, by go_num, by rw [HN.out]; exact S, QC⟩
            case measure => simp [intOf]; omega
          have hxx : x = -1 ∨ (0 ≤ x ∧ ms[x.toNat]? = some false) := by
            by_cases hx0 : 0 ≤ x
            · right
              refine ⟨hx0, ?_⟩
              obtain ⟨y, rfl, hy, _⟩ := Hps.okRef_nat hok hx0
              rw [HLC.out] at hy
              obtain ⟨mb, hmb⟩ : ∃ mb, ms[y]? = some mb := ⟨_, List.getElem?_eq_getElem (by rw [HLM.out]; exact hy)⟩
              cases mb
              · simpa using hmb
              · have := HB2.out.2 ⟨hx0, by simpa using hmb⟩
                rw [hb] at this
                cases this
            · left
              have := (Hps.okRef_lo hok).1
              omega
          have HN := Lib.hid (Hps.cut_putP HCL.out hcx HMB.out hxx hc3)
          have fzr : wr.frozen? ⟨gr, j, none⟩ = false := by
            have oi2 := oi
            rw [← HLEN.out, ← hl3'] at oi2
            exact World.ownsRow.frozenAt oi2 j
          have SN := S.ref1 (i := j) hc3 HV.out (by rw [hl3', HLEN.out]) (-1)
          have SN2 := Lib.hid (show BoxW w0 (wr.setCell ⟨gr, j, none⟩ (.int .i64 (-1))) b (.slice (some ⟨gc, 0, none⟩) n c) (.slice R m d) rvs ⟨Hps.cutIJ ms h.cs a (j + 1), h.rt⟩ M i by rw [HN.out]; exact SN)
          have QC2 := Lib.hid (QC.other (show gq ≠ gr by omega) (i := j) (.int .i64 (-1)))
          clear hb hok HB2 hxx hcx hx hc3 hr3 oi hv HN SN S QC
          rintro e w6 ⟨rfl, rfl⟩
          go_wp2_with fail
          go_roundw
          case rel => exact ⟨j + 1, by omega, by go_num, SN2.out, QC2.out⟩
          case measure => simp [intOf]; omega
        · obtain rfl : len = j := by omega
          have HN := Lib.hid (show Hps.cutIJ ms h.cs a len = Hps.cutIJ ms h.cs (a + 1) 0 by rw [← HLEN.out]; exact Hps.cut_next HCL.out)
          go_wp2_with fail
          go_roundw
          case rel => exact ⟨a + 1, by omega, by go_num, by rw [← HN.out]; exact S⟩
          case measure => simp [intOf]; omega
    · obtain rfl : n = a := by omega
      have HCT := Lib.hid (show Hps.cutIJ ms h.cs n 0 = Hps.cutL ms h.cs by rw [Hps.cutL, HLC.out])
      rw [HCT.out] at S
      go_wp2_with fail
      go_end0
      exact ⟨⟨_, rfl⟩, S⟩
end Go.Proofs.Ytakdjiojahlnmaa
