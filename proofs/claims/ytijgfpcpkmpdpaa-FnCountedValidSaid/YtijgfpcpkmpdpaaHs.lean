/- What the program's RefCounts and EmptyHeap return: for every heap. No conditions. -/
import Derived.Test.YtijgfpcpkmpdpaaHx
import Derived.Test.YtijgfpcpkmpdpaaHz
namespace Go.Proofs.Ytijgfpcpkmpdpaa
open Go.RowKit
set_option maxRecDepth 100000

set_option maxHeartbeats 1000000 in
/-- one more list of references is counted -/
theorem countTargetsC_any (g n cn q cq : Nat) (F : Option Addr) (cs : List Cl) (xs rs : List Int) (w : World) (B : Nat) (hcs : cs.length = n) (ho : OwnI w B (.slice (some ⟨g, 0, none⟩) n cn) (Hps.cntN n xs)) (hf : IS w B F q rs) (hok : Hps.okRefs cs rs = true)
    (_hn : n ≤ 1000000) (hq : q ≤ 1000000) (hx : xs.length ≤ 1000000000) (hg : B ≤ g) (_hB : B ≤ w.heap.size) :
    Calls Try.prog 93 #[.slice (some ⟨g, 0, none⟩) n cn, .slice F q cq] w fun e w' => e = .returned (.tuple #[]) ∧ OwnI w' B (.slice (some ⟨g, 0, none⟩) n cn) (Hps.cntN n (xs ++ rs)) ∧ Below B w w' ∧ World.grownBy w w' (some g) := by
  have hG := World.grownBy.refl w (some g)
  have hlr := hf.1
  have HO := Lib.hid hok
  clear hok
  go_enter Try.func93, Try.ntmps93
  go_wp2_with fail
  go_loopw [8] (fun i wr => ∃ k : Nat, k ≤ q ∧ i = .int .i64 k ∧ OwnI wr B (.slice (some ⟨g, 0, none⟩) n cn) (Hps.cntN n (xs ++ rs.take k)) ∧ Below B w wr ∧ World.grownBy w wr (some g)) (fun i _ => q - (intOf i).toNat)
  case atStart => exact ⟨0, Nat.zero_le _, rfl, by rw [List.take_zero, List.append_nil]; exact ho, Below.refl _ _, hG⟩
  case round =>
    clear ho hG
    obtain ⟨k, hk, rfl, ho, bb, hG⟩ := hrel
    by_cases hlt : k < q
    · obtain ⟨gr, or, x, e2, hgr, hx1, d0⟩ := hf.at_ hlt
      subst e2
      have d1 := (bb.cell (p := ⟨gr, or + k, none⟩) hgr).trans d0
      have hltk : (k : Int) < q := by omega
      have HT := Lib.hid (take_snocI hx1)
      have hok := Hps.okRefs_at HO.out hx1
      clear d0
      by_cases hm1 : x = -1
      · subst hm1
        have HTN := Lib.hid (show Hps.cntN n (xs ++ rs.take (k + 1)) = Hps.cntN n (xs ++ rs.take k) by rw [HT.out, ← List.append_assoc]; exact Hps.cntN_neg (by omega))
        clear hok hx1
        go_wp2_with fail
        go_roundw
        case rel => exact ⟨k + 1, by omega, by go_num, by rw [HTN.out]; exact ho, bb, hG⟩
        case measure => simp [intOf]; omega
      · have hne : (x != -1) = true := by rw [bne_iff_ne]; exact hm1
        have hx0 : 0 ≤ x := by have := Hps.okRef_lo hok; omega
        obtain ⟨y, rfl, hy, _⟩ := Hps.okRef_nat hok hx0
        rw [hcs] at hy
        obtain ⟨g', o', v, e1, _, hv, c1⟩ := ho.reads.at_ (k := y) hy
        injection e1 with e1
        injection e1 with e2 e3
        subst e2 e3
        rw [Nat.zero_add] at c1
        rw [Hps.cntN_at _ hy] at hv
        injection hv with hv
        have hvl := Hps.count_le_len (xs ++ rs.take k) (y : Int)
        rw [List.length_append, List.length_take] at hvl
        have hv0 : 0 ≤ v := by omega
        have hv1 : v ≤ 10000000000000 := by omega
        have fz : wr.frozen? ⟨g, y, none⟩ = false := ho.frozen (Hps.cntN_len _ _) y
        have hy' : (y : Int) < n := by omega
        have HV := Lib.hid hv
        have hu : IntKind.i64.wrap (v + 1) = v + 1 := IntWalk.i64_in _ (by omega)
        have on : OwnI (wr.setCell ⟨g, y, none⟩ (.int .i64 (v + 1))) B (.slice (some ⟨g, 0, none⟩) n cn) (Hps.cntN n (xs ++ rs.take (k + 1))) := by
          rw [HT.out, ← List.append_assoc, ← Hps.cntN_set hy, HV.out]
          exact ho.put' (Hps.cntN_len _ _) (v + 1)
        have bn := bb.setCell (p := ⟨g, y, none⟩) hg (.int .i64 (v + 1))
        have gn := only_put hG y (.int .i64 (v + 1))
        clear hx1 hok hv hvl hm1
        go_wp2_with fail
        go_roundw
        case rel => exact ⟨k + 1, by omega, by go_num, on, bn, gn⟩
        case measure => simp [intOf]; omega
    · obtain rfl : k = q := by omega
      rw [List.take_of_length_le (by omega)] at ho
      go_wp2_with fail
      exact bodyPost_end (results_none rfl _ _ _) rfl ⟨rfl, ho, bb, hG⟩

theorem countTargets_any (g n q cq : Nat) (F : Option Addr) (cs : List Cl) (xs rs : List Int) (w : World) (B : Nat) (hcs : cs.length = n) (ho : OwnI w B (.slice (some ⟨g, 0, none⟩) n n) (Hps.cntN n xs)) (hf : IS w B F q rs) (hok : Hps.okRefs cs rs = true)
    (hn : n ≤ 1000000) (hq : q ≤ 1000000) (hx : xs.length ≤ 1000000000) (hg : B ≤ g) (hB : B ≤ w.heap.size) :
    Calls Try.prog 93 #[.slice (some ⟨g, 0, none⟩) n n, .slice F q cq] w fun e w' => e = .returned (.tuple #[]) ∧ OwnI w' B (.slice (some ⟨g, 0, none⟩) n n) (Hps.cntN n (xs ++ rs)) ∧ Below B w w' :=
  (countTargetsC_any g n n q cq F cs xs rs w B hcs ho hf hok hn hq hx hg hB).mono fun _ _ h => ⟨h.1, h.2.1, h.2.2.1⟩

namespace Hps
/-- the references of the roots and of those of the first i cells that are not in the set -/
def outW (h : Hp) (V : Nat) : Nat → List Int
  | 0 => h.rt
  | i + 1 => outW h V i ++ (if V.testBit i = true then [] else match h.cs[i]? with | some c => c.r | none => [])
theorem outW_in {h : Hp} {V i : Nat} (hs : V.testBit i = true) : outW h V (i + 1) = outW h V i := by rw [outW, if_pos hs, List.append_nil]
theorem outW_out {h : Hp} {V i : Nat} {c : Cl} (hs : V.testBit i = false) (hc : h.cs[i]? = some c) : outW h V (i + 1) = outW h V i ++ c.r := by rw [outW, if_neg (by rw [hs]; decide), hc]
theorem outW_zero (h : Hp) : ∀ i, i ≤ h.cs.length → outW h 0 i = refsTo h i
  | 0, _ => by rw [refsTo_zero]; rfl
  | i + 1, hi => by
    have hc := List.getElem?_eq_getElem (show i < h.cs.length by omega)
    rw [outW_out (by simp) hc, refsTo_succ hc, outW_zero h i (by omega)]
theorem outW_len (h : Hp) (V : Nat) : ∀ i, i ≤ h.cs.length → (outW h V i).length ≤ (refsTo h i).length
  | 0, _ => by rw [refsTo_zero]; exact Nat.le_refl _
  | i + 1, hi => by
    have ih := outW_len h V i (by omega)
    have hc := List.getElem?_eq_getElem (show i < h.cs.length by omega)
    rw [refsTo_succ hc, List.length_append]
    cases e : V.testBit i
    · rw [outW_out e hc, List.length_append]
      omega
    · rw [outW_in e]
      omega
end Hps

set_option maxHeartbeats 2000000 in
theorem countsWithout_any (A R : Option Addr) (n c m d V : Nat) (h : Hp) (w : World) (hs : HS w w.heap.size A n R m h) (hv : Hps.validH h = true) (hVl : V < 18446744073709551616) :
    Calls Try.prog 70 #[heapV A n c R m d, .int .u64 V] w (GaveI w (Hps.cntN n (Hps.outW h V n))) := by
  have hlc := hs.cells.1
  have hlr := hs.roots.1
  obtain ⟨s1, s2, s3⟩ := Hps.valid_small hv
  have HRF := Lib.hid (Hps.valid_refs hv)
  have HRO := Lib.hid (Hps.valid_iff.1 hv).2.2.2
  have HS3 := Lib.hid s3
  have HTO := Lib.hid (fun i hi => Nat.le_trans (Hps.outW_len h V i hi) (Hps.refsTo_len (h := h) (fun cl hcl => by have := HS3.out cl hcl; omega) (k := i) hi))
  have b0 : Below w.heap.size w (w.alloc (.cells #[.slice A n c, .slice R m d] 26)) := (Below.refl _ _).alloc (Nat.le_refl _) _
  have hw1 := Rw.new w 26 #[.slice A n c, .slice R m d]
  clear hv s3
  obtain ⟨w1, hw1e⟩ : ∃ w1, w.alloc (.cells #[.slice A n c, .slice R m d] 26) = w1 := ⟨_, rfl⟩
  have r1 := hs.up b0
  rw [hw1e] at b0 hw1 r1
  have z0 : w1.cell? ⟨w.heap.size, 0, none⟩ = some (.slice A n c) := hw1.cell 0
  have z1 : w1.cell? ⟨w.heap.size, 1, none⟩ = some (.slice R m d) := hw1.cell 1
  have hwl := hw1.lt
  have hmk := makeI w1 n (by omega)
  have b2 : Below w1.heap.size w1 (w1.alloc (.cells (Array.replicate n (.int .i64 0)) 3)) := (Below.refl _ _).alloc (Nat.le_refl _) _
  have o2 := own_madeI w1 n (by omega)
  rw [← Hps.cntN_nil] at o2
  obtain ⟨w2, hw2⟩ : ∃ w2, w1.alloc (.cells (Array.replicate n (.int .i64 0)) 3) = w2 := ⟨_, rfl⟩
  rw [hw2] at hmk b2 o2
  obtain ⟨B, hB⟩ : ∃ B, w1.heap.size = B := ⟨_, rfl⟩
  have hB2 : B ≤ w2.heap.size := by have := b2.size; omega
  have f2 := r1.roots.below b2
  have hbw : w.heap.size ≤ B := by omega
  have C1 := r1.cells
  rw [hB] at hmk b2 o2 f2 hwl C1
  have y0 : w2.cell? ⟨w.heap.size, 0, none⟩ = some (.slice A n c) := (b2.cell (p := ⟨w.heap.size, 0, none⟩) hwl).trans z0
  have y1 : w2.cell? ⟨w.heap.size, 1, none⟩ = some (.slice R m d) := (b2.cell (p := ⟨w.heap.size, 1, none⟩) hwl).trans z1
  clear hw2
  go_enter Try.func70, Try.ntmps70
  go_wp2_with fail
  refine (countTargets_any B n m d R h.cs [] h.rt _ B hlc o2 f2 HRO.out (by omega) (by omega) (by simp) (Nat.le_refl _) hB2).mono ?_
  rintro e w3 ⟨rfl, o3, b3⟩
  rw [List.nil_append] at o3
  have bb3 := b2.trans b3
  clear o2 f2 b3 y0 y1 hmk
  have y0 : w3.cell? ⟨w.heap.size, 0, none⟩ = some (.slice A n c) := (bb3.cell (p := ⟨w.heap.size, 0, none⟩) hwl).trans z0
  go_wp2_with fail
  go_loopw [19] (fun i wr => ∃ k : Nat, k ≤ n ∧ i = .int .i64 k ∧ OwnI wr B (.slice (some ⟨B, 0, none⟩) n n) (Hps.cntN n (Hps.outW h V k)) ∧ Below B w1 wr) (fun i _ => n - (intOf i).toNat)
  case atStart => exact ⟨0, Nat.zero_le _, rfl, o3, bb3⟩
  case round =>
    clear o3 bb3 y0
    obtain ⟨k, hk, rfl, ho, bb⟩ := hrel
    by_cases hlt : k < n
    · obtain ⟨g, o, cl, A', m', cc, e1, hg, hcl, d1, d2, d3, hmc, hi⟩ := C1.at_ hlt
      subst e1
      replace d1 := (bb.cell (p := ⟨g, o + k * 3, none⟩) hg).trans d1
      replace d2 := (bb.cell (p := ⟨g, o + k * 3 + 1, none⟩) hg).trans d2
      replace d3 := (bb.cell (p := ⟨g, o + k * 3 + 2, none⟩) hg).trans d3
      have hlt' : (k : Int) < n := by omega
      have hsz : B ≤ wr.heap.size := by have := bb.size; omega
      have bW := bb.alloc hsz (.cells #[.bool cl.u, .int .i64 cl.d, .slice A' m' cc] 39)
      have oW := World.ownsRow.alloc ho (.cells #[.bool cl.u, .int .i64 cl.d, .slice A' m' cc] 39)
      have fW := hi.below bW
      have hm3 : m' ≤ 3 := by have := HS3.out cl (List.mem_of_getElem? hcl); have := hi.1; omega
      have hok := HRF.out cl (List.mem_of_getElem? hcl)
      have HOK := Lib.hid hok
      have HB := Lib.hid (show Hps.hasB V (k : Int) = V.testBit k by simp [Hps.hasB])
      cases hbit : V.testBit k
      · have HSU := Lib.hid (Hps.outW_out hbit hcl)
        have HBF := Lib.hid (HB.out.trans hbit)
        have hrl : (Hps.outW h V k).length ≤ 1000000000 := by have := HTO.out k (by omega); omega
        clear hcl hok hbit HB
        go_wp2_with fail
        refine (has_any V k _ hVl).mono ?_
        rw [HBF.out]
        rintro e w4 ⟨rfl, rfl⟩
        go_wp2_with fail
        refine (countTargets_any B n m' cc A' h.cs (Hps.outW h V k) cl.r _ B hlc oW fW HOK.out (by omega) (by omega) hrl (Nat.le_refl _) (by simp; omega)).mono ?_
        rintro e w5 ⟨rfl, o5, b5⟩
        rw [← HSU.out] at o5
        have bn := bW.trans b5
        go_wp2_with fail
        go_roundw
        case rel => exact ⟨k + 1, by omega, by go_num, o5, bn⟩
        case measure => simp [intOf]; omega
      · have HSU := Lib.hid (Hps.outW_in (h := h) hbit)
        have HBF := Lib.hid (HB.out.trans hbit)
        clear hcl hok hbit HB
        go_wp2_with fail
        refine (has_any V k _ hVl).mono ?_
        rw [HBF.out]
        rintro e w4 ⟨rfl, rfl⟩
        go_wp2_with fail
        go_roundw
        case rel => exact ⟨k + 1, by omega, by go_num, by rw [HSU.out]; exact oW, bW⟩
        case measure => simp [intOf]; omega
    · obtain rfl : k = n := by omega
      go_wp2_with fail
      go_ret
      exact ⟨_, rfl, ho.base (by omega), b0.trans (bb.mono (by omega))⟩

set_option maxHeartbeats 1000000 in
theorem refCounts_any (A R : Option Addr) (n c m d : Nat) (h : Hp) (w : World) (hs : HS w w.heap.size A n R m h) (hn : n ≤ 1099511627776) (hm : m ≤ 1099511627776) (hc : n ≤ c) (hd : m ≤ d) :
    Calls Try.prog 27 #[heapV A n c R m d] w (GaveI w (Hps.countsH h)) := by
  have hlc := hs.cells.1
  have b0 : Below w.heap.size w (w.alloc (.cells #[.slice A n c, .slice R m d] 26)) := (Below.refl _ _).alloc (Nat.le_refl _) _
  have r0 := hs.up b0
  have hw0 := Rw.new w 26 #[.slice A n c, .slice R m d]
  cases hv : Hps.validH h
  · have HR := Lib.hid (show Hps.countsH h = [] by rw [Hps.countsH, hv]; rfl)
    have HV := Lib.hid hv
    clear hv
    go_enter Try.func27, Try.ntmps27
    go_wp2_with fail
    refine (heapValid_any _ _ _ _ _ _ h _ r0 hn hm hc hd).mono ?_
    rw [HV.out]
    rintro e w1 ⟨rfl, b1⟩
    have bb1 := b0.trans (b1.mono b0.size)
    go_wp2_with fail
    go_ret
    exact ⟨_, rfl, by rw [HR.out]; exact World.ownsRow_nil _ _ _ _, bb1⟩
  · have HR := Lib.hid (show Hps.cntN n (Hps.outW h 0 n) = Hps.countsH h by rw [Hps.countsH, hv, if_pos rfl, Hps.outW_zero h n (by omega), Hps.countsL_eq, hlc, ← Hps.refsTo_all, hlc])
    have HV := Lib.hid hv
    clear hv
    go_enter Try.func27, Try.ntmps27
    go_wp2_with fail
    refine (heapValid_any _ _ _ _ _ _ h _ r0 hn hm hc hd).mono ?_
    rw [HV.out]
    rintro e w1 ⟨rfl, b1⟩
    have bb1 := b0.trans (b1.mono b0.size)
    have r1 := r0.up b1
    have hw1 := hw0.keep b1 (by simp)
    have z0 : w1.cell? ⟨w.heap.size, 0, none⟩ = some (.slice A n c) := hw1.cell 0
    have z1 : w1.cell? ⟨w.heap.size, 1, none⟩ = some (.slice R m d) := hw1.cell 1
    clear r0 hw0
    go_wp2_with fail
    refine (countsWithout_any A R n c m d 0 h _ r1 HV.out (by omega)).mono ?_
    rintro e w2 ⟨v2, rfl, o2, b2⟩
    rw [HR.out] at o2
    go_wp2_with fail
    go_ret
    exact ⟨_, rfl, o2.base bb1.size, bb1.trans (b2.mono bb1.size)⟩
end Go.Proofs.Ytijgfpcpkmpdpaa
