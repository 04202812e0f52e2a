/- What the model's UsedCells and RefCounts return: for every heap. -/
import Derived.Test.YtijgfpcpkmpdpaaHf
import Derived.BigRegion
namespace Go.Proofs.Ytijgfpcpkmpdpaa
open Go.RowKit

namespace Hps
/-- how often each of the numbers 0..n-1 is in the list -/
def cntN (n : Nat) (xs : List Int) : List Int := (List.range n).map fun (k : Nat) => ((xs.count (k : Int) : Nat) : Int)
theorem cntN_len (n : Nat) (xs : List Int) : (cntN n xs).length = n := by simp [cntN]
theorem cntN_at {n k : Nat} (xs : List Int) (h : k < n) : (cntN n xs)[k]? = some ((xs.count (k : Int) : Nat) : Int) := by simp [cntN, h]
theorem cntN_nil (n : Nat) : cntN n [] = List.replicate n (0 : Int) := by
  apply List.ext_getElem?
  intro k
  rcases Nat.lt_or_ge k n with h | h
  · rw [cntN_at _ h]
    simp [h]
  · rw [List.getElem?_eq_none (by rw [cntN_len]; omega), List.getElem?_eq_none (by simp; omega)]
theorem cntN_neg {n : Nat} {xs : List Int} {x : Int} (h : ¬ 0 ≤ x) : cntN n (xs ++ [x]) = cntN n xs := by
  apply List.ext_getElem?
  intro k
  rcases Nat.lt_or_ge k n with hk | hk
  · rw [cntN_at _ hk, cntN_at _ hk, List.count_append, List.count_singleton]
    have : (x == (k : Int)) = false := by rw [beq_eq_false_iff_ne]; omega
    rw [this]
    simp
  · rw [List.getElem?_eq_none (by rw [cntN_len]; omega), List.getElem?_eq_none (by rw [cntN_len]; omega)]
theorem cntN_set {n y : Nat} {xs : List Int} (h : y < n) : (cntN n xs).set y (((xs.count (y : Int) : Nat) : Int) + 1) = cntN n (xs ++ [(y : Int)]) := by
  apply List.ext_getElem?
  intro k
  rw [List.getElem?_set, cntN_len]
  rcases Nat.lt_or_ge k n with hk | hk
  · rw [cntN_at _ hk, cntN_at _ hk, List.count_append, List.count_singleton]
    by_cases e : y = k
    · subst e
      rw [if_pos rfl, if_pos h]
      simp
    · rw [if_neg e]
      have : ((y : Int) == (k : Int)) = false := by rw [beq_eq_false_iff_ne]; omega
      rw [this]
      simp
  · rw [if_neg (by omega), List.getElem?_eq_none (by rw [cntN_len]; omega), List.getElem?_eq_none (by rw [cntN_len]; omega)]
/-- the references of the roots and of the first k cells -/
def refsTo (h : Hp) (k : Nat) : List Int := h.rt ++ ((h.cs.take k).map (·.r)).flatten
theorem refsTo_zero (h : Hp) : refsTo h 0 = h.rt := by simp [refsTo]
theorem refsTo_succ {h : Hp} {k : Nat} {c : Cl} (hc : h.cs[k]? = some c) : refsTo h (k + 1) = refsTo h k ++ c.r := by
  simp [refsTo, List.take_add_one, hc]
theorem refsTo_all (h : Hp) : refsTo h h.cs.length = refsOf h := by simp [refsTo, refsOf]
theorem refsTo_len {h : Hp} (hb : ∀ cl ∈ h.cs, cl.r.length ≤ 1000000) : ∀ k, k ≤ h.cs.length → (refsTo h k).length ≤ h.rt.length + k * 1000000
  | 0, _ => by rw [refsTo_zero]; omega
  | k + 1, hk => by
    have ih := refsTo_len hb k (by omega)
    have hc := List.getElem?_eq_getElem (show k < h.cs.length by omega)
    have := hb _ (List.mem_of_getElem? hc)
    rw [refsTo_succ hc, List.length_append]
    omega
theorem countsL_eq (h : Hp) : countsL h = cntN h.cs.length (refsOf h) := rfl
theorem count_le_len (xs : List Int) (x : Int) : xs.count x ≤ xs.length := List.count_le_length
end Hps

set_option maxHeartbeats 4000000 in
theorem l7Counts_any (A R : Option Addr) (n c m d : Nat) (h : Hp) (w : World) (hs : HS w w.heap.size A n R m h) (hn : n ≤ 1000000) (hm : m ≤ 1000000)
    (ho : Hps.okRefs h.cs h.rt = true) (hr : ∀ cl ∈ h.cs, Hps.okRefs h.cs cl.r = true) (hb : ∀ cl ∈ h.cs, cl.r.length ≤ 1000000) :
    Calls Try.prog 71 #[heapV A n c R m d] w (GaveI w (Hps.countsL h)) := by
  have hlc := hs.cells.1
  have hlr := hs.roots.1
  have HO := Lib.hid ho
  have HRF := Lib.hid hr
  have HB := Lib.hid hb
  clear ho hr hb
  have hmk := makeI (w.alloc (.cells #[.slice A n c, .slice R m d] 26)) n (by omega)
  have hw0 := (Rw.new w 26 #[.slice A n c, .slice R m d]).alloc (.cells (Array.replicate n (.int .i64 0)) 3)
  have b0 : Below w.heap.size w ((w.alloc (.cells #[.slice A n c, .slice R m d] 26)).alloc (.cells (Array.replicate n (.int .i64 0)) 3)) := ((Below.refl w.heap.size w).alloc (Nat.le_refl _) _).alloc (by simp) _
  have o0 : OwnI ((w.alloc (.cells #[.slice A n c, .slice R m d] 26)).alloc (.cells (Array.replicate n (.int .i64 0)) 3)) (w.heap.size + 1) (.slice (some ⟨w.heap.size + 1, 0, none⟩) n n) (Hps.cntN n []) := by
    have := own_madeI (w.alloc (.cells #[.slice A n c, .slice R m d] 26)) n (by omega)
    rw [World.size_alloc] at this
    rw [Hps.cntN_nil]
    exact this
  obtain ⟨w0, hw0e⟩ : ∃ w0, (w.alloc (.cells #[.slice A n c, .slice R m d] 26)).alloc (.cells (Array.replicate n (.int .i64 0)) 3) = w0 := ⟨_, rfl⟩
  rw [hw0e] at hmk hw0 b0 o0
  simp at hmk
  clear hw0e
  go_enter Try.func71, Try.ntmps71
  go_wp2
  clear hmk
  go_loopw [4] (fun i wr => ∃ k : Nat, k ≤ m ∧ i = .int .i64 k ∧ OwnI wr (w.heap.size + 1) (.slice (some ⟨w.heap.size + 1, 0, none⟩) n n) (Hps.cntN n (h.rt.take k)) ∧ Rw wr w.heap.size 26 #[.slice A n c, .slice R m d] ∧ Below w.heap.size w wr) (fun i _ => m - (intOf i).toNat)
  case atStart => exact ⟨0, Nat.zero_le _, rfl, by rw [List.take_zero]; exact o0, hw0, b0⟩
  case round =>
    clear o0 hw0 b0
    obtain ⟨k, hk, rfl, ho, hw, bb⟩ := hrel
    have z0 : wr.cell? ⟨w.heap.size, 0, none⟩ = some (.slice A n c) := hw.cell 0
    have z1 : wr.cell? ⟨w.heap.size, 1, none⟩ = some (.slice R m d) := hw.cell 1
    by_cases hlt : k < m
    · obtain ⟨g, o, x, e1, hg, hx, d0⟩ := hs.roots.at_ hlt
      subst e1
      have d1 := (bb.cell (p := ⟨g, o + k, none⟩) hg).trans d0
      have hlt' : (k : Int) < m := by omega
      have HT := Lib.hid (take_snocI hx)
      have hok := Hps.okRefs_at HO.out hx
      by_cases hx0 : 0 ≤ x
      · obtain ⟨y, rfl, hy, _⟩ := Hps.okRef_nat hok hx0
        rw [hlc] at hy
        obtain ⟨g', o', v, e1, _, hv, c1⟩ := ho.reads.at_ (k := y) (by rw [← Hps.cntN_len n (h.rt.take k)] at hy; simpa [Hps.cntN_len] using hy)
        injection e1 with e1
        injection e1 with e2 e3
        subst e2 e3
        rw [Nat.zero_add] at c1
        rw [Hps.cntN_at _ hy] at hv
        injection hv with hv
        have hvl := Hps.count_le_len (h.rt.take k) (y : Int)
        rw [List.length_take] at hvl
        have hv0 : 0 ≤ v := by omega
        have hv1 : v ≤ 1000000 := by omega
        have fz : wr.frozen? ⟨w.heap.size + 1, y, none⟩ = false := World.ownsRow.frozenAt (by have := ho; unfold OwnI at this; rw [Hps.cntN_len] at this; exact this) y
        have hy' : (y : Int) < n := by omega
        have HV := Lib.hid hv
        have hu : IntKind.i64.wrap (v + 1) = v + 1 := IntWalk.i64_in _ (by omega)
        clear hx hok hv
        have on : OwnI (wr.setCell ⟨w.heap.size + 1, y, none⟩ (.int .i64 (v + 1))) (w.heap.size + 1) (.slice (some ⟨w.heap.size + 1, 0, none⟩) n n) (Hps.cntN n (h.rt.take (k + 1))) := by
          rw [HT.out, ← Hps.cntN_set hy, HV.out]
          exact ho.put' (Hps.cntN_len _ _) (v + 1)
        have bn := bb.setCell (p := ⟨w.heap.size + 1, y, none⟩) (by simp) (.int .i64 (v + 1))
        have hwn := Rw.other (w := wr) hw (show w.heap.size ≠ w.heap.size + 1 by omega) (i := y) (.int .i64 (v + 1))
        go_wp2_with fail
        go_region
        go_wp2
        go_roundw
        case rel => exact ⟨k + 1, by omega, by go_num, on, hwn, bn.drew⟩
        case measure => simp [intOf]; omega
      · have hx0' : decide ((0 : Int) ≤ x) = false := decide_eq_false hx0
        clear hx hok
        go_wp2_with fail
        go_roundw
        case rel => exact ⟨k + 1, by omega, by go_num, by rw [HT.out, Hps.cntN_neg hx0]; exact ho, hw, bb⟩
        case measure => simp [intOf]; omega
    · obtain rfl : k = m := by omega
      rw [List.take_of_length_le (by omega)] at ho
      have HTO := Lib.hid (fun i hi => Hps.refsTo_len HB.out (k := i) hi)
      rw [← Hps.refsTo_zero h] at ho
      go_wp2_with fail
      go_loopw [5] (fun i wr => ∃ q : Nat, q ≤ n ∧ i = .int .i64 q ∧ OwnI wr (w.heap.size + 1) (.slice (some ⟨w.heap.size + 1, 0, none⟩) n n) (Hps.cntN n (Hps.refsTo h q)) ∧ Rw wr w.heap.size 26 #[.slice A n c, .slice R k d] ∧ Below w.heap.size w wr) (fun i _ => n - (intOf i).toNat)
      case atStart => exact ⟨0, Nat.zero_le _, rfl, ho, hw, bb⟩
      case round =>
        clear ho hw bb z0 z1 hk hlt
        obtain ⟨q, hq, rfl, ho, hw, bb⟩ := hrel
        have z0 : wr.cell? ⟨w.heap.size, 0, none⟩ = some (.slice A n c) := hw.cell 0
        by_cases hlt : q < n
        · obtain ⟨g, o, cl, A', m', cc, e1, hg, hcl, _, _, d3, hmc, hi⟩ := hs.cells.at_ hlt
          subst e1
          have hlt' : (q : Int) < n := by omega
          have hm3 : m' ≤ 1000000 := by have := HB.out cl (List.mem_of_getElem? hcl); have := hi.1; omega
          have HOK := Lib.hid (HRF.out cl (List.mem_of_getElem? hcl))
          have HSU := Lib.hid (Hps.refsTo_succ hcl)
          have hrl := HTO.out q (by omega)
          clear hcl
          go_wp2_with fail
          go_loopw [6] (fun i wr => ∃ j : Nat, j ≤ m' ∧ i = .int .i64 j ∧ OwnI wr (w.heap.size + 1) (.slice (some ⟨w.heap.size + 1, 0, none⟩) n n) (Hps.cntN n (Hps.refsTo h q ++ cl.r.take j)) ∧ Rw wr w.heap.size 26 #[.slice (some ⟨g, o, none⟩) n c, .slice R k d] ∧ Below w.heap.size w wr) (fun i _ => m' - (intOf i).toNat)
          case atStart => exact ⟨0, Nat.zero_le _, rfl, by rw [List.take_zero, List.append_nil]; exact ho, hw, bb⟩
          case round =>
            clear ho hw bb z0 hq hlt
            obtain ⟨j, hj, rfl, ho, hw, bb⟩ := hrel
            have z0 : wr.cell? ⟨w.heap.size, 0, none⟩ = some (.slice (some ⟨g, o, none⟩) n c) := hw.cell 0
            have d3' := (bb.cell (p := ⟨g, o + q * 3 + 2, none⟩) hg).trans d3
            by_cases hlt : j < m'
            · obtain ⟨gr, or, x, e2, hgr, hx, d0⟩ := hi.at_ hlt
              subst e2
              have d1 := (bb.cell (p := ⟨gr, or + j, none⟩) hgr).trans d0
              have hltj : (j : Int) < m' := by omega
              have HT := Lib.hid (take_snocI hx)
              have hok := Hps.okRefs_at HOK.out hx
              by_cases hx0 : 0 ≤ x
              · obtain ⟨y, rfl, hy, _⟩ := Hps.okRef_nat hok hx0
                rw [hlc] at hy
                obtain ⟨g', o', v, e1, _, hv, c1⟩ := ho.reads.at_ (k := y) hy
                injection e1 with e1
                injection e1 with e2 e3
                subst e2 e3
                rw [Nat.zero_add] at c1
                rw [Hps.cntN_at _ hy] at hv
                injection hv with hv
                have hvl := Hps.count_le_len (Hps.refsTo h q ++ cl.r.take j) (y : Int)
                rw [List.length_append, List.length_take] at hvl
                have hv0 : 0 ≤ v := by omega
                have hv1 : v ≤ 10000000000000 := by omega
                have fz : wr.frozen? ⟨w.heap.size + 1, y, none⟩ = false := ho.frozen (Hps.cntN_len _ _) y
                have hy' : (y : Int) < n := by omega
                have HV := Lib.hid hv
                have on : OwnI (wr.setCell ⟨w.heap.size + 1, y, none⟩ (.int .i64 (v + 1))) (w.heap.size + 1) (.slice (some ⟨w.heap.size + 1, 0, none⟩) n n) (Hps.cntN n (Hps.refsTo h q ++ cl.r.take (j + 1))) := by
                  rw [HT.out, ← List.append_assoc, ← Hps.cntN_set hy, HV.out]
                  exact ho.put' (Hps.cntN_len _ _) (v + 1)
                have bn := bb.setCell (p := ⟨w.heap.size + 1, y, none⟩) (by simp) (.int .i64 (v + 1))
                have hwn := Rw.other (w := wr) hw (show w.heap.size ≠ w.heap.size + 1 by omega) (i := y) (.int .i64 (v + 1))
                clear hx hok hv hvl
                go_wp2_with fail
                go_roundw
                case rel => exact ⟨j + 1, by omega, by go_num, on, hwn, bn⟩
                case measure => simp [intOf]; omega
              · have hx0' : decide ((0 : Int) ≤ x) = false := decide_eq_false hx0
                clear hx hok
                go_wp2_with fail
                go_roundw
                case rel => exact ⟨j + 1, by omega, by go_num, by rw [HT.out, ← List.append_assoc, Hps.cntN_neg hx0]; exact ho, hw, bb⟩
                case measure => simp [intOf]; omega
            · obtain rfl : j = m' := by omega
              rw [List.take_of_length_le (by have := hi.1; omega), ← HSU.out] at ho
              go_wp2_with fail
              go_roundw
              case rel => exact ⟨q + 1, by omega, by go_num, ho, hw, bb⟩
              case measure => simp [intOf]; omega
        · obtain rfl : q = n := by omega
          have HF := Lib.hid (show Hps.cntN q (Hps.refsTo h q) = Hps.countsL h by rw [Hps.countsL_eq, hlc, ← Hps.refsTo_all, hlc])
          go_wp2_with fail
          go_ret
          exact ⟨_, rfl, by rw [← HF.out]; exact ho.base (by omega), bb⟩

set_option maxHeartbeats 1000000 in
theorem mRefCounts_any (A R : Option Addr) (n c m d : Nat) (h : Hp) (w : World) (hs : HS w w.heap.size A n R m h) (hn : n ≤ 1099511627776) (hm : m ≤ 1099511627776) :
    Calls Try.prog 29 #[heapV A n c R m d] w (GaveI w (Hps.countsH h)) := by
  have hlc := hs.cells.1
  have hlr := hs.roots.1
  have b0 : Below w.heap.size w (w.alloc (.cells #[.slice A n c, .slice R m d] 26)) := (Below.refl _ _).alloc (Nat.le_refl _) _
  have r0 := hs.up b0
  have hw0 := Rw.new w 26 #[.slice A n c, .slice R m d]
  cases hv : Hps.validH h
  · have HR := Lib.hid (show Hps.countsH h = [] by rw [Hps.countsH, hv]; rfl)
    have HV := Lib.hid hv
    clear hv
    go_enter Try.func29, Try.ntmps29
    go_wp2_with fail
    refine (mHeapValid_any _ _ _ _ _ _ h _ r0 hn hm).mono ?_
    rw [HV.out]
    rintro e w1 ⟨rfl, b1⟩
    have bb1 := b0.trans (b1.mono b0.size)
    have on := own_noneI w1 w.heap.size bb1.size
    have bl := bb1.alloc bb1.size (.cells #[] 3)
    go_wp2_with fail
    go_ret
    exact ⟨_, rfl, by rw [HR.out]; exact on, bl⟩
  · have HR := Lib.hid (show Hps.countsH h = Hps.countsL h by rw [Hps.countsH, hv]; rfl)
    have HV := Lib.hid hv
    obtain ⟨s1, s2, s3⟩ := Hps.valid_small hv
    have HRF := Lib.hid (Hps.valid_refs hv)
    have HRO := Lib.hid (Hps.valid_iff.1 hv).2.2.2
    have HS3 := Lib.hid s3
    clear hv s3
    go_enter Try.func29, Try.ntmps29
    go_wp2_with fail
    refine (mHeapValid_any _ _ _ _ _ _ h _ r0 hn hm).mono ?_
    rw [HV.out]
    rintro e w1 ⟨rfl, b1⟩
    have bb1 := b0.trans (b1.mono b0.size)
    have r1 := r0.up b1
    have hw1 := hw0.keep b1 (by simp)
    have z0 : w1.cell? ⟨w.heap.size, 0, none⟩ = some (.slice A n c) := hw1.cell 0
    have z1 : w1.cell? ⟨w.heap.size, 1, none⟩ = some (.slice R m d) := hw1.cell 1
    clear r0 hw0
    go_wp2_with fail
    refine (l7Counts_any _ _ _ _ _ _ h _ r1 (by omega) (by omega) HRO.out HRF.out (fun cl hcl => by have := HS3.out cl hcl; omega)).mono ?_
    rintro e w2 ⟨v2, rfl, o2, b2⟩
    go_wp2_with fail
    go_ret
    exact ⟨_, rfl, by rw [HR.out]; exact o2.base bb1.size, bb1.trans (b2.mono bb1.size)⟩

namespace Hps
def usedTo (cs : List Cl) (k : Nat) : Nat := (cs.take k).countP (·.u)
def liveTo (bs : List Bool) (k : Nat) : Nat := (bs.take k).count true
theorem usedTo_succ {cs : List Cl} {k : Nat} {c : Cl} (h : cs[k]? = some c) : usedTo cs (k + 1) = usedTo cs k + (if c.u = true then 1 else 0) := by
  simp [usedTo, List.take_add_one, h, List.countP_append, List.countP_cons]
theorem liveTo_succ {bs : List Bool} {k : Nat} {b : Bool} (h : bs[k]? = some b) : liveTo bs (k + 1) = liveTo bs k + (if b = true then 1 else 0) := by
  simp [liveTo, List.take_add_one, h, List.count_append, List.count_cons]
theorem usedTo_le (cs : List Cl) (k : Nat) : usedTo cs k ≤ k := Nat.le_trans List.countP_le_length (by rw [List.length_take]; omega)
theorem liveTo_le (bs : List Bool) (k : Nat) : liveTo bs k ≤ k := Nat.le_trans List.count_le_length (by rw [List.length_take]; omega)
/-- how many cells are used, and how many can be reached -/
noncomputable def usedH (h : Hp) : Int × Int := if validH h = true then ((usedTo h.cs h.cs.length : Int), (liveTo (reachL h.cs h.rt) h.cs.length : Int)) else (-1, -1)
end Hps

set_option maxHeartbeats 2000000 in
theorem mUsedCells_any (A R : Option Addr) (n c m d : Nat) (h : Hp) (w : World) (hs : HS w w.heap.size A n R m h) (hn : n ≤ 1099511627776) (hm : m ≤ 1099511627776) :
    Calls Try.prog 49 #[heapV A n c R m d] w fun e w' => e = .returned (.tuple #[.int .i64 (Hps.usedH h).1, .int .i64 (Hps.usedH h).2]) ∧ Below w.heap.size w w' := by
  have hlc := hs.cells.1
  have hlr := hs.roots.1
  have b0 : Below w.heap.size w (w.alloc (.cells #[.slice A n c, .slice R m d] 26)) := (Below.refl _ _).alloc (Nat.le_refl _) _
  have r0 := hs.up b0
  have hw0 := Rw.new w 26 #[.slice A n c, .slice R m d]
  cases hv : Hps.validH h
  · have HR := Lib.hid (show Hps.usedH h = (-1, -1) by rw [Hps.usedH, hv]; rfl)
    have HV := Lib.hid hv
    clear hv
    go_enter Try.func49, Try.ntmps49
    go_wp2_with fail
    refine (mHeapValid_any _ _ _ _ _ _ h _ r0 hn hm).mono ?_
    rw [HV.out]
    rintro e w1 ⟨rfl, b1⟩
    go_wp2_with fail
    go_ret2
    exact ⟨by rw [HR.out]; rfl, b0.trans (b1.mono b0.size)⟩
  · have HR := Lib.hid (show Hps.usedH h = ((Hps.usedTo h.cs n : Int), (Hps.liveTo (Hps.reachL h.cs h.rt) n : Int)) by rw [Hps.usedH, hv, if_pos rfl, hlc])
    have HV := Lib.hid hv
    obtain ⟨s1, s2, s3⟩ := Hps.valid_small hv
    have HRF := Lib.hid (Hps.valid_refs hv)
    have HRO := Lib.hid (Hps.valid_iff.1 hv).2.2.2
    have HS3 := Lib.hid s3
    have hrl := Hps.reachL_len h.cs h.rt
    obtain ⟨bs, hbs⟩ : ∃ bs, Hps.reachL h.cs h.rt = bs := ⟨_, rfl⟩
    rw [hbs] at HR hrl
    have HBS := Lib.hid hbs
    clear hv s3 hbs
    go_enter Try.func49, Try.ntmps49
    go_wp2_with fail
    refine (mHeapValid_any _ _ _ _ _ _ h _ r0 hn hm).mono ?_
    rw [HV.out]
    rintro e w1 ⟨rfl, b1⟩
    have bb1 := b0.trans (b1.mono b0.size)
    have r1 := r0.up b1
    have hw1 := hw0.keep b1 (by simp)
    have z0 : w1.cell? ⟨w.heap.size, 0, none⟩ = some (.slice A n c) := hw1.cell 0
    have z1 : w1.cell? ⟨w.heap.size, 1, none⟩ = some (.slice R m d) := hw1.cell 1
    have hwl := hw1.lt
    clear r0 hw0
    go_wp2_with fail
    refine (l7Reach_any _ _ _ _ _ _ _ _ _ h h.rt _ r1 r1.roots (by omega) (by omega) HRO.out HRF.out (fun cl hcl => by have := HS3.out cl hcl; omega)).mono ?_
    rw [HBS.out]
    rintro e w2 ⟨v2, rfl, o2, b2⟩
    have bb2 := bb1.trans (b2.mono bb1.size)
    have hw2 := hw1.keep b2 hwl
    obtain ⟨A2, c2, rfl, f2⟩ := o2.form
    have rb := o2.reads
    rw [hrl, hlc] at rb
    rw [hrl, hlc]
    clear f2 z0 z1 hw1 r1 hwl o2
    go_wp2_with fail
    go_loopw [4, 5, 7] (fun u l i wr => ∃ k : Nat, k ≤ n ∧ i = .int .i64 k ∧ u = .int .i64 (Hps.usedTo h.cs k : Nat) ∧ l = .int .i64 (Hps.liveTo bs k : Nat) ∧ wr = w2) (fun _ _ i _ => n - (intOf i).toNat)
    case atStart => exact ⟨0, Nat.zero_le _, rfl, rfl, rfl, rfl⟩
    case round =>
      obtain ⟨k, hk, rfl, rfl, rfl, rfl⟩ := hrel
      have z0 : wr.cell? ⟨w.heap.size, 0, none⟩ = some (.slice A n c) := hw2.cell 0
      have hu1 := Hps.usedTo_le h.cs k
      have hl1 := Hps.liveTo_le bs k
      by_cases hlt : k < n
      · obtain ⟨g, o, cl, A', m', cc, e1, hg, hcl, d1, _, _, _, _⟩ := (hs.cells.below bb2).at_ hlt
        subst e1
        obtain ⟨g3, o3, b, e3, hg3, hbk, c3⟩ := rb.at_ hlt
        subst e3
        have hlt' : (k : Int) < n := by omega
        have HU := Lib.hid (Hps.usedTo_succ hcl)
        have HL := Lib.hid (Hps.liveTo_succ hbk)
        obtain ⟨U, hU⟩ : ∃ U, Hps.usedTo h.cs k = U := ⟨_, rfl⟩
        obtain ⟨L, hL⟩ : ∃ L, Hps.liveTo bs k = L := ⟨_, rfl⟩
        rw [hU] at HU hu1 ⊢
        rw [hL] at HL hl1 ⊢
        clear hcl hbk hU hL
        cases hu : cl.u <;> cases b <;> rw [hu] at d1
        all_goals
          rw [hu] at HU
          clear hu
          go_wp2_with fail
          go_roundw
          case rel => exact ⟨k + 1, by omega, by go_num, by rw [HU.out]; first | rfl | go_num, by rw [HL.out]; first | rfl | go_num, trivial⟩
          case measure => simp [intOf]; omega
      · obtain rfl : k = n := by omega
        go_wp2_with fail
        go_ret2
        exact ⟨by rw [HR.out]; rfl, bb2⟩
end Go.Proofs.Ytijgfpcpkmpdpaa
