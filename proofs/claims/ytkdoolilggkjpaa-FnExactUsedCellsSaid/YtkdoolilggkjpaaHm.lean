/- What szCell, szCellS and szHeap of the exact laws return; how a heap that came in lies in memory. No conditions. -/
import Derived.Test.YtkdoolilggkjpaaHl
namespace Go.Proofs.Ytkdoolilggkjpaa
open Go.ChangeShapes Go.WideShapes Go.ChangeAt Go.RowKit Go.Deep
set_option maxRecDepth 100000

/-- how many references the first k cells have -/
def refN (cs : List Cl) (k : Nat) : Nat := ((cs.take k).map (·.r.length)).sum
theorem refN_succ {cs : List Cl} {k : Nat} {c : Cl} (h : cs[k]? = some c) : refN cs (k + 1) = refN cs k + c.r.length := by
  simp [refN, List.take_add_one, h]
theorem refN_mono (cs : List Cl) : ∀ {j k : Nat}, j ≤ k → refN cs j ≤ refN cs k := by
  intro j k hjk
  induction hjk with
  | refl => exact Nat.le_refl _
  | step _ ih =>
    refine Nat.le_trans ih ?_
    rename_i k _
    cases h : cs[k]? with
    | none => simp [refN, List.take_add_one, h]
    | some c => rw [refN_succ h]; omega
theorem refN_mem {cs : List Cl} {c : Cl} (hc : c ∈ cs) : c.r.length ≤ refN cs cs.length := by
  obtain ⟨k, hk⟩ := List.mem_iff_getElem?.1 hc
  have h1 := refN_succ hk
  have h2 := refN_mono cs (j := k + 1) (k := cs.length) (List.getElem?_eq_some_iff.1 hk).1
  omega
/-- what is left of l -/
def leftOf (l : Int) (n : Nat) : Int := if (n : Int) ≤ l then l - n else -1

set_option maxHeartbeats 1000000 in
theorem szCell_any (cl : Cl) (A : Option Addr) (m cc : Nat) (l : Int) (w : World) (h0 : 0 ≤ l) (h1 : l ≤ 1099511627776) (hm : m ≤ 9223372036854775807) :
    Calls Try.prog 72 #[.agg #[.bool cl.u, .int .i64 cl.d, .slice A m cc], .int .i64 l] w fun e w' => e = .returned (.int .i64 (leftOf l m)) ∧ Below w.heap.size w w' := by
  have b1 : Below w.heap.size w (w.alloc (.cells #[.bool cl.u, .int .i64 cl.d, .slice A m cc] 91)) := (Below.refl _ _).alloc (Nat.le_refl _) _
  unfold leftOf
  by_cases h : (m : Int) ≤ l
  · have HI := Lib.hid (show (if (m : Int) ≤ l then l - m else -1) = l - m from if_pos h)
    have h' : decide (l - (m : Int) < 0) = false := decide_eq_false (by omega)
    go_enter Try.func72, Try.ntmps72
    go_wp2_with fail
    refine (szIntS_any _ _ _ _ _ h0 h1 hm).mono ?_
    rw [HI.out]
    rintro e w' ⟨rfl, rfl⟩
    go_wp2_with fail
    go_ret
    exact ⟨rfl, b1⟩
  · have HI := Lib.hid (show (if (m : Int) ≤ l then l - m else -1) = -1 from if_neg h)
    go_enter Try.func72, Try.ntmps72
    go_wp2_with fail
    refine (szIntS_any _ _ _ _ _ h0 h1 hm).mono ?_
    rw [HI.out]
    rintro e w' ⟨rfl, rfl⟩
    go_wp2_with fail
    go_ret
    exact ⟨rfl, b1⟩

set_option maxHeartbeats 2000000 in
theorem szCellS_any (A : Option Addr) (n c : Nat) (cs : List Cl) (l : Int) (w : World) (h : CS w w.heap.size A n cs) (h0 : 0 ≤ l) (h1 : l ≤ 1099511627776) (hn : n ≤ 9223372036854775807) (hb : ∀ cl ∈ cs, cl.r.length ≤ 9223372036854775807) :
    Calls Try.prog 55 #[.slice A n c, .int .i64 l] w fun e w' => e = .returned (.int .i64 (leftOf l (n + refN cs n))) ∧ Below w.heap.size w w' := by
  have HB := Lib.hid hb
  clear hb
  by_cases hl : (n : Int) ≤ l
  · have hl' : decide (l - (n : Int) < 0) = false := decide_eq_false (by omega)
    go_enter Try.func55, Try.ntmps55
    go_wp2_with fail
    go_loopw [1, 5] (fun q i wr => ∃ k : Nat, k ≤ n ∧ i = .int .i64 k ∧ q = .int .i64 (l - n - refN cs k) ∧ (0 : Int) ≤ l - n - refN cs k ∧ Below w.heap.size w wr) (fun _ i _ => n - (intOf i).toNat)
    case atStart => exact ⟨0, Nat.zero_le _, rfl, by simp [refN], by simp [refN]; omega, Below.refl _ _⟩
    case round =>
      obtain ⟨k, hk, rfl, rfl, hnn, bb⟩ := hrel
      by_cases hlt : k < n
      · obtain ⟨g, o, cl, A', m', cc, e1, hg, hcl, d1, d2, d3, hmc, hi⟩ := (h.below bb).at_ hlt
        subst e1
        have hlt' : (k : Int) < n := by omega
        have hm3 : m' ≤ 9223372036854775807 := by have := HB.out cl (List.mem_of_getElem? hcl); have := hi.1; omega
        have hs := refN_succ hcl
        rw [hi.1] at hs
        have hle := refN_mono cs (j := k + 1) (k := n) (by omega)
        obtain ⟨r, hr⟩ : ∃ r, refN cs k = r := ⟨_, rfl⟩
        rw [hr] at hs hnn ⊢
        have HS := Lib.hid hs
        have HLE := Lib.hid hle
        clear hcl hs hle hr
        by_cases hfit : (m' : Int) ≤ l - n - r
        · have HF := Lib.hid (show leftOf (l - n - r) m' = l - n - r - m' from if_pos hfit)
          have hq0 : decide (l - (n : Int) - (r : Int) - (m' : Int) < 0) = false := decide_eq_false (by omega)
          go_wp2_with fail
          refine (szCell_any cl _ _ _ _ _ hnn (by omega) hm3).mono ?_
          rw [HF.out]
          rintro e w1 ⟨rfl, b1⟩
          go_wp2_with fail
          go_roundw
          case rel => exact ⟨k + 1, by omega, by go_num, int_eq (by rw [HS.out]; omega), by rw [HS.out]; omega, bb.trans (b1.mono bb.size)⟩
          case measure => simp [intOf]; omega
        · have HF := Lib.hid (show leftOf (l - n - r) m' = -1 from if_neg hfit)
          have HR := Lib.hid (show leftOf l (n + refN cs n) = -1 from if_neg (by have := HS.out; have := HLE.out; omega))
          go_wp2_with fail
          refine (szCell_any cl _ _ _ _ _ hnn (by omega) hm3).mono ?_
          rw [HF.out]
          rintro e w1 ⟨rfl, b1⟩
          go_wp2_with fail
          go_ret
          exact ⟨by rw [HR.out]; rfl, bb.trans (b1.mono bb.size)⟩
      · obtain rfl : k = n := by omega
        have HR := Lib.hid (show leftOf l (k + refN cs k) = l - k - refN cs k by rw [leftOf, if_pos (by omega)]; omega)
        go_wp2_with fail
        go_ret
        exact ⟨by rw [HR.out]; rfl, bb⟩
  · have hl' : l - (n : Int) < 0 := by omega
    have HR := Lib.hid (show leftOf l (n + refN cs n) = -1 from if_neg (by omega))
    go_enter Try.func55, Try.ntmps55
    go_wp2_with fail
    go_ret
    exact ⟨by rw [HR.out]; rfl, Below.refl _ _⟩

/-- all that a heap has: cells, references and roots -/
def sizeH (h : Hp) : Nat := h.cs.length + refN h.cs h.cs.length + h.rt.length
set_option maxHeartbeats 1000000 in
theorem szHeap_any (A R : Option Addr) (n c m d : Nat) (h : Hp) (l : Int) (w : World) (hs : HS w w.heap.size A n R m h) (h0 : 0 ≤ l) (h1 : l ≤ 1099511627776) (hn : n ≤ 9223372036854775807) (hm : m ≤ 9223372036854775807) (hb : ∀ cl ∈ h.cs, cl.r.length ≤ 9223372036854775807) :
    Calls Try.prog 28 #[heapV A n c R m d, .int .i64 l] w fun e w' => e = .returned (.int .i64 (leftOf l (sizeH h))) ∧ Below w.heap.size w w' := by
  have b1 : Below w.heap.size w (w.alloc (.cells #[.slice A n c, .slice R m d] 44)) := (Below.refl _ _).alloc (Nat.le_refl _) _
  have s1 := hs.up b1
  have r0 := Rw.new w 44 #[.slice A n c, .slice R m d]
  have hsz : sizeH h = n + refN h.cs n + m := by rw [sizeH, hs.cells.1, hs.roots.1]
  by_cases hf : ((n + refN h.cs n : Nat) : Int) ≤ l
  · have HF := Lib.hid (show leftOf l (n + refN h.cs n) = l - (n + refN h.cs n : Nat) from if_pos hf)
    have hq : decide (l - ((n + refN h.cs n : Nat) : Int) < 0) = false := decide_eq_false (by omega)
    obtain ⟨q, hq'⟩ : ∃ q : Int, l - ((n + refN h.cs n : Nat) : Int) = q := ⟨_, rfl⟩
    rw [hq'] at HF hq
    have hq0 : 0 ≤ q := by omega
    have hq1 : q ≤ 1099511627776 := by omega
    have HL := Lib.hid (show leftOf l (sizeH h) = leftOf q m by
      unfold leftOf
      rw [hsz]
      by_cases e : (m : Int) ≤ q
      · rw [if_pos e, if_pos (by omega)]; omega
      · rw [if_neg e, if_neg (by omega)])
    clear hq' hf
    by_cases e : (m : Int) ≤ q
    · have HE := Lib.hid (show (if (m : Int) ≤ q then q - m else -1) = q - m from if_pos e)
      have he : decide (q - (m : Int) < 0) = false := decide_eq_false (by omega)
      go_enter Try.func28, Try.ntmps28
      go_wp2_with fail
      refine (szCellS_any _ _ _ h.cs _ _ s1.cells h0 h1 hn hb).mono ?_
      rw [HF.out]
      rintro e' w1 ⟨rfl, b2⟩
      have z1 : w1.cell? ⟨w.heap.size, 1, none⟩ = some (.slice R m d) := (r0.keep b2 (by simp)).cell 1
      go_wp2_with fail
      refine (szIntS_any _ _ _ _ _ hq0 hq1 hm).mono ?_
      rw [HE.out]
      rintro e' w2 ⟨rfl, rfl⟩
      go_wp2_with fail
      go_ret
      exact ⟨by rw [HL.out, leftOf, HE.out]; rfl, b1.trans (b2.mono b1.size)⟩
    · have HE := Lib.hid (show (if (m : Int) ≤ q then q - m else -1) = -1 from if_neg e)
      go_enter Try.func28, Try.ntmps28
      go_wp2_with fail
      refine (szCellS_any _ _ _ h.cs _ _ s1.cells h0 h1 hn hb).mono ?_
      rw [HF.out]
      rintro e' w1 ⟨rfl, b2⟩
      have z1 : w1.cell? ⟨w.heap.size, 1, none⟩ = some (.slice R m d) := (r0.keep b2 (by simp)).cell 1
      go_wp2_with fail
      refine (szIntS_any _ _ _ _ _ hq0 hq1 hm).mono ?_
      rw [HE.out]
      rintro e' w2 ⟨rfl, rfl⟩
      go_wp2_with fail
      go_ret
      exact ⟨by rw [HL.out, leftOf, HE.out]; rfl, b1.trans (b2.mono b1.size)⟩
  · have HF := Lib.hid (show leftOf l (n + refN h.cs n) = -1 from if_neg hf)
    have HL := Lib.hid (show leftOf l (sizeH h) = -1 from if_neg (by rw [hsz]; omega))
    go_enter Try.func28, Try.ntmps28
    go_wp2_with fail
    refine (szCellS_any _ _ _ h.cs _ _ s1.cells h0 h1 hn hb).mono ?_
    rw [HF.out]
    rintro e' w1 ⟨rfl, b2⟩
    go_wp2_with fail
    go_ret
    exact ⟨by rw [HL.out]; rfl, b1.trans (b2.mono b1.size)⟩
end Go.Proofs.Ytkdoolilggkjpaa
