/- What heldCellS and heldHeap of the exact laws return at a marked heap. No conditions. -/
import Derived.Test.YtkdoolilggkjpaaHn
namespace Go.Proofs.Ytkdoolilggkjpaa
open Go.RowKit
set_option maxRecDepth 100000

set_option maxHeartbeats 2000000 in
theorem heldCellS_any (A : Option Addr) (n c : Nat) (cs : List Cl) (k : Int) (w : World) (h : CS w w.heap.size A n (mkTo k cs cs.length)) (hl : cs.length = n) (hk : 0 ≤ k) (hk2 : k ≤ 1000000000) (hn : n + refN cs n ≤ 1000000000) :
    Calls Try.prog 61 #[.slice A n c, .int .i64 k] w fun e w' => e = .returned (.int .i64 (mkK k cs n)) ∧ w = w' := by
  go_enter Try.func61, Try.ntmps61
  go_wp2_with fail
  go_loopw [1, 5] (fun q a wr => ∃ i : Nat, i ≤ n ∧ a = .int .i64 i ∧ q = .int .i64 (mkK k cs i) ∧ wr = w) (fun _ a _ => n - (intOf a).toNat)
  case atStart => exact ⟨0, Nat.zero_le _, rfl, by simp [mkK, refN], rfl⟩
  case round =>
    obtain ⟨i, hi, rfl, rfl, rfl⟩ := hrel
    by_cases hlt : i < n
    · have hlt' : (i : Int) < n := by omega
      obtain ⟨cl, hcl⟩ : ∃ cl, cs[i]? = some cl := ⟨_, List.getElem?_eq_getElem (by omega)⟩
      obtain ⟨g, o, mc, A', m', cc, e1, hg, hmc, d1, d2, d3, _, hir⟩ := h.at_ hlt
      subst e1
      rw [mkTo_done hcl (by omega)] at hmc
      injection hmc with hmc
      subst hmc
      have hm' := hir.1
      have hrs := refN_succ hcl
      have hrm := refN_mono cs (j := i + 1) (k := n) (by omega)
      obtain ⟨q, hq⟩ : ∃ q, mkK k cs i = q := ⟨_, rfl⟩
      have hq0 : 0 ≤ q := by rw [← hq]; simp only [mkK]; omega
      have hq1 : q + cl.r.length + 2 ≤ 4000000100 := by rw [← hq]; simp only [mkK]; omega
      have HQS := Lib.hid (mkK_succ (k := k) hcl)
      rw [hq] at HQS d1 d2 hir hm' ⊢
      simp only [mkCl] at d1 d2 hir hm'
      rw [marksI_len] at hm'
      subst hm'
      have hk0 : decide (q + 1 + 1 + (cl.r.length : Int) < 0) = false := decide_eq_false (by omega)
      clear hcl hrs hrm hq
      go_wp2_with fail
      refine (heldIntS_any _ _ _ _ _ hir (by omega) (by omega) (by omega)).mono ?_
      rintro e w' ⟨rfl, rfl⟩
      go_wp2_with fail
      go_roundw
      case rel => exact ⟨i + 1, by omega, by go_num, int_eq (by rw [HQS.out]), trivial⟩
      case measure => simp [intOf]; omega
    · obtain rfl : i = n := by omega
      go_wp2_with fail
      go_ret
      exact ⟨rfl, rfl⟩

set_option maxHeartbeats 1000000 in
theorem heldHeap_any (A R : Option Addr) (n c m d : Nat) (h : Hp) (k : Int) (w : World) (hs : HS w w.heap.size A n R m (markH k h)) (hl : h.cs.length = n) (hr : h.rt.length = m) (hk : 0 ≤ k) (hk2 : k ≤ 1000000000) (hn : sizeH h ≤ 1000000000) :
    Calls Try.prog 32 #[heapV A n c R m d, .int .i64 k] w fun e w' => e = .returned (.int .i64 (markKH k h)) ∧ Below w.heap.size w w' := by
  have b1 : Below w.heap.size w (w.alloc (.cells #[.slice A n c, .slice R m d] 26)) := (Below.refl _ _).alloc (Nat.le_refl _) _
  have s1 := hs.up b1
  have r1 := Rw.new w 26 #[.slice A n c, .slice R m d]
  have z1 : (w.alloc (.cells #[.slice A n c, .slice R m d] 26)).cell? ⟨w.heap.size, 1, none⟩ = some (.slice R m d) := r1.cell 1
  have hs1 : h.cs.length + refN h.cs h.cs.length + h.rt.length ≤ 1000000000 := hn
  have hk0 : 0 ≤ mkK k h.cs n := by simp only [mkK]; omega
  have hk1 : mkK k h.cs n ≤ 1099511627776 := by simp only [mkK]; rw [hl] at hs1; omega
  obtain ⟨q, hq⟩ : ∃ q, mkK k h.cs n = q := ⟨_, rfl⟩
  have HQ := Lib.hid hq
  have HKH := Lib.hid (show markKH k h = q + m by rw [markKH, hl, hr, hq])
  have c1 : CS (w.alloc (.cells #[.slice A n c, .slice R m d] 26)) (w.alloc (.cells #[.slice A n c, .slice R m d] 26)).heap.size A n (mkTo k h.cs h.cs.length) := s1.cells
  have i1 : IS (w.alloc (.cells #[.slice A n c, .slice R m d] 26)) (w.alloc (.cells #[.slice A n c, .slice R m d] 26)).heap.size R m (marksI q m) := by
    have := s1.roots
    simp only [markH] at this
    rw [hl, hq, hr] at this
    exact this
  rw [hq] at hk0 hk1
  have hq0 : decide (q < 0) = false := decide_eq_false (by omega)
  have hq1 : decide (q + (m : Int) < 0) = false := decide_eq_false (by omega)
  clear hq
  go_enter Try.func32, Try.ntmps32
  go_wp2_with fail
  refine (heldCellS_any _ _ _ h.cs _ _ c1 hl hk hk2 (by rw [hl] at hs1; omega)).mono ?_
  rw [HQ.out]
  rintro e w' ⟨rfl, rfl⟩
  go_wp2_with fail
  refine (heldIntS_any _ _ _ _ _ i1 hk0 hk1 (by omega)).mono ?_
  rintro e w' ⟨rfl, rfl⟩
  go_wp2_with fail
  go_ret
  exact ⟨by rw [HKH.out]; rfl, b1⟩
end Go.Proofs.Ytkdoolilggkjpaa
