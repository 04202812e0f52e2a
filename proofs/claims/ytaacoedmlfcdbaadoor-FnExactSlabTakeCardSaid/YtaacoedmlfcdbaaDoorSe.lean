/- What the program's ClassSize, ClassFor, SlabWaste, SlabValid, SlabTake and SlabGive return: for all numbers; where a table of the program's or of math/bits is read, for every memory in which it lies as laid. -/
import Derived.Test.YtaacoedmlfcdbaaDoorSc
import Derived.Test.YtaacoedmlfcdbaaDoorRwk
import Derived.BigQuiet
namespace Go.Proofs.YtaacoedmlfcdbaaDoor
open Go.RowKit

theorem classValid_any (c : Int) (w : World) : Calls Tryd.prog 32 #[.int .i64 c] w fun e w' => e = .returned (.bool (decide (0 ≤ c) && decide (c ≤ 7))) ∧ w = w' := by
  go_enter Tryd.func32, Tryd.ntmps32
  go_wp2
  · go_ret
    exact ⟨ret_bool (by simp [*]), rfl⟩
  · go_ret
    exact ⟨ret_bool (by simp; omega), rfl⟩

set_option maxHeartbeats 1000000 in
theorem slabValid_box (c u : Int) (w : World) : Calls Tryd.prog 23 #[slabV c u] w fun e w' => e = .returned (.bool (Sl.okS c u)) ∧ w' = w.alloc (.cells #[.int .i64 c, .int .i64 u] 28) := by
  obtain ⟨b1, h1⟩ : ∃ b, (decide ((0 : Int) ≤ c) && decide (c ≤ 7)) = b := ⟨_, rfl⟩
  have HV := Lib.hid (show Sl.okS c u = (b1 && (decide ((0 : Int) ≤ u) && decide (u ≤ 255))) by rw [Sl.okS, h1])
  have H1 := Lib.hid h1
  clear h1
  cases b1
  · go_enter Tryd.func23, Tryd.ntmps23
    go_wp2_with fail
    refine (classValid_any _ _).mono ?_
    rw [H1.out]
    rintro e w' ⟨rfl, rfl⟩
    go_wp2_with fail
    go_ret
    exact ⟨by rw [HV.out]; rfl, rfl⟩
  · by_cases h0 : 0 ≤ u
    · by_cases h2 : u < 256
      · have HR := Lib.hid (show Sl.okS c u = true by rw [HV.out]; simp; omega)
        go_enter Tryd.func23, Tryd.ntmps23
        go_wp2_with fail
        refine (classValid_any _ _).mono ?_
        rw [H1.out]
        rintro e w' ⟨rfl, rfl⟩
        go_wp2_with fail
        go_ret
        exact ⟨by rw [HR.out]; rfl, rfl⟩
      · have HR := Lib.hid (show Sl.okS c u = false by rw [HV.out]; simp; omega)
        have h2' : decide (u < 256) = false := decide_eq_false h2
        go_enter Tryd.func23, Tryd.ntmps23
        go_wp2_with fail
        refine (classValid_any _ _).mono ?_
        rw [H1.out]
        rintro e w' ⟨rfl, rfl⟩
        go_wp2_with fail
        go_ret
        exact ⟨by rw [HR.out]; rfl, rfl⟩
    · have HR := Lib.hid (show Sl.okS c u = false by rw [HV.out]; simp; omega)
      have h0' : decide ((0 : Int) ≤ u) = false := decide_eq_false h0
      go_enter Tryd.func23, Tryd.ntmps23
      go_wp2_with fail
      refine (classValid_any _ _).mono ?_
      rw [H1.out]
      rintro e w' ⟨rfl, rfl⟩
      go_wp2_with fail
      go_ret
      exact ⟨by rw [HR.out]; rfl, rfl⟩
theorem slabValid_any (c u : Int) (w : World) : Calls Tryd.prog 23 #[slabV c u] w fun e w' => e = .returned (.bool (Sl.okS c u)) ∧ Below w.heap.size w w' :=
  (slabValid_box c u w).mono fun _ _ h => ⟨h.1, by rw [h.2]; exact (Below.refl _ _).alloc (Nat.le_refl _) _⟩

namespace Sl
theorem and_used : ∀ u : Fin 256, ∀ k : Fin 8, bits .and .i64 (u.val : Int) (2 ^ k.val) = if freeP u.val k.val = true then 0 else 2 ^ k.val := by decide +kernel
theorem and_free {u k : Nat} (hu : u ≤ 255) (hk : k < 8) (h : freeP u k = true) : bits .and .i64 (u : Int) (2 ^ k) = 0 := by
  have := and_used ⟨u, by omega⟩ ⟨k, hk⟩
  simp only at this
  rw [this, if_pos h]
theorem and_not {u k : Nat} (hu : u ≤ 255) (hk : k < 8) (h : freeP u k = false) : bits .and .i64 (u : Int) (2 ^ k) = 2 ^ k := by
  have := and_used ⟨u, by omega⟩ ⟨k, hk⟩
  simp only at this
  rw [this, if_neg (by rw [h]; decide)]
end Sl

/-- the place is used -/
def usedW (u p : Int) : Bool := decide (0 ≤ p ∧ p ≤ 7 ∧ Sl.freeP u.toNat p.toNat = false)

set_option maxHeartbeats 1000000 in
theorem usedAt_any (c p : Int) (U : Nat) (w : World) (hU : U ≤ 255) : Calls Tryd.prog 37 #[slabV c U, .int .i64 p] w fun e w' => e = .returned (.bool (usedW U p)) ∧ ∃ n, w' = (w.alloc (.cells #[.int .i64 c, .int .i64 U] 28)).drewN n := by
  by_cases h0 : 0 ≤ p
  · obtain ⟨k, rfl⟩ := Int.eq_ofNat_of_zero_le h0
    by_cases h7 : (k : Int) < 8
    · have hkn : k < 8 := by omega
      obtain ⟨p1, p2, p3, p4⟩ := Sl.pow8 (k := k) (by omega)
      have hkneg : ¬ ((k : Int) < 0) := by omega
      cases hf : Sl.freeP U k
      · have HA := Sl.and_not hU hkn hf
        have HR := Lib.hid (show usedW U k = true by simp [usedW, hf]; omega)
        have hz : ((2 : Int) ^ k != 0) = true := by rw [bne_iff_ne]; omega
        have hz' : ¬ ((2 : Int) ^ k = 0) := by omega
        clear hf
        go_enter Tryd.func37, Tryd.ntmps37
        go_wp2_with fail
        go_big_quiet (fail)
        go_wp2
        go_ret
        exact ⟨by rw [HR.out]; rfl, _, rfl⟩
      · have HA := Sl.and_free hU hkn hf
        have HR := Lib.hid (show usedW U k = false by simp [usedW, hf])
        clear hf
        go_enter Tryd.func37, Tryd.ntmps37
        go_wp2_with fail
        go_big_quiet (fail)
        go_wp2
        go_ret
        exact ⟨by rw [HR.out]; rfl, _, rfl⟩
    · have HR := Lib.hid (show usedW U k = false by simp [usedW]; omega)
      have h7' : decide ((k : Int) < 8) = false := decide_eq_false h7
      go_enter Tryd.func37, Tryd.ntmps37
      go_wp2_with fail
      go_big_quiet (fail)
      go_wp2
      go_ret
      exact ⟨by rw [HR.out]; rfl, _, rfl⟩
  · have HR := Lib.hid (show usedW U p = false by simp [usedW]; omega)
    have h0' : decide ((0 : Int) ≤ p) = false := decide_eq_false h0
    go_enter Tryd.func37, Tryd.ntmps37
    go_wp2_with fail
    go_big_quiet (fail)
    go_wp2
    go_ret
    exact ⟨by rw [HR.out]; rfl, _, rfl⟩

set_option maxHeartbeats 1000000 in
theorem slabGive_any (c u p : Int) (w : World) : Calls Tryd.prog 22 #[slabV c u, .int .i64 p] w (GaveS w (Sl.giveU c u p)) := by
  cases hv : Sl.okS c u
  · have HT := Lib.hid (Sl.giveU_bad (p := p) hv)
    have HV := Lib.hid hv
    clear hv
    go_enter Tryd.func22, Tryd.ntmps22
    go_wp2_with fail
    refine (slabValid_box _ _ _).mono ?_
    rw [HV.out]
    rintro e w' ⟨rfl, rfl⟩
    go_wp2_with fail
    rw [HT.out]
    exact bodyPost_ret (v := .tuple #[slabV 0 0, .bool false]) (by simp [results, Tryd.results22, go_sem]) rfl ⟨rfl, ((((Below.refl _ _).alloc (Nat.le_refl _) _).alloc (by simp) _).alloc (by simp; omega) _)⟩
  · obtain ⟨⟨c0, c7⟩, u0, u255⟩ := Sl.okS_iff.1 hv
    obtain ⟨U, rfl⟩ := Int.eq_ofNat_of_zero_le u0
    have hU : U ≤ 255 := by omega
    have HV := Lib.hid hv
    clear hv
    obtain ⟨b, hb⟩ : ∃ b, usedW U p = b := ⟨_, rfl⟩
    have HB := Lib.hid hb
    cases b
    · have HT := Lib.hid (Sl.giveU_not (p := p) HV.out (by simpa [usedW] using hb))
      clear hb
      go_enter Tryd.func22, Tryd.ntmps22
      go_wp2_with fail
      refine (slabValid_box _ _ _).mono ?_
      rw [HV.out]
      rintro e w' ⟨rfl, rfl⟩
      go_wp2_with fail
      refine (usedAt_any _ _ _ _ hU).mono ?_
      rw [HB.out]
      rintro e w2 ⟨rfl, nd, rfl⟩
      go_wp2_with fail
      rw [HT.out]
      exact bodyPost_ret (v := .tuple #[slabV c U, .bool false]) (by simp [results, Tryd.results22, go_sem]) rfl ⟨rfl, ((below_drewN (((((Below.refl _ _).alloc (Nat.le_refl _) _).alloc (by simp) _).alloc (by simp; omega) _).alloc (by simp; omega) _) _).setCell (p := ⟨w.heap.size + 1, 0, none⟩) (by simp) _).setCell (p := ⟨w.heap.size + 1, 1, none⟩) (by simp) _⟩
    · obtain ⟨p0, p7, hf⟩ : 0 ≤ p ∧ p ≤ 7 ∧ Sl.freeP U p.toNat = false := by simpa [usedW] using hb
      obtain ⟨k, rfl⟩ := Int.eq_ofNat_of_zero_le p0
      have hf' : Sl.freeP U k = false := hf
      have hkn : k < 8 := by omega
      have HT := Lib.hid (Sl.giveU_yes HV.out hkn hf')
      have han := Sl.andNot_used' hU hkn hf'
      obtain ⟨p1, p2, p3, p4⟩ := Sl.pow8 (k := k) (by omega)
      have hkneg : ¬ ((k : Int) < 0) := by omega
      clear hf hf' hb
      go_enter Tryd.func22, Tryd.ntmps22
      go_wp2_with fail
      refine (slabValid_box _ _ _).mono ?_
      rw [HV.out]
      rintro e w' ⟨rfl, rfl⟩
      go_wp2_with fail
      refine (usedAt_any _ _ _ _ hU).mono ?_
      rw [HB.out]
      rintro e w2 ⟨rfl, nd, rfl⟩
      have r0 : Rw (((((w.alloc (.cells #[.int .i64 c, .int .i64 U] 28)).alloc (.cells #[.int .i64 0, .int .i64 0] 28)).alloc (.cells #[.int .i64 c, .int .i64 U] 28)).alloc (.cells #[.int .i64 c, .int .i64 U] 28)).drewN (nd + 1)) w.heap.size 28 #[.int .i64 c, .int .i64 U] := (((Rw.new w 28 #[.int .i64 c, .int .i64 U]).alloc _).alloc _).alloc _
      have x0 := (r0.put 1 (.int .i64 ((U : Int) - 2 ^ k))).cell 0
      have x1 := (r0.put 1 (.int .i64 ((U : Int) - 2 ^ k))).cell 1
      simp at x0 x1
      clear r0
      go_wp2_with fail
      go_region
      go_wp2
      rw [HT.out]
      exact bodyPost_ret (v := .tuple #[slabV c (U - 2 ^ k), .bool true]) (by simp [results, Tryd.results22, go_sem]) rfl ⟨rfl, (((below_drewN (((((Below.refl _ _).alloc (Nat.le_refl _) _).alloc (by simp) _).alloc (by simp; omega) _).alloc (by simp; omega) _) _).setCell (p := ⟨w.heap.size, 1, none⟩) (by simp) _).setCell (p := ⟨w.heap.size + 1, 0, none⟩) (by simp) _).setCell (p := ⟨w.heap.size + 1, 1, none⟩) (by simp) _⟩

/-- the table of the sizes of classes lies as laid -/
def ClsT (w : World) : Prop := 0 < w.heap.size ∧ ∀ i : Nat, i < 8 → w.cell? ⟨0, i, none⟩ = some (.int .i64 (Sl.clsN i))
theorem ClsT.below {w w' : World} (h : ClsT w) (hb : Below w.heap.size w w') : ClsT w' := ⟨Nat.lt_of_lt_of_le h.1 hb.size, fun i hi => (hb.cell (p := ⟨0, i, none⟩) h.1).trans (h.2 i hi)⟩
/-- the table of math/bits lies as laid, as far as it is read here -/
def BitT (w : World) : Prop := 2 < w.heap.size ∧ ∀ i : Nat, i < 64 → w.cell? ⟨2, i, none⟩ = some (.int .u8 ([0, 1, 56, 2, 57, 49, 28, 3, 61, 58, 42, 50, 38, 29, 17, 4, 62, 47, 59, 36, 45, 43, 51, 22, 53, 39, 33, 30, 24, 18, 12, 5, 63, 55, 48, 27, 60, 41, 37, 16, 46, 35, 44, 21, 52, 32, 23, 11, 54, 26, 40, 15, 34, 20, 31, 10, 25, 14, 19, 9, 13, 8, 7, 6].getD i 0))
theorem BitT.below {w w' : World} (h : BitT w) (hb : Below w.heap.size w w') : BitT w' := ⟨Nat.lt_of_lt_of_le h.1 hb.size, fun i hi => (hb.cell (p := ⟨2, i, none⟩) h.1).trans (h.2 i hi)⟩

set_option maxHeartbeats 1000000 in
theorem classSize_any (c : Int) (w : World) (hT : ClsT w) : Calls Tryd.prog 13 #[.int .i64 c] w fun e w' => e = .returned (.int .i64 (Sl.clsW c)) ∧ Below w.heap.size w w' := by
  by_cases hc : 0 ≤ c ∧ c ≤ 7
  · obtain ⟨k, rfl⟩ := Int.eq_ofNat_of_zero_le hc.1
    have hk : k ≤ 7 := by omega
    have hcell := hT.2 k (by omega)
    have HC := Lib.hid (Sl.clsW_nat hk)
    obtain ⟨v, hv⟩ : ∃ v, Sl.clsN k = v := ⟨_, rfl⟩
    rw [hv] at hcell HC
    have hd : (decide ((0 : Int) ≤ (k : Int)) && decide ((k : Int) ≤ 7)) = true := by simp; omega
    have HD := Lib.hid hd
    clear hv hc hd
    go_enter Tryd.func13, Tryd.ntmps13
    go_wp2_with fail
    refine (classValid_any _ _).mono ?_
    rw [HD.out]
    rintro e w' ⟨rfl, rfl⟩
    go_wp2_with fail
    go_ret
    exact ⟨by rw [HC.out]; rfl, Below.refl _ _⟩
  · have HV := Lib.hid (Sl.clsW_other hc)
    have HD := Lib.hid (show (decide ((0 : Int) ≤ c) && decide (c ≤ 7)) = false by
      cases h : (decide ((0 : Int) ≤ c) && decide (c ≤ 7))
      · rfl
      · simp at h; exact absurd h hc)
    clear hc
    go_enter Tryd.func13, Tryd.ntmps13
    go_wp2_with fail
    refine (classValid_any _ _).mono ?_
    rw [HD.out]
    rintro e w' ⟨rfl, rfl⟩
    go_wp2_with fail
    go_ret
    exact ⟨by rw [HV.out]; rfl, Below.refl _ _⟩

theorem ix0 (w : World) : (Instr.index 42 (.agg #[.int .i64 1, .int .i64 2, .int .i64 3, .int .i64 4, .int .i64 6, .int .i64 8, .int .i64 12, .int .i64 16]) (.int .i64 0)).run Tryd.prog w = .ok (.int .i64 1) w := by kernel_rfl
theorem ix1 (w : World) : (Instr.index 42 (.agg #[.int .i64 1, .int .i64 2, .int .i64 3, .int .i64 4, .int .i64 6, .int .i64 8, .int .i64 12, .int .i64 16]) (.int .i64 1)).run Tryd.prog w = .ok (.int .i64 2) w := by kernel_rfl
theorem ix2 (w : World) : (Instr.index 42 (.agg #[.int .i64 1, .int .i64 2, .int .i64 3, .int .i64 4, .int .i64 6, .int .i64 8, .int .i64 12, .int .i64 16]) (.int .i64 2)).run Tryd.prog w = .ok (.int .i64 3) w := by kernel_rfl
theorem ix3 (w : World) : (Instr.index 42 (.agg #[.int .i64 1, .int .i64 2, .int .i64 3, .int .i64 4, .int .i64 6, .int .i64 8, .int .i64 12, .int .i64 16]) (.int .i64 3)).run Tryd.prog w = .ok (.int .i64 4) w := by kernel_rfl
theorem ix4 (w : World) : (Instr.index 42 (.agg #[.int .i64 1, .int .i64 2, .int .i64 3, .int .i64 4, .int .i64 6, .int .i64 8, .int .i64 12, .int .i64 16]) (.int .i64 4)).run Tryd.prog w = .ok (.int .i64 6) w := by kernel_rfl
theorem ix5 (w : World) : (Instr.index 42 (.agg #[.int .i64 1, .int .i64 2, .int .i64 3, .int .i64 4, .int .i64 6, .int .i64 8, .int .i64 12, .int .i64 16]) (.int .i64 5)).run Tryd.prog w = .ok (.int .i64 8) w := by kernel_rfl
theorem ix6 (w : World) : (Instr.index 42 (.agg #[.int .i64 1, .int .i64 2, .int .i64 3, .int .i64 4, .int .i64 6, .int .i64 8, .int .i64 12, .int .i64 16]) (.int .i64 6)).run Tryd.prog w = .ok (.int .i64 12) w := by kernel_rfl
theorem ix7 (w : World) : (Instr.index 42 (.agg #[.int .i64 1, .int .i64 2, .int .i64 3, .int .i64 4, .int .i64 6, .int .i64 8, .int .i64 12, .int .i64 16]) (.int .i64 7)).run Tryd.prog w = .ok (.int .i64 16) w := by kernel_rfl

set_option maxHeartbeats 1000000 in
theorem classFor_any (s : Int) (w : World) (hT : ClsT w) : Calls Tryd.prog 17 #[.int .i64 s] w fun e w' => e = .returned (.int .i64 (Sl.forW s)) ∧ Below w.heap.size w w' := by
  have c0 : w.cell? ⟨0, 0, none⟩ = some (.int .i64 1) := hT.2 0 (by omega)
  have c1 : w.cell? ⟨0, 1, none⟩ = some (.int .i64 2) := hT.2 1 (by omega)
  have c2 : w.cell? ⟨0, 2, none⟩ = some (.int .i64 3) := hT.2 2 (by omega)
  have c3 : w.cell? ⟨0, 3, none⟩ = some (.int .i64 4) := hT.2 3 (by omega)
  have c4 : w.cell? ⟨0, 4, none⟩ = some (.int .i64 6) := hT.2 4 (by omega)
  have c5 : w.cell? ⟨0, 5, none⟩ = some (.int .i64 8) := hT.2 5 (by omega)
  have c6 : w.cell? ⟨0, 6, none⟩ = some (.int .i64 12) := hT.2 6 (by omega)
  have c7 : w.cell? ⟨0, 7, none⟩ = some (.int .i64 16) := hT.2 7 (by omega)
  by_cases h1 : 1 ≤ s
  · have h1n : decide (s < 1) = false := decide_eq_false (by omega)
    go_enter Tryd.func17, Tryd.ntmps17
    go_wp2_with fail
    clear c0 c1 c2 c3 c4 c5 c6 c7
    go_loopw [8] (fun i wr => ∃ k : Nat, k ≤ 8 ∧ i = .int .i64 k ∧ (k = 0 ∨ Sl.clsN (k - 1) < s) ∧ wr = w) (fun i _ => 8 - (intOf i).toNat)
    case atStart => exact ⟨0, by omega, rfl, .inl rfl, rfl⟩
    case round =>
      obtain ⟨k, hk, rfl, hm, rfl⟩ := hrel
      have HM := Lib.hid hm
      clear hm
      obtain rfl | rfl | rfl | rfl | rfl | rfl | rfl | rfl | rfl : k = 0 ∨ k = 1 ∨ k = 2 ∨ k = 3 ∨ k = 4 ∨ k = 5 ∨ k = 6 ∨ k = 7 ∨ k = 8 := by omega
      · have hix := fun W => ix0 W
        by_cases hv : s ≤ 1
        · have HR := Lib.hid (Sl.forW_at (s := s) (k := 0) (by omega) h1 hv HM.out)
          go_wp2
          go_ret
          exact ⟨by rw [HR.out]; rfl, Below.refl _ _⟩
        · have hv' : decide (s ≤ 1) = false := decide_eq_false hv
          have HN := Lib.hid (show Sl.clsN 0 < s by show (1 : Int) < s; omega)
          go_wp2
          go_roundw
          case rel => exact ⟨1, by omega, by go_num, .inr HN.out, trivial⟩
          case measure => simp [intOf]
      · have hix := fun W => ix1 W
        by_cases hv : s ≤ 2
        · have HR := Lib.hid (Sl.forW_at (s := s) (k := 1) (by omega) h1 hv HM.out)
          go_wp2
          go_ret
          exact ⟨by rw [HR.out]; rfl, Below.refl _ _⟩
        · have hv' : decide (s ≤ 2) = false := decide_eq_false hv
          have HN := Lib.hid (show Sl.clsN 1 < s by show (2 : Int) < s; omega)
          go_wp2
          go_roundw
          case rel => exact ⟨2, by omega, by go_num, .inr HN.out, trivial⟩
          case measure => simp [intOf]
      · have hix := fun W => ix2 W
        by_cases hv : s ≤ 3
        · have HR := Lib.hid (Sl.forW_at (s := s) (k := 2) (by omega) h1 hv HM.out)
          go_wp2
          go_ret
          exact ⟨by rw [HR.out]; rfl, Below.refl _ _⟩
        · have hv' : decide (s ≤ 3) = false := decide_eq_false hv
          have HN := Lib.hid (show Sl.clsN 2 < s by show (3 : Int) < s; omega)
          go_wp2
          go_roundw
          case rel => exact ⟨3, by omega, by go_num, .inr HN.out, trivial⟩
          case measure => simp [intOf]
      · have hix := fun W => ix3 W
        by_cases hv : s ≤ 4
        · have HR := Lib.hid (Sl.forW_at (s := s) (k := 3) (by omega) h1 hv HM.out)
          go_wp2
          go_ret
          exact ⟨by rw [HR.out]; rfl, Below.refl _ _⟩
        · have hv' : decide (s ≤ 4) = false := decide_eq_false hv
          have HN := Lib.hid (show Sl.clsN 3 < s by show (4 : Int) < s; omega)
          go_wp2
          go_roundw
          case rel => exact ⟨4, by omega, by go_num, .inr HN.out, trivial⟩
          case measure => simp [intOf]
      · have hix := fun W => ix4 W
        by_cases hv : s ≤ 6
        · have HR := Lib.hid (Sl.forW_at (s := s) (k := 4) (by omega) h1 hv HM.out)
          go_wp2
          go_ret
          exact ⟨by rw [HR.out]; rfl, Below.refl _ _⟩
        · have hv' : decide (s ≤ 6) = false := decide_eq_false hv
          have HN := Lib.hid (show Sl.clsN 4 < s by show (6 : Int) < s; omega)
          go_wp2
          go_roundw
          case rel => exact ⟨5, by omega, by go_num, .inr HN.out, trivial⟩
          case measure => simp [intOf]
      · have hix := fun W => ix5 W
        by_cases hv : s ≤ 8
        · have HR := Lib.hid (Sl.forW_at (s := s) (k := 5) (by omega) h1 hv HM.out)
          go_wp2
          go_ret
          exact ⟨by rw [HR.out]; rfl, Below.refl _ _⟩
        · have hv' : decide (s ≤ 8) = false := decide_eq_false hv
          have HN := Lib.hid (show Sl.clsN 5 < s by show (8 : Int) < s; omega)
          go_wp2
          go_roundw
          case rel => exact ⟨6, by omega, by go_num, .inr HN.out, trivial⟩
          case measure => simp [intOf]
      · have hix := fun W => ix6 W
        by_cases hv : s ≤ 12
        · have HR := Lib.hid (Sl.forW_at (s := s) (k := 6) (by omega) h1 hv HM.out)
          go_wp2
          go_ret
          exact ⟨by rw [HR.out]; rfl, Below.refl _ _⟩
        · have hv' : decide (s ≤ 12) = false := decide_eq_false hv
          have HN := Lib.hid (show Sl.clsN 6 < s by show (12 : Int) < s; omega)
          go_wp2
          go_roundw
          case rel => exact ⟨7, by omega, by go_num, .inr HN.out, trivial⟩
          case measure => simp [intOf]
      · have hix := fun W => ix7 W
        by_cases hv : s ≤ 16
        · have HR := Lib.hid (Sl.forW_at (s := s) (k := 7) (by omega) h1 hv HM.out)
          go_wp2
          go_ret
          exact ⟨by rw [HR.out]; rfl, Below.refl _ _⟩
        · have hv' : decide (s ≤ 16) = false := decide_eq_false hv
          have HN := Lib.hid (show Sl.clsN 7 < s by show (16 : Int) < s; omega)
          go_wp2
          go_roundw
          case rel => exact ⟨8, by omega, by go_num, .inr HN.out, trivial⟩
          case measure => simp [intOf]
      · have HR := Lib.hid (Sl.forW_none (s := s) (by have := HM.out; simp [Sl.clsN] at this; omega))
        go_wp2_with fail
        go_ret
        exact ⟨by rw [HR.out]; rfl, Below.refl _ _⟩
  · have HR := Lib.hid (Sl.forW_none (s := s) (by omega))
    have h1' : s < 1 := by omega
    go_enter Tryd.func17, Tryd.ntmps17
    go_wp2_with fail
    go_ret
    exact ⟨by rw [HR.out]; rfl, Below.refl _ _⟩

namespace Sl
theorem xor_all : ∀ u : Fin 256, bits .xor .u64 IntKind.u64.max (u.val : Int) = (18446744073709551615 - u.val : Int) := by decide +kernel
/-- the first free place, 8 if there is none -/
def freeN (u : Nat) : Nat := (firstS u).getD 8
theorem low_bit : ∀ u : Fin 256, bits .and .u64 (18446744073709551615 - u.val : Int) (IntKind.u64.wrap (-(18446744073709551615 - u.val : Int))) = 2 ^ freeN u.val ∧ freeN u.val ≤ 8 := by decide +kernel
end Sl

set_option maxHeartbeats 1000000 in
theorem trailing64_any (x : Int) (k : Nat) (w : World) (hT : BitT w) (h0 : 1 ≤ x) (h1 : x ≤ 18446744073709551615) (hk : k ≤ 8) (hx : bits .and .u64 x (IntKind.u64.wrap (-x)) = 2 ^ k) :
    Calls Tryd.prog 43 #[.int .u64 x] w fun e w' => e = .returned (.int .i64 k) ∧ Below w.heap.size w w' := by
  have hne : (x == 0) = false := by rw [beq_eq_false_iff_ne]; omega
  obtain rfl | rfl | rfl | rfl | rfl | rfl | rfl | rfl | rfl : k = 0 ∨ k = 1 ∨ k = 2 ∨ k = 3 ∨ k = 4 ∨ k = 5 ∨ k = 6 ∨ k = 7 ∨ k = 8 := by omega
  · have c : w.cell? ⟨2, 0, none⟩ = some (.int .u8 0) := hT.2 0 (by omega)
    go_enter Tryd.func43, Tryd.ntmps43
    go_wp2_with fail
    go_ret
    exact ⟨rfl, Below.refl _ _⟩
  · have c : w.cell? ⟨2, 1, none⟩ = some (.int .u8 1) := hT.2 1 (by omega)
    go_enter Tryd.func43, Tryd.ntmps43
    go_wp2_with fail
    go_ret
    exact ⟨rfl, Below.refl _ _⟩
  · have c : w.cell? ⟨2, 3, none⟩ = some (.int .u8 2) := hT.2 3 (by omega)
    go_enter Tryd.func43, Tryd.ntmps43
    go_wp2_with fail
    go_ret
    exact ⟨rfl, Below.refl _ _⟩
  · have c : w.cell? ⟨2, 7, none⟩ = some (.int .u8 3) := hT.2 7 (by omega)
    go_enter Tryd.func43, Tryd.ntmps43
    go_wp2_with fail
    go_ret
    exact ⟨rfl, Below.refl _ _⟩
  · have c : w.cell? ⟨2, 15, none⟩ = some (.int .u8 4) := hT.2 15 (by omega)
    go_enter Tryd.func43, Tryd.ntmps43
    go_wp2_with fail
    go_ret
    exact ⟨rfl, Below.refl _ _⟩
  · have c : w.cell? ⟨2, 31, none⟩ = some (.int .u8 5) := hT.2 31 (by omega)
    go_enter Tryd.func43, Tryd.ntmps43
    go_wp2_with fail
    go_ret
    exact ⟨rfl, Below.refl _ _⟩
  · have c : w.cell? ⟨2, 63, none⟩ = some (.int .u8 6) := hT.2 63 (by omega)
    go_enter Tryd.func43, Tryd.ntmps43
    go_wp2_with fail
    go_ret
    exact ⟨rfl, Below.refl _ _⟩
  · have c : w.cell? ⟨2, 62, none⟩ = some (.int .u8 7) := hT.2 62 (by omega)
    have hw : IntKind.u64.wrap 36591387270573294720 = 18144643196863743104 := by decide +kernel
    go_enter Tryd.func43, Tryd.ntmps43
    go_wp2_with fail
    go_ret
    exact ⟨rfl, Below.refl _ _⟩
  · have c : w.cell? ⟨2, 61, none⟩ = some (.int .u8 8) := hT.2 61 (by omega)
    have hw : IntKind.u64.wrap 73182774541146589440 = 17842542320017934592 := by decide +kernel
    go_enter Tryd.func43, Tryd.ntmps43
    go_wp2_with fail
    go_ret
    exact ⟨rfl, Below.refl _ _⟩

set_option maxHeartbeats 1000000 in
theorem trailing_any (x : Int) (k : Nat) (w : World) (hT : BitT w) (h0 : 1 ≤ x) (h1 : x ≤ 18446744073709551615) (hk : k ≤ 8) (hx : bits .and .u64 x (IntKind.u64.wrap (-x)) = 2 ^ k) :
    Calls Tryd.prog 40 #[.int .u64 x] w fun e w' => e = .returned (.int .i64 k) ∧ Below w.heap.size w w' := by
  go_enter Tryd.func40, Tryd.ntmps40
  go_wp2_with fail
  refine (trailing64_any x k w hT h0 h1 hk hx).mono ?_
  rintro e w' ⟨rfl, b⟩
  go_wp2_with fail
  go_ret
  exact ⟨rfl, b⟩

set_option maxHeartbeats 1000000 in
theorem firstFree_any (c : Int) (U : Nat) (w : World) (hT : BitT w) (hU : U ≤ 255) : Calls Tryd.prog 36 #[slabV c U] w fun e w' => e = .returned (.int .i64 (Sl.freeN U)) ∧ Below w.heap.size w w' := by
  obtain ⟨lx, lk⟩ := Sl.low_bit ⟨U, by omega⟩
  have hxor := Sl.xor_all ⟨U, by omega⟩
  simp only at lx lk hxor
  have HX := Lib.hid lx
  clear lx
  have bb := (Below.refl w.heap.size w).alloc (Nat.le_refl _) (.cells #[.int .i64 c, .int .i64 U] 28)
  have hT2 := hT.below bb
  go_enter Tryd.func36, Tryd.ntmps36
  go_wp2_with fail
  refine (trailing_any _ _ _ hT2 ?_ ?_ lk HX.out).mono ?_
  · omega
  · omega
  rintro e w' ⟨rfl, b⟩
  go_wp2_with fail
  go_ret
  exact ⟨rfl, bb.trans (b.mono bb.size)⟩

set_option maxHeartbeats 1000000 in
theorem slabWaste_any (s : Int) (w : World) (hT : ClsT w) : Calls Tryd.prog 25 #[.int .i64 s] w fun e w' => e = .returned (.int .i64 (Sl.wasteW s)) ∧ Below w.heap.size w w' := by
  rcases Sl.forW_cases s with ⟨_, hf⟩ | ⟨k, hk, h1, h2, _, hf⟩
  · have HW := Lib.hid (show Sl.wasteW s = -1 by rw [Sl.wasteW, hf, if_pos (by omega)])
    have HF := Lib.hid hf
    clear hf
    go_enter Tryd.func25, Tryd.ntmps25
    go_wp2_with fail
    refine (classFor_any _ _ hT).mono ?_
    rw [HF.out]
    rintro e w1 ⟨rfl, b1⟩
    go_wp2_with fail
    go_ret
    exact ⟨by rw [HW.out]; rfl, b1⟩
  · have HC := Lib.hid (Sl.clsW_nat hk)
    have hbd := Sl.clsN_bd hk
    obtain ⟨v, hv⟩ : ∃ v, Sl.clsN k = v := ⟨_, rfl⟩
    rw [hv] at h2 hbd HC
    have HW := Lib.hid (show Sl.wasteW s = v - s by rw [Sl.wasteW, hf, if_neg (by omega), HC.out])
    have HF := Lib.hid hf
    have b0 := hbd.2.1
    have hk0 : decide ((k : Int) < 0) = false := decide_eq_false (by omega)
    clear hf hbd hv
    go_enter Tryd.func25, Tryd.ntmps25
    go_wp2_with fail
    refine (classFor_any _ _ hT).mono ?_
    rw [HF.out]
    rintro e w1 ⟨rfl, b1⟩
    have hT1 := hT.below b1
    go_wp2_with fail
    refine (classSize_any _ _ hT1).mono ?_
    rw [HC.out]
    rintro e w2 ⟨rfl, b2⟩
    go_wp2_with fail
    go_ret
    exact ⟨by rw [HW.out]; rfl, b1.trans (b2.mono b1.size)⟩

namespace Sl
theorem freeN_some {u k : Nat} (h : firstS u = some k) : freeN u = k := by rw [freeN, h]; rfl
theorem freeN_none {u : Nat} (h : firstS u = none) : freeN u = 8 := by rw [freeN, h]; rfl
end Sl

set_option maxHeartbeats 1000000 in
theorem slabTake_any (c u : Int) (w : World) (hT : BitT w) : Calls Tryd.prog 20 #[slabV c u] w (TookS w (Sl.takeU c u)) := by
  cases hv : Sl.okS c u
  · have HT := Lib.hid (Sl.takeU_bad hv)
    have HV := Lib.hid hv
    clear hv
    go_enter Tryd.func20, Tryd.ntmps20
    go_wp2_with fail
    refine (slabValid_box _ _ _).mono ?_
    rw [HV.out]
    rintro e w' ⟨rfl, rfl⟩
    go_wp2_with fail
    rw [HT.out]
    exact bodyPost_ret (v := .tuple #[slabV 0 0, .int .i64 (-1), .bool false]) (by simp [results, Tryd.results20, go_sem]) rfl ⟨rfl, ((((Below.refl _ _).alloc (Nat.le_refl _) _).alloc (by simp) _).alloc (by simp; omega) _)⟩
  · obtain ⟨⟨c0, c7⟩, u0, u255⟩ := Sl.okS_iff.1 hv
    obtain ⟨U, rfl⟩ := Int.eq_ofNat_of_zero_le u0
    have hU : U ≤ 255 := by omega
    have HV := Lib.hid hv
    have q0 := Rw.new w 28 #[.int .i64 c, .int .i64 U]
    have q1 := Rw.new (w.alloc (.cells #[.int .i64 c, .int .i64 U] 28)) 28 #[.int .i64 0, .int .i64 0]
    have q2 := (q0.alloc (.cells #[.int .i64 0, .int .i64 0] 28)).alloc (.cells #[.int .i64 c, .int .i64 U] 28)
    have q3 := q1.alloc (.cells #[.int .i64 c, .int .i64 U] 28)
    have bb := ((((Below.refl w.heap.size w).alloc (Nat.le_refl _) (.cells #[.int .i64 c, .int .i64 U] 28)).alloc (by simp) (.cells #[.int .i64 0, .int .i64 0] 28)).alloc (by simp; omega) (.cells #[.int .i64 c, .int .i64 U] 28))
    have hT1 := hT.below bb
    rw [World.size_alloc] at q3
    clear q0 q1 hv
    cases hf : Sl.firstS U with
    | none =>
      have HN := Lib.hid (Sl.freeN_none hf)
      have HT := Lib.hid (Sl.takeU_full HV.out hf)
      clear hf
      go_enter Tryd.func20, Tryd.ntmps20
      go_wp2_with fail
      refine (slabValid_box _ _ _).mono ?_
      rw [HV.out]
      rintro e w' ⟨rfl, rfl⟩
      go_wp2_with fail
      refine (firstFree_any _ _ _ hT1 hU).mono ?_
      rw [HN.out]
      rintro e w2 ⟨rfl, b2⟩
      have q4 := q2.keep b2 q2.lt
      have q5 := q3.keep b2 q3.lt
      have bb2 := bb.trans (b2.mono bb.size)
      have x0 : w2.cell? ⟨w.heap.size, 0, none⟩ = some (.int .i64 c) := q4.cell 0
      have x1 : w2.cell? ⟨w.heap.size, 1, none⟩ = some (.int .i64 U) := q4.cell 1
      have x2 : w2.cell? ⟨w.heap.size + 1, 0, none⟩ = some (.int .i64 0) := q5.cell 0
      have x3 : w2.cell? ⟨w.heap.size + 1, 1, none⟩ = some (.int .i64 0) := q5.cell 1
      have x4 := q5.frozen 0
      have x5 := q5.frozen 1
      have y0 : (w2.setCell ⟨w.heap.size + 1, 0, none⟩ (.int .i64 c)).cell? ⟨w.heap.size + 1, 0, none⟩ = some (.int .i64 c) := (q5.put 0 _).cell 0
      have y1 : ((w2.setCell ⟨w.heap.size + 1, 0, none⟩ (.int .i64 c)).setCell ⟨w.heap.size + 1, 1, none⟩ (.int .i64 U)).cell? ⟨w.heap.size + 1, 1, none⟩ = some (.int .i64 U) := ((q5.put 0 _).put 1 _).cell 1
      have l4 := q4.lt
      have l5 := q5.lt
      have bb3 := (bb2.setCell (p := ⟨w.heap.size + 1, 0, none⟩) (by simp) (.int .i64 c)).setCell (p := ⟨w.heap.size + 1, 1, none⟩) (by simp) (.int .i64 U)
      clear q2 q3 bb b2 hT1 q4 q5 bb2
      go_wp2_with fail
      rw [HT.out]
      exact bodyPost_ret (v := .tuple #[slabV c U, .int .i64 (-1), .bool false]) (by simp [results, Tryd.results20, go_sem, *]) rfl ⟨rfl, bb3⟩
    | some k =>
      have hkn : k < 8 := Sl.firstS_lt ⟨U, by omega⟩ k hf
      obtain ⟨f1, f2, f3, f4⟩ := Sl.firstS_spec ⟨U, by omega⟩ ⟨k, hkn⟩ hf
      simp only at f1 f3
      have HN := Lib.hid (Sl.freeN_some hf)
      have HT := Lib.hid (Sl.takeU_some HV.out hf)
      have hor := Sl.or_free' hU hkn f1
      obtain ⟨p1, p2, p3, p4⟩ := Sl.pow8 (k := k) (by omega)
      have hkneg : ¬ ((k : Int) < 0) := by omega
      have hk8 : decide ((8 : Int) ≤ (k : Int)) = false := decide_eq_false (by omega)
      clear hf f1 f2 f3 f4
      go_enter Tryd.func20, Tryd.ntmps20
      go_wp2_with fail
      refine (slabValid_box _ _ _).mono ?_
      rw [HV.out]
      rintro e w' ⟨rfl, rfl⟩
      go_wp2_with fail
      refine (firstFree_any _ _ _ hT1 hU).mono ?_
      rw [HN.out]
      rintro e w2 ⟨rfl, b2⟩
      have q4 := q2.keep b2 q2.lt
      have q5 := q3.keep b2 q3.lt
      have bb2 := bb.trans (b2.mono bb.size)
      have x0 : w2.cell? ⟨w.heap.size, 0, none⟩ = some (.int .i64 c) := q4.cell 0
      have x1 : w2.cell? ⟨w.heap.size, 1, none⟩ = some (.int .i64 U) := q4.cell 1
      have z1 := q4.frozen 1
      have x2 : w2.cell? ⟨w.heap.size + 1, 0, none⟩ = some (.int .i64 0) := q5.cell 0
      have x3 : w2.cell? ⟨w.heap.size + 1, 1, none⟩ = some (.int .i64 0) := q5.cell 1
      have x4 := q5.frozen 0
      have x5 := q5.frozen 1
      have l4 := q4.lt
      have l5 := q5.lt
      have q6 : Rw (w2.setCell ⟨w.heap.size, 1, none⟩ (.int .i64 (U + 2 ^ k))).drew w.heap.size 28 #[.int .i64 c, .int .i64 (U + 2 ^ k)] := Rw.put (w := w2) q4 1 _
      have q7 : Rw (w2.setCell ⟨w.heap.size, 1, none⟩ (.int .i64 (U + 2 ^ k))).drew (w.heap.size + 1) 28 #[.int .i64 0, .int .i64 0] := Rw.other (w := w2) q5 (by omega) _
      have bb3 := (bb2.setCell (p := ⟨w.heap.size, 1, none⟩) (by simp) (.int .i64 (U + 2 ^ k))).drew
      clear q2 q3 bb b2 hT1 q4 q5 bb2
      go_wp2_with fail
      go_region
      clear x0 x1 z1 x2 x3 x4 x5 l4 l5 hor p1 p2 p3 p4
      obtain ⟨w3, hw3⟩ : ∃ w3, (w2.setCell ⟨w.heap.size, 1, none⟩ (.int .i64 (U + 2 ^ k))).drew = w3 := ⟨_, rfl⟩
      rw [hw3] at q6 q7 bb3
      rw [hw3]
      obtain ⟨V, hV⟩ : ∃ V : Int, (U : Int) + 2 ^ k = V := ⟨_, rfl⟩
      rw [hV] at q6 HT
      rw [hV]
      clear hw3 hV
      have x0 : w3.cell? ⟨w.heap.size, 0, none⟩ = some (.int .i64 c) := q6.cell 0
      have x1 : w3.cell? ⟨w.heap.size, 1, none⟩ = some (.int .i64 V) := q6.cell 1
      have x2 : w3.cell? ⟨w.heap.size + 1, 0, none⟩ = some (.int .i64 0) := q7.cell 0
      have x3 : w3.cell? ⟨w.heap.size + 1, 1, none⟩ = some (.int .i64 0) := q7.cell 1
      have x4 := q7.frozen 0
      have x5 := q7.frozen 1
      have y0 : (w3.setCell ⟨w.heap.size + 1, 0, none⟩ (.int .i64 c)).cell? ⟨w.heap.size + 1, 0, none⟩ = some (.int .i64 c) := (q7.put 0 _).cell 0
      have y1 : ((w3.setCell ⟨w.heap.size + 1, 0, none⟩ (.int .i64 c)).setCell ⟨w.heap.size + 1, 1, none⟩ (.int .i64 V)).cell? ⟨w.heap.size + 1, 1, none⟩ = some (.int .i64 V) := ((q7.put 0 _).put 1 _).cell 1
      have l6 := q6.lt
      have l7 := q7.lt
      have bb4 := (bb3.setCell (p := ⟨w.heap.size + 1, 0, none⟩) (by simp) (.int .i64 c)).setCell (p := ⟨w.heap.size + 1, 1, none⟩) (by simp) (.int .i64 V)
      clear q6 q7 bb3
      go_wp2
      rw [HT.out]
      exact bodyPost_ret (v := .tuple #[slabV c V, .int .i64 k, .bool true]) (by simp [results, Tryd.results20, go_sem, *]) rfl ⟨rfl, bb4⟩
end Go.Proofs.YtaacoedmlfcdbaaDoor
