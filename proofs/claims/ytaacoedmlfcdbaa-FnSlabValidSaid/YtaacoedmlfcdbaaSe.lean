/- What the program's ClassSize, ClassFor, SlabWaste, SlabValid, SlabTake and SlabGive return: for all numbers; where a table of the program's or of math/bits is read, for every memory in which it lies as laid. -/
import Derived.Test.YtaacoedmlfcdbaaSc
import Derived.Test.YtaacoedmlfcdbaaRwk
import Derived.BigQuiet
namespace Go.Proofs.Ytaacoedmlfcdbaa
open Go.RowKit

theorem classValid_any (c : Int) (w : World) : Calls Try.prog 18 #[.int .i64 c] w fun e w' => e = .returned (.bool (decide (0 ≤ c) && decide (c ≤ 7))) ∧ w = w' := by
  go_enter Try.func18, Try.ntmps18
  go_wp2
  · go_ret
    exact ⟨ret_bool (by simp [*]), rfl⟩
  · go_ret
    exact ⟨ret_bool (by simp; omega), rfl⟩

set_option maxHeartbeats 1000000 in
theorem slabValid_box (c u : Int) (w : World) : Calls Try.prog 8 #[slabV c u] w fun e w' => e = .returned (.bool (Sl.okS c u)) ∧ w' = w.alloc (.cells #[.int .i64 c, .int .i64 u] 24) := by
  obtain ⟨b1, h1⟩ : ∃ b, (decide ((0 : Int) ≤ c) && decide (c ≤ 7)) = b := ⟨_, rfl⟩
  have HV := Lib.hid (show Sl.okS c u = (b1 && (decide ((0 : Int) ≤ u) && decide (u ≤ 255))) by rw [Sl.okS, h1])
  have H1 := Lib.hid h1
  clear h1
  cases b1
  · go_enter Try.func8, Try.ntmps8
    go_wp2_with fail
    refine (classValid_any _ _).mono ?_
    rw [H1.out]
    rintro e w' ⟨rfl, rfl⟩
    go_wp2_with fail
    go_ret
    exact ⟨by rw [HV.out]; rfl, rfl⟩
  · by_cases h0 : 0 ≤ u
    · by_cases h2 : u < 256
      · have HR := Lib.hid (show Sl.okS c u = true by rw [HV.out]; simp; omega)
        go_enter Try.func8, Try.ntmps8
        go_wp2_with fail
        refine (classValid_any _ _).mono ?_
        rw [H1.out]
        rintro e w' ⟨rfl, rfl⟩
        go_wp2_with fail
        go_ret
        exact ⟨by rw [HR.out]; rfl, rfl⟩
      · have HR := Lib.hid (show Sl.okS c u = false by rw [HV.out]; simp; omega)
        have h2' : decide (u < 256) = false := decide_eq_false h2
        go_enter Try.func8, Try.ntmps8
        go_wp2_with fail
        refine (classValid_any _ _).mono ?_
        rw [H1.out]
        rintro e w' ⟨rfl, rfl⟩
        go_wp2_with fail
        go_ret
        exact ⟨by rw [HR.out]; rfl, rfl⟩
    · have HR := Lib.hid (show Sl.okS c u = false by rw [HV.out]; simp; omega)
      have h0' : decide ((0 : Int) ≤ u) = false := decide_eq_false h0
      go_enter Try.func8, Try.ntmps8
      go_wp2_with fail
      refine (classValid_any _ _).mono ?_
      rw [H1.out]
      rintro e w' ⟨rfl, rfl⟩
      go_wp2_with fail
      go_ret
      exact ⟨by rw [HR.out]; rfl, rfl⟩
theorem slabValid_any (c u : Int) (w : World) : Calls Try.prog 8 #[slabV c u] w fun e w' => e = .returned (.bool (Sl.okS c u)) ∧ Below w.heap.size w w' :=
  (slabValid_box c u w).mono fun _ _ h => ⟨h.1, by rw [h.2]; exact (Below.refl _ _).alloc (Nat.le_refl _) _⟩

namespace Sl
theorem and_used : ∀ u : Fin 256, ∀ k : Fin 8, bits .and .i64 (u.val : Int) (2 ^ k.val) = if freeP u.val k.val = true then 0 else 2 ^ k.val := by decide +kernel
theorem and_free {u k : Nat} (hu : u ≤ 255) (hk : k < 8) (h : freeP u k = true) : bits .and .i64 (u : Int) (2 ^ k) = 0 := by
  have := and_used ⟨u, by omega⟩ ⟨k, hk⟩
  simp only at this
  rw [this, if_pos h]
theorem and_not {u k : Nat} (hu : u ≤ 255) (hk : k < 8) (h : freeP u k = false) : bits .and .i64 (u : Int) (2 ^ k) = 2 ^ k := by
  have := and_used ⟨u, by omega⟩ ⟨k, hk⟩
  simp only at this
  rw [this, if_neg (by rw [h]; decide)]
end Sl

/-- the place is used -/
def usedW (u p : Int) : Bool := decide (0 ≤ p ∧ p ≤ 7 ∧ Sl.freeP u.toNat p.toNat = false)

set_option maxHeartbeats 1000000 in
theorem usedAt_any (c p : Int) (U : Nat) (w : World) (hU : U ≤ 255) : Calls Try.prog 22 #[slabV c U, .int .i64 p] w fun e w' => e = .returned (.bool (usedW U p)) ∧ ∃ n, w' = (w.alloc (.cells #[.int .i64 c, .int .i64 U] 24)).drewN n := by
  by_cases h0 : 0 ≤ p
  · obtain ⟨k, rfl⟩ := Int.eq_ofNat_of_zero_le h0
    by_cases h7 : (k : Int) < 8
    · have hkn : k < 8 := by omega
      obtain ⟨p1, p2, p3, p4⟩ := Sl.pow8 (k := k) (by omega)
      have hkneg : ¬ ((k : Int) < 0) := by omega
      cases hf : Sl.freeP U k
      · have HA := Sl.and_not hU hkn hf
        have HR := Lib.hid (show usedW U k = true by simp [usedW, hf]; omega)
        have hz : ((2 : Int) ^ k != 0) = true := by rw [bne_iff_ne]; omega
        have hz' : ¬ ((2 : Int) ^ k = 0) := by omega
        clear hf
        go_enter Try.func22, Try.ntmps22
        go_wp2_with fail
        go_big_quiet (fail)
        go_wp2
        go_ret
        exact ⟨by rw [HR.out]; rfl, _, rfl⟩
      · have HA := Sl.and_free hU hkn hf
        have HR := Lib.hid (show usedW U k = false by simp [usedW, hf])
        clear hf
        go_enter Try.func22, Try.ntmps22
        go_wp2_with fail
        go_big_quiet (fail)
        go_wp2
        go_ret
        exact ⟨by rw [HR.out]; rfl, _, rfl⟩
    · have HR := Lib.hid (show usedW U k = false by simp [usedW]; omega)
      have h7' : decide ((k : Int) < 8) = false := decide_eq_false h7
      go_enter Try.func22, Try.ntmps22
      go_wp2_with fail
      go_big_quiet (fail)
      go_wp2
      go_ret
      exact ⟨by rw [HR.out]; rfl, _, rfl⟩
  · have HR := Lib.hid (show usedW U p = false by simp [usedW]; omega)
    have h0' : decide ((0 : Int) ≤ p) = false := decide_eq_false h0
    go_enter Try.func22, Try.ntmps22
    go_wp2_with fail
    go_big_quiet (fail)
    go_wp2
    go_ret
    exact ⟨by rw [HR.out]; rfl, _, rfl⟩

set_option maxHeartbeats 1000000 in
theorem slabGive_any (c u p : Int) (w : World) : Calls Try.prog 12 #[slabV c u, .int .i64 p] w (GaveS w (Sl.giveU c u p)) := by
  cases hv : Sl.okS c u
  · have HT := Lib.hid (Sl.giveU_bad (p := p) hv)
    have HV := Lib.hid hv
    clear hv
    go_enter Try.func12, Try.ntmps12
    go_wp2_with fail
    refine (slabValid_box _ _ _).mono ?_
    rw [HV.out]
    rintro e w' ⟨rfl, rfl⟩
    go_wp2_with fail
    rw [HT.out]
    exact bodyPost_ret (v := .tuple #[slabV 0 0, .bool false]) (by simp [results, Try.results12, go_sem]) rfl ⟨rfl, ((((Below.refl _ _).alloc (Nat.le_refl _) _).alloc (by simp) _).alloc (by simp; omega) _)⟩
  · obtain ⟨⟨c0, c7⟩, u0, u255⟩ := Sl.okS_iff.1 hv
    obtain ⟨U, rfl⟩ := Int.eq_ofNat_of_zero_le u0
    have hU : U ≤ 255 := by omega
    have HV := Lib.hid hv
    clear hv
    obtain ⟨b, hb⟩ : ∃ b, usedW U p = b := ⟨_, rfl⟩
    have HB := Lib.hid hb
    cases b
    · have HT := Lib.hid (Sl.giveU_not (p := p) HV.out (by simpa [usedW] using hb))
      clear hb
      go_enter Try.func12, Try.ntmps12
      go_wp2_with fail
      refine (slabValid_box _ _ _).mono ?_
      rw [HV.out]
      rintro e w' ⟨rfl, rfl⟩
      go_wp2_with fail
      refine (usedAt_any _ _ _ _ hU).mono ?_
      rw [HB.out]
      rintro e w2 ⟨rfl, nd, rfl⟩
      go_wp2_with fail
      rw [HT.out]
      exact bodyPost_ret (v := .tuple #[slabV c U, .bool false]) (by simp [results, Try.results12, go_sem]) rfl ⟨rfl, ((below_drewN (((((Below.refl _ _).alloc (Nat.le_refl _) _).alloc (by simp) _).alloc (by simp; omega) _).alloc (by simp; omega) _) _).setCell (p := ⟨w.heap.size + 1, 0, none⟩) (by simp) _).setCell (p := ⟨w.heap.size + 1, 1, none⟩) (by simp) _⟩
    · obtain ⟨p0, p7, hf⟩ : 0 ≤ p ∧ p ≤ 7 ∧ Sl.freeP U p.toNat = false := by simpa [usedW] using hb
      obtain ⟨k, rfl⟩ := Int.eq_ofNat_of_zero_le p0
      have hf' : Sl.freeP U k = false := hf
      have hkn : k < 8 := by omega
      have HT := Lib.hid (Sl.giveU_yes HV.out hkn hf')
      have han := Sl.andNot_used' hU hkn hf'
      obtain ⟨p1, p2, p3, p4⟩ := Sl.pow8 (k := k) (by omega)
      have hkneg : ¬ ((k : Int) < 0) := by omega
      clear hf hf' hb
      go_enter Try.func12, Try.ntmps12
      go_wp2_with fail
      refine (slabValid_box _ _ _).mono ?_
      rw [HV.out]
      rintro e w' ⟨rfl, rfl⟩
      go_wp2_with fail
      refine (usedAt_any _ _ _ _ hU).mono ?_
      rw [HB.out]
      rintro e w2 ⟨rfl, nd, rfl⟩
      have r0 : Rw (((((w.alloc (.cells #[.int .i64 c, .int .i64 U] 24)).alloc (.cells #[.int .i64 0, .int .i64 0] 24)).alloc (.cells #[.int .i64 c, .int .i64 U] 24)).alloc (.cells #[.int .i64 c, .int .i64 U] 24)).drewN (nd + 1)) w.heap.size 24 #[.int .i64 c, .int .i64 U] := (((Rw.new w 24 #[.int .i64 c, .int .i64 U]).alloc _).alloc _).alloc _
      have x0 := (r0.put 1 (.int .i64 ((U : Int) - 2 ^ k))).cell 0
      have x1 := (r0.put 1 (.int .i64 ((U : Int) - 2 ^ k))).cell 1
      simp at x0 x1
      clear r0
      go_wp2_with fail
      go_region
      go_wp2
      rw [HT.out]
      exact bodyPost_ret (v := .tuple #[slabV c (U - 2 ^ k), .bool true]) (by simp [results, Try.results12, go_sem]) rfl ⟨rfl, (((below_drewN (((((Below.refl _ _).alloc (Nat.le_refl _) _).alloc (by simp) _).alloc (by simp; omega) _).alloc (by simp; omega) _) _).setCell (p := ⟨w.heap.size, 1, none⟩) (by simp) _).setCell (p := ⟨w.heap.size + 1, 0, none⟩) (by simp) _).setCell (p := ⟨w.heap.size + 1, 1, none⟩) (by simp) _⟩

namespace Sl
/-- the first free place, 8 if there is none -/
def freeN (u : Nat) : Nat := (firstS u).getD 8
theorem low_bit : ∀ u : Fin 256, bits .and .u64 (18446744073709551615 - u.val : Int) (IntKind.u64.wrap (-(18446744073709551615 - u.val : Int))) = 2 ^ freeN u.val ∧ freeN u.val ≤ 8 := by decide +kernel
end Sl

end Go.Proofs.Ytaacoedmlfcdbaa
