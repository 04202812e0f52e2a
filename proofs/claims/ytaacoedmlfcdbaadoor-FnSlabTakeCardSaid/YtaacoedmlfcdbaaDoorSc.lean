/- What the model's SlabTake and SlabGive return: for all numbers. -/
import Derived.Test.YtaacoedmlfcdbaaDoorSb
namespace Go.Proofs.YtaacoedmlfcdbaaDoor
open Go.RowKit
namespace Sl
/-- SlabTake: the class, the places, the place and whether -/
def takeU (c u : Int) : Int × Int × Int × Bool := if okS c u = true then (match firstS u.toNat with | some k => (c, u + 2 ^ k, (k : Int), true) | none => (c, u, -1, false)) else (0, 0, -1, false)
/-- SlabGive: the class, the places and whether -/
def giveU (c u p : Int) : Int × Int × Bool := if okS c u = true then (if 0 ≤ p ∧ p ≤ 7 ∧ freeP u.toNat p.toNat = false then (c, u - 2 ^ p.toNat, true) else (c, u, false)) else (0, 0, false)
theorem takeU_bad {c u : Int} (h : okS c u = false) : takeU c u = (0, 0, -1, false) := by rw [takeU, h]; rfl
theorem takeU_full {c : Int} {u : Nat} (h : okS c u = true) (hf : firstS u = none) : takeU c u = (c, (u : Int), -1, false) := by rw [takeU, h, if_pos rfl, Int.toNat_natCast, hf]
theorem takeU_some {c : Int} {u k : Nat} (h : okS c u = true) (hf : firstS u = some k) : takeU c u = (c, (u : Int) + 2 ^ k, (k : Int), true) := by rw [takeU, h, if_pos rfl, Int.toNat_natCast, hf]
theorem firstP_free {u k n : Nat} (h : freeP u k = true) : firstP u k (n + 1) = some k := by rw [firstP, if_pos h]
theorem firstP_used {u k n : Nat} (h : freeP u k = false) : firstP u k (n + 1) = firstP u (k + 1) n := by rw [firstP, if_neg (by rw [h]; decide)]
theorem pow_cast (k : Nat) : ((2 : Int) ^ k) = ((2 ^ k : Nat) : Int) := by rw [Int.natCast_pow]; rfl
theorem or_free' {u k : Nat} (hu : u ≤ 255) (hk : k < 8) (h : freeP u k = true) : bits .or .i64 (u : Int) (2 ^ k) = (u : Int) + 2 ^ k := by
  have := or_free ⟨u, by omega⟩ ⟨k, hk⟩ h
  simp only at this
  rw [this, pow_cast, Int.natCast_add]
theorem shr_mod (u k : Nat) : ((u : Int) / 2 ^ k).tmod 2 = ((u / 2 ^ k % 2 : Nat) : Int) := by
  rw [pow_cast, ← Int.natCast_ediv, Int.tmod_eq_emod_of_nonneg (Int.natCast_nonneg _)]
  rfl
theorem pow8 {k : Nat} (h : k ≤ 8) : wrap64 ((2 : Int) ^ k) = 2 ^ k ∧ IntKind.i64.wrap ((2 : Int) ^ k) = 2 ^ k ∧ 1 ≤ (2 : Int) ^ k ∧ (2 : Int) ^ k ≤ 256 := by
  have h1 : 1 ≤ (2 : Int) ^ k ∧ (2 : Int) ^ k ≤ 256 := by
    obtain rfl | rfl | rfl | rfl | rfl | rfl | rfl | rfl | rfl : k = 0 ∨ k = 1 ∨ k = 2 ∨ k = 3 ∨ k = 4 ∨ k = 5 ∨ k = 6 ∨ k = 7 ∨ k = 8 := by omega
    all_goals exact ⟨by decide, by decide⟩
  generalize (2 : Int) ^ k = x at h1
  exact ⟨by unfold wrap64; omega, IntWalk.i64_in _ (by omega), h1⟩
theorem giveU_bad {c u p : Int} (h : okS c u = false) : giveU c u p = (0, 0, false) := by rw [giveU, h]; rfl
theorem giveU_not {c u p : Int} (h : okS c u = true) (hp : ¬ (0 ≤ p ∧ p ≤ 7 ∧ freeP u.toNat p.toNat = false)) : giveU c u p = (c, u, false) := by rw [giveU, h, if_pos rfl, if_neg hp]
theorem giveU_yes {c : Int} {u k : Nat} (h : okS c u = true) (hk : k < 8) (hf : freeP u k = false) : giveU c u k = (c, (u : Int) - 2 ^ k, true) := by
  rw [giveU, h, if_pos rfl, Int.toNat_natCast, Int.toNat_natCast, if_pos ⟨by omega, by omega, hf⟩]
theorem andNot_used' {u k : Nat} (hu : u ≤ 255) (hk : k < 8) (h : freeP u k = false) : bits .andNot .i64 (u : Int) (2 ^ k) = (u : Int) - 2 ^ k := by
  have := andNot_used ⟨u, by omega⟩ ⟨k, hk⟩ h
  simp only at this
  rw [this.1, pow_cast, Int.natCast_sub this.2.1]
end Sl

/-- a slab, a number and a bool came back -/
def TookS (w : World) (r : Int × Int × Int × Bool) (e : Ending) (w' : World) : Prop := e = .returned (.tuple #[slabV r.1 r.2.1, .int .i64 r.2.2.1, .bool r.2.2.2]) ∧ Below w.heap.size w w'
/-- a slab and a bool came back -/
def GaveS (w : World) (r : Int × Int × Bool) (e : Ending) (w' : World) : Prop := e = .returned (.tuple #[slabV r.1 r.2.1, .bool r.2.2]) ∧ Below w.heap.size w w'

set_option maxHeartbeats 1000000 in
theorem mSlabTake_any (c u : Int) (w : World) : Calls Tryd.prog 21 #[slabV c u] w (TookS w (Sl.takeU c u)) := by
  cases hv : Sl.okS c u
  · have HT := Lib.hid (Sl.takeU_bad hv)
    have HV := Lib.hid hv
    clear hv
    go_enter Tryd.func21, Tryd.ntmps21
    go_wp2_with fail
    refine (mSlabValid_box _ _ _).mono ?_
    rw [HV.out]
    rintro e w' ⟨rfl, rfl⟩
    go_wp2_with fail
    rw [HT.out]
    exact bodyPost_ret (v := .tuple #[slabV 0 0, .int .i64 (-1), .bool false]) (by simp [results, Tryd.results21, go_sem]) rfl ⟨rfl, ((((Below.refl _ _).alloc (Nat.le_refl _) _).alloc (by simp) _).alloc (by simp; omega) _)⟩
  · obtain ⟨⟨c0, c7⟩, u0, u255⟩ := Sl.okS_iff.1 hv
    obtain ⟨U, rfl⟩ := Int.eq_ofNat_of_zero_le u0
    have HV := Lib.hid hv
    clear hv
    go_enter Tryd.func21, Tryd.ntmps21
    go_wp2_with fail
    refine (mSlabValid_box _ _ _).mono ?_
    rw [HV.out]
    rintro e w' ⟨rfl, rfl⟩
    go_wp2_with fail
    go_loopw [5] (fun i wr => ∃ k : Nat, k ≤ 8 ∧ i = .int .i64 k ∧ Sl.firstS U = Sl.firstP U k (8 - k) ∧ wr = ((w.alloc (.cells #[.int .i64 c, .int .i64 U] 28)).alloc (.cells #[.int .i64 0, .int .i64 0] 28)).alloc (.cells #[.int .i64 c, .int .i64 U] 28)) (fun i _ => 8 - (intOf i).toNat)
    case atStart => exact ⟨0, by omega, rfl, rfl, rfl⟩
    case round =>
      obtain ⟨k, hk, rfl, hf, rfl⟩ := hrel
      have HF := Lib.hid hf
      clear hf
      by_cases hk8 : k = 8
      · subst hk8
        have HT := Lib.hid (Sl.takeU_full HV.out HF.out)
        go_wp2_with fail
        rw [HT.out]
        exact bodyPost_ret (v := .tuple #[slabV c U, .int .i64 (-1), .bool false]) (by simp [results, Tryd.results21, go_sem]) rfl ⟨rfl, ((((Below.refl _ _).alloc (Nat.le_refl _) _).alloc (by simp) _).alloc (by simp; omega) _)⟩
      · have hk7 : (k : Int) < 8 := by omega
        have hkn : k < 8 := by omega
        obtain ⟨p1, p2, p3, p4⟩ := Sl.pow8 (k := k) (by omega)
        have hsm := Sl.shr_mod U k
        have hkneg : ¬ ((k : Int) < 0) := by omega
        obtain ⟨m, hm⟩ : ∃ m, 8 - k = m + 1 := ⟨8 - k - 1, by omega⟩
        cases hfr : Sl.freeP U k
        · have HN := Lib.hid (show Sl.firstS U = Sl.firstP U (k + 1) (8 - (k + 1)) by rw [HF.out, hm, Sl.firstP_used hfr]; congr 1; omega)
          have hb : ((U / 2 ^ k % 2 : Nat) : Int) = 1 := by
            simp [Sl.freeP] at hfr
            omega
          rw [hb] at hsm
          clear hfr hb hm
          go_wp2_with fail
          go_roundw
          case rel => exact ⟨k + 1, by omega, by go_num, HN.out, trivial⟩
          case measure => simp [intOf]; omega
        · have HT := Lib.hid (Sl.takeU_some HV.out (by rw [HF.out, hm, Sl.firstP_free hfr]))
          have hor := Sl.or_free' (show U ≤ 255 by omega) hkn hfr
          have hb : ((U / 2 ^ k % 2 : Nat) : Int) = 0 := by
            simp [Sl.freeP] at hfr
            omega
          rw [hb] at hsm
          clear hfr hb hm
          go_wp2_with fail
          go_region
          go_wp2
          rw [HT.out]
          exact bodyPost_ret (v := .tuple #[slabV c (U + 2 ^ k), .int .i64 k, .bool true]) (by simp [results, Tryd.results21, go_sem]) rfl ⟨rfl, (((((Below.refl _ _).alloc (Nat.le_refl _) _).alloc (by simp) _).alloc (by simp; omega) _).drew)⟩

end Go.Proofs.YtaacoedmlfcdbaaDoor
