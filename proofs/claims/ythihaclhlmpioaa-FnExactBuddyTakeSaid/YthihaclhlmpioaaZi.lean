/- What halved of the program returns: for every free buddy. -/
import Derived.Test.YthihaclhlmpioaaZc
import Derived.Test.YthihaclhlmpioaaBud4
namespace Go.Proofs.Ythihaclhlmpioaa
open Go.RowKit

theorem mate_first {s z q : Nat} (hs : s % 2 ^ z = 0) (hq : q < z) : mateV s q = (s : Int) + 2 ^ q := by
  have hd : (s / 2 ^ q) % 2 = 0 := by
    obtain ⟨c, hc⟩ := Nat.dvd_of_mod_eq_zero hs
    obtain ⟨d, rfl⟩ : ∃ d, z = q + (d + 1) := ⟨z - q - 1, by omega⟩
    have e : s = 2 ^ q * (2 * (2 ^ d * c)) := by rw [hc, Nat.pow_add, Nat.pow_succ]; simp [Nat.mul_comm, Nat.mul_left_comm]
    rw [e, Nat.mul_div_cancel_left _ (Nat.two_pow_pos q)]
    omega
  rw [mateV_nat, xor_pow, if_pos hd, pow_int]
  simp

set_option maxRecDepth 100000 in
set_option maxHeartbeats 2000000 in
theorem halved_any (s z m : Nat) (u : Bool) (w : World) (hs : s % 2 ^ z = 0) (hs2 : s ≤ 256) (hz : z ≤ 8) (hm : m ≤ z) :
    Calls Try.prog 51 #[.agg #[.int .i64 s, .int .i64 z, .bool u], .int .i64 m] w (GaveY w ([⟨s, m, true⟩] ++ Bud.halvesY s m (z - m))) := by
  have HMF := Lib.hid (fun q hq => mate_first (q := q) hs hq)
  clear hs
  obtain ⟨WA, hWA⟩ : ∃ WA, WA = w.alloc (.cells #[.int .i64 s, .int .i64 z, .bool u] 40) := ⟨_, rfl⟩
  have hWs : WA.heap.size = w.heap.size + 1 := by rw [hWA]; simp
  have l0 : WA.cell? ⟨w.heap.size, 0, none⟩ = some (.int .i64 s) := by rw [hWA]; simp
  have l1 : WA.cell? ⟨w.heap.size, 1, none⟩ = some (.int .i64 z) := by rw [hWA]; simp
  have bA : Below w.heap.size w WA := by rw [hWA]; exact (Below.refl _ _).alloc (Nat.le_refl _) _
  have LC : LocalBY WA w.heap.size ⟨s, z, u⟩ := ⟨l0, l1, hWs⟩
  have o0 := own_oneY WA s m true (w.heap.size + 1) (by omega)
  rw [hWs] at o0
  have st0 : TakeStY WA w.heap.size ⟨s, z, u⟩ (WA.alloc (.cells #[.int .i64 s, .int .i64 m, .bool true] 40)) (.slice (some ⟨w.heap.size + 1, 0, none⟩) 1 1) [⟨s, m, true⟩] := ⟨LC, o0, (Below.refl _ _).alloc (by omega) _⟩
  have HWA := Lib.hid hWA
  have HBA := Lib.hid bA
  clear hWA hWs l0 l1 bA LC o0
  go_enter Try.func51, Try.ntmps51
  go_wp2_with fail
  rw [← HWA.out]
  go_loopw [1, 5] (fun i v wr => ∃ q : Nat, q ≤ z - m ∧ i = .int .i64 ((m + q : Nat) : Int) ∧ TakeStY WA w.heap.size ⟨s, z, u⟩ wr v ([⟨s, m, true⟩] ++ Bud.halvesY s m q)) (fun i _ _ => z - (intOf i).toNat)
  case atStart => exact ⟨0, Nat.zero_le _, rfl, by simpa [Bud.halvesY_zero] using st0⟩
  case round =>
    clear st0
    obtain ⟨q, hq, rfl, st⟩ := hrel
    obtain ⟨l0, l1, z0⟩ := st.cells
    simp only at l0 l1
    by_cases hlt : m + q < z
    · have hlt' : ((m + q : Nat) : Int) < (z : Int) := by omega
      have hmf := HMF.out (m + q) hlt
      have hpw := Bud.two_pow_le (j := m + q) (by omega)
      have tb : (2 : Int) ^ (m + q) ≤ 256 := by rw [pow_int]; omega
      have tc : 1 ≤ (2 : Int) ^ (m + q) := by rw [pow_int]; omega
      have hln : ([(⟨s, m, true⟩ : Bl)] ++ Bud.halvesY s m q).length ≤ 1000 := by simp [Bud.halvesY_len]; omega
      clear hpw
      go_wp2_with (first
        | (go_at_call 60; refine (otherHalf_any s (m + q) _ (by omega) (by omega)).mono ?_; rw [hmf]; rintro e w' ⟨rfl, rfl⟩)
        | (at_builtin; refine wpList_appendY rfl (.tmp 17) (.tmp 24) rfl (w.heap.size + 1) u5 _ rfl (World.ownsRow.alloc st.own _) (some ⟨wr.heap.size, 0, none⟩) 1 1 _ [⟨(s : Int) + 2 ^ (m + q), (m : Int) + q, false⟩] rfl ((own_oneY wr _ _ false 0 (Nat.zero_le _)).reads (allI_one (by omega) (by omega) (by omega) (by omega))) (by omega) (by simp <;> omega) ?_; intro v4 w4 o4 g4 s4)
        | fail)
      go_roundw
      case rel => exact ⟨q + 1, by omega, by go_num, st.more g4 (OwnY.cast (by rw [Bud.halvesY_succ]; simp) o4)⟩
      case measure => simp [intOf]; omega
    · obtain rfl : q = z - m := by omega
      have hlt' : decide (((m + (z - m) : Nat) : Int) < (z : Int)) = false := decide_eq_false (by omega)
      have hlt2 : decide ((m + (z - m)) < z) = false := decide_eq_false (by omega)
      generalize hq : z - m = d at *
      go_wp2
      go_ret
      exact ⟨_, rfl, st.own.base (by omega), HBA.out.trans (st.below.mono (by omega))⟩
end Go.Proofs.Ythihaclhlmpioaa
