/- What slices.Repeat returns for -1, any number of times. No conditions. -/
import Derived.Test.YtbcefmkgifkjiaaMi
namespace Go.Proofs.Ytbcefmkgifkjiaa
open Go.RowKit
set_option maxRecDepth 100000

set_option maxHeartbeats 1000000 in
theorem mul64_one (n : Nat) (hn : n ≤ 1000000) (w : World) : Calls Try.prog 116 #[.int .u64 1, .int .u64 n] w fun e w' => e = .returned (.tuple #[.int .u64 0, .int .u64 n]) ∧ w = w' := by
  have E1 : bits .and .u64 (n : Int) 4294967295 = (n : Int) := by
    have := u64_and_nat n 4294967295 (by omega) (by omega)
    rw [show (4294967295 : Int) = ((4294967295 : Nat) : Int) from rfl, this, show (4294967295 : Nat) = 2 ^ 32 - 1 from rfl, Nat.and_two_pow_sub_one_eq_mod]
    omega
  have E2 : (n : Int) / 4294967296 = 0 := by omega
  have E3 : IntKind.u64.wrap (n : Int) = n := by rw [IntKind.wrap_u64]; omega
  have E4 : bits .and .u64 1 4294967295 = 1 := by decide +kernel
  have E5 : bits .and .u64 0 4294967295 = 0 := by decide +kernel
  have E6 : IntKind.u64.wrap 0 = 0 := by decide +kernel
  have H := Lib.hid (And.intro E1 (And.intro E2 (And.intro E3 (And.intro E4 (And.intro E5 E6)))))
  clear E1 E2 E3 E4 E5 E6
  go_enter Try.func116, Try.ntmps116
  go_wp2_with fail
  go_ret2
  obtain ⟨E1, E2, E3, E4, E5, E6⟩ := H.out
  simp only [E1, E2, E3, E4, E5, E6, Int.one_mul, Int.add_zero, Int.zero_ediv]
  exact ⟨rfl, trivial⟩
theorem mul_one_ (n : Nat) (hn : n ≤ 1000000) (w : World) : Calls Try.prog 98 #[.int .u64 1, .int .u64 n] w fun e w' => e = .returned (.tuple #[.int .u64 0, .int .u64 n]) ∧ w = w' := by
  go_enter Try.func98, Try.ntmps98
  go_wp2_with fail
  refine (mul64_one n hn _).mono ?_
  rintro e w1 ⟨rfl, rfl⟩
  go_wp2_with fail
  go_ret2
  exact ⟨rfl, rfl⟩
theorem repN_len {N k : Nat} (h : k ≤ N) : (repN N k).length = N := by
  rw [repN, List.length_append, List.length_replicate, List.length_replicate]
  omega
theorem repN_copy {N k m : Nat} : (repN N k).take k ++ List.replicate m (Value.int .i64 (-1)) ++ (repN N k).drop (k + m) = repN N (k + m) := by
  unfold repN
  rw [List.take_append_of_le_length (by simp), List.drop_append, List.take_of_length_le (by simp), List.replicate_append_replicate]
  simp [List.drop_replicate]
  omega
theorem copyN_first {w : World} {g g0 N : Nat} (hr : RowN w g0 N 0) (hc : w.cell? ⟨g, 0, none⟩ = some (.int .i64 (-1))) (ty : TypeId) :
    (Builtin.copy_ #[24, 24] ty #[.slice (some ⟨g0, 0, none⟩) N N, .slice (some ⟨g, 0, none⟩) 1 1]).run Try.prog w = .ok (.int .i64 (Nat.min 1 N : Nat)) (w.setRow g0 (repN N (Nat.min 1 N)).toArray) := by
  have hm : Nat.min 1 N ≤ N := Nat.min_le_right _ _
  have h1 : Nat.min 1 N ≤ 1 := Nat.min_le_left _ _
  generalize hk : Nat.min 1 N = m at *
  have := run_copy_row (P := Try.prog) w 24 24 ty 3 g0 0 N N ⟨g, 0, none⟩ 1 1 (repN N 0).toArray 3 (List.replicate m (Value.int .i64 (-1))) Try.underlying24 info_intsize hr (by rw [List.length_replicate, hk]) (by
    intro j v hj
    rw [List.getElem?_replicate] at hj
    split at hj
    · next h2 =>
      have hj := Option.some.inj hj
      subst hj
      have : j = 0 := by omega
      subst this
      exact hc
    · cases hj) (by simp [repN_len]; omega) (by intro v hv; rw [List.eq_of_mem_replicate hv]; rfl)
  rw [this, List.length_replicate]
  have e := repN_copy (N := N) (k := 0) (m := m)
  rw [Nat.zero_add] at e
  show Result.ok _ (w.setRow g0 ((repN N 0).take 0 ++ List.replicate m (Value.int .i64 (-1)) ++ (repN N 0).drop (0 + m)).toArray) = _
  rw [Nat.zero_add, e]
  rfl
theorem copyN_step {w : World} {g N k : Nat} (hr : RowN w g N k) (hk : k ≤ N) (ty : TypeId) :
    (Builtin.copy_ #[24, 24] ty #[.slice (some ⟨g, k, none⟩) (N - k) (N - k), .slice (some ⟨g, 0, none⟩) k N]).run Try.prog w = .ok (.int .i64 (Nat.min k (N - k) : Nat)) (w.setRow g (repN N (k + Nat.min k (N - k))).toArray) := by
  have hm : Nat.min k (N - k) ≤ N - k := Nat.min_le_right _ _
  have h1 : Nat.min k (N - k) ≤ k := Nat.min_le_left _ _
  generalize hmm : Nat.min k (N - k) = m at *
  have := run_copy_row (P := Try.prog) w 24 24 ty 3 g k (N - k) (N - k) ⟨g, 0, none⟩ k N (repN N k).toArray 3 (List.replicate m (Value.int .i64 (-1))) Try.underlying24 info_intsize hr (by rw [List.length_replicate, hmm]) (by
    intro j v hj
    rw [List.getElem?_replicate] at hj
    split at hj
    · next h2 =>
      have hj := Option.some.inj hj
      subst hj
      have := hr.cell (j := j) (by omega)
      rw [add_lit, Nat.zero_add]
      exact this
    · cases hj) (by simp [repN_len hk]; omega) (by intro v hv; rw [List.eq_of_mem_replicate hv]; rfl)
  rw [this, List.length_replicate]
  have e := repN_copy (N := N) (k := k) (m := m)
  show Result.ok _ (w.setRow g ((repN N k).take k ++ List.replicate m (Value.int .i64 (-1)) ++ (repN N k).drop (k + m)).toArray) = _
  rw [e]
  rfl

set_option maxHeartbeats 1000000 in
theorem repeatN_any (N g : Nat) (w : World) (hN : N ≤ 1000000) (hg : g < w.heap.size) (hc : w.cell? ⟨g, 0, none⟩ = some (.int .i64 (-1))) :
    Calls Try.prog 75 #[.slice (some ⟨g, 0, none⟩) 1 1, .int .i64 N] w (GaveI w (List.replicate N (-1))) := by
  have hmk := makeI w N (by omega)
  have b2 : Below w.heap.size w (w.alloc (.cells (Array.replicate N (.int .i64 0)) 3)) := (Below.refl _ _).alloc (Nat.le_refl _) _
  have k2 : RowN (w.alloc (.cells (Array.replicate N (.int .i64 0)) 3)) w.heap.size N 0 := by
    have := Rw.new w 3 (Array.replicate N (.int .i64 0))
    have e : (repN N 0).toArray = Array.replicate N (.int .i64 0) := by simp [repN]
    unfold RowN
    rw [e]
    exact this
  have hc2 := (b2.cell (p := ⟨g, 0, none⟩) hg).trans hc
  obtain ⟨w2, hw2⟩ : ∃ w2, w.alloc (.cells (Array.replicate N (.int .i64 0)) 3) = w2 := ⟨_, rfl⟩
  rw [hw2] at hmk b2 k2 hc2
  obtain ⟨G, hG⟩ : ∃ G, w.heap.size = G := ⟨_, rfl⟩
  rw [hG] at hmk b2 k2
  have hcp := copyN_first k2 hc2
  have k3 := k2.put (Nat.min 1 N)
  have b3 : Below G w (w2.setRow G (repN N (Nat.min 1 N)).toArray) := below_setRow b2 (Nat.le_refl _) _
  obtain ⟨w3, hw3⟩ : ∃ w3, w2.setRow G (repN N (Nat.min 1 N)).toArray = w3 := ⟨_, rfl⟩
  rw [hw3] at hcp k3 b3
  have hm0 : Nat.min 1 N ≤ N := Nat.min_le_right _ _
  have hm1 : 0 < N → 0 < Nat.min 1 N := fun h => by have : Nat.min 1 N = min 1 N := rfl; omega
  generalize Nat.min 1 N = m0 at hcp k3 b3 hm0 hm1
  clear hw2 hw3
  have E3 : IntKind.u64.wrap (N : Int) = N := by rw [IntKind.wrap_u64]; omega
  have E4 : wrap64 (N : Int) = N := by unfold wrap64; omega
  have E5 : ¬ ((N : Int) > 9223372036854775807) := by omega
  have E6 : ¬ ((N : Int) < 0) := by omega
  go_enter Try.func75, Try.ntmps75
  go_wp2_with fail
  refine (mul_one_ N hN _).mono ?_
  rintro e w1 ⟨rfl, rfl⟩
  go_wp2_with fail
  clear k2 hc2 hmk hcp b2
  go_loopw [8] (fun v wr => ∃ k : Nat, k ≤ N ∧ (0 < N → 0 < k) ∧ v = .int .i64 k ∧ RowN wr G N k ∧ Below G w wr) (fun v _ => N - (intOf v).toNat)
  case atStart => exact ⟨m0, hm0, hm1, rfl, k3, b3⟩
  case round =>
    clear k3 b3
    obtain ⟨k, hk, hk0, rfl, hr, bb⟩ := hrel
    by_cases hlt : k < N
    · have hcp := copyN_step (w := wr.drew) (N := N) hr hk
      have hle : Nat.min k (N - k) ≤ N - k := Nat.min_le_right _ _
      have hpos : 0 < Nat.min k (N - k) := by have : Nat.min k (N - k) = min k (N - k) := rfl; omega
      have kn := RowN.put (w := wr.drew) hr (k + Nat.min k (N - k))
      have bn : Below G w (wr.drew.setRow G (repN N (k + Nat.min k (N - k))).toArray) := below_setRow bb.drew (Nat.le_refl _) _
      obtain ⟨w3, hw3⟩ : ∃ w3, wr.drew.setRow G (repN N (k + Nat.min k (N - k))).toArray = w3 := ⟨_, rfl⟩
      rw [hw3] at hcp kn bn
      generalize Nat.min k (N - k) = m at hcp kn bn hle hpos
      clear hw3
      have hltI : (k : Int) < N := by omega
      go_wp2_with fail
      go_region
      go_wp2
      go_roundw
      case rel => exact ⟨k + m, by omega, fun _ => by omega, by go_num, kn, bn⟩
      case measure => simp [intOf]; omega
    · obtain rfl : k = N := by omega
      go_wp2_with fail
      go_ret
      refine ⟨_, rfl, ⟨by simp, .inr ⟨G, k, (repN k k).toArray, by simp, by omega, hr, by simp, by unfold maxLen; omega, by simp [repN_len], by simp [repN]⟩⟩, by rw [hG]; exact bb⟩
end Go.Proofs.Ytbcefmkgifkjiaa
