/- What joined of the program returns: for nine slices of ascending numbers. -/
import Derived.Test.YthihaclhlmpioaaZg
import Derived.Deep.RegionWith
namespace Go.Proofs.Ythihaclhlmpioaa
open Go.RowKit

set_option maxRecDepth 100000 in
set_option maxHeartbeats 4000000 in
theorem joined_any (A : Nat → Option Addr) (N C : Nat → Nat) (FL : Nat → List Int) (s0 j0 : Nat) (u : Bool) (w : World) (hI : ∀ j, j < 9 → IS w w.heap.size (A j) (N j) (FL j)) (hN : ∀ j, j < 9 → N j ≤ 1099511627776) (ha : ∀ j, AscN (FL j))
    (hs0 : s0 < 256) (hj0 : j0 ≤ 8) (hF : ∀ j v, v ∈ FL j → v < 256) :
    Calls Try.prog 53 #[.agg (flv A N C), .agg #[.int .i64 s0, .int .i64 j0, .bool u]] w fun e w' => e = .returned (.agg #[.int .i64 (Bud.joinF FL (8 - j0) s0 j0).1, .int .i64 (Bud.joinF FL (8 - j0) s0 j0).2, .bool false]) ∧ Below w.heap.size w w' := by
  have HI := Lib.hid hI
  have HN := Lib.hid hN
  have HA := Lib.hid ha
  have HF := Lib.hid hF
  clear hI hN ha hF
  unfold flv
  go_enter Try.func53, Try.ntmps53
  go_wp2_with fail
  obtain ⟨W3, hW3⟩ : ∃ W3, W3 = ((w.alloc (.cells #[.slice (A 0) (N 0) (C 0), .slice (A 1) (N 1) (C 1), .slice (A 2) (N 2) (C 2), .slice (A 3) (N 3) (C 3), .slice (A 4) (N 4) (C 4), .slice (A 5) (N 5) (C 5), .slice (A 6) (N 6) (C 6), .slice (A 7) (N 7) (C 7), .slice (A 8) (N 8) (C 8)] 62)).alloc (.cells #[.int .i64 s0, .int .i64 j0, .bool u] 40)).alloc (.cells #[.int .i64 0, .int .i64 0, .bool false] 40) := ⟨_, rfl⟩
  have s3 : W3.heap.size = w.heap.size + 1 + 1 + 1 := by rw [hW3]; simp
  have b3 : Below w.heap.size w W3 := by rw [hW3]; exact ((((Below.refl _ _).alloc (Nat.le_refl _) _).alloc (by simp) _).alloc (by simp; omega) _)
  have HC0 := Lib.hid (fun i hi => (show W3.cell? ⟨w.heap.size, i, none⟩ = some (.slice (A i) (N i) (C i)) by
    have h1 := ((Rw.new w 62 (flv A N C)).cell i).trans (flv_at A N C (j := i) hi)
    have h2 : Below (w.heap.size + 1) (w.alloc (.cells (flv A N C) 62)) W3 := by rw [hW3]; exact ((Below.refl _ _).alloc (by simp) _).alloc (by simp) _
    exact (h2.cell (p := ⟨w.heap.size, i, none⟩) (Nat.lt_succ_self _)).trans h1))
  have hres3 : Rw W3 (w.heap.size + 1 + 1) 40 #[.int .i64 0, .int .i64 0, .bool false] := by
    rw [hW3]
    have := Rw.new ((w.alloc (.cells #[.slice (A 0) (N 0) (C 0), .slice (A 1) (N 1) (C 1), .slice (A 2) (N 2) (C 2), .slice (A 3) (N 3) (C 3), .slice (A 4) (N 4) (C 4), .slice (A 5) (N 5) (C 5), .slice (A 6) (N 6) (C 6), .slice (A 7) (N 7) (C 7), .slice (A 8) (N 8) (C 8)] 62)).alloc (.cells #[.int .i64 s0, .int .i64 j0, .bool u] 40)) 40 #[.int .i64 0, .int .i64 0, .bool false]
    simpa using this
  have hloc3 : Rw (W3.alloc (.cells #[.int .i64 s0, .int .i64 j0, .bool false] 40)) (w.heap.size + 1 + 1 + 1) 40 #[.int .i64 s0, .int .i64 j0, .bool false] := by
    have := Rw.new W3 40 #[.int .i64 s0, .int .i64 j0, .bool false]
    rw [s3] at this
    exact this
  rw [← hW3]
  clear hW3
  go_loopw [11] (fun _ wr => ∃ s j : Nat, j ≤ 8 ∧ s < 256 ∧ Hid (Bud.joinF FL (8 - j0) s0 j0 = Bud.joinF FL (8 - j) s j) ∧ Rw wr (w.heap.size + 1 + 1 + 1) 40 #[.int .i64 s, .int .i64 j, .bool false] ∧ Below (w.heap.size + 1 + 1 + 1) W3 wr)
    (fun _ wr => 8 - (intOf ((wr.cell? ⟨w.heap.size + 1 + 1 + 1, 1, none⟩).getD undef)).toNat)
  case atStart => exact ⟨s0, j0, hj0, hs0, Lib.hid rfl, hloc3, (Below.refl _ _).alloc (by omega) _⟩
  case round =>
    clear hloc3
    obtain ⟨s, j, hj, hs, hjoin, hrow, hb3⟩ := hrel
    have hwl := hrow.lt
    have c0 := hrow.cell 0
    have c1 := hrow.cell 1
    simp at c0 c1
    have bwr : Below w.heap.size w wr := b3.trans (hb3.mono (by omega))
    have HME := Lib.hid (show 8 - (intOf ((wr.cell? ⟨w.heap.size + 1 + 1 + 1, 1, none⟩).getD undef)).toNat = 8 - j by rw [c1]; rfl)
    have HC := Lib.hid (fun w' (hw' : InW wr w') => (show w'.cell? ⟨w.heap.size, 0, none⟩ = some (.slice (A 0) (N 0) (C 0)) ∧ w'.cell? ⟨w.heap.size, 1, none⟩ = some (.slice (A 1) (N 1) (C 1)) ∧ w'.cell? ⟨w.heap.size, 2, none⟩ = some (.slice (A 2) (N 2) (C 2)) ∧ w'.cell? ⟨w.heap.size, 3, none⟩ = some (.slice (A 3) (N 3) (C 3)) ∧ w'.cell? ⟨w.heap.size, 4, none⟩ = some (.slice (A 4) (N 4) (C 4)) ∧ w'.cell? ⟨w.heap.size, 5, none⟩ = some (.slice (A 5) (N 5) (C 5)) ∧ w'.cell? ⟨w.heap.size, 6, none⟩ = some (.slice (A 6) (N 6) (C 6)) ∧ w'.cell? ⟨w.heap.size, 7, none⟩ = some (.slice (A 7) (N 7) (C 7)) ∧ w'.cell? ⟨w.heap.size, 8, none⟩ = some (.slice (A 8) (N 8) (C 8)) ∧ w'.cell? ⟨w.heap.size + 1 + 1 + 1, 0, none⟩ = some (.int .i64 s) ∧ w'.cell? ⟨w.heap.size + 1 + 1 + 1, 1, none⟩ = some (.int .i64 j) from
      ⟨(Below.cell hw' (p := ⟨w.heap.size, 0, none⟩) (by show w.heap.size < _; omega)).trans ((hb3.cell (p := ⟨w.heap.size, 0, none⟩) (by show w.heap.size < _; omega)).trans (HC0.out 0 (by omega))), (Below.cell hw' (p := ⟨w.heap.size, 1, none⟩) (by show w.heap.size < _; omega)).trans ((hb3.cell (p := ⟨w.heap.size, 1, none⟩) (by show w.heap.size < _; omega)).trans (HC0.out 1 (by omega))), (Below.cell hw' (p := ⟨w.heap.size, 2, none⟩) (by show w.heap.size < _; omega)).trans ((hb3.cell (p := ⟨w.heap.size, 2, none⟩) (by show w.heap.size < _; omega)).trans (HC0.out 2 (by omega))), (Below.cell hw' (p := ⟨w.heap.size, 3, none⟩) (by show w.heap.size < _; omega)).trans ((hb3.cell (p := ⟨w.heap.size, 3, none⟩) (by show w.heap.size < _; omega)).trans (HC0.out 3 (by omega))), (Below.cell hw' (p := ⟨w.heap.size, 4, none⟩) (by show w.heap.size < _; omega)).trans ((hb3.cell (p := ⟨w.heap.size, 4, none⟩) (by show w.heap.size < _; omega)).trans (HC0.out 4 (by omega))), (Below.cell hw' (p := ⟨w.heap.size, 5, none⟩) (by show w.heap.size < _; omega)).trans ((hb3.cell (p := ⟨w.heap.size, 5, none⟩) (by show w.heap.size < _; omega)).trans (HC0.out 5 (by omega))), (Below.cell hw' (p := ⟨w.heap.size, 6, none⟩) (by show w.heap.size < _; omega)).trans ((hb3.cell (p := ⟨w.heap.size, 6, none⟩) (by show w.heap.size < _; omega)).trans (HC0.out 6 (by omega))), (Below.cell hw' (p := ⟨w.heap.size, 7, none⟩) (by show w.heap.size < _; omega)).trans ((hb3.cell (p := ⟨w.heap.size, 7, none⟩) (by show w.heap.size < _; omega)).trans (HC0.out 7 (by omega))), (Below.cell hw' (p := ⟨w.heap.size, 8, none⟩) (by show w.heap.size < _; omega)).trans ((hb3.cell (p := ⟨w.heap.size, 8, none⟩) (by show w.heap.size < _; omega)).trans (HC0.out 8 (by omega))), (Below.cell hw' (p := ⟨w.heap.size + 1 + 1 + 1, 0, none⟩) hwl).trans c0, (Below.cell hw' (p := ⟨w.heap.size + 1 + 1 + 1, 1, none⟩) hwl).trans c1⟩))
    obtain ⟨mv, hmv⟩ : ∃ mv, mateV s j = mv := ⟨_, rfl⟩
    obtain ⟨fb, hfb⟩ : ∃ fb, decide (mv ∈ FL j) = fb := ⟨_, rfl⟩
    have CM := Lib.hid (fun w' (hw' : InW wr w') => (otherHalf_any s j w' (by omega) hj).mono (R' := fun e w'' => e = .returned (.int .i64 mv) ∧ InW wr w'') fun e w'' hh => ⟨by rw [← hmv]; exact hh.1, hh.2 ▸ hw'⟩)
    have CH := Lib.hid (fun w' (hw' : InW wr w') => (has_any A N C FL mv j w' ((HI.out j (by omega)).up (bwr.trans ((show Below wr.heap.size wr w' from hw').mono bwr.size))) hj (HN.out j (by omega)) (HA.out j)).mono (R' := fun e w'' => e = .returned (.bool fb) ∧ InW wr w'') fun e w'' hh => ⟨by rw [← hfb]; exact hh.1, hw'.call hh.2⟩)
    unfold flv at CH
    have HR := Lib.hid hrow
    have HB3 := Lib.hid hb3
    have HFB := Lib.hid hfb
    have HMV := Lib.hid hmv
    clear hrow c0 c1 hfb hmv
    go_wp2_with fail
    refine wp_region_quiet (C := InW wr) (by kernel_rfl) (by kernel_rfl) (show InW wr _ from (Below.refl _ _).drew) ?_
    repeat (
      refine wpQuiet_step (fun K hK => ?_)
      go_simp
      first
        | (refine hK _ ?_
           clear hK K)
        | ((with_reducible refine ⟨_, fun _ _ => rfl, hK _ ?_⟩)
           clear hK K)
        | ((with_reducible refine ⟨_, CM.out, hK _ ?_⟩)
           clear hK K)
        | ((with_reducible refine ⟨_, CH.out, hK _ ?_⟩)
           clear hK K)
        | (refine ⟨.agg #[.slice (A 0) (N 0) (C 0), .slice (A 1) (N 1) (C 1), .slice (A 2) (N 2) (C 2), .slice (A 3) (N 3) (C 3), .slice (A 4) (N 4) (C 4), .slice (A 5) (N 5) (C 5), .slice (A 6) (N 6) (C 6), .slice (A 7) (N 7) (C 7), .slice (A 8) (N 8) (C 8)], ?_, hK _ ?_⟩
           · intro w' hw'
             obtain ⟨a0, a1, a2, a3, a4, a5, a6, a7, a8, k0, k1⟩ := HC.out w' hw'
             go_simp
           clear hK K)
        | (refine ⟨.int .i64 s, ?_, hK _ ?_⟩
           · intro w' hw'
             obtain ⟨a0, a1, a2, a3, a4, a5, a6, a7, a8, k0, k1⟩ := HC.out w' hw'
             go_simp
           clear hK K)
        | (refine ⟨.int .i64 j, ?_, hK _ ?_⟩
           · intro w' hw'
             obtain ⟨a0, a1, a2, a3, a4, a5, a6, a7, a8, k0, k1⟩ := HC.out w' hw'
             go_simp
           clear hK K))
    refine wpQuiet_nil ?_
    intro w5 hw5
    have hrow5 : Rw w5 (w.heap.size + 1 + 1 + 1) 40 #[.int .i64 s, .int .i64 j, .bool false] := HR.out.keep hw5 hwl
    have hb5 : Below (w.heap.size + 1 + 1 + 1) W3 w5 := HB3.out.trans ((show Below wr.heap.size wr w5 from hw5).mono (by omega))
    have c0 := hrow5.cell 0
    have c1 := hrow5.cell 1
    have c2 := hrow5.cell 2
    have f0 := hrow5.frozen 0
    have f1 := hrow5.frozen 1
    have f2 := hrow5.frozen 2
    simp at c0 c1 c2
    have HR5 := Lib.hid hrow5
    clear hrow5
    cases fb
    · have rr := hres3.keep hb5 (by omega)
      have d0 := rr.cell 0
      have d1 := rr.cell 1
      have d2 := rr.cell 2
      have e0 := rr.frozen 0
      have e1 := rr.frozen 1
      have e2 := rr.frozen 2
      simp at d0 d1 d2
      have HJ := Lib.hid (show Bud.joinF FL (8 - j0) s0 j0 = (s, j) by
        rw [hjoin.out]
        rcases Nat.lt_or_ge j 8 with h | h
        · rw [show 8 - j = (8 - (j + 1)) + 1 by omega, Bud.joinF, if_neg (by rw [HMV.out]; exact of_decide_eq_false HFB.out)]
        · rw [show 8 - j = 0 by omega]
          rfl)
      go_wp2
      refine bodyPost_ret (v := .agg #[.int .i64 s, .int .i64 j, .bool false]) ?_ rfl ⟨by rw [HJ.out], b3.trans ((((hb5.mono (show w.heap.size + 1 + 1 ≤ w.heap.size + 1 + 1 + 1 by omega)).setCell (by simp) _).setCell (by simp) _).setCell (by simp) _ |>.mono (by omega))⟩
      have rf := ((rr.put 0 (.int .i64 s)).put 1 (.int .i64 j)).put 2 (.bool false)
      have q0 := rf.cell 0
      have q1 := rf.cell 1
      have q2 := rf.cell 2
      simp at q0 q1 q2
      generalize ((w5.setCell ⟨w.heap.size + 1 + 1, 0, none⟩ (.int .i64 s)).setCell ⟨w.heap.size + 1 + 1, 1, none⟩ (.int .i64 j)).setCell ⟨w.heap.size + 1 + 1, 2, none⟩ (.bool false) = WF at *
      simp [results, Try.results53, go_sem, q0, q1, q2]
    · have hj8 : j < 8 := by
        rcases Nat.lt_or_ge j 8 with h | h
        · exact h
        · obtain rfl : j = 8 := by omega
          exfalso
          have h1 := HF.out 8 mv (of_decide_eq_true HFB.out)
          have h2 := HMV.out
          rw [mateV_nat, xor_pow, if_pos (by rw [Nat.div_eq_of_lt (by omega)])] at h2
          omega
      have han := andNot_nat s j hs hj
      have hbl := Bud.baseV_le s j
      have HJ := Lib.hid (show Bud.joinF FL (8 - j0) s0 j0 = Bud.joinF FL (8 - (j + 1)) (Bud.baseV s j) (j + 1) by
        rw [hjoin.out, show 8 - j = (8 - (j + 1)) + 1 by omega, Bud.joinF, if_pos (by rw [HMV.out]; exact of_decide_eq_true HFB.out)])
      generalize Bud.baseV s j = sb at *
      have HFIN := Lib.hid (show Rw (((w5.setCell ⟨w.heap.size + 1 + 1 + 1, 0, none⟩ (.int .i64 sb)).setCell ⟨w.heap.size + 1 + 1 + 1, 1, none⟩ (.int .i64 ((j : Int) + 1))).drew) (w.heap.size + 1 + 1 + 1) 40 #[.int .i64 sb, .int .i64 ((j + 1 : Nat) : Int), .bool false] from by
        have := (HR5.out.put 0 (.int .i64 sb)).put 1 (.int .i64 ((j : Int) + 1))
        have h2 : Rw ((w5.setCell ⟨w.heap.size + 1 + 1 + 1, 0, none⟩ (.int .i64 sb)).setCell ⟨w.heap.size + 1 + 1 + 1, 1, none⟩ (.int .i64 ((j : Int) + 1))) (w.heap.size + 1 + 1 + 1) 40 #[.int .i64 sb, .int .i64 ((j + 1 : Nat) : Int), .bool false] := by simpa using this
        exact h2)
      go_wp2_with fail
      go_region_with (first
        | (go_at_call 44; refine (buddyWords_any j _ hj).mono ?_; rintro e w' ⟨rfl, rfl⟩)
        | fail)
      all_goals
        go_wp2
        go_roundw
        case rel => exact ⟨sb, j + 1, by omega, by omega, HJ, HFIN.out, ((hb5.setCell (by simp) _).setCell (by simp) _).drew⟩
        case measure =>
          rw [HME.out, HFIN.out.cell 1]
          simp [intOf]
          omega
end Go.Proofs.Ythihaclhlmpioaa
