/- The law of filling slabs (P115) returns true: for every list of bytes. -/
import Derived.Test.YtaacoedmlfcdbaaDoorSg
namespace Go.Proofs.YtaacoedmlfcdbaaDoor
open Go.RowKit
namespace Sl
/-- how many of the first k places are free -/
def cntTo (u : Nat) : Nat → Nat
  | 0 => 0
  | k + 1 => cntTo u k + if freeP u k = true then 1 else 0
theorem cnt_take : ∀ u : Fin 256, ∀ k : Fin 8, firstS u.val = some k.val → cntTo (u.val + 2 ^ k.val) 8 + 1 = cntTo u.val 8 := by decide +kernel
theorem cnt_none : ∀ u : Fin 256, firstS u.val = none → cntTo u.val 8 = 0 := by decide +kernel
theorem cnt_zero : ∀ u : Fin 256, cntTo u.val 8 = 0 → firstS u.val = none ∧ u.val = 255 := by decide +kernel
theorem cnt_le (u : Nat) : ∀ k, cntTo u k ≤ k
  | 0 => Nat.le_refl _
  | k + 1 => by
    have := cnt_le u k
    unfold cntTo
    split <;> omega
theorem cnt_free {u k : Nat} (h : freeP u k = true) : cntTo u (k + 1) = cntTo u k + 1 := by rw [cntTo, if_pos h]
theorem cnt_used {u k : Nat} (h : freeP u k = false) : cntTo u (k + 1) = cntTo u k := by rw [cntTo, if_neg (by rw [h]; decide)]; rfl
/-- a further place is taken -/
theorem take_step {a : Int} {V F j : Nat} (hv : okS a V = true) (hc : cntTo V 8 = F - j) (hj : j < F) : ∃ k X : Nat, takeU a V = (a, (X : Int), (k : Int), true) ∧ okS a X = true ∧ cntTo X 8 = F - (j + 1) ∧ X ≤ 255 := by
  obtain ⟨⟨c0, c7⟩, u0, u255⟩ := okS_iff.1 hv
  have hV : V < 256 := by omega
  cases hf : firstS V with
  | none =>
    have := cnt_none ⟨V, hV⟩ hf
    simp only at this
    omega
  | some k =>
    have hk := firstS_lt ⟨V, hV⟩ k hf
    obtain ⟨f1, f2, f3, f4⟩ := firstS_spec ⟨V, hV⟩ ⟨k, hk⟩ hf
    have hcc := cnt_take ⟨V, hV⟩ ⟨k, hk⟩ hf
    simp only at f3 hcc
    refine ⟨k, V + 2 ^ k, ?_, okS_iff.2 ⟨⟨c0, c7⟩, Int.natCast_nonneg _, Int.ofNat_le.2 f3⟩, by omega, f3⟩
    rw [takeU_some hv hf, pow_cast, Int.natCast_add]
end Sl

set_option maxRecDepth 100000 in
set_option maxHeartbeats 4000000 in
theorem slabAllLaw_walk (A : Option Addr) (n c : Nat) (w : World) (h : Bytes w w.heap.size A n) (hc : n ≤ c) (hn : n ≤ 9223372036854775807) (hT : BitT w) :
    Calls Tryd.prog 7 #[.slice A n c] w fun e w' => e = .returned (.bool true) ∧ Below w.heap.size w w' := by
  by_cases hs : n ≤ 1048576
  · have hs' : decide ((1048576 : Int) < (n : Int)) = false := by simp; omega
    go_enter Tryd.func7, Tryd.ntmps7
    go_wp2_with fail
    refine (drawSlabTake_any _ _ _ _ h hc hn).mono ?_
    rintro e w1 ⟨a, u, rfl, k1, k2, k3, k4, b1⟩
    obtain ⟨a', u', p', ok, hT⟩ : ∃ a' u' p' ok, Sl.takeU a u = (a', u', p', ok) := ⟨_, _, _, _, rfl⟩
    have HT := Lib.hid hT
    have q1 := Rw.new w1 28 #[.int .i64 a, .int .i64 u]
    have bb1 := b1.alloc b1.size (.cells #[.int .i64 a, .int .i64 u] 28)
    have hbase := b1.size
    clear hT
    go_wp2_with fail
    refine (slabTake_any _ _ _ (hT.below bb1)).mono ?_
    rw [HT.out]
    rintro e w2 ⟨rfl, b2⟩
    have q2 := q1.keep b2 q1.lt
    have bb2 := bb1.trans (b2.mono bb1.size)
    have x0 : w2.cell? ⟨w1.heap.size, 0, none⟩ = some (.int .i64 a) := q2.cell 0
    have x1 : w2.cell? ⟨w1.heap.size, 1, none⟩ = some (.int .i64 u) := q2.cell 1
    have r2 := Rw.new w2 28 #[.int .i64 a', .int .i64 u']
    have q2a := q2.alloc (.cells #[.int .i64 a', .int .i64 u'] 28)
    have bb2a := bb2.alloc bb2.size (.cells #[.int .i64 a', .int .i64 u'] 28)
    have ql := q2.lt
    clear b1 b2 bb1 q1 bb2 q2
    go_wp2_with fail
    refine (mSlabTake_any _ _ _).mono ?_
    rw [HT.out]
    rintro e w3 ⟨rfl, b3⟩
    have q3 := q2a.keep b3 q2a.lt
    have r3 := r2.keep b3 r2.lt
    have bb3 := bb2a.trans (b3.mono bb2a.size)
    have y0 : w3.cell? ⟨w1.heap.size, 0, none⟩ = some (.int .i64 a) := q3.cell 0
    have y1 : w3.cell? ⟨w1.heap.size, 1, none⟩ = some (.int .i64 u) := q3.cell 1
    have y2 : w3.cell? ⟨w2.heap.size, 0, none⟩ = some (.int .i64 a') := r3.cell 0
    have y3 : w3.cell? ⟨w2.heap.size, 1, none⟩ = some (.int .i64 u') := r3.cell 1
    have l1 := q3.lt
    have l2 := r3.lt
    have hneq := fun W => run_neq_slab a' u' a' u' W
    simp only [decide_true, Bool.and_true, Bool.not_true] at hneq
    have q3a := q3.alloc (.cells #[.int .i64 a', .int .i64 u'] 28)
    have bb3a := bb3.alloc bb3.size (.cells #[.int .i64 a', .int .i64 u'] 28)
    clear x0 x1 b3 bb2a q2a r2 HT
    go_wp2_with fail
    refine (mSlabValid_any _ _ _).mono ?_
    rintro e w4 ⟨rfl, b4⟩
    have q4 := q3a.keep b4 q3a.lt
    have bb4 := bb3a.trans (b4.mono bb3a.size)
    clear y0 y1 y2 y3 hneq q3 r3 q3a bb3 bb3a b4 l2
    cases hv : Sl.okS a u
    · clear hv
      go_wp2_with fail
      refine (alive_any _).mono ?_
      rintro e w5 ⟨rfl, b5⟩
      go_wp2_with fail
      go_ret
      exact ⟨rfl, bb4.trans (b5.mono bb4.size)⟩
    · obtain ⟨⟨c0, c7⟩, u0, u255⟩ := Sl.okS_iff.1 hv
      obtain ⟨U, rfl⟩ := Int.eq_ofNat_of_zero_le u0
      have hU : U ≤ 255 := by omega
      have HV := Lib.hid hv
      have y1 : w4.cell? ⟨w1.heap.size, 1, none⟩ = some (.int .i64 U) := q4.cell 1
      clear hv
      go_wp2_with fail
      go_loopw [10, 11] (fun f i wr => ∃ k : Nat, k ≤ 8 ∧ i = .int .i64 k ∧ f = .int .i64 (Sl.cntTo U k) ∧ wr = w4) (fun _ i _ => 8 - (intOf i).toNat)
      case atStart => exact ⟨0, by omega, rfl, rfl, rfl⟩
      case round =>
        obtain ⟨k, hk, rfl, rfl, rfl⟩ := hrel
        by_cases hk8 : k = 8
        · subst hk8
          obtain ⟨F, hF⟩ : ∃ F, Sl.cntTo U 8 = F := ⟨_, rfl⟩
          have hF8 : F ≤ 8 := by rw [← hF]; exact Sl.cnt_le U 8
          rw [hF, show ((8 : Nat) : Int) = 8 from rfl]
          have HF := Lib.hid hF
          clear hF y1
          go_wp2_with fail
          go_loopw [12] (fun i wr2 => ∃ j V : Nat, j ≤ F ∧ i = .int .i64 j ∧ V ≤ 255 ∧ Hid (Sl.okS a V = true) ∧ Hid (Sl.cntTo V 8 = F - j) ∧ Rw wr2 w1.heap.size 28 #[.int .i64 a, .int .i64 V] ∧ Below w.heap.size w wr2) (fun i _ => F - (intOf i).toNat)
          case atStart => exact ⟨0, U, by omega, rfl, hU, HV, HF, q4, bb4⟩
          case round =>
            obtain ⟨j, V, hj, rfl, hV, HVV, HC, qv, bv⟩ := hrel
            have v0 : wr.cell? ⟨w1.heap.size, 0, none⟩ = some (.int .i64 a) := qv.cell 0
            have v1 : wr.cell? ⟨w1.heap.size, 1, none⟩ = some (.int .i64 V) := qv.cell 1
            by_cases hjF : j < F
            · obtain ⟨k', X, hT, hXv, hXc, hX⟩ := Sl.take_step HVV.out HC.out hjF
              have HT := Lib.hid hT
              have HXV := Lib.hid hXv
              have HXC := Lib.hid hXc
              have hjF' : (j : Int) < F := by omega
              clear hT hXv hXc
              go_wp2_with fail
              refine (slabTake_any _ _ _ (hT.below bv)).mono ?_
              rw [HT.out]
              rintro e w6 ⟨rfl, b6⟩
              have q6 := qv.keep b6 qv.lt
              have bb6 := bv.trans (b6.mono bv.size)
              have l6 := q6.lt
              have s0 : w6.cell? ⟨w1.heap.size, 0, none⟩ = some (.int .i64 a) := q6.cell 0
              have s1 : w6.cell? ⟨w1.heap.size, 1, none⟩ = some (.int .i64 V) := q6.cell 1
              have s2 : w6.frozen? ⟨w1.heap.size, 0, none⟩ = false := q6.frozen 0
              have s3 : w6.frozen? ⟨w1.heap.size, 1, none⟩ = false := q6.frozen 1
              clear v0 v1 b6
              go_wp2_with fail
              go_roundw
              case rel => exact ⟨j + 1, X, by omega, by go_num, hX, HXV, HXC, ((q6.put 0 _).put 1 _).alloc _, ((bb6.setCell (p := ⟨w1.heap.size, 0, none⟩) hbase _).setCell (p := ⟨w1.heap.size, 1, none⟩) hbase _).alloc (by simp [World.setCell]; exact bb6.size) _⟩
              case measure => simp [intOf]; omega
            · have hjF' : decide ((j : Int) < F) = false := decide_eq_false (by omega)
              obtain ⟨z1, z2⟩ := Sl.cnt_zero ⟨V, by omega⟩ (by have := HC.out; simp only; omega)
              simp only at z1 z2
              subst z2
              have HT := Lib.hid (show Sl.takeU a 255 = (a, 255, -1, false) from Sl.takeU_full HVV.out z1)
              clear z1
              go_wp2_with fail
              refine (slabTake_any _ _ _ (hT.below bv)).mono ?_
              rw [HT.out]
              rintro e w6 ⟨rfl, b6⟩
              have q6 := qv.keep b6 qv.lt
              have bb6 := bv.trans (b6.mono bv.size)
              have l6 := q6.lt
              have s1 : w6.cell? ⟨w1.heap.size, 1, none⟩ = some (.int .i64 255) := q6.cell 1
              clear v0 v1 b6
              go_wp2_with fail
              go_ret
              exact ⟨rfl, bb6.alloc bb6.size _⟩
        · have hk7 : (k : Int) < 8 := by omega
          obtain ⟨p1, p2, _, _, _, hkneg⟩ := Sl.pow_facts (show k < 8 by omega)
          have hsm := Sl.shr_mod U k
          have hle := Sl.cnt_le U k
          clear p1 p2
          cases hfr : Sl.freeP U k
          · have HN := Lib.hid (Sl.cnt_used hfr)
            have hb : ((U / 2 ^ k % 2 : Nat) : Int) = 1 := by
              simp [Sl.freeP] at hfr
              omega
            rw [hb] at hsm
            obtain ⟨F, hF⟩ : ∃ F, Sl.cntTo U k = F := ⟨_, rfl⟩
            rw [hF] at hle HN ⊢
            clear hfr hb hF
            go_wp2_with fail
            go_roundw
            case rel => exact ⟨k + 1, by omega, by go_num, by rw [HN.out], trivial⟩
            case measure => simp [intOf]; omega
          · have HN := Lib.hid (Sl.cnt_free hfr)
            have hb : ((U / 2 ^ k % 2 : Nat) : Int) = 0 := by
              simp [Sl.freeP] at hfr
              omega
            rw [hb] at hsm
            obtain ⟨F, hF⟩ : ∃ F, Sl.cntTo U k = F := ⟨_, rfl⟩
            rw [hF] at hle HN ⊢
            clear hfr hb hF
            go_wp2_with fail
            go_roundw
            case rel => exact ⟨k + 1, by omega, by go_num, by rw [HN.out]; go_num, trivial⟩
            case measure => simp [intOf]; omega
  · go_enter Tryd.func7, Tryd.ntmps7
    go_wp2
    go_ret
    exact ⟨rfl, Below.refl _ _⟩
end Go.Proofs.YtaacoedmlfcdbaaDoor
