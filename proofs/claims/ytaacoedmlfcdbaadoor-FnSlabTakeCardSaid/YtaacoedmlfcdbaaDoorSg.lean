/- The laws of SlabValid (P31), SlabTake (P32), SlabGive (P33) and SlabAll (P115) return true: for every list of bytes. -/
import Derived.Test.YtaacoedmlfcdbaaDoorSd
import Derived.Test.YtaacoedmlfcdbaaDoorSe
import Derived.Deep.RegionWith
namespace Go.Proofs.YtaacoedmlfcdbaaDoor
open Go.RowKit

/-- '!=' on two slabs -/
theorem run_neq_slab (a b c d : Int) (w : World) : (binOp .neq 28 (slabV a b) (slabV c d)).run Tryd.prog w = .ok (.bool (!(decide (a = c) && decide (b = d)))) w := by
  have u3 := Tryd.underlying3
  have a3 := Tryd.isAgg3
  have z3 := Tryd.sizeOf3
  have hS : Tryd.prog.underlying 28 = some (.struct (Tryd.prog.fieldsOf 28)) := by kernel_rfl
  have hp : Tryd.prog.stoodInHeld 28 = false := by kernel_rfl
  rw [run_neq_struct, show (10000 : Nat) = 9999 + 1 from rfl, run_equalIn_agg w 9999 28 _ _ hS hp]
  simp only [Program.fieldsOf, Tryd.underlying28]
  go_simp
  by_cases h1 : a = c <;> by_cases h2 : b = d <;> simp [h1, h2]
/-- '==' on two slabs -/
theorem run_eql_slab (a b c d : Int) (w : World) : (binOp .eql 28 (slabV a b) (slabV c d)).run Tryd.prog w = .ok (.bool (decide (a = c) && decide (b = d))) w := by
  have u3 := Tryd.underlying3
  have a3 := Tryd.isAgg3
  have z3 := Tryd.sizeOf3
  have hS : Tryd.prog.underlying 28 = some (.struct (Tryd.prog.fieldsOf 28)) := by kernel_rfl
  have hp : Tryd.prog.stoodInHeld 28 = false := by kernel_rfl
  rw [run_eql_struct, show (10000 : Nat) = 9999 + 1 from rfl, run_equalIn_agg w 9999 28 _ _ hS hp]
  simp only [Program.fieldsOf, Tryd.underlying28]
  go_simp
  by_cases h1 : a = c <;> by_cases h2 : b = d <;> simp [h1, h2]

/-- a later world -/
def InS (w0 w : World) : Prop := Below w0.heap.size w0 w
theorem InS.call {w0 w w' : World} (h : InS w0 w) (hb : Below w.heap.size w w') : InS w0 w' := Below.trans h (hb.mono (Below.size h))

namespace Sl
theorem tmod_pow (a j : Nat) : ((a : Int)).tmod (2 ^ j) = ((a % 2 ^ j : Nat) : Int) := by
  rw [pow_cast, Int.tmod_eq_emod_of_nonneg (by omega), ← Int.natCast_emod]
theorem pow_facts {k : Nat} (h : k < 8) : wrap64 ((2 : Int) ^ k) = 2 ^ k ∧ IntKind.i64.wrap ((2 : Int) ^ k) = 2 ^ k ∧ IntKind.i64.wrap ((2 : Int) ^ k - 1) = 2 ^ k - 1 ∧ ¬ ((2 : Int) ^ k = 0) ∧ ((2 : Int) ^ k == 0) = false ∧ ¬ ((k : Int) < 0) := by
  obtain ⟨p1, p2, p3, p4⟩ := pow8 (k := k) (by omega)
  exact ⟨p1, p2, IntWalk.i64_in _ (by omega), by omega, by rw [beq_eq_false_iff_ne]; omega, by omega⟩
theorem wrap_sub {U X k : Nat} (h : U = X + 2 ^ k) (hU : U ≤ 255) : IntKind.i64.wrap ((U : Int) - 2 ^ k) = X := by
  have e : (U : Int) - 2 ^ k = X := by rw [pow_cast]; omega
  have hp := Nat.two_pow_pos k
  rw [e]
  exact IntWalk.i64_in _ (by omega)
/-- what SlabTake does -/
theorem take_law (a u : Int) : takeU a u = (0, 0, -1, false) ∨ takeU a u = (a, u, -1, false) ∨ ∃ U k X : Nat, u = U ∧ k < 8 ∧ X = U + 2 ^ k ∧ X ≤ 255 ∧ takeU a u = (a, (X : Int), (k : Int), true) ∧ okS a X = true ∧ ((U : Int) / 2 ^ k).tmod 2 = 0 ∧ ((U : Int)).tmod (2 ^ k) = 2 ^ k - 1 ∧ giveU a X k = (a, (U : Int), true) := by
  cases hv : okS a u
  · exact .inl (takeU_bad hv)
  · right
    obtain ⟨⟨c0, c7⟩, u0, u255⟩ := okS_iff.1 hv
    obtain ⟨U, rfl⟩ := Int.eq_ofNat_of_zero_le u0
    cases hf : firstS U with
    | none => exact .inl (takeU_full hv hf)
    | some k =>
      right
      have hk := firstS_lt ⟨U, by omega⟩ k hf
      obtain ⟨f1, f2, f3, f4⟩ := firstS_spec ⟨U, by omega⟩ ⟨k, hk⟩ hf
      simp only at f1 f2 f3 f4
      have hp := Nat.two_pow_pos k
      have hX : okS a ((U + 2 ^ k : Nat) : Int) = true := okS_iff.2 ⟨⟨c0, c7⟩, by omega, by omega⟩
      refine ⟨U, k, U + 2 ^ k, rfl, hk, rfl, f3, ?_, hX, ?_, ?_, ?_⟩
      · rw [takeU_some hv hf, pow_cast, Int.natCast_add]
      · rw [shr_mod]
        simp [freeP] at f1
        omega
      · rw [tmod_pow, f2, pow_cast]
        omega
      · rw [giveU_yes hX hk f4, pow_cast]
        congr 2
        omega
/-- what SlabGive does -/
theorem give_law (a u p : Int) : giveU a u p = (0, 0, false) ∨ giveU a u p = (a, u, false) ∨ ∃ U k Y : Nat, u = U ∧ p = k ∧ k < 8 ∧ U ≤ 255 ∧ U = Y + 2 ^ k ∧ giveU a u p = (a, (Y : Int), true) ∧ okS a Y = true ∧ giveU a Y k = (a, (Y : Int), false) := by
  cases hv : okS a u
  · exact .inl (giveU_bad hv)
  · right
    obtain ⟨⟨c0, c7⟩, u0, u255⟩ := okS_iff.1 hv
    obtain ⟨U, rfl⟩ := Int.eq_ofNat_of_zero_le u0
    by_cases hp : 0 ≤ p ∧ p ≤ 7 ∧ freeP U p.toNat = false
    · right
      obtain ⟨k, rfl⟩ := Int.eq_ofNat_of_zero_le hp.1
      have hf : freeP U k = false := hp.2.2
      have hk : k < 8 := by omega
      obtain ⟨_, g2, g3⟩ := andNot_used ⟨U, by omega⟩ ⟨k, hk⟩ hf
      simp only at g2 g3
      have hle : U - 2 ^ k ≤ 255 := Nat.le_trans (Nat.sub_le _ _) (by omega)
      have hY : okS a ((U - 2 ^ k : Nat) : Int) = true := okS_iff.2 ⟨⟨c0, c7⟩, Int.natCast_nonneg _, Int.ofNat_le.2 hle⟩
      refine ⟨U, k, U - 2 ^ k, rfl, rfl, hk, by omega, by omega, ?_, hY, giveU_not hY ?_⟩
      · rw [giveU_yes hv hk hf, pow_cast]
        congr 2
        omega
      · rw [Int.toNat_natCast, Int.toNat_natCast, g3]
        simp
    · exact .inl (giveU_not hv hp)
end Sl

set_option maxRecDepth 100000 in
set_option maxHeartbeats 4000000 in
theorem slabTakeLaw_walk (A : Option Addr) (n c : Nat) (w : World) (h : Bytes w w.heap.size A n) (hc : n ≤ c) (hn : n ≤ 9223372036854775807) (hT : BitT w) :
    Calls Tryd.prog 5 #[.slice A n c] w fun e w' => e = .returned (.bool true) ∧ Below w.heap.size w w' := by
  by_cases hs : n ≤ 1048576
  · have hs' : decide ((1048576 : Int) < (n : Int)) = false := by simp; omega
    go_enter Tryd.func5, Tryd.ntmps5
    go_wp2_with fail
    refine (drawSlabTake_any _ _ _ _ h hc hn).mono ?_
    rintro e w1 ⟨a, u, rfl, k1, k2, k3, k4, b1⟩
    obtain ⟨a', u', p', ok, hT⟩ : ∃ a' u' p' ok, Sl.takeU a u = (a', u', p', ok) := ⟨_, _, _, _, rfl⟩
    have HL := Lib.hid (Sl.take_law a u)
    rw [hT] at HL
    have HT := Lib.hid hT
    have q1 := Rw.new w1 28 #[.int .i64 a, .int .i64 u]
    have bb1 := b1.alloc b1.size (.cells #[.int .i64 a, .int .i64 u] 28)
    clear hT
    go_wp2_with fail
    refine (slabTake_any _ _ _ (hT.below bb1)).mono ?_
    rw [HT.out]
    rintro e w2 ⟨rfl, b2⟩
    have q2 := q1.keep b2 q1.lt
    have bb2 := bb1.trans (b2.mono bb1.size)
    have x0 : w2.cell? ⟨w1.heap.size, 0, none⟩ = some (.int .i64 a) := q2.cell 0
    have x1 : w2.cell? ⟨w1.heap.size, 1, none⟩ = some (.int .i64 u) := q2.cell 1
    have r2 := Rw.new w2 28 #[.int .i64 a', .int .i64 u']
    have q2a := q2.alloc (.cells #[.int .i64 a', .int .i64 u'] 28)
    have bb2a := bb2.alloc bb2.size (.cells #[.int .i64 a', .int .i64 u'] 28)
    have ql := q2.lt
    clear b1 b2 bb1 q1 bb2 q2
    go_wp2_with fail
    refine (mSlabTake_any _ _ _).mono ?_
    rw [HT.out]
    rintro e w3 ⟨rfl, b3⟩
    have q3 := q2a.keep b3 q2a.lt
    have r3 := r2.keep b3 r2.lt
    have bb3 := bb2a.trans (b3.mono bb2a.size)
    have y0 : w3.cell? ⟨w1.heap.size, 0, none⟩ = some (.int .i64 a) := q3.cell 0
    have y1 : w3.cell? ⟨w1.heap.size, 1, none⟩ = some (.int .i64 u) := q3.cell 1
    have y2 : w3.cell? ⟨w2.heap.size, 0, none⟩ = some (.int .i64 a') := r3.cell 0
    have y3 : w3.cell? ⟨w2.heap.size, 1, none⟩ = some (.int .i64 u') := r3.cell 1
    have l1 := q3.lt
    have l2 := r3.lt
    have hneq := fun W => run_neq_slab a' u' a' u' W
    simp only [decide_true, Bool.and_true, Bool.not_true] at hneq
    clear x0 x1 b3 bb2a q2a r2
    have bb3a := bb3.alloc bb3.size (.cells #[.int .i64 a', .int .i64 u'] 28)
    rcases HL.out with hh | hh | ⟨U, k, X, rfl, hk, hX, hX2, hh, hok, hfr, hrem, hgv⟩
    · simp only [Prod.mk.injEq] at hh
      obtain ⟨rfl, rfl, rfl, rfl⟩ := hh
      have heq := fun W => run_eql_slab 0 0 0 0 W
      simp only [decide_true, Bool.and_true] at heq
      go_wp2_with fail
      refine (alive_any _).mono ?_
      rintro e w5 ⟨rfl, b5⟩
      go_wp2_with fail
      go_ret
      exact ⟨rfl, bb3a.trans (b5.mono bb3a.size)⟩
    · simp only [Prod.mk.injEq] at hh
      obtain ⟨rfl, rfl, rfl, rfl⟩ := hh
      have heq := fun W => run_eql_slab a' u' a' u' W
      simp only [decide_true, Bool.and_true] at heq
      have heq0 := fun W => run_eql_slab a' u' 0 0 W
      obtain ⟨z, hz⟩ : ∃ z, (decide (a' = 0) && decide (u' = 0)) = z := ⟨_, rfl⟩
      rw [hz] at heq0
      clear hz
      cases z
      all_goals
        go_wp2_with fail
        refine (alive_any _).mono ?_
        rintro e w5 ⟨rfl, b5⟩
        go_wp2_with fail
        go_ret
        exact ⟨rfl, bb3a.trans (b5.mono bb3a.size)⟩
    · simp only [Prod.mk.injEq] at hh
      obtain ⟨rfl, rfl, rfl, rfl⟩ := hh
      have HG := Lib.hid hgv
      have HOK := Lib.hid hok
      obtain ⟨p1, p2, hw1, hpz, hpz2, hkneg⟩ := Sl.pow_facts hk
      have heq := fun W => run_eql_slab a' U a' U W
      simp only [decide_true, Bool.and_true] at heq
      have q3a := q3.alloc (.cells #[.int .i64 a', .int .i64 X] 28)
      have r3a := r3.alloc (.cells #[.int .i64 a', .int .i64 X] 28)
      clear hgv hok hX HL HT
      go_wp2_with fail
      refine (slabGive_any _ _ _ _).mono ?_
      rw [HG.out]
      rintro e w5 ⟨rfl, b5⟩
      have q5 := (q3a.keep b5 q3a.lt).alloc (.cells #[.int .i64 a', .int .i64 U] 28)
      have r5 := (r3a.keep b5 r3a.lt).alloc (.cells #[.int .i64 a', .int .i64 U] 28)
      have s5 := Rw.new w5 28 #[.int .i64 a', .int .i64 U]
      have bb5 := bb3a.trans (b5.mono bb3a.size)
      have bb5a := bb5.alloc bb5.size (.cells #[.int .i64 a', .int .i64 U] 28)
      have CV := Lib.hid (fun w' (hw' : InS (w5.alloc (.cells #[.int .i64 a', .int .i64 U] 28)) w') => (slabValid_any a' X w').mono (R' := fun e w'' => e = .returned (.bool true) ∧ InS (w5.alloc (.cells #[.int .i64 a', .int .i64 U] 28)) w'') fun e w'' hh => ⟨by rw [HOK.out] at hh; exact hh.1, hw'.call hh.2⟩)
      have CX := Lib.hid (fun w' (hw' : InS (w5.alloc (.cells #[.int .i64 a', .int .i64 U] 28)) w') => show w'.cell? ⟨w2.heap.size, 0, none⟩ = some (.int .i64 a') ∧ w'.cell? ⟨w2.heap.size, 1, none⟩ = some (.int .i64 X) from ⟨(r5.keep hw' r5.lt).cell 0, (r5.keep hw' r5.lt).cell 1⟩)
      have CS := Lib.hid (fun w' (hw' : InS (w5.alloc (.cells #[.int .i64 a', .int .i64 U] 28)) w') => show w'.cell? ⟨w1.heap.size, 0, none⟩ = some (.int .i64 a') ∧ w'.cell? ⟨w1.heap.size, 1, none⟩ = some (.int .i64 U) from ⟨(q5.keep hw' q5.lt).cell 0, (q5.keep hw' q5.lt).cell 1⟩)
      have CB := Lib.hid (fun w' (hw' : InS (w5.alloc (.cells #[.int .i64 a', .int .i64 U] 28)) w') => show w'.cell? ⟨w5.heap.size, 0, none⟩ = some (.int .i64 a') ∧ w'.cell? ⟨w5.heap.size, 1, none⟩ = some (.int .i64 U) from ⟨(s5.keep hw' s5.lt).cell 0, (s5.keep hw' s5.lt).cell 1⟩)
      clear y0 y1 y2 y3 hneq q3 r3 q3a r3a q5 r5 s5 b5
      go_wp2_with fail
      refine wp_region_quiet (C := InS (w5.alloc (.cells #[.int .i64 a', .int .i64 U] 28))) (by kernel_rfl) (by kernel_rfl) (show InS _ _ from (Below.refl _ _).drew) ?_
      repeat (
        refine wpQuiet_step (fun K hK => ?_)
        go_simp
        first
          | (refine hK _ ?_
             clear hK K)
          | ((with_reducible refine ⟨_, fun _ _ => rfl, hK _ ?_⟩)
             clear hK K)
          | ((with_reducible refine ⟨_, CV.out, hK _ ?_⟩)
             clear hK K)
          | (refine ⟨slabV a' X, ?_, hK _ ?_⟩
             · intro w' hw'
               have hcw := CX.out w' hw'
               go_simp
             clear hK K)
          | (refine ⟨.int .i64 U, ?_, hK _ ?_⟩
             · intro w' hw'
               have hcw := CS.out w' hw'
               go_simp
             clear hK K)
          | (refine ⟨slabV a' U, ?_, hK _ ?_⟩
             · intro w' hw'
               have hcw := CS.out w' hw'
               go_simp
             clear hK K)
          | (refine ⟨slabV a' U, ?_, hK _ ?_⟩
             · intro w' hw'
               have hcw := CB.out w' hw'
               go_simp
             clear hK K))
      refine wpQuiet_nil ?_
      intro w6 hw6
      clear hfr hrem p1 p2 hw1 heq
      go_wp2
      go_ret
      exact ⟨rfl, bb5a.trans ((show Below _ _ w6 from hw6).mono bb5a.size)⟩
  · go_enter Tryd.func5, Tryd.ntmps5
    go_wp2
    go_ret
    exact ⟨rfl, Below.refl _ _⟩

end Go.Proofs.YtaacoedmlfcdbaaDoor
