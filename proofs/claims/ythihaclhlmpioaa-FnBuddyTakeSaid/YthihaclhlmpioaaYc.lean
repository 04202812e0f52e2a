/- What the model's BuddiesValid returns: for every slice of buddies and every power. -/
import Derived.Test.YthihaclhlmpioaaYb
import Derived.Test.YthihaclhlmpioaaBud3
import Derived.Deep.QuietTactic
import Derived.BigQuiet
namespace Go.Proofs.Ythihaclhlmpioaa
open Go.RowKit

/-- a later world -/
def InW (w0 w : World) : Prop := Below w0.heap.size w0 w
theorem InW.call {w0 w w' : World} (h : InW w0 w) (hb : Below w.heap.size w w') : InW w0 w' := Below.trans h (hb.mono (Below.size h))

theorem pow_int (j : Nat) : ((2 : Int) ^ j) = ((2 ^ j : Nat) : Int) := by simp
theorem wrap_pow {j : Nat} (h : j ≤ 8) : wrap64 ((2 : Int) ^ j) = 2 ^ j ∧ IntKind.i64.wrap ((2 : Int) ^ j) = 2 ^ j := by
  have := Bud.two_pow_le h
  rw [pow_int]
  exact ⟨by unfold wrap64; omega, IntWalk.i64_in _ (by omega)⟩
theorem tmod_pow (a j : Nat) : ((a : Int)).tmod (2 ^ j) = ((a % 2 ^ j : Nat) : Int) := by
  rw [pow_int, Int.tmod_eq_emod_of_nonneg (by omega), ← Int.natCast_emod]

/-- '==' on two buddies -/
theorem run_eql_buddy (x y : Bl) (w : World) : (binOp .eql 40 (.agg #[.int .i64 x.s, .int .i64 x.z, .bool x.u]) (.agg #[.int .i64 y.s, .int .i64 y.z, .bool y.u])).run Try.prog w = .ok (.bool (eqB x y)) w := by
  have u3 := Try.underlying3
  have a3 := Try.isAgg3
  have z3 := Try.sizeOf3
  have u4 := Try.underlying4
  have a4 := Try.isAgg4
  have z4 := Try.sizeOf4
  have hS : Try.prog.underlying 40 = some (.struct (Try.prog.fieldsOf 40)) := by kernel_rfl
  have hp : Try.prog.stoodInHeld 40 = false := by kernel_rfl
  rw [run_eql_struct, show (10000 : Nat) = 9999 + 1 from rfl, run_equalIn_agg w 9999 40 _ _ hS hp, eqB_eq]
  simp only [Program.fieldsOf, Try.underlying40]
  go_simp
  by_cases h1 : x.s = y.s <;> by_cases h2 : x.z = y.z <;> by_cases h3 : x.u = y.u <;> simp [h1, h2, h3]

/-- the free other half lies directly before -/
theorem mate_eq {p : Nat} {xs : List Bl} {k a j : Nat} {x y : Bl} (hok : Bud.okTo p xs k) (hk : 0 < k) (ha : Bud.atY xs k = a) (hy : xs[k - 1]? = some y) (hx : x.u = false) (hs : x.s = a) (hz : x.z = j) (hjp : j ≤ p) (hm : a % 2 ^ j = 0) :
    Bud.okB p a (Bud.prevY xs k) x = !eqB y ⟨mateV a j, j, false⟩ := by
  have hst := hok (k - 1) (by omega)
  rw [Bud.stepY_at hy] at hst
  obtain ⟨i, e1, e2, e3, e4, _⟩ := Bud.okB_iff.1 hst
  have hat := Bud.atY_succ hy
  rw [show k - 1 + 1 = k by omega, ha, show y.z.toNat = i by omega] at hat
  have hpi := Nat.two_pow_pos i
  have hpj := Nat.two_pow_pos j
  have hprev : Bud.prevY xs k = some y := by
    unfold Bud.prevY
    rw [if_neg (by omega)]
    exact hy
  unfold Bud.okB Bud.mateB
  rw [hprev, hs, hz, hx]
  simp only [Int.toNat_natCast, hm, decide_true, Bool.and_true, Bool.not_false, Bool.true_and]
  rw [show decide ((0 : Int) ≤ (j : Int)) = true from decide_eq_true (by omega), show decide ((j : Int) ≤ (p : Int)) = true from decide_eq_true (by omega)]
  simp only [Bool.true_and, Bool.and_true]
  congr 1
  rw [Bool.eq_iff_iff]
  unfold eqB
  simp only [Bool.and_eq_true, decide_eq_true_eq, Bool.not_eq_true']
  have hmod : ((a : Int) / 2 ^ j) % 2 = ((a / 2 ^ j % 2 : Nat) : Int) := by rw [pow_int]; omega
  constructor
  · rintro ⟨h1, h2, h3⟩
    have hij : i = j := by omega
    subst hij
    have hne : ¬ (((a : Int) / 2 ^ i) % 2 = 0) := by rw [hmod, h1]; decide
    have : mateV a i = (a : Int) - 2 ^ i := by rw [mateV, if_neg hne]
    obtain ⟨ys, yz, yu⟩ := y
    simp only [Bl.mk.injEq]
    refine ⟨?_, h3, h2⟩
    rw [this, pow_int]
    simp only [] at e1
    omega
  · intro he
    rw [he] at e1 e2
    simp only [] at e1 e2
    have hij : i = j := by omega
    subst hij
    refine ⟨?_, by rw [he], by rw [he]⟩
    rcases Nat.mod_two_eq_zero_or_one (a / 2 ^ i) with h0 | h1
    · exfalso
      have : mateV a i = (a : Int) + 2 ^ i := by rw [mateV, if_pos (by rw [hmod, h0]; rfl)]
      rw [this, pow_int] at e1
      omega
    · exact h1

set_option maxRecDepth 100000 in
set_option maxHeartbeats 4000000 in
theorem mBuddiesValid_any (A : Option Addr) (n c : Nat) (xs : List Bl) (p : Int) (w : World) (h : BS w w.heap.size A n xs) (hn : n ≤ 1099511627776) :
    Calls Try.prog 21 #[.slice A n c, .int .i64 p] w fun e w' => e = .returned (.bool (Bud.validY xs p)) ∧ Below w.heap.size w w' := by
  have HL := Lib.hid h.1
  by_cases hp : 0 ≤ p ∧ p ≤ 8
  · have hd : (decide ((0 : Int) ≤ p) && decide (p ≤ 8)) = true := by simpa using hp
    obtain ⟨hp0, hp8⟩ := hp
    obtain ⟨P, rfl⟩ := Int.eq_ofNat_of_zero_le hp0
    have hP8 : P ≤ 8 := by omega
    clear hp0
    go_enter Try.func21, Try.ntmps21
    go_wp2_with fail
    refine (l1In_any _ _ _ _).mono ?_
    rw [hd]
    rintro e w' ⟨rfl, rfl⟩
    clear hd
    go_wp2_with fail
    go_loopw [5, 6] (fun t i wr => ∃ k : Nat, k ≤ n ∧ i = .int .i64 k ∧ t = .int .i64 (Bud.atY xs k : Nat) ∧ Bud.okTo P xs k ∧ Below w.heap.size w wr) (fun _ i _ => n - (intOf i).toNat)
    case atStart => exact ⟨0, Nat.zero_le _, rfl, by rw [Bud.atY_zero]; rfl, Bud.okTo_zero _ _, Below.refl _ _⟩
    case round =>
      obtain ⟨k, hk, rfl, rfl, hok, hb⟩ := hrel
      obtain ⟨ra, rb⟩ := Bud.atY_range hP8 hok (by rw [HL.out]; exact hk)
      obtain ⟨a, hae⟩ : ∃ a, Bud.atY xs k = a := ⟨_, rfl⟩
      rw [hae] at ra rb ⊢
      have HAE := Lib.hid hae
      have HOK := Lib.hid hok
      clear hae hok
      by_cases hlt : k < n
      · obtain ⟨g, o, x, rfl, hg, hx, ⟨i1, i2⟩, ⟨i3, i4⟩, c1, c2, c3⟩ := (h.below hb).at_ hlt
        have HX := Lib.hid hx
        have HST := Lib.hid (show Bud.stepY P xs k = Bud.okB P a (Bud.prevY xs k) x by rw [Bud.stepY_at hx, HAE.out])
        have HF := Lib.hid (fun hh => Bud.invalid_step (xs := xs) (p := (P : Int)) (k := k) (by rw [HL.out]; exact hlt) (by simpa using hh))
        clear hx
        by_cases hs : x.s = a
        · rw [hs] at c1
          by_cases hz : 0 ≤ x.z ∧ x.z ≤ P
          · have hd : (decide ((0 : Int) ≤ x.z) && decide (x.z ≤ (P : Int))) = true := by simpa using hz
            obtain ⟨j, hj⟩ := Int.eq_ofNat_of_zero_le hz.1
            rw [hj] at c2 hd
            have hjP : j ≤ P := by omega
            have hj8 : (j : Int) ≤ 8 := by omega
            have hpw := Bud.two_pow_le (j := j) (by omega)
            have HZ := Lib.hid hj
            have HS := Lib.hid hs
            clear hj hz hs
            obtain ⟨w1, w2⟩ := wrap_pow (j := j) (by omega)
            have tm := tmod_pow a j
            have tz : ((2 : Int) ^ j == 0) = false := by rw [beq_eq_false_iff_ne, pow_int]; omega
            have tb : (2 : Int) ^ j ≤ 256 := by rw [pow_int]; omega
            have tc : 1 ≤ (2 : Int) ^ j := by rw [pow_int]; omega
            by_cases hm : a % 2 ^ j = 0
            · rw [hm] at tm
              have HM := Lib.hid hm
              clear hm hpw
              by_cases hk0 : 0 < k
              · cases hu : x.u
                · rw [hu] at c3
                  obtain ⟨g', o', y, e', _, hy, ⟨y1, y2⟩, ⟨y3, y4⟩, d1, d2, d3⟩ := (h.below hb).at_ (k := k - 1) (by omega)
                  injection e' with e'
                  injection e' with ea eb
                  subst ea eb
                  have HY := Lib.hid hy
                  have hgr : g < wr.heap.size := Nat.lt_of_lt_of_le hg hb.size
                  have HOKB := Lib.hid (mate_eq HOK.out hk0 HAE.out hy hu HS.out HZ.out hjP HM.out)
                  have HAT := Lib.hid (show Bud.atY xs (k + 1) = a + 2 ^ j by rw [Bud.atY_succ HX.out, HAE.out, HZ.out]; simp)
                  clear hy hu
                  have hk1 : (k : Int) - 1 < n := by omega
                  have hk2 : ((k : Int) - 1).toNat = k - 1 := by omega
                  have hk3 : 0 ≤ (k : Int) - 1 := by omega
                  have hk4 : IntKind.i64.wrap ((k : Int) - 1) = (k : Int) - 1 := IntWalk.i64_in _ (by omega)
                  have hk0' : (0 : Int) < k := by omega
                  have hk5 : 1 ≤ (k : Int) := by omega
                  go_wp2_with fail
                  go_quiet ((go_at_call 41; exact l1In_quiet _ _ _ _ _))
                  go_wp2_with fail
                  obtain ⟨W, hW⟩ : ∃ W, W = (wr.alloc (.cells #[.int .i64 a, .int .i64 j, .bool false] 40)).drewN nq := ⟨_, rfl⟩
                  have bW : Below w.heap.size w W := by rw [hW]; exact below_drewN (hb.alloc hb.size _) _
                  have sW : W.heap.size = wr.heap.size + 1 := by rw [hW]; simp
                  have l0 : W.cell? ⟨wr.heap.size, 0, none⟩ = some (.int .i64 a) := by rw [hW]; simp
                  have l1 : W.cell? ⟨wr.heap.size, 1, none⟩ = some (.int .i64 j) := by rw [hW]; simp
                  have l2 : W.cell? ⟨wr.heap.size, 2, none⟩ = some (.bool false) := by rw [hW]; simp
                  have bWr : Below wr.heap.size wr W := by rw [hW]; exact below_drewN ((Below.refl _ _).alloc (Nat.le_refl _) _) _
                  have HC := Lib.hid (fun w' (hw' : InW W w') => (show w'.cell? ⟨wr.heap.size, 0, none⟩ = some (.int .i64 a) ∧ w'.cell? ⟨wr.heap.size, 1, none⟩ = some (.int .i64 j) ∧ w'.cell? ⟨wr.heap.size, 2, none⟩ = some (.bool false) ∧
                      w'.cell? ⟨g, o + (k - 1) * 3, none⟩ = some (.int .i64 y.s) ∧ w'.cell? ⟨g, o + (k - 1) * 3 + 1, none⟩ = some (.int .i64 y.z) ∧ w'.cell? ⟨g, o + (k - 1) * 3 + 2, none⟩ = some (.bool y.u) from
                    ⟨(Below.cell hw' (p := ⟨wr.heap.size, 0, none⟩) (by show wr.heap.size < _; omega)).trans l0, (Below.cell hw' (p := ⟨wr.heap.size, 1, none⟩) (by show wr.heap.size < _; omega)).trans l1, (Below.cell hw' (p := ⟨wr.heap.size, 2, none⟩) (by show wr.heap.size < _; omega)).trans l2,
                     ((Below.cell hw' (p := ⟨g, o + (k - 1) * 3, none⟩) (by show g < _; omega)).trans (bWr.cell (p := ⟨g, o + (k - 1) * 3, none⟩) hgr)).trans d1, ((Below.cell hw' (p := ⟨g, o + (k - 1) * 3 + 1, none⟩) (by show g < _; omega)).trans (bWr.cell (p := ⟨g, o + (k - 1) * 3 + 1, none⟩) hgr)).trans d2, ((Below.cell hw' (p := ⟨g, o + (k - 1) * 3 + 2, none⟩) (by show g < _; omega)).trans (bWr.cell (p := ⟨g, o + (k - 1) * 3 + 2, none⟩) hgr)).trans d3⟩))
                  have CM := Lib.hid (fun w' (hw' : InW W w') => (mMate_any a j false w' (by omega) (by omega) (by omega)).mono (R' := fun e w'' => e = .returned (.int .i64 (mateV a j)) ∧ InW W w'') fun e w'' hh => ⟨hh.1, hw'.call hh.2⟩)
                  rw [← hW]
                  clear hW l0 l1 l2 bWr d1 d2 d3 c1 c2 c3
                  have hEq := fun W' => run_eql_buddy y ⟨mateV a j, j, false⟩ W'
                  obtain ⟨eb, heb⟩ : ∃ eb, eqB y ⟨mateV a j, j, false⟩ = eb := ⟨_, rfl⟩
                  rw [heb] at hEq HOKB
                  clear heb
                  generalize mateV a j = mv at hEq CM
                  refine wp_region_quiet (C := InW W) (by kernel_rfl) (by kernel_rfl) (show InW W _ from (Below.refl _ _).drew) ?_
                  repeat (
                    refine wpQuiet_step (fun K hK => ?_)
                    go_simp
                    first
                      | (refine hK _ ?_
                         clear hK K)
                      | ((with_reducible refine ⟨_, fun _ _ => rfl, hK _ ?_⟩)
                         clear hK K)
                      | ((with_reducible refine ⟨_, CM.out, hK _ ?_⟩)
                         clear hK K)
                      | (refine ⟨.bool false, ?_, hK _ ?_⟩
                         · intro w' hw'
                           obtain ⟨k0, k1, k2, k3, k4, k5⟩ := HC.out w' hw'
                           go_simp
                         clear hK K)
                      | (refine ⟨.int .i64 j, ?_, hK _ ?_⟩
                         · intro w' hw'
                           obtain ⟨k0, k1, k2, k3, k4, k5⟩ := HC.out w' hw'
                           go_simp
                         clear hK K)
                      | (refine ⟨.agg #[.int .i64 y.s, .int .i64 y.z, .bool y.u], ?_, hK _ ?_⟩
                         · intro w' hw'
                           obtain ⟨k0, k1, k2, k3, k4, k5⟩ := HC.out w' hw'
                           go_simp
                         clear hK K)
                      | (refine ⟨.agg #[.int .i64 a, .int .i64 j, .bool false], ?_, hK _ ?_⟩
                         · intro w' hw'
                           obtain ⟨k0, k1, k2, k3, k4, k5⟩ := HC.out w' hw'
                           go_simp
                         clear hK K))
                  refine wpQuiet_nil ?_
                  intro w5 hw5
                  have bb5 : Below w.heap.size w w5 := bW.trans ((show Below W.heap.size W w5 from hw5).mono bW.size)
                  obtain ⟨k0, k1, k2, _, _, _⟩ := HC.out w5 hw5
                  have HST2 := Lib.hid (HST.out.trans HOKB.out)
                  clear hk4 hk2 hEq w2 tm
                  cases eb
                  · go_wp2
                    go_roundw
                    case rel => exact ⟨k + 1, by omega, by go_num, by rw [HAT.out]; simp, Bud.okTo_succ HOK.out (by rw [HST2.out]; rfl), bb5⟩
                    case measure => simp [intOf]; omega
                  · have HNO := Lib.hid (HF.out (by rw [HST2.out]; rfl))
                    go_wp2
                    go_ret
                    exact ⟨ret_bool HNO.out.symm, bb5⟩
                · rw [hu] at c3
                  have HU := Lib.hid hu
                  have HYES := Lib.hid (show Bud.stepY P xs k = true by rw [HST.out]; unfold Bud.okB; rw [HU.out, HZ.out, HS.out]; simp [HM.out]; omega)
                  have HAT := Lib.hid (show Bud.atY xs (k + 1) = a + 2 ^ j by rw [Bud.atY_succ HX.out, HAE.out, HZ.out]; simp)
                  clear hu
                  have hk0' : (0 : Int) < k := by omega
                  go_wp2_with fail
                  go_quiet ((go_at_call 41; exact l1In_quiet _ _ _ _ _))
                  go_wp2_with fail
                  go_quiet (fail)
                  go_wp2
                  go_roundw
                  case rel => exact ⟨k + 1, by omega, by go_num, by rw [HAT.out]; simp, Bud.okTo_succ HOK.out HYES.out, below_drewN (hb.alloc hb.size _) _⟩
                  case measure => simp [intOf]; omega
              · have HK0 := Lib.hid (show k = 0 by omega)
                have HYES := Lib.hid (show Bud.stepY P xs k = true by rw [HST.out, HK0.out]; unfold Bud.okB Bud.mateB Bud.prevY; rw [HZ.out, HS.out]; simp [HM.out]; omega)
                have HAT := Lib.hid (show Bud.atY xs (k + 1) = a + 2 ^ j by rw [Bud.atY_succ HX.out, HAE.out, HZ.out]; simp)
                have hk0' : decide ((0 : Int) < (k : Int)) = false := decide_eq_false (by omega)
                have hk0'' : decide (0 < k) = false := decide_eq_false hk0
                clear hk0
                go_wp2_with fail
                go_quiet ((go_at_call 41; exact l1In_quiet _ _ _ _ _))
                go_wp2_with fail
                go_quiet (fail)
                go_wp2
                go_roundw
                case rel => exact ⟨k + 1, by omega, by go_num, by rw [HAT.out]; simp, Bud.okTo_succ HOK.out HYES.out, below_drewN (hb.alloc hb.size _) _⟩
                case measure => simp [intOf]; omega
            · obtain ⟨r, hr⟩ : ∃ r, a % 2 ^ j = r := ⟨_, rfl⟩
              rw [hr] at tm hm
              have tn : ((r : Int) != 0) = true := by rw [bne_iff_ne]; omega
              have HNO := Lib.hid (HF.out (by rw [HST.out]; unfold Bud.okB; rw [HZ.out]; simp; intro _ _ hh; omega))
              clear hr hm hpw
              go_wp2_with fail
              go_quiet ((go_at_call 41; exact l1In_quiet _ _ _ _ _))
              go_wp2
              go_ret
              exact ⟨ret_bool HNO.out.symm, below_drewN (hb.alloc hb.size _) _⟩
          · have hd : (decide ((0 : Int) ≤ x.z) && decide (x.z ≤ (P : Int))) = false := by simpa using hz
            have HNO := Lib.hid (HF.out (by rw [HST.out]; unfold Bud.okB; simp; omega))
            clear hs hz
            go_wp2_with fail
            go_quiet ((go_at_call 41; exact l1In_quiet _ _ _ _ _))
            go_wp2
            go_ret
            exact ⟨ret_bool HNO.out.symm, below_drewN (hb.alloc hb.size _) _⟩
        · have hne : (x.s != (a : Int)) = true := by rw [bne_iff_ne]; exact hs
          have HNO := Lib.hid (HF.out (by rw [HST.out]; simp [Bud.okB, hs]))
          clear hs
          go_wp2_with fail
          go_quiet ((go_at_call 41; exact l1In_quiet _ _ _ _ _))
          go_wp2
          go_ret
          exact ⟨ret_bool HNO.out.symm, below_drewN (hb.alloc hb.size _) _⟩
      · have hkn : k = n := by omega
        have HK := Lib.hid hkn
        clear hkn
        obtain ⟨w1, w2⟩ := wrap_pow hP8
        go_wp2
        go_ret
        refine ⟨ret_bool ?_, hb⟩
        rw [Bud.valid_of_all (by omega) hp8 (by have := HOK.out; rw [HK.out, ← HL.out] at this; simpa using this), HL.out, ← HK.out, HAE.out, pow_int]
        rw [Bool.eq_iff_iff]
        simp only [beq_iff_eq, decide_eq_true_eq, Int.toNat_natCast]
        exact ⟨fun hh => by exact_mod_cast hh, fun hh => by exact_mod_cast hh⟩
  · have hd : (decide ((0 : Int) ≤ p) && decide (p ≤ 8)) = false := by simpa using hp
    have HV := Lib.hid (show Bud.validY xs p = false by unfold Bud.validY; rw [hd]; simp)
    go_enter Try.func21, Try.ntmps21
    go_wp2_with fail
    refine (l1In_any _ _ _ _).mono ?_
    rw [hd]
    rintro e w' ⟨rfl, rfl⟩
    go_wp2_with fail
    go_ret
    exact ⟨ret_bool HV.out.symm, Below.refl _ _⟩
end Go.Proofs.Ythihaclhlmpioaa
