/- What freeHalves, BuddiesValid and BuddyFree of the program return: for every slice of buddies and every power. -/
import Derived.Test.YthihaclhlmpioaaZa
namespace Go.Proofs.Ythihaclhlmpioaa
open Go.RowKit

/-- two free halves of the next order -/
def fhB (x y : Bl) : Bool := !x.u && !y.u && decide (x.z = y.z) && decide (mateV x.s x.z.toNat = y.s)

set_option maxRecDepth 100000 in
set_option maxHeartbeats 4000000 in
theorem freeHalves_any (a i : Nat) (u : Bool) (y : Bl) (w : World) (ha : a ≤ 1125899906842624) (hi : i ≤ 8) (hy : I64 y.s ∧ I64 y.z) :
    Calls Try.prog 45 #[.agg #[.int .i64 a, .int .i64 i, .bool u], .agg #[.int .i64 y.s, .int .i64 y.z, .bool y.u]] w fun e w' => e = .returned (.bool (fhB ⟨a, i, u⟩ y)) ∧ Below w.heap.size w w' := by
  have HA := Lib.hid ha
  have HI := Lib.hid hi
  obtain ⟨b, z, v⟩ := y
  obtain ⟨⟨y1, y2⟩, ⟨y3, y4⟩⟩ := hy
  simp only at y1 y2 y3 y4
  obtain ⟨m, hm⟩ : ∃ m, mateV a i = m := ⟨_, rfl⟩
  have HM := Lib.hid hm
  clear hm ha
  cases u
  · cases v
    · by_cases hz : (i : Int) = z
      · subst hz
        have HR := Lib.hid (show fhB ⟨a, i, false⟩ ⟨b, i, false⟩ = (m == b) by simp [fhB, HM.out]; rw [Bool.eq_iff_iff]; simp)
        go_enter Try.func45, Try.ntmps45
        go_wp2_with fail
        go_quiet ((go_at_call 60; exact (otherHalf_any a i _ HA.out HI.out).mono fun _ _ hh => ⟨hh.1.trans (by rw [HM.out]), _, hh.2.symm⟩))
        go_wp2
        go_ret
        exact ⟨ret_bool HR.out.symm, below_drewN (((Below.refl _ _).alloc (Nat.le_refl _) _).alloc (by simp) _) _⟩
      · have hz' : ((i : Int) == z) = false := by rw [beq_eq_false_iff_ne]; exact hz
        have HR := Lib.hid (show fhB ⟨a, i, false⟩ ⟨b, z, false⟩ = false by simp [fhB, hz])
        clear hz
        go_enter Try.func45, Try.ntmps45
        go_wp2_with fail
        go_quiet (fail)
        go_wp2
        go_ret
        exact ⟨ret_bool HR.out.symm, below_drewN (((Below.refl _ _).alloc (Nat.le_refl _) _).alloc (by simp) _) _⟩
    · have HR := Lib.hid (show fhB ⟨a, i, false⟩ ⟨b, z, true⟩ = false by simp [fhB])
      go_enter Try.func45, Try.ntmps45
      go_wp2_with fail
      go_quiet (fail)
      go_wp2
      go_ret
      exact ⟨ret_bool HR.out.symm, below_drewN (((Below.refl _ _).alloc (Nat.le_refl _) _).alloc (by simp) _) _⟩
  · have HR := Lib.hid (show fhB ⟨a, i, true⟩ ⟨b, z, v⟩ = false by simp [fhB])
    go_enter Try.func45, Try.ntmps45
    go_wp2_with fail
    go_quiet (fail)
    go_wp2
    go_ret
    exact ⟨ret_bool HR.out.symm, below_drewN (((Below.refl _ _).alloc (Nat.le_refl _) _).alloc (by simp) _) _⟩

/-- what the buddy before is -/
theorem prev_at {p : Nat} {xs : List Bl} {k a : Nat} {y : Bl} (hok : Bud.okTo p xs k) (hk : 0 < k) (ha : Bud.atY xs k = a) (hy : xs[k - 1]? = some y) :
    ∃ a' i : Nat, y.s = a' ∧ y.z = i ∧ i ≤ p ∧ a' % 2 ^ i = 0 ∧ a = a' + 2 ^ i := by
  have hst := hok (k - 1) (by omega)
  rw [Bud.stepY_at hy] at hst
  obtain ⟨i, e1, e2, e3, e4, _⟩ := Bud.okB_iff.1 hst
  have hat := Bud.atY_succ hy
  rw [show k - 1 + 1 = k by omega, ha, show y.z.toNat = i by omega] at hat
  exact ⟨_, i, e1, e2, e3, e4, hat⟩

theorem ok_fh {p : Nat} {xs : List Bl} {k a j : Nat} {x y : Bl} (hok : Bud.okTo p xs k) (hk : 0 < k) (ha : Bud.atY xs k = a) (hy : xs[k - 1]? = some y) (hs : x.s = a) (hz : x.z = j) (hjp : j ≤ p) (hm : a % 2 ^ j = 0) :
    Bud.okB p a (Bud.prevY xs k) x = !fhB y x := by
  obtain ⟨a', i, e1, e2, e3, e4, e5⟩ := prev_at hok hk ha hy
  have hprev : Bud.prevY xs k = some y := by
    unfold Bud.prevY
    rw [if_neg (by omega), hy]
  have hpi := Nat.two_pow_pos i
  have hzn : x.z.toNat = j := by omega
  have hyn : y.z.toNat = i := by omega
  unfold Bud.okB Bud.mateB fhB
  rw [hprev, hzn, hyn, hs, hz, e1, e2]
  simp only [decide_true, Bool.true_and, hm]
  have h0 : decide ((0 : Int) ≤ (j : Int)) = true := by simp
  have h1 : decide ((j : Int) ≤ (p : Int)) = true := by simpa using hjp
  rw [h0, h1]
  simp only [Bool.true_and]
  congr 1
  by_cases hij : i = j
  · subst hij
    have hd : a / 2 ^ i = a' / 2 ^ i + 1 := by rw [e5, Nat.add_div_right _ hpi]
    have hmm : decide (mateV a' i = (a : Int)) = decide (a / 2 ^ i % 2 = 1) := by
      rw [decide_eq_decide, mateV_nat, xor_pow, hd]
      split
      · next h => exact ⟨fun _ => by omega, fun _ => by rw [e5]⟩
      · next h => exact ⟨fun hh => by omega, fun hh => by omega⟩
    rw [hmm]
    cases x.u <;> cases y.u <;> simp [e2]
  · have hn : decide ((i : Int) = (j : Int)) = false := decide_eq_false (by omega)
    rw [hn]
    have hij' : ¬ ((i : Int) = (j : Int)) := by omega
    cases x.u <;> cases y.u <;> simp [e2, hij']

set_option maxRecDepth 100000 in
set_option maxHeartbeats 4000000 in
theorem buddiesValid_any (A : Option Addr) (n c : Nat) (xs : List Bl) (p : Int) (w : World) (h : BS w w.heap.size A n xs) (hn : n ≤ 1099511627776) :
    Calls Try.prog 20 #[.slice A n c, .int .i64 p] w fun e w' => e = .returned (.bool (Bud.validY xs p)) ∧ Below w.heap.size w w' := by
  have HL := Lib.hid h.1
  by_cases hp : 0 ≤ p ∧ p ≤ 8
  · obtain ⟨hp0, hp8⟩ := hp
    obtain ⟨P, rfl⟩ := Int.eq_ofNat_of_zero_le hp0
    have hP8 : P ≤ 8 := by omega
    clear hp0
    go_enter Try.func20, Try.ntmps20
    go_wp2_with fail
    go_loopw [5, 16] (fun t i wr => ∃ k : Nat, k ≤ n ∧ i = .int .i64 k ∧ t = .int .i64 (Bud.atY xs k : Nat) ∧ Bud.okTo P xs k ∧ Below w.heap.size w wr) (fun _ i _ => n - (intOf i).toNat)
    case atStart => exact ⟨0, Nat.zero_le _, rfl, by rw [Bud.atY_zero]; rfl, Bud.okTo_zero _ _, Below.refl _ _⟩
    case round =>
      obtain ⟨k, hk, rfl, rfl, hok, hb⟩ := hrel
      obtain ⟨ra, rb⟩ := Bud.atY_range hP8 hok (by rw [HL.out]; exact hk)
      obtain ⟨a, hae⟩ : ∃ a, Bud.atY xs k = a := ⟨_, rfl⟩
      rw [hae] at ra rb ⊢
      have HAE := Lib.hid hae
      have HOK := Lib.hid hok
      clear hae hok
      by_cases hlt : k < n
      · obtain ⟨g, o, x, rfl, hg, hx, ⟨i1, i2⟩, ⟨i3, i4⟩, c1, c2, c3⟩ := (h.below hb).at_ hlt
        have HX := Lib.hid hx
        have HST := Lib.hid (show Bud.stepY P xs k = Bud.okB P a (Bud.prevY xs k) x by rw [Bud.stepY_at hx, HAE.out])
        have HF := Lib.hid (fun hh => Bud.invalid_step (xs := xs) (p := (P : Int)) (k := k) (by rw [HL.out]; exact hlt) (by simpa using hh))
        clear hx
        by_cases hz : 0 ≤ x.z ∧ x.z ≤ P
        · obtain ⟨j, hj⟩ := Int.eq_ofNat_of_zero_le hz.1
          rw [hj] at c2
          have hjP : j ≤ P := by omega
          have hjP' : (j : Int) ≤ P := by omega
          have hj8 : j ≤ 8 := by omega
          have hpw := Bud.two_pow_le (j := j) (by omega)
          have HZ := Lib.hid hj
          clear hj hz
          have tm := tmod_pow a j
          have tz : ((2 : Int) ^ j == 0) = false := by rw [beq_eq_false_iff_ne, pow_int]; omega
          have tb : (2 : Int) ^ j ≤ 256 := by rw [pow_int]; omega
          have tc : 1 ≤ (2 : Int) ^ j := by rw [pow_int]; omega
          by_cases hs : x.s = a
          · rw [hs] at c1
            have HS := Lib.hid hs
            clear hs
            by_cases hm : a % 2 ^ j = 0
            · rw [hm] at tm
              have HM := Lib.hid hm
              have HAT := Lib.hid (show Bud.atY xs (k + 1) = a + 2 ^ j by rw [Bud.atY_succ HX.out, HAE.out, HZ.out]; simp)
              clear hm hpw
              by_cases hk0 : 0 < k
              · obtain ⟨g', o', y, e', _, hy, ⟨y1, y2⟩, ⟨y3, y4⟩, d1, d2, d3⟩ := (h.below hb).at_ (k := k - 1) (by omega)
                injection e' with e'
                injection e' with ea eb
                subst ea eb
                have HOKB := Lib.hid (ok_fh HOK.out hk0 HAE.out hy HS.out HZ.out hjP HM.out)
                obtain ⟨a', i, q1, q2, q3, q4, q5⟩ := prev_at HOK.out hk0 HAE.out hy
                rw [q1] at d1
                rw [q2] at d2
                have HY := Lib.hid (show y = ⟨a', i, y.u⟩ by obtain ⟨ys, yz, yu⟩ := y; simp at q1 q2; rw [q1, q2])
                have HXE := Lib.hid (show x = ⟨a, j, x.u⟩ by have := HS.out; have := HZ.out; obtain ⟨xs', xz, xu⟩ := x; simp_all)
                rw [HY.out, HXE.out] at HOKB
                have hgr : g < wr.heap.size := Nat.lt_of_lt_of_le hg hb.size
                have ha' : a' ≤ 1125899906842624 := by omega
                have hi8 : i ≤ 8 := by omega
                clear hy q1 q2 q4 q5
                obtain ⟨yu, hyu⟩ : ∃ yu, y.u = yu := ⟨_, rfl⟩
                obtain ⟨xu, hxu⟩ : ∃ xu, x.u = xu := ⟨_, rfl⟩
                rw [hyu] at d3 HOKB
                rw [hxu] at c3 HOKB
                have hk1 : (k : Int) - 1 < n := by omega
                have hk2 : ((k : Int) - 1).toNat = k - 1 := by omega
                have hk3 : 0 ≤ (k : Int) - 1 := by omega
                have hk4 : IntKind.i64.wrap ((k : Int) - 1) = (k : Int) - 1 := IntWalk.i64_in _ (by omega)
                have hk0' : (0 : Int) < k := by omega
                have hk5 : 1 ≤ (k : Int) := by omega
                go_wp2_with (first
                  | (go_at_call 44; refine (buddyWords_any j _ hj8).mono ?_; rintro e w' ⟨rfl, rfl⟩)
                  | fail)
                obtain ⟨W, hW⟩ : ∃ W, W = wr.alloc (.cells #[.int .i64 a, .int .i64 j, .bool xu] 40) := ⟨_, rfl⟩
                have bW : Below w.heap.size w W := by rw [hW]; exact hb.alloc hb.size _
                have sW : W.heap.size = wr.heap.size + 1 := by rw [hW]; simp
                have l0 : W.cell? ⟨wr.heap.size, 0, none⟩ = some (.int .i64 a) := by rw [hW]; simp
                have l1 : W.cell? ⟨wr.heap.size, 1, none⟩ = some (.int .i64 j) := by rw [hW]; simp
                have l2 : W.cell? ⟨wr.heap.size, 2, none⟩ = some (.bool xu) := by rw [hW]; simp
                have bWr : Below wr.heap.size wr W := by rw [hW]; exact (Below.refl _ _).alloc (Nat.le_refl _) _
                have HC := Lib.hid (fun w' (hw' : InW W w') => (show w'.cell? ⟨wr.heap.size, 0, none⟩ = some (.int .i64 a) ∧ w'.cell? ⟨wr.heap.size, 1, none⟩ = some (.int .i64 j) ∧ w'.cell? ⟨wr.heap.size, 2, none⟩ = some (.bool xu) ∧
                    w'.cell? ⟨g, o + (k - 1) * 3, none⟩ = some (.int .i64 a') ∧ w'.cell? ⟨g, o + (k - 1) * 3 + 1, none⟩ = some (.int .i64 i) ∧ w'.cell? ⟨g, o + (k - 1) * 3 + 2, none⟩ = some (.bool yu) from
                  ⟨(Below.cell hw' (p := ⟨wr.heap.size, 0, none⟩) (by show wr.heap.size < _; omega)).trans l0, (Below.cell hw' (p := ⟨wr.heap.size, 1, none⟩) (by show wr.heap.size < _; omega)).trans l1, (Below.cell hw' (p := ⟨wr.heap.size, 2, none⟩) (by show wr.heap.size < _; omega)).trans l2,
                   ((Below.cell hw' (p := ⟨g, o + (k - 1) * 3, none⟩) (by show g < _; omega)).trans (bWr.cell (p := ⟨g, o + (k - 1) * 3, none⟩) hgr)).trans d1, ((Below.cell hw' (p := ⟨g, o + (k - 1) * 3 + 1, none⟩) (by show g < _; omega)).trans (bWr.cell (p := ⟨g, o + (k - 1) * 3 + 1, none⟩) hgr)).trans d2, ((Below.cell hw' (p := ⟨g, o + (k - 1) * 3 + 2, none⟩) (by show g < _; omega)).trans (bWr.cell (p := ⟨g, o + (k - 1) * 3 + 2, none⟩) hgr)).trans d3⟩))
                obtain ⟨fb, hfb⟩ : ∃ fb, fhB ⟨a', i, yu⟩ ⟨a, j, xu⟩ = fb := ⟨_, rfl⟩
                rw [hfb] at HOKB
                have CM := Lib.hid (fun w' (hw' : InW W w') => (freeHalves_any a' i yu ⟨a, j, xu⟩ w' ha' hi8 ⟨⟨by simp <;> omega, by simp <;> omega⟩, ⟨by simp <;> omega, by simp <;> omega⟩⟩).mono (R' := fun e w'' => e = .returned (.bool fb) ∧ InW W w'') fun e w'' hh => ⟨by rw [← hfb]; exact hh.1, hw'.call hh.2⟩)
                rw [← hW]
                clear hW l0 l1 l2 bWr d1 d2 d3 c1 c2 c3
                refine wp_region_quiet (C := InW W) (by kernel_rfl) (by kernel_rfl) (show InW W _ from (Below.refl _ _).drew) ?_
                repeat (
                  refine wpQuiet_step (fun K hK => ?_)
                  go_simp
                  first
                    | (refine hK _ ?_
                       clear hK K)
                    | ((with_reducible refine ⟨_, fun _ _ => rfl, hK _ ?_⟩)
                       clear hK K)
                    | ((with_reducible refine ⟨_, CM.out, hK _ ?_⟩)
                       clear hK K)
                    | (refine ⟨.agg #[.int .i64 a', .int .i64 i, .bool yu], ?_, hK _ ?_⟩
                       · intro w' hw'
                         obtain ⟨k0, k1, k2, k3, k4, k5⟩ := HC.out w' hw'
                         go_simp
                       clear hK K)
                    | (refine ⟨.agg #[.int .i64 a, .int .i64 j, .bool xu], ?_, hK _ ?_⟩
                       · intro w' hw'
                         obtain ⟨k0, k1, k2, k3, k4, k5⟩ := HC.out w' hw'
                         go_simp
                       clear hK K))
                refine wpQuiet_nil ?_
                intro w5 hw5
                have bb5 : Below w.heap.size w w5 := bW.trans ((show Below W.heap.size W w5 from hw5).mono bW.size)
                obtain ⟨k0, k1, k2, _, _, _⟩ := HC.out w5 hw5
                have HST2 := Lib.hid (show Bud.stepY P xs k = !fb by rw [HST.out, HXE.out, hxu]; exact HOKB.out)
                clear hk4 hk2 tm hfb hyu hxu
                cases fb
                · go_wp2_with (first
                    | (go_at_call 44; refine (buddyWords_any j _ hj8).mono ?_; rintro e w' ⟨rfl, rfl⟩)
                    | fail)
                  go_roundw
                  case rel => exact ⟨k + 1, by omega, by go_num, by rw [HAT.out]; simp, Bud.okTo_succ HOK.out (by rw [HST2.out]; rfl), bb5⟩
                  case measure => simp [intOf]; omega
                · have HNO := Lib.hid (HF.out (by rw [HST2.out]; rfl))
                  go_wp2
                  go_ret
                  exact ⟨ret_bool HNO.out.symm, bb5⟩
              · have HK0 := Lib.hid (show k = 0 by omega)
                have HYES := Lib.hid (show Bud.stepY P xs k = true by rw [HST.out, HK0.out]; unfold Bud.okB Bud.mateB Bud.prevY; rw [HZ.out, HS.out]; simp [HM.out]; omega)
                have hk0' : decide ((0 : Int) < (k : Int)) = false := decide_eq_false (by omega)
                have hk0'' : decide (0 < k) = false := decide_eq_false hk0
                clear hk0
                go_wp2_with (first
                  | (go_at_call 44; refine (buddyWords_any j _ hj8).mono ?_; rintro e w' ⟨rfl, rfl⟩)
                  | fail)
                go_quiet (fail)
                go_wp2_with (first
                  | (go_at_call 44; refine (buddyWords_any j _ hj8).mono ?_; rintro e w' ⟨rfl, rfl⟩)
                  | fail)
                go_roundw
                case rel => exact ⟨k + 1, by omega, by go_num, by rw [HAT.out]; simp, Bud.okTo_succ HOK.out HYES.out, below_drewN (hb.alloc hb.size _) _⟩
                case measure => simp [intOf]; omega
            · obtain ⟨r, hr⟩ : ∃ r, a % 2 ^ j = r := ⟨_, rfl⟩
              rw [hr] at tm hm
              have tn : ((r : Int) != 0) = true := by rw [bne_iff_ne]; omega
              have HNO := Lib.hid (HF.out (by rw [HST.out]; unfold Bud.okB; rw [HZ.out]; simp; intro _ _ hh; omega))
              clear hr hm hpw
              go_wp2_with (first
                | (go_at_call 44; refine (buddyWords_any j _ hj8).mono ?_; rintro e w' ⟨rfl, rfl⟩)
                | fail)
              go_ret
              exact ⟨ret_bool HNO.out.symm, hb.alloc hb.size _⟩
          · have hne : (x.s != (a : Int)) = true := by rw [bne_iff_ne]; exact hs
            have HNO := Lib.hid (HF.out (by rw [HST.out]; simp [Bud.okB, hs]))
            clear hs
            go_wp2
            go_ret
            exact ⟨ret_bool HNO.out.symm, hb.alloc hb.size _⟩
        · have HNO := Lib.hid (HF.out (by rw [HST.out]; unfold Bud.okB; simp; omega))
          by_cases hz0 : x.z < 0
          · clear hz
            go_wp2
            go_ret
            exact ⟨ret_bool HNO.out.symm, hb.alloc hb.size _⟩
          · have hz1 : (P : Int) < x.z := by omega
            clear hz
            go_wp2
            go_ret
            exact ⟨ret_bool HNO.out.symm, hb.alloc hb.size _⟩
      · have hkn : k = n := by omega
        have HK := Lib.hid hkn
        clear hkn
        go_wp2_with (first
          | (go_at_call 44; refine (buddyWords_any P _ hP8).mono ?_; rintro e w' ⟨rfl, rfl⟩)
          | fail)
        go_ret
        refine ⟨ret_bool ?_, hb⟩
        rw [Bud.valid_of_all (by omega) hp8 (by have := HOK.out; rw [HK.out, ← HL.out] at this; simpa using this), HL.out, ← HK.out, HAE.out, pow_int]
        rw [Bool.eq_iff_iff]
        simp only [beq_iff_eq, decide_eq_true_eq, Int.toNat_natCast]
        exact ⟨fun hh => by exact_mod_cast hh, fun hh => by exact_mod_cast hh⟩
  · have HV := Lib.hid (show Bud.validY xs p = false by
      have hd : (decide ((0 : Int) ≤ p) && decide (p ≤ 8)) = false := by simpa using hp
      unfold Bud.validY; rw [hd]; simp)
    by_cases h0 : p < 0
    · go_enter Try.func20, Try.ntmps20
      go_wp2
      go_ret
      exact ⟨ret_bool HV.out.symm, Below.refl _ _⟩
    · have h8 : p > 8 := by omega
      go_enter Try.func20, Try.ntmps20
      go_wp2
      go_ret
      exact ⟨ret_bool HV.out.symm, Below.refl _ _⟩

set_option maxHeartbeats 1000000 in
theorem buddyFree_any (A : Option Addr) (n c : Nat) (xs : List Bl) (p : Int) (w : World) (h : BS w w.heap.size A n xs) (hn : n ≤ 1099511627776) :
    Calls Try.prog 27 #[.slice A n c, .int .i64 p] w fun e w' => e = .returned (.int .i64 (Bud.freeYW xs p)) ∧ Below w.heap.size w w' := by
  cases hv : Bud.validY xs p
  · have HR := Lib.hid (show Bud.freeYW xs p = -1 by simp [Bud.freeYW, hv])
    have HV := Lib.hid hv
    clear hv
    go_enter Try.func27, Try.ntmps27
    go_wp2_with fail
    refine (buddiesValid_any _ _ _ xs _ _ h hn).mono ?_
    rw [HV.out]
    rintro e w1 ⟨rfl, b1⟩
    go_wp2_with fail
    go_ret
    exact ⟨by rw [HR.out]; rfl, b1⟩
  · have HR := Lib.hid (show Bud.freeYW xs p = (Bud.freeTo xs xs.length : Nat) by simp [Bud.freeYW, hv])
    have HV := Lib.hid hv
    have hlen := h.1
    have hl := Bud.validY_len hv
    clear hv
    subst hlen
    go_enter Try.func27, Try.ntmps27
    go_wp2_with fail
    refine (buddiesValid_any _ _ _ xs _ _ h hn).mono ?_
    rw [HV.out]
    rintro e w1 ⟨rfl, b1⟩
    go_wp2_with fail
    have HLL := Lib.hid hl
    clear hl
    go_loopw [5, 14] (fun a i wr => ∃ k : Nat, k ≤ xs.length ∧ i = .int .i64 k ∧ a = .int .i64 (Bud.freeTo xs k : Nat) ∧ Below w.heap.size w wr) (fun _ i _ => xs.length - (intOf i).toNat)
    case atStart => exact ⟨0, Nat.zero_le _, rfl, rfl, b1⟩
    case round =>
      obtain ⟨k, hk, rfl, rfl, hb⟩ := hrel
      by_cases hlt : k < xs.length
      · obtain ⟨g, o, x, rfl, hg, hx, _, _, c1, c2, c3⟩ := (h.below hb).at_ hlt
        obtain ⟨j, z1, z2, z3, z4, z5, z6, z7⟩ := Bud.validY_at HV.out hx
        have hfl := Bud.freeTo_le xs k hk
        have HS := Lib.hid (Bud.freeTo_succ hx)
        have HZ := Lib.hid z1
        rw [z1] at c2
        have hpw := Bud.two_pow_le z3
        have tb : (2 : Int) ^ j ≤ 256 := by rw [pow_int]; omega
        have tc : 1 ≤ (2 : Int) ^ j := by rw [pow_int]; omega
        have hfl2 : Bud.freeTo xs k ≤ 256 := by omega
        clear hx z1 z4 z6 hpw z5 hfl
        generalize Bud.freeTo xs k = f at HS hfl2
        have hj8 : (j : Int) ≤ 8 := by omega
        cases hu : x.u
        all_goals
          rw [hu] at c3
          have HU := Lib.hid hu
          clear hu
          go_wp2_with (first
            | (go_at_call 44; refine (buddyWords_any j _ z3).mono ?_; rintro e w' ⟨rfl, rfl⟩)
            | fail)
          go_roundw
          case rel => exact ⟨k + 1, by omega, by go_num, by rw [HS.out, HU.out, HZ.out]; simp, hb.alloc hb.size _⟩
          case measure => simp [intOf]; omega
      · obtain rfl : k = xs.length := by omega
        go_wp2
        go_ret
        exact ⟨by rw [HR.out]; rfl, hb⟩
end Go.Proofs.Ythihaclhlmpioaa
