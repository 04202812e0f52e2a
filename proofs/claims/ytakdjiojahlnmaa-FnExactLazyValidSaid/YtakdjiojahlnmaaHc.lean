/- What the model's HeapValid returns: for every heap. -/
import Derived.Test.YtakdjiojahlnmaaGb
import Derived.Test.YtakdjiojahlnmaaGa
import Derived.BigQuiet
namespace Go.Proofs.Ytakdjiojahlnmaa
open Go.RowKit

/-- a heap as a value -/
abbrev heapV (A : Option Addr) (n c : Nat) (R : Option Addr) (m d : Nat) : Value := .agg #[.slice A n c, .slice R m d]

theorem l1In_yes (n lo hi : Int) (w : World) (k : Nat) (h1 : lo ≤ n) (h2 : n ≤ hi) : Calls Try.prog 45 #[.int .i64 n, .int .i64 lo, .int .i64 hi] (w.drewN k) fun e w' => e = .returned (.bool true) ∧ ∃ m, w' = w.drewN m :=
  (l1In_any n lo hi _).mono fun _ _ ⟨he, hw⟩ => ⟨by rw [he, decide_eq_true h1, decide_eq_true h2]; rfl, k, hw.symm⟩
theorem l1In_no (n lo hi : Int) (w : World) (k : Nat) (h : ¬ (lo ≤ n ∧ n ≤ hi)) : Calls Try.prog 45 #[.int .i64 n, .int .i64 lo, .int .i64 hi] (w.drewN k) fun e w' => e = .returned (.bool false) ∧ ∃ m, w' = w.drewN m :=
  (l1In_any n lo hi _).mono fun _ _ ⟨he, hw⟩ => ⟨by rw [he]; congr 1; simp; omega, k, hw.symm⟩

namespace Hps
theorem okRefs_no {cs : List Cl} {rs : List Int} {k : Nat} {n : Int} (hn : rs[k]? = some n) (h : okRef cs n = false) : okRefs cs rs = false := by
  cases hh : okRefs cs rs
  · rfl
  · rw [okRefs_at hh hn] at h
    cases h
theorem okCell_no {cs : List Cl} {c : Cl} (h : (c.u = false ∧ (c.d ≠ 0 ∨ 0 < c.r.length)) ∨ ¬ (0 ≤ c.d ∧ c.d ≤ 99) ∨ 3 < c.r.length ∨ okRefs cs c.r = false) : okCell cs c = false := by
  cases hh : okCell cs c
  · rfl
  · obtain ⟨h1, h2, h3, h4⟩ := okCell_iff.1 hh
    rcases h with ⟨e1, e2⟩ | e | e | e
    · rcases h1 with h1 | ⟨h1, h5⟩
      · rw [h1] at e1; cases e1
      · rcases e2 with e2 | e2
        · exact absurd h1 e2
        · rw [h5] at e2; simp at e2
    · exact absurd h2 e
    · omega
    · rw [h4] at e; cases e
theorem invalid_cell {h : Hp} {k : Nat} {c : Cl} (hc : h.cs[k]? = some c) (hn : okCell h.cs c = false) : validH h = false := by
  cases hh : validH h
  · rfl
  · rw [valid_cell hh hc] at hn
    cases hn
theorem valid_all {h : Hp} (ha : ∀ c ∈ h.cs, okCell h.cs c = true) : validH h = (decide (h.cs.length ≤ 40) && decide (h.rt.length = 4) && okRefs h.cs h.rt) := by
  have : h.cs.all (okCell h.cs) = true := by simpa using ha
  rw [validH, this, Bool.true_and]
theorem okRef_out {cs : List Cl} {n : Int} (h1 : n ≠ -1) (h2 : ¬ (0 ≤ n ∧ n ≤ (cs.length : Int) - 1)) : okRef cs n = false := by
  cases hh : okRef cs n
  · rfl
  · have := okRef_lo hh
    omega
theorem okRef_at {cs : List Cl} {k : Nat} {c : Cl} (hc : cs[k]? = some c) : okRef cs (k : Int) = c.u := by
  have h1 : ((k : Int) == -1) = false := by rw [beq_eq_false_iff_ne]; omega
  have h2 : (0 : Int) ≤ k := by omega
  simp [okRef, h1, usedAt, hc]
end Hps

set_option maxHeartbeats 1000000 in
theorem l7Refs_any (A R F : Option Addr) (n c m d q e : Nat) (h : Hp) (rs : List Int) (w : World) (hs : HS w w.heap.size A n R m h) (hf : IS w w.heap.size F q rs) (hn : n ≤ 1099511627776) (hq : q ≤ 1099511627776) :
    Calls Try.prog 46 #[heapV A n c R m d, .slice F q e] w fun e w' => e = .returned (.bool (Hps.okRefs h.cs rs)) ∧ Below w.heap.size w w' := by
  have hlc := hs.cells.1
  have hlr := hf.1
  go_enter Try.func46, Try.ntmps46
  go_wp2_with fail
  go_loopw [5] (fun i wr => ∃ k : Nat, k ≤ q ∧ i = .int .i64 k ∧ Hid (∀ j x, j < k → rs[j]? = some x → Hps.okRef h.cs x = true) ∧ Below w.heap.size w wr ∧ Rw wr w.heap.size 26 #[.slice A n c, .slice R m d]) (fun i _ => q - (intOf i).toNat)
  case atStart => exact ⟨0, Nat.zero_le _, rfl, Lib.hid (fun j x hj => by omega), (Below.refl _ _).alloc (Nat.le_refl _) _, Rw.new _ _ _⟩
  case round =>
    obtain ⟨k, hk, rfl, HP, bb, hw⟩ := hrel
    have z0 : wr.cell? ⟨w.heap.size, 0, none⟩ = some (.slice A n c) := hw.cell 0
    by_cases hlt : k < q
    · obtain ⟨g, o, x, rfl, hg, hx, c1⟩ := (hf.below bb).at_ hlt
      have hlt' : (k : Int) < q := by omega
      have HN : Hps.okRef h.cs x = true → Hid (∀ j y, j < k + 1 → rs[j]? = some y → Hps.okRef h.cs y = true) := fun hok => Lib.hid fun j y hj hy => by
        rcases Nat.lt_or_ge j k with h1 | h1
        · exact HP.out j y h1 hy
        · obtain rfl : j = k := by omega
          rw [hx] at hy
          injection hy with hy
          rw [← hy]
          exact hok
      have HX := Lib.hid hx
      clear hx
      by_cases hm1 : x = -1
      · subst hm1
        have HN2 := HN (by simp [Hps.okRef])
        clear HN
        go_wp2_with fail
        go_big_quiet (fail)
        go_wp2
        go_roundw
        case rel => exact ⟨k + 1, by omega, by go_num, HN2, below_drewN bb _, hw⟩
        case measure => simp [intOf]; omega
      · have hne : (x != -1) = true := by rw [bne_iff_ne]; exact hm1
        by_cases hin : 0 ≤ x ∧ x ≤ (n : Int) - 1
        · obtain ⟨y, rfl⟩ := Int.eq_ofNat_of_zero_le hin.1
          obtain ⟨g', o', cl, A', m', cc, e1, hg', hcl, d1, d2, d3, _, _⟩ := (hs.cells.below bb).at_ (k := y) (by omega)
          subst e1
          have hok := Hps.okRef_at hcl
          have hyn : (y : Int) < n := by omega
          have hyp : (0 : Int) ≤ y := by omega
          have hy1 : (y : Int) ≤ n - 1 := by omega
          have hnw : IntKind.i64.wrap ((n : Int) - 1) = (n : Int) - 1 := IntWalk.i64_in _ (by omega)
          clear d2 d3 hin hm1
          cases hu : cl.u
          · have HR := Lib.hid (Hps.okRefs_no HX.out (by rw [hok, hu]))
            rw [hu] at d1
            clear hok hu hcl HN
            go_wp2_with fail
            go_big_quiet ((go_at_call 45; exact l1In_yes _ _ _ _ _ hyp hy1))
            go_wp2
            go_ret
            exact ⟨by rw [HR.out]; rfl, below_drewN bb _⟩
          · have HN2 := HN (by rw [hok, hu])
            rw [hu] at d1
            clear hok hu hcl HN
            go_wp2_with fail
            go_big_quiet ((go_at_call 45; exact l1In_yes _ _ _ _ _ hyp hy1))
            go_wp2
            go_roundw
            case rel => exact ⟨k + 1, by omega, by go_num, HN2, below_drewN bb _, hw⟩
            case measure => simp [intOf]; omega
        · have HR := Lib.hid (Hps.okRefs_no HX.out (Hps.okRef_out hm1 (by rw [hlc]; exact hin)))
          have hnw : IntKind.i64.wrap ((n : Int) - 1) = (n : Int) - 1 := IntWalk.i64_in _ (by omega)
          clear HN
          go_wp2_with fail
          go_big_quiet ((go_at_call 45; exact l1In_no _ _ _ _ _ hin))
          go_wp2
          go_ret
          exact ⟨by rw [HR.out]; rfl, below_drewN bb _⟩
    · obtain rfl : k = q := by omega
      have HR := Lib.hid (show Hps.okRefs h.cs rs = true by
        rw [Hps.okRefs_iff]
        intro x hx
        obtain ⟨j, hj⟩ := List.mem_iff_getElem?.1 hx
        exact HP.out j x (by rw [← hlr]; exact (List.getElem?_eq_some_iff.1 hj).1) hj)
      go_wp2_with fail
      go_ret
      exact ⟨by rw [HR.out]; rfl, bb⟩

set_option maxHeartbeats 1000000 in
theorem mHeapValid_any (A R : Option Addr) (n c m d : Nat) (h : Hp) (w : World) (hs : HS w w.heap.size A n R m h) (hn : n ≤ 1099511627776) (hm : m ≤ 1099511627776) :
    Calls Try.prog 14 #[heapV A n c R m d] w fun e w' => e = .returned (.bool (Hps.validH h)) ∧ Below w.heap.size w w' := by
  have hlc := hs.cells.1
  have hlr := hs.roots.1
  go_enter Try.func14, Try.ntmps14
  go_wp2_with fail
  go_loopw [3] (fun i wr => ∃ k : Nat, k ≤ n ∧ i = .int .i64 k ∧ Hid (∀ j cl, j < k → h.cs[j]? = some cl → Hps.okCell h.cs cl = true) ∧ Below w.heap.size w wr ∧ Rw wr w.heap.size 26 #[.slice A n c, .slice R m d]) (fun i _ => n - (intOf i).toNat)
  case atStart => exact ⟨0, Nat.zero_le _, rfl, Lib.hid (fun j x hj => by omega), (Below.refl _ _).alloc (Nat.le_refl _) _, Rw.new _ _ _⟩
  case round =>
    obtain ⟨k, hk, rfl, HP, bb, hw⟩ := hrel
    have z0 : wr.cell? ⟨w.heap.size, 0, none⟩ = some (.slice A n c) := hw.cell 0
    have z1 : wr.cell? ⟨w.heap.size, 1, none⟩ = some (.slice R m d) := hw.cell 1
    by_cases hlt : k < n
    · obtain ⟨g, o, cl, A', m', cc, e1, hg, hcl, d1, d2, d3, hmc, hi⟩ := (hs.cells.below bb).at_ hlt
      subst e1
      have hlt' : (k : Int) < n := by omega
      have hl3 := hi.1
      have HCL := Lib.hid hcl
      have hwl : w.heap.size < wr.heap.size := hw.lt
      have HN : Hps.okCell h.cs cl = true → Hid (∀ j c', j < k + 1 → h.cs[j]? = some c' → Hps.okCell h.cs c' = true) := fun hok => Lib.hid fun j y hj hy => by
        rcases Nat.lt_or_ge j k with h1 | h1
        · exact HP.out j y h1 hy
        · obtain rfl : j = k := by omega
          rw [HCL.out] at hy
          injection hy with hy
          rw [← hy]
          exact hok
      clear hcl
      cases hu : cl.u
      · rw [hu] at d1
        have bW : Below w.heap.size w (wr.alloc (.cells #[.bool false, .int .i64 cl.d, .slice A' m' cc] 45)) := bb.alloc bb.size _
        have hsW : HS (wr.alloc (.cells #[.bool false, .int .i64 cl.d, .slice A' m' cc] 45)) (wr.alloc (.cells #[.bool false, .int .i64 cl.d, .slice A' m' cc] 45)).heap.size (some ⟨g, o, none⟩) n R m h := (hs.below bW).more bW.size
        have hiW : IS (wr.alloc (.cells #[.bool false, .int .i64 cl.d, .slice A' m' cc] 45)) (wr.alloc (.cells #[.bool false, .int .i64 cl.d, .slice A' m' cc] 45)).heap.size A' m' cl.r := (hi.keep fun p hp => Below.cell ((Below.refl w.heap.size wr).alloc bb.size _) hp).more bW.size
        by_cases hd0 : cl.d = 0
        · have hd0' : (cl.d != 0) = false := by rw [bne_eq_false_iff_eq]; exact hd0
          have HD0 := Lib.hid hd0
          clear hd0
          by_cases hm0 : m' = 0
          · subst hm0
            have HNIL := Lib.hid (show cl.r = [] from List.eq_nil_of_length_eq_zero (by omega))
            go_wp2_with fail
            by_cases hd : 0 ≤ cl.d ∧ cl.d ≤ 99
            · have HD := Lib.hid (show (decide ((0 : Int) ≤ cl.d) && decide (cl.d ≤ 99)) = true by simp; omega)
              refine (l1In_any _ _ _ _).mono ?_
              rw [HD.out]
              rintro e w1 ⟨rfl, rfl⟩
              by_cases h3 : 0 ≤ 3
              · have h3' : decide ((3 : Int) < (0 : Int)) = false := decide_eq_false (by omega)
                go_wp2_with fail
                refine (l7Refs_any _ _ _ _ _ _ _ _ _ h cl.r _ hsW hiW hn (by omega)).mono ?_
                cases HO : Hps.okRefs h.cs cl.r
                · have HR := Lib.hid (Hps.invalid_cell HCL.out (Hps.okCell_no (.inr (.inr (.inr HO)))))
                  rintro e w2 ⟨rfl, b2⟩
                  have bW := bW.trans (b2.mono bW.size)
                  go_wp2_with fail
                  go_ret
                  exact ⟨by rw [HR.out]; rfl, bW⟩
                · have HN2 := HN (Hps.okCell_iff.2 ⟨.inr ⟨HD0.out, HNIL.out⟩, hd, by omega, HO⟩)
                  rintro e w2 ⟨rfl, b2⟩
                  have bW2 := bW.trans (b2.mono bW.size)
                  have hw2 := (hw.alloc (.cells #[.bool false, .int .i64 cl.d, .slice A' 0 cc] 45)).keep b2 (by simp; have := hw.lt; omega)
                  clear bW
                  go_wp2_with fail
                  go_roundw
                  case rel => exact ⟨k + 1, by omega, by go_num, HN2, bW2, hw2⟩
                  case measure => simp [intOf]; omega
              · exact absurd (Nat.zero_le _) h3
            · have HD := Lib.hid (show (decide ((0 : Int) ≤ cl.d) && decide (cl.d ≤ 99)) = false by simp; omega)
              have HR := Lib.hid (Hps.invalid_cell HCL.out (Hps.okCell_no (.inr (.inl hd))))
              refine (l1In_any _ _ _ _).mono ?_
              rw [HD.out]
              rintro e w1 ⟨rfl, rfl⟩
              go_wp2_with fail
              go_ret
              exact ⟨by rw [HR.out]; rfl, bW⟩
          · have hm0' : (0 : Int) < (m' : Int) := by omega
            have HR := Lib.hid (Hps.invalid_cell HCL.out (Hps.okCell_no (.inl ⟨hu, .inr (by omega)⟩)))
            go_wp2_with fail
            go_ret
            exact ⟨by rw [HR.out]; rfl, bW⟩
        · have hd0' : (cl.d != 0) = true := by rw [bne_iff_ne]; exact hd0
          have HR := Lib.hid (Hps.invalid_cell HCL.out (Hps.okCell_no (.inl ⟨hu, .inl hd0⟩)))
          go_wp2_with fail
          go_ret
          exact ⟨by rw [HR.out]; rfl, bW⟩
      · rw [hu] at d1
        have bW : Below w.heap.size w (wr.alloc (.cells #[.bool true, .int .i64 cl.d, .slice A' m' cc] 45)) := bb.alloc bb.size _
        have hsW : HS (wr.alloc (.cells #[.bool true, .int .i64 cl.d, .slice A' m' cc] 45)) (wr.alloc (.cells #[.bool true, .int .i64 cl.d, .slice A' m' cc] 45)).heap.size (some ⟨g, o, none⟩) n R m h := (hs.below bW).more bW.size
        have hiW : IS (wr.alloc (.cells #[.bool true, .int .i64 cl.d, .slice A' m' cc] 45)) (wr.alloc (.cells #[.bool true, .int .i64 cl.d, .slice A' m' cc] 45)).heap.size A' m' cl.r := (hi.keep fun p hp => Below.cell ((Below.refl w.heap.size wr).alloc bb.size _) hp).more bW.size
        go_wp2_with fail
        by_cases hd : 0 ≤ cl.d ∧ cl.d ≤ 99
        · have HD := Lib.hid (show (decide ((0 : Int) ≤ cl.d) && decide (cl.d ≤ 99)) = true by simp; omega)
          refine (l1In_any _ _ _ _).mono ?_
          rw [HD.out]
          rintro e w1 ⟨rfl, rfl⟩
          by_cases h3 : m' ≤ 3
          · have h3' : decide ((3 : Int) < ((m' : Nat) : Int)) = false := decide_eq_false (by omega)
            go_wp2_with fail
            refine (l7Refs_any _ _ _ _ _ _ _ _ _ h cl.r _ hsW hiW hn (by omega)).mono ?_
            cases HO : Hps.okRefs h.cs cl.r
            · have HR := Lib.hid (Hps.invalid_cell HCL.out (Hps.okCell_no (.inr (.inr (.inr HO)))))
              rintro e w2 ⟨rfl, b2⟩
              have bW := bW.trans (b2.mono bW.size)
              go_wp2_with fail
              go_ret
              exact ⟨by rw [HR.out]; rfl, bW⟩
            · have HN2 := HN (Hps.okCell_iff.2 ⟨.inl hu, hd, by omega, HO⟩)
              rintro e w2 ⟨rfl, b2⟩
              have bW2 := bW.trans (b2.mono bW.size)
              have hw2 := (hw.alloc (.cells #[.bool true, .int .i64 cl.d, .slice A' m' cc] 45)).keep b2 (by simp; have := hw.lt; omega)
              clear bW
              go_wp2_with fail
              go_roundw
              case rel => exact ⟨k + 1, by omega, by go_num, HN2, bW2, hw2⟩
              case measure => simp [intOf]; omega
          · have h3' : (3 : Int) < ((m' : Nat) : Int) := by omega
            have HR := Lib.hid (Hps.invalid_cell HCL.out (Hps.okCell_no (.inr (.inr (.inl (by omega))))))
            go_wp2_with fail
            go_ret
            exact ⟨by rw [HR.out]; rfl, bW⟩
        · have HD := Lib.hid (show (decide ((0 : Int) ≤ cl.d) && decide (cl.d ≤ 99)) = false by simp; omega)
          have HR := Lib.hid (Hps.invalid_cell HCL.out (Hps.okCell_no (.inr (.inl hd))))
          refine (l1In_any _ _ _ _).mono ?_
          rw [HD.out]
          rintro e w1 ⟨rfl, rfl⟩
          go_wp2_with fail
          go_ret
          exact ⟨by rw [HR.out]; rfl, bW⟩
    · obtain rfl : k = n := by omega
      have hall : ∀ cl ∈ h.cs, Hps.okCell h.cs cl = true := fun cl hcl => by
        obtain ⟨j, hj⟩ := List.mem_iff_getElem?.1 hcl
        exact HP.out j cl (by rw [← hlc]; exact (List.getElem?_eq_some_iff.1 hj).1) hj
      have HV := Lib.hid (Hps.valid_all hall)
      have HSW := Lib.hid ((hs.below bb).more bb.size)
      clear hall HP
      by_cases h40 : k ≤ 40
      · have h40' : (k : Int) ≤ 40 := by omega
        by_cases h4 : m = 4
        · subst h4
          go_wp2_with fail
          refine (l7Refs_any _ _ _ _ _ _ _ _ _ h h.rt _ HSW.out HSW.out.roots hn hm).mono ?_
          rintro e w2 ⟨rfl, b2⟩
          have HR := Lib.hid (show Hps.validH h = Hps.okRefs h.cs h.rt by rw [HV.out, hlc, hlr, decide_eq_true h40]; rfl)
          go_wp2_with fail
          go_ret
          exact ⟨by rw [HR.out]; rfl, bb.trans (b2.mono bb.size)⟩
        · have h4' : ((m : Int) == 4) = false := by rw [beq_eq_false_iff_ne]; omega
          have h4n : (m == 4) = false := by rw [beq_eq_false_iff_ne]; exact h4
          have HR := Lib.hid (show Hps.validH h = false by rw [HV.out, hlr, decide_eq_false h4]; simp)
          go_wp2_with fail
          go_ret
          exact ⟨by rw [HR.out]; rfl, bb⟩
      · have h40' : decide ((k : Int) ≤ 40) = false := decide_eq_false (by omega)
        have h40n : decide (k ≤ 40) = false := decide_eq_false h40
        have HR := Lib.hid (show Hps.validH h = false by rw [HV.out, hlc, decide_eq_false h40]; simp)
        go_wp2_with fail
        go_ret
        exact ⟨by rw [HR.out]; rfl, bb⟩
end Go.Proofs.Ytakdjiojahlnmaa
