/- What the program's HeapValid returns: for every heap. No conditions. -/
import Derived.Test.YtkdoolilggkjpaaHu
namespace Go.Proofs.Ytkdoolilggkjpaa
open Go.RowKit
set_option maxRecDepth 100000

set_option maxHeartbeats 1000000 in
theorem heapValid_any (A R : Option Addr) (n c m d : Nat) (h : Hp) (w : World) (hs : HS w w.heap.size A n R m h) (hn : n ≤ 1099511627776) (hm : m ≤ 1099511627776) (_hc : n ≤ c) (_hd : m ≤ d) :
    Calls Try.prog 13 #[heapV A n c R m d] w fun e w' => e = .returned (.bool (Hps.validH h)) ∧ Below w.heap.size w w' := by
  have hlc := hs.cells.1
  have hlr := hs.roots.1
  have b0 : Below w.heap.size w (w.alloc (.cells #[.slice A n c, .slice R m d] 26)) := (Below.refl _ _).alloc (Nat.le_refl _) _
  by_cases h40 : n ≤ 40
  · by_cases h4 : m = 4
    · subst h4
      have h40' : (n : Int) ≤ 40 := by omega
      have r0 := hs.up b0
      have hw0 := Rw.new w 26 #[.slice A n c, .slice R 4 d]
      have hV := Hps.usedW_lt (cs := h.cs) (by omega)
      have HOR := Lib.hid (Hps.okVs_used h.cs)
      have HOC := Lib.hid (Hps.okCl_used h.cs)
      go_enter Try.func13, Try.ntmps13
      go_wp2_with fail
      refine (usedSet_any _ _ _ h.cs _ r0.cells (by omega)).mono ?_
      rintro e w1 ⟨rfl, b1⟩
      obtain ⟨V, hVe⟩ : ∃ V, Hps.usedW h.cs = V := ⟨_, rfl⟩
      rw [hVe] at hV HOR HOC ⊢
      have bb1 := b0.trans (b1.mono b0.size)
      have hw1 := hw0.keep b1 (by simp)
      clear r0 hw0 hVe b1
      have z0 : w1.cell? ⟨w.heap.size, 0, none⟩ = some (.slice A n c) := hw1.cell 0
      go_wp2_with fail
      go_loopw [22] (fun i wr => ∃ k : Nat, k ≤ n ∧ i = .int .i64 k ∧ Hid (∀ j cl, j < k → h.cs[j]? = some cl → Hps.okCell h.cs cl = true) ∧ Below w.heap.size w wr ∧ Rw wr w.heap.size 26 #[.slice A n c, .slice R 4 d]) (fun i _ => n - (intOf i).toNat)
      case atStart => exact ⟨0, Nat.zero_le _, rfl, Lib.hid (fun j x hj => by omega), bb1, hw1⟩
      case round =>
        clear bb1 hw1 z0
        obtain ⟨k, hk, rfl, HP, bb, hw⟩ := hrel
        have z1 : wr.cell? ⟨w.heap.size, 1, none⟩ = some (.slice R 4 d) := hw.cell 1
        by_cases hlt : k < n
        · obtain ⟨g, o, cl, A', m', cc, e1, hg, hcl, d1, d2, d3, hmc, hi⟩ := hs.cells.at_ hlt
          subst e1
          replace d1 := (bb.cell (p := ⟨g, o + k * 3, none⟩) hg).trans d1
          replace d2 := (bb.cell (p := ⟨g, o + k * 3 + 1, none⟩) hg).trans d2
          replace d3 := (bb.cell (p := ⟨g, o + k * 3 + 2, none⟩) hg).trans d3
          have hlt' : (k : Int) < n := by omega
          have HCL := Lib.hid hcl
          have HM := Lib.hid hi.1
          have bW := bb.alloc bb.size (.cells #[.bool cl.u, .int .i64 cl.d, .slice A' m' cc] 31)
          have hwW := hw.alloc (.cells #[.bool cl.u, .int .i64 cl.d, .slice A' m' cc] 31)
          have hiW := (hi.below bW).more bW.size
          clear hcl
          go_wp2_with fail
          refine (cellValid_any cl A' m' cc V _ hiW hV).mono ?_
          rw [HOC.out]
          cases hok : Hps.okCell h.cs cl
          · have HR := Lib.hid (Hps.invalid_cell HCL.out hok)
            rintro e w2 ⟨rfl, b2⟩
            have bn := bW.trans (b2.mono bW.size)
            go_wp2_with fail
            go_ret
            exact ⟨by rw [HR.out]; rfl, bn⟩
          · have HN : Hid (∀ j c', j < k + 1 → h.cs[j]? = some c' → Hps.okCell h.cs c' = true) := Lib.hid fun j y hj hy => by
              rcases Nat.lt_or_ge j k with h1 | h1
              · exact HP.out j y h1 hy
              · obtain rfl : j = k := by omega
                rw [HCL.out] at hy
                injection hy with hy
                rw [← hy]
                exact hok
            clear hok
            rintro e w2 ⟨rfl, b2⟩
            have bn := bW.trans (b2.mono bW.size)
            have hwn := hwW.keep b2 hwW.lt
            go_wp2_with fail
            go_roundw
            case rel => exact ⟨k + 1, by omega, by go_num, HN, bn, hwn⟩
            case measure => simp [intOf]; omega
        · obtain rfl : k = n := by omega
          have hall : ∀ cl ∈ h.cs, Hps.okCell h.cs cl = true := fun cl hcl => by
            obtain ⟨j, hj⟩ := List.mem_iff_getElem?.1 hcl
            exact HP.out j cl (by rw [← hlc]; exact (List.getElem?_eq_some_iff.1 hj).1) hj
          have HR := Lib.hid (show Hps.validH h = Hps.okRefs h.cs h.rt by rw [Hps.valid_all hall, hlc, hlr, decide_eq_true h40]; simp)
          have rr := (hs.roots.below bb).more bb.size
          clear hall
          go_wp2_with fail
          refine (hasTargets_any _ _ _ V h.rt _ rr hV (by omega)).mono ?_
          rintro e w2 ⟨rfl, rfl⟩
          go_wp2_with fail
          go_ret
          exact ⟨by rw [HR.out, ← HOR.out]; rfl, bb⟩
    · have h40' : (n : Int) ≤ 40 := by omega
      have h4' : ((m : Int) != 4) = true := by rw [bne_iff_ne]; omega
      have HR := Lib.hid (show Hps.validH h = false by
        cases hv : Hps.validH h
        · rfl
        · have := (Hps.valid_iff.1 hv).2.2.1
          omega)
      clear h4
      go_enter Try.func13, Try.ntmps13
      go_wp2_with fail
      go_ret
      exact ⟨by rw [HR.out]; rfl, b0⟩
  · have h40' : ¬ (n : Int) ≤ 40 := by omega
    have h40'' : (40 : Int) < n := by omega
    have HR := Lib.hid (show Hps.validH h = false by
      cases hv : Hps.validH h
      · rfl
      · have := (Hps.valid_iff.1 hv).2.1
        omega)
    go_enter Try.func13, Try.ntmps13
    go_wp2_with fail
    go_ret
    exact ⟨by rw [HR.out]; rfl, b0⟩
end Go.Proofs.Ytkdoolilggkjpaa
