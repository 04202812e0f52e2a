/- What the model's BestFit returns: for every slice of blocks and all numbers. -/
import Derived.Test.YtfffilgghogiaaaWs
namespace Go.Proofs.Ytfffilgghogiaaa
open Go.RowKit

def bestV : Option Nat → Int
  | none => -1
  | some b => b

theorem bestTo_none {xs : List Bl} {size : Int} {k : Nat} {x : Bl} (hx : xs[k]? = some x) (hf : Bks.fits size x = false) : Bks.bestTo xs size (k + 1) = Bks.bestTo xs size k := by
  rw [Bks.bestTo, hx]
  simp only [hf]
  cases Bks.bestTo xs size k <;> simp
theorem bestTo_first {xs : List Bl} {size : Int} {k : Nat} {x : Bl} (hx : xs[k]? = some x) (hf : Bks.fits size x = true) (hb : Bks.bestTo xs size k = none) : Bks.bestTo xs size (k + 1) = some k := by
  rw [Bks.bestTo, hx, hb]
  simp [hf]
theorem bestTo_less {xs : List Bl} {size : Int} {k b : Nat} {x y : Bl} (hx : xs[k]? = some x) (hf : Bks.fits size x = true) (hb : Bks.bestTo xs size k = some b) (hy : xs[b]? = some y) (hl : x.z < y.z) : Bks.bestTo xs size (k + 1) = some k := by
  rw [Bks.bestTo, hx, hb]
  simp [hf, hy, hl]
theorem bestTo_more {xs : List Bl} {size : Int} {k b : Nat} {x y : Bl} (hx : xs[k]? = some x) (hb : Bks.bestTo xs size k = some b) (hy : xs[b]? = some y) (hl : ¬ x.z < y.z) : Bks.bestTo xs size (k + 1) = some b := by
  rw [Bks.bestTo, hx, hb]
  simp [hy, hl]

set_option maxRecDepth 100000 in
set_option maxHeartbeats 2000000 in
theorem mBestFit_any (A : Option Addr) (n c : Nat) (xs : List Bl) (t size : Int) (w : World) (h : BS w w.heap.size A n xs) (hn : n ≤ 1099511627776) :
    Calls Try.prog 24 #[.slice A n c, .int .i64 t, .int .i64 size] w fun e w' => e = .returned (.int .i64 (Bks.bestW xs t size)) ∧ Below w.heap.size w w' := by
  have HL := Lib.hid h.1
  by_cases hg : Bks.validB xs t = true ∧ 1 ≤ size ∧ size ≤ 256
  · have HF := Lib.hid (show Bks.bestW xs t size = bestV (Bks.bestTo xs size xs.length) by rw [Bks.bestW, if_pos hg]; cases Bks.bestTo xs size xs.length <;> rfl)
    have hd : (decide ((1 : Int) ≤ size) && decide (size ≤ 256)) = true := by simpa using hg.2
    have HV := Lib.hid hg.1
    obtain ⟨_, s1, s2⟩ := hg
    go_enter Try.func24, Try.ntmps24
    go_wp2
    go_loopw [7, 8] (fun a i wr => ∃ k : Nat, k ≤ n ∧ i = .int .i64 k ∧ a = .int .i64 (bestV (Bks.bestTo xs size k)) ∧ Below w.heap.size w wr) (fun _ i _ => n - (intOf i).toNat)
    case atStart => exact ⟨0, Nat.zero_le _, rfl, rfl, Below.refl _ _⟩
    case round =>
      obtain ⟨k, hk, rfl, rfl, hb⟩ := hrel
      by_cases hlt : k < n
      · have hsp := (Bks.bestTo_spec xs size k (by rw [HL.out]; exact hk)).2
        obtain ⟨B, hB⟩ : ∃ B, Bks.bestTo xs size k = B := ⟨_, rfl⟩
        rw [hB] at hsp ⊢
        have HB := Lib.hid hB
        have HSP := Lib.hid hsp
        clear hB hsp
        obtain ⟨bv, hbv⟩ : ∃ bv, bestV B = bv := ⟨_, rfl⟩
        rw [hbv]
        have HBV := Lib.hid hbv
        clear hbv
        go_wp2_with fail
        refine (mBlocksValid_any _ _ _ xs _ _ (h.up hb) hn).mono ?_
        rw [HV.out]
        rintro e w1 ⟨rfl, b1⟩
        have bb1 := hb.trans (b1.mono hb.size)
        obtain ⟨g, o, x, rfl, hgb, hx, ⟨i1, i2⟩, ⟨i3, i4⟩, c1, c2, c3⟩ := (h.below bb1).at_ hlt
        have HX := Lib.hid hx
        have hlt' : (k : Int) < n := by omega
        clear hx c1
        cases hu : x.u
        · rw [hu] at c3
          have HU := Lib.hid hu
          clear hu
          by_cases hz : size ≤ x.z
          · have HFT := Lib.hid (show Bks.fits size x = true by rw [Bks.fits_iff]; exact ⟨HU.out, hz⟩)
            cases B with
            | none =>
              obtain rfl : bv = -1 := HBV.out.symm
              have HN := Lib.hid (bestTo_first HX.out HFT.out HB.out)
              go_wp2_with (first | (go_at_call 45; refine (l1In_any _ _ _ _).mono ?_; rw [hd]; rintro e w' ⟨rfl, rfl⟩) | fail)
              go_quiet (fail)
              go_wp2
              go_roundw
              case rel => exact ⟨k + 1, by omega, by go_num, by rw [HN.out]; rfl, below_drewN bb1 _⟩
              case measure => simp [intOf]; omega
            | some b =>
              obtain rfl : bv = (b : Int) := HBV.out.symm
              obtain ⟨hbk, y, hy, _, _⟩ := HSP.out b rfl
              obtain ⟨g', o', y', e', _, hy', _, _, _, d2, _⟩ := (h.below bb1).at_ (k := b) (by omega)
              obtain rfl : y' = y := Option.some.inj (hy'.symm.trans hy)
              injection e' with e'
              injection e' with e1 e2
              subst e1 e2
              have hb1 : (b : Int) < n := by omega
              have hb2 : decide ((b : Int) < 0) = false := decide_eq_false (by omega)
              have HY := Lib.hid hy
              clear hy hy'
              by_cases hl : x.z < y'.z
              · have HN := Lib.hid (bestTo_less HX.out HFT.out HB.out HY.out hl)
                go_wp2_with (first | (go_at_call 45; refine (l1In_any _ _ _ _).mono ?_; rw [hd]; rintro e w' ⟨rfl, rfl⟩) | fail)
                go_quiet (fail)
                go_wp2
                go_roundw
                case rel => exact ⟨k + 1, by omega, by go_num, by rw [HN.out]; rfl, below_drewN bb1 _⟩
                case measure => simp [intOf]; omega
              · have HN := Lib.hid (bestTo_more (size := size) HX.out HB.out HY.out hl)
                have hl' : decide (x.z < y'.z) = false := decide_eq_false hl
                go_wp2_with (first | (go_at_call 45; refine (l1In_any _ _ _ _).mono ?_; rw [hd]; rintro e w' ⟨rfl, rfl⟩) | fail)
                go_quiet (fail)
                go_wp2
                go_roundw
                case rel => exact ⟨k + 1, by omega, by go_num, by rw [HN.out]; rfl, below_drewN bb1 _⟩
                case measure => simp [intOf]; omega
          · have HFT := Lib.hid (show Bks.fits size x = false by
              cases hf : Bks.fits size x
              · rfl
              · rw [Bks.fits_iff] at hf
                exact absurd hf.2 hz)
            have HN := Lib.hid (bestTo_none HX.out HFT.out)
            have hz' : decide (size ≤ x.z) = false := decide_eq_false hz
            clear hz
            go_wp2_with (first | (go_at_call 45; refine (l1In_any _ _ _ _).mono ?_; rw [hd]; rintro e w' ⟨rfl, rfl⟩) | fail)
            go_quiet (fail)
            go_wp2
            go_roundw
            case rel => exact ⟨k + 1, by omega, by go_num, by rw [HN.out, HB.out, HBV.out], below_drewN bb1 _⟩
            case measure => simp [intOf]; omega
        · rw [hu] at c3
          have HFT := Lib.hid (show Bks.fits size x = false by
              cases hf : Bks.fits size x
              · rfl
              · rw [Bks.fits_iff, hu] at hf
                cases hf.1)
          have HN := Lib.hid (bestTo_none HX.out HFT.out)
          clear hu
          go_wp2_with (first | (go_at_call 45; refine (l1In_any _ _ _ _).mono ?_; rw [hd]; rintro e w' ⟨rfl, rfl⟩) | fail)
          go_quiet (fail)
          go_wp2
          go_roundw
          case rel => exact ⟨k + 1, by omega, by go_num, by rw [HN.out, HB.out, HBV.out], below_drewN bb1 _⟩
          case measure => simp [intOf]; omega
      · have HK := Lib.hid (show k = n by omega)
        go_wp2_with fail
        go_ret
        refine ⟨?_, hb⟩
        rw [HF.out, HL.out, HK.out]
        rfl
  · have HF := Lib.hid (Bks.bestW_not hg)
    have hbad : Bks.validB xs t = false ∨ (decide ((1 : Int) ≤ size) && decide (size ≤ 256)) = false := by
      cases hv : Bks.validB xs t
      · exact .inl rfl
      · right
        have : ¬ (1 ≤ size ∧ size ≤ 256) := fun hh => hg ⟨hv, hh⟩
        simpa using this
    go_enter Try.func24, Try.ntmps24
    go_wp2
    go_loopw [7, 8] (fun a i wr => a = .int .i64 (-1) ∧ i = .int .i64 0 ∧ wr = w) (fun _ _ _ => 0)
    case atStart => exact ⟨rfl, rfl, rfl⟩
    case round =>
      obtain ⟨rfl, rfl, rfl⟩ := hrel
      by_cases h0 : 0 < n
      · go_wp2_with fail
        refine (mBlocksValid_any _ _ _ xs _ _ h hn).mono ?_
        rintro e w1 ⟨rfl, b1⟩
        cases hv : Bks.validB xs t
        · go_wp2_with fail
          go_ret
          exact ⟨by rw [HF.out]; rfl, b1⟩
        · have hd := hbad.resolve_left (by rw [hv]; simp)
          clear hbad
          go_wp2_with (go_at_call 45; refine (l1In_any _ _ _ _).mono ?_; rw [hd]; rintro e w' ⟨rfl, rfl⟩)
          go_ret
          exact ⟨by rw [HF.out]; rfl, b1⟩
      · go_wp2_with fail
        go_ret
        exact ⟨by rw [HF.out]; rfl, Below.refl _ _⟩
end Go.Proofs.Ytfffilgghogiaaa
