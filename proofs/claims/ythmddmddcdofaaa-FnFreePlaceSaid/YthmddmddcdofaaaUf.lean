/- For every list of bytes the law FnFreePlace returns true (P64), over the program's contracts. No conditions. -/
import Derived.Test.YthmddmddcdofaaaUr
import Derived.Test.YthmddmddcdofaaaUb
import Derived.Test.YthmddmddcdofaaaUc
import Derived.Deep.Cut
namespace Go.Proofs.Ythmddmddcdofaaa
open Go.RowKit
set_option maxRecDepth 100000

set_option maxHeartbeats 8000000 in
theorem freePlaceLaw_walk (A0 : Option Addr) (n0 c0 : Nat) (w : World) (hby : Bytes w w.heap.size A0 n0) (hc0 : n0 ≤ c0) (hn0 : n0 ≤ 9223372036854775807) :
    Calls Try.prog 3 #[.slice A0 n0 c0] w fun e w' => e = .returned (.bool true) ∧ Below w.heap.size w w' := by
  by_cases hs : n0 ≤ 1048576
  case neg =>
    have hs' : (1048576 : Int) < (n0 : Int) := by omega
    go_enter Try.func3, Try.ntmps3
    go_wp2
    go_ret
    exact ⟨rfl, Below.refl _ _⟩
  have hs' : decide ((1048576 : Int) < (n0 : Int)) = false := by simp; omega
  go_enter Try.func3, Try.ntmps3
  go_wp2_with fail
  refine (drawFreePlace_any _ _ _ _ hby hc0 hn0).mono ?_
  rintro e w1 ⟨A, nn, c, R, m, d, h, rfl, hnc, hmd, hsr, hsm, b1⟩
  have hlc := hsr.cells.1
  have hlr := hsr.roots.1
  have hn41 : nn ≤ 41 := by have := hsm.1; omega
  have hm4 : m ≤ 4 := by have := hsm.2.1; omega
  have bA : Below w1.heap.size w1 (w1.alloc (.cells #[.slice A nn c, .slice R m d] 26)) := (Below.refl _ _).alloc (Nat.le_refl _) _
  have bx := Rw.new w1 26 #[.slice A nn c, .slice R m d]
  replace hsr := hsr.up bA
  have bb := b1.trans (bA.mono b1.size)
  have HLC := Lib.hid hlc
  clear bA b1 hsm hlc hlr hby
  go_upto_region 4 with fail
  generalize w1.alloc (.cells #[.slice A nn c, .slice R m d] 26) = w2 at bx hsr bb ⊢
  generalize w1.heap.size = b at bx ⊢
  obtain ⟨p, hp⟩ : ∃ p, Hps.placeF h = p := ⟨_, rfl⟩
  have HP := Lib.hid hp
  clear hp
  have x0 : w2.cell? ⟨b, 0, none⟩ = some (.slice A nn c) := bx.cell 0
  have x1 : w2.cell? ⟨b, 1, none⟩ = some (.slice R m d) := bx.cell 1
  go_wp2_with fail
  refine (freePlace_any _ _ _ _ _ _ h _ hsr (by omega) (by omega) hnc hmd).mono ?_
  rw [HP.out]
  rintro e w3 ⟨rfl, b3⟩
  replace bx := bx.keep b3 bx.lt
  replace hsr := hsr.up b3
  replace bb := bb.trans (b3.mono bb.size)
  clear x0 x1 b3
  have x0 : w3.cell? ⟨b, 0, none⟩ = some (.slice A nn c) := bx.cell 0
  have x1 : w3.cell? ⟨b, 1, none⟩ = some (.slice R m d) := bx.cell 1
  go_wp2_with fail
  refine (mFreePlace_any _ _ _ _ _ _ h _ hsr (by omega) (by omega)).mono ?_
  rw [HP.out]
  rintro e w4 ⟨rfl, b3⟩
  replace bx := bx.keep b3 bx.lt
  replace hsr := hsr.up b3
  replace bb := bb.trans (b3.mono bb.size)
  clear x0 x1 b3
  have hpp : (p != p) = false := by simp
  cases hv : Hps.validH h
  · obtain rfl : p = -1 := by rw [← HP.out, Hps.placeF_no hv]
    clear hv
    go_wp2_with fail
    refine (alive_any _).mono ?_
    rintro e w7 ⟨rfl, b7⟩
    have bb7 := bb.trans (b7.mono bb.size)
    go_wp2_with fail
    go_ret
    exact ⟨rfl, bb7⟩
  have hpg := HP.out
  rw [Hps.placeF_ok hv] at hpg
  obtain ⟨g, hg⟩ : ∃ g, Hps.gapH h = g := ⟨_, rfl⟩
  rw [hg] at hpg
  subst hpg
  have hgc := Hps.gapH_cases h
  rw [hg, HLC.out] at hgc
  have hgl : g ≤ nn := by rcases hgc with ⟨e, _⟩ | ⟨e, _⟩ <;> omega
  have HU := Lib.hid (show ∀ k, k < g → Hps.usedAt h.cs k = true by
    rcases hgc with ⟨e, f⟩ | ⟨_, _, f⟩
    · exact fun k hk => f k (by omega)
    · exact f)
  have HG := Lib.hid (show g = nn ∨ (g < nn ∧ Hps.usedAt h.cs g = false) by
    rcases hgc with ⟨e, _⟩ | ⟨e, f, _⟩
    · exact .inl e
    · exact .inr ⟨e, f⟩)
  have hg0 : ¬ (g : Int) < 0 := by omega
  clear hv hg hgc
  go_wp2_with fail
  go_loopw [5] (fun i wr => ∃ k : Nat, k ≤ g ∧ i = .int .i64 k ∧ wr = w4) (fun i _ => g - (intOf i).toNat)
  case atStart => exact ⟨0, Nat.zero_le _, rfl, rfl⟩
  case round =>
    obtain ⟨k, hk, rfl, rfl⟩ := hrel
    have x0 : wr.cell? ⟨b, 0, none⟩ = some (.slice A nn c) := bx.cell 0
    have x1 : wr.cell? ⟨b, 1, none⟩ = some (.slice R m d) := bx.cell 1
    by_cases hlt : k < g
    · obtain ⟨gc, oc, cl, A', m', cc, rfl, hgc, hcl, d1, d2, d3, hmc, hi⟩ := hsr.cells.at_ (k := k) (by omega)
      have hu := HU.out k hlt
      rw [Hps.usedAt, hcl] at hu
      have hu2 : cl.u = true := hu
      rw [hu2] at d1
      have hlt' : (k : Int) < g := by omega
      have hlt2 : (k : Int) < nn := by omega
      have hlt3 : k < nn := by omega
      clear hu hu2 hcl hmc hi d2 d3
      go_wp2_with fail
      go_roundw
      case rel => exact ⟨k + 1, by omega, by go_num, trivial⟩
      case measure => simp [intOf]; omega
    · obtain rfl : k = g := by omega
      by_cases hkn : k = nn
      · subst hkn
        go_wp2_with fail
        go_ret
        exact ⟨rfl, bb⟩
      · obtain ⟨hl, hf⟩ : k < nn ∧ Hps.usedAt h.cs k = false := by
          rcases HG.out with e | e
          · exact absurd e hkn
          · exact e
        obtain ⟨gc, oc, cl, A', m', cc, rfl, hgc, hcl, d1, d2, d3, hmc, hi⟩ := hsr.cells.at_ (k := k) hl
        rw [Hps.usedAt, hcl] at hf
        have hu2 : cl.u = false := hf
        rw [hu2] at d1
        have hl' : (k : Int) < nn := by omega
        have hne : ((k : Int) == (nn : Int)) = false := by rw [beq_eq_false_iff_ne]; omega
        clear hf hu2 hcl hmc hi d2 d3 hkn
        go_wp2_with fail
        go_ret
        exact ⟨rfl, bb⟩
end Go.Proofs.Ythmddmddcdofaaa
