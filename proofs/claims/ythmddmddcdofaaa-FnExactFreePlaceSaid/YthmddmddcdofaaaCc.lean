/- What the model's CountedValid, l10Place and LeakedCells return: for every heap. No conditions. -/
import Derived.Test.YthmddmddcdofaaaCb
import Derived.Test.YthmddmddcdofaaaHf
import Derived.Test.YthmddmddcdofaaaGw
namespace Go.Proofs.Ythmddmddcdofaaa
open Go.RowKit
set_option maxRecDepth 100000

namespace Hps
theorem okCt_eq (h : Hp) (l : List Int) : okCt h l = (validH h && decide (countsH h = l)) := by
  rw [Bool.eq_iff_iff, okCt_iff, Bool.and_eq_true, decide_eq_true_iff]
  constructor
  · rintro ⟨h1, rfl⟩
    exact ⟨h1, by rw [countsH, if_pos h1]⟩
  · rintro ⟨h1, h2⟩
    rw [countsH, if_pos h1] at h2
    exact ⟨h1, h2.symm⟩
theorem countsH_len (h : Hp) : (countsH h).length ≤ h.cs.length := by
  unfold countsH
  split
  · simp [countsL]
  · simp
theorem gap_at {h : Hp} {k : Nat} (hk : k < h.cs.length) (hu : usedAt h.cs k = false) (hb : ∀ j, j < k → usedAt h.cs j = true) : gapH h = k := by
  rcases gapH_cases h with ⟨e1, e2⟩ | ⟨e1, e2, e3⟩
  · have := e2 k hk
    rw [hu] at this
    cases this
  · rcases Nat.lt_trichotomy (gapH h) k with q | q | q
    · have := hb _ q
      rw [e2] at this
      cases this
    · exact q
    · have := e3 k q
      rw [hu] at this
      cases this
theorem gap_end {h : Hp} (hb : ∀ j, j < h.cs.length → usedAt h.cs j = true) : gapH h = h.cs.length := by
  rcases gapH_cases h with ⟨e1, _⟩ | ⟨e1, e2, _⟩
  · exact e1
  · have := hb _ e1
    rw [e2] at this
    cases this
theorem usedAt_of {cs : List Cl} {k : Nat} {c : Cl} (hc : cs[k]? = some c) : usedAt cs k = c.u := by rw [usedAt, hc]
end Hps

set_option maxHeartbeats 4000000 in
theorem mPlace_any (A R : Option Addr) (n c m d : Nat) (h : Hp) (w : World) (hs : HS w w.heap.size A n R m h) (hn : n ≤ 1099511627776) :
    Calls Try.prog 18 #[heapV A n c R m d] w fun e w' => e = .returned (.int .i64 (Hps.gapH h)) ∧ Below w.heap.size w w' := by
  have b0 : Below w.heap.size w (w.alloc (.cells #[.slice A n c, .slice R m d] 26)) := (Below.refl _ _).alloc (Nat.le_refl _) _
  have r0 := hs.up b0
  have q0 := Rw.new w 26 #[.slice A n c, .slice R m d]
  have hlc := hs.cells.1
  have HLC := Lib.hid hlc
  clear hlc
  go_enter Try.func18, Try.ntmps18
  go_wp2_with fail
  generalize w.alloc (.cells #[.slice A n c, .slice R m d] 26) = w0 at b0 r0 q0 ⊢
  go_loopw [3] (fun i wr => ∃ k : Nat, k ≤ n ∧ i = .int .i64 k ∧ Hid (∀ j, j < k → Hps.usedAt h.cs j = true) ∧ wr = w0) (fun i _ => n - (intOf i).toNat)
  case atStart => exact ⟨0, Nat.zero_le _, rfl, Lib.hid (fun j hj => by omega), rfl⟩
  case round =>
    obtain ⟨k, hk, rfl, hpre, rfl⟩ := hrel
    have x0 : wr.cell? ⟨w.heap.size, 0, none⟩ = some (.slice A n c) := q0.cell 0
    by_cases hlt : k < n
    · obtain ⟨g, o, cl, A', m', cc, e1, hg, hcl, d1, _, _, _, _⟩ := (hs.cells.below b0).at_ hlt
      subst e1
      have hlt' : (k : Int) < n := by omega
      have HU := Lib.hid (Hps.usedAt_of hcl)
      have HC := Lib.hid hcl
      clear hcl
      cases hu : cl.u <;> rw [hu] at d1 HU
      · have HG := Lib.hid (Hps.gap_at (h := h) (k := k) (by rw [HLC.out]; exact hlt) HU.out hpre.out)
        clear hu
        go_wp2_with fail
        go_ret
        exact ⟨by rw [HG.out]; rfl, b0⟩
      · clear hu
        go_wp2_with fail
        go_roundw
        case rel => exact ⟨k + 1, by omega, by go_num, Lib.hid (fun j hj => by
          rcases Nat.lt_or_ge j k with h1 | h1
          · exact hpre.out j h1
          · obtain rfl : j = k := by omega
            exact HU.out), trivial⟩
        case measure => simp [intOf]; omega
    · obtain rfl : k = n := by omega
      have HG := Lib.hid (show Hps.gapH h = k by rw [← HLC.out]; exact Hps.gap_end (by rw [HLC.out]; exact hpre.out))
      go_wp2_with fail
      go_ret
      exact ⟨by rw [HG.out]; rfl, b0⟩

end Go.Proofs.Ythmddmddcdofaaa
