/- What the model's CountedValid, l10Place and LeakedCells return: for every heap. No conditions. -/
import Derived.Test.YtijgfpcpkmpdpaaCb
import Derived.Test.YtijgfpcpkmpdpaaHf
import Derived.Test.YtijgfpcpkmpdpaaGw
namespace Go.Proofs.Ytijgfpcpkmpdpaa
open Go.RowKit
set_option maxRecDepth 100000

namespace Hps
theorem okCt_eq (h : Hp) (l : List Int) : okCt h l = (validH h && decide (countsH h = l)) := by
  rw [Bool.eq_iff_iff, okCt_iff, Bool.and_eq_true, decide_eq_true_iff]
  constructor
  · rintro ⟨h1, rfl⟩
    exact ⟨h1, by rw [countsH, if_pos h1]⟩
  · rintro ⟨h1, h2⟩
    rw [countsH, if_pos h1] at h2
    exact ⟨h1, h2.symm⟩
theorem countsH_len (h : Hp) : (countsH h).length ≤ h.cs.length := by
  unfold countsH
  split
  · simp [countsL]
  · simp
theorem gap_at {h : Hp} {k : Nat} (hk : k < h.cs.length) (hu : usedAt h.cs k = false) (hb : ∀ j, j < k → usedAt h.cs j = true) : gapH h = k := by
  rcases gapH_cases h with ⟨e1, e2⟩ | ⟨e1, e2, e3⟩
  · have := e2 k hk
    rw [hu] at this
    cases this
  · rcases Nat.lt_trichotomy (gapH h) k with q | q | q
    · have := hb _ q
      rw [e2] at this
      cases this
    · exact q
    · have := e3 k q
      rw [hu] at this
      cases this
theorem gap_end {h : Hp} (hb : ∀ j, j < h.cs.length → usedAt h.cs j = true) : gapH h = h.cs.length := by
  rcases gapH_cases h with ⟨e1, _⟩ | ⟨e1, e2, _⟩
  · exact e1
  · have := hb _ e1
    rw [e2] at this
    cases this
theorem usedAt_of {cs : List Cl} {k : Nat} {c : Cl} (hc : cs[k]? = some c) : usedAt cs k = c.u := by rw [usedAt, hc]
end Hps

set_option maxHeartbeats 4000000 in
theorem mCountedValid_any (A R K : Option Addr) (n c m d p q : Nat) (h : Hp) (l : List Int) (w : World) (hs : HS w w.heap.size A n R m h) (hk : IS w w.heap.size K p l) (hn : n ≤ 1099511627776) (hm : m ≤ 1099511627776) (hp : p ≤ 1099511627776) :
    Calls Try.prog 38 #[ctV A n c R m d K p q] w fun e w' => e = .returned (.bool (Hps.okCt h l)) ∧ Below w.heap.size w w' := by
  have b0 : Below w.heap.size w (w.alloc (.cells #[.slice A n c, .slice R m d, .slice K p q] 50)) := (Below.refl _ _).alloc (Nat.le_refl _) _
  have r0 := hs.up b0
  have k0 := hk.up b0
  have q0 := Rw.new w 50 #[.slice A n c, .slice R m d, .slice K p q]
  have hlc := hs.cells.1
  go_enter Try.func38, Try.ntmps38
  go_wp2_with fail
  refine (mRefCounts_any _ _ _ _ _ _ h _ r0 hn hm).mono ?_
  rintro e w1 ⟨v1, rfl, o1, b1⟩
  have bb1 := b0.trans (b1.mono b0.size)
  have r1 := r0.up b1
  have k1 := k0.up b1
  have q1 := q0.keep b1 q0.lt
  have x0 : w1.cell? ⟨w.heap.size, 0, none⟩ = some (.slice A n c) := q1.cell 0
  have x1 : w1.cell? ⟨w.heap.size, 1, none⟩ = some (.slice R m d) := q1.cell 1
  have x2 : w1.cell? ⟨w.heap.size, 2, none⟩ = some (.slice K p q) := q1.cell 2
  obtain ⟨A1, c1, rfl, -⟩ := o1.form
  have hle := Hps.countsH_len h
  have R1 := o1.reads
  have HE := Lib.hid (Hps.okCt_eq h l)
  obtain ⟨xs, hxs⟩ : ∃ xs, Hps.countsH h = xs := ⟨_, rfl⟩
  rw [hxs] at R1 HE hle ⊢
  have HX := Lib.hid hxs
  obtain ⟨f, hf⟩ : ∃ f, xs.length = f := ⟨_, rfl⟩
  rw [hf] at R1 hle ⊢
  have HF := Lib.hid hf
  have HP := Lib.hid hk.1
  clear hxs hf o1 b1 r0 k0 q0 b0
  by_cases hfp : f = p
  · subst hfp
    have hne : ((f : Int) != f) = false := by simp
    go_wp2_with fail
    go_loopw [4] (fun i wr => ∃ k : Nat, k ≤ f ∧ i = .int .i64 k ∧ Hid (xs.take k = l.take k) ∧ Below w1.heap.size w1 wr) (fun i _ => f - (intOf i).toNat)
    case atStart => exact ⟨0, Nat.zero_le _, rfl, by simp [Hid], Below.refl _ _⟩
    case round =>
      obtain ⟨k, hkf, rfl, hpre, hb⟩ := hrel
      have bbk := bb1.trans (hb.mono bb1.size)
      have q2 := q1.keep hb q1.lt
      have x0 : wr.cell? ⟨w.heap.size, 0, none⟩ = some (.slice A n c) := q2.cell 0
      have x1 : wr.cell? ⟨w.heap.size, 1, none⟩ = some (.slice R m d) := q2.cell 1
      have x2 : wr.cell? ⟨w.heap.size, 2, none⟩ = some (.slice K f q) := q2.cell 2
      by_cases hlt : k < f
      · obtain ⟨g, o, x, rfl, hg, hx, c1'⟩ := (R1.below hb).at_ hlt
        obtain ⟨g', o', y, rfl, hg', hy, c2'⟩ := (k1.below hb).at_ hlt
        have HX2 := Lib.hid hx
        have HY := Lib.hid hy
        have hlt' : (k : Int) < f := by omega
        clear hx hy
        by_cases hxy : x = y
        · subst hxy
          clear bbk q2
          go_wp2_with fail
          go_big_quiet (fail)
          go_wp2
          go_roundw
          case rel => exact ⟨k + 1, by omega, by go_num, Lib.hid (take_eq_succI hpre.out HX2.out HY.out), below_drewN hb _⟩
          case measure => simp [intOf]; omega
        · have hne : (x == y) = false := by rw [beq_eq_false_iff_ne]; exact hxy
          have hne2 : (x != y) = true := by rw [bne_iff_ne]; exact hxy
          have HR := Lib.hid (show Hps.okCt h l = false by
            rw [HE.out, decide_eq_false (show ¬ xs = l from Hps.take_ne HX2.out HY.out hxy), Bool.and_false])
          clear hxy q2
          go_wp2_with fail
          go_big_quiet (fail)
          go_wp2
          go_ret
          exact ⟨by rw [HR.out]; rfl, below_drewN bbk _⟩
      · have hkn : k = f := by omega
        have HR := Lib.hid (show Hps.okCt h l = Hps.validH h by
          have : xs = l := by
            have := hpre.out
            rwa [List.take_of_length_le (by rw [HF.out]; omega), List.take_of_length_le (by rw [HP.out]; omega)] at this
          rw [HE.out, decide_eq_true this, Bool.and_true])
        subst hkn
        clear hpre
        have rr := r1.up hb
        clear q2
        go_wp2_with fail
        refine (mHeapValid_any _ _ _ _ _ _ h _ rr hn hm).mono ?_
        rw [← HR.out]
        rintro e w5 ⟨rfl, b5⟩
        have bb5 := bbk.trans (b5.mono bbk.size)
        go_wp2_with fail
        go_ret
        exact ⟨rfl, bb5⟩
  · have hne : ((f : Int) != p) = true := by rw [bne_iff_ne]; omega
    have HR := Lib.hid (show Hps.okCt h l = false by
      rw [HE.out, decide_eq_false (show ¬ xs = l from fun e => hfp (by rw [← HF.out, e]; exact HP.out)), Bool.and_false])
    go_wp2_with fail
    go_ret
    exact ⟨by rw [HR.out]; rfl, bb1⟩

set_option maxHeartbeats 4000000 in
theorem mPlace_any (A R : Option Addr) (n c m d : Nat) (h : Hp) (w : World) (hs : HS w w.heap.size A n R m h) (hn : n ≤ 1099511627776) :
    Calls Try.prog 124 #[heapV A n c R m d] w fun e w' => e = .returned (.int .i64 (Hps.gapH h)) ∧ Below w.heap.size w w' := by
  have b0 : Below w.heap.size w (w.alloc (.cells #[.slice A n c, .slice R m d] 26)) := (Below.refl _ _).alloc (Nat.le_refl _) _
  have r0 := hs.up b0
  have q0 := Rw.new w 26 #[.slice A n c, .slice R m d]
  have hlc := hs.cells.1
  have HLC := Lib.hid hlc
  clear hlc
  go_enter Try.func124, Try.ntmps124
  go_wp2_with fail
  generalize w.alloc (.cells #[.slice A n c, .slice R m d] 26) = w0 at b0 r0 q0 ⊢
  go_loopw [3] (fun i wr => ∃ k : Nat, k ≤ n ∧ i = .int .i64 k ∧ Hid (∀ j, j < k → Hps.usedAt h.cs j = true) ∧ wr = w0) (fun i _ => n - (intOf i).toNat)
  case atStart => exact ⟨0, Nat.zero_le _, rfl, Lib.hid (fun j hj => by omega), rfl⟩
  case round =>
    obtain ⟨k, hk, rfl, hpre, rfl⟩ := hrel
    have x0 : wr.cell? ⟨w.heap.size, 0, none⟩ = some (.slice A n c) := q0.cell 0
    by_cases hlt : k < n
    · obtain ⟨g, o, cl, A', m', cc, e1, hg, hcl, d1, _, _, _, _⟩ := (hs.cells.below b0).at_ hlt
      subst e1
      have hlt' : (k : Int) < n := by omega
      have HU := Lib.hid (Hps.usedAt_of hcl)
      have HC := Lib.hid hcl
      clear hcl
      cases hu : cl.u <;> rw [hu] at d1 HU
      · have HG := Lib.hid (Hps.gap_at (h := h) (k := k) (by rw [HLC.out]; exact hlt) HU.out hpre.out)
        clear hu
        go_wp2_with fail
        go_ret
        exact ⟨by rw [HG.out]; rfl, b0⟩
      · clear hu
        go_wp2_with fail
        go_roundw
        case rel => exact ⟨k + 1, by omega, by go_num, Lib.hid (fun j hj => by
          rcases Nat.lt_or_ge j k with h1 | h1
          · exact hpre.out j h1
          · obtain rfl : j = k := by omega
            exact HU.out), trivial⟩
        case measure => simp [intOf]; omega
    · obtain rfl : k = n := by omega
      have HG := Lib.hid (show Hps.gapH h = k by rw [← HLC.out]; exact Hps.gap_end (by rw [HLC.out]; exact hpre.out))
      go_wp2_with fail
      go_ret
      exact ⟨by rw [HG.out]; rfl, b0⟩

end Go.Proofs.Ytijgfpcpkmpdpaa
