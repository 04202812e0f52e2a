/- What FreeWords and LargestFree return, the program's and the model's: for every slice of blocks and every total. -/
import Derived.Test.YtkdoolilggkjpaaWc
namespace Go.Proofs.Ytkdoolilggkjpaa
open Go.RowKit

set_option maxHeartbeats 1000000 in
theorem freeWords_any (A : Option Addr) (n c : Nat) (xs : List Bl) (t : Int) (w : World) (h : BS w w.heap.size A n xs) (hn : n ≤ 1099511627776) :
    Calls Try.prog 47 #[.slice A n c, .int .i64 t] w fun e w' => e = .returned (.int .i64 (Bks.freeW xs t)) ∧ Below w.heap.size w w' := by
  cases hv : Bks.validB xs t
  · have HR := Lib.hid (show Bks.freeW xs t = -1 by simp [Bks.freeW, hv])
    have HV := Lib.hid hv
    clear hv
    go_enter Try.func47, Try.ntmps47
    go_wp2_with fail
    refine (blocksValid_any _ _ _ xs _ _ h hn).mono ?_
    rw [HV.out]
    rintro e w1 ⟨rfl, b1⟩
    go_wp2_with fail
    go_ret
    exact ⟨by rw [HR.out]; rfl, b1⟩
  · have HR := Lib.hid (show Bks.freeW xs t = Bks.freeTo xs xs.length by simp [Bks.freeW, hv])
    have HV := Lib.hid hv
    have hlen := h.1
    clear hv
    subst hlen
    go_enter Try.func47, Try.ntmps47
    go_wp2_with fail
    refine (blocksValid_any _ _ _ xs _ _ h hn).mono ?_
    rw [HV.out]
    rintro e w1 ⟨rfl, b1⟩
    go_wp2_with fail
    go_loopw [5, 14] (fun a i wr => ∃ k : Nat, k ≤ xs.length ∧ i = .int .i64 k ∧ a = .int .i64 (Bks.freeTo xs k) ∧ Below w.heap.size w wr) (fun _ i _ => xs.length - (intOf i).toNat)
    case atStart => exact ⟨0, Nat.zero_le _, rfl, rfl, b1⟩
    case round =>
      obtain ⟨k, hk, rfl, rfl, hb⟩ := hrel
      obtain ⟨f0, f1, f3, f4, f2⟩ := Bks.free_range HV.out k hk
      by_cases hlt : k < xs.length
      · obtain ⟨g, o, x, rfl, hg, hx, ⟨i1, i2⟩, ⟨i3, i4⟩, c1, c2, c3⟩ := (h.below hb).at_ hlt
        obtain ⟨_, z1, z2, _⟩ := Bks.valid_at HV.out hx
        have HO := Lib.hid (Bks.freeTo_succ xs k x hx)
        clear hx
        cases hu : x.u
        all_goals
          rw [hu] at c3
          have HU := Lib.hid hu
          clear hu
          go_wp2
          go_roundw
          case rel => exact ⟨k + 1, by omega, by go_num, by rw [HO.out, HU.out]; simp <;> (split <;> omega), hb.alloc hb.size _⟩
          case measure => simp [intOf]; omega
      · have hkn : k = xs.length := by omega
        have HK := Lib.hid hkn
        clear hkn
        go_wp2
        go_ret
        exact ⟨by rw [HR.out, ← HK.out]; rfl, hb⟩

end Go.Proofs.Ytkdoolilggkjpaa
