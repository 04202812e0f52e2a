/- What wordsValid, l1In and the two BlocksValid return: for every slice of blocks and every total. -/
import Derived.Test.YtkdoolilggkjpaaMem
namespace Go.Proofs.Ytkdoolilggkjpaa
open Go.RowKit

theorem ret_bool {a b : Bool} (h : a = b) : Ending.returned (.bool a) = .returned (.bool b) := by rw [h]

theorem wordsValid_any (t : Int) (w : World) : Calls Try.prog 79 #[.int .i64 t] w fun e w' => e = .returned (.bool (decide (1 ≤ t) && decide (t ≤ 256))) ∧ w = w' := by
  go_enter Try.func79, Try.ntmps79
  go_wp2
  · go_ret
    exact ⟨ret_bool (by simp [*]), rfl⟩
  · go_ret
    exact ⟨ret_bool (by simp; omega), rfl⟩

set_option maxHeartbeats 1000000 in
theorem blocksValid_any (A : Option Addr) (n c : Nat) (xs : List Bl) (t : Int) (w : World) (h : BS w w.heap.size A n xs) (hn : n ≤ 1099511627776) :
    Calls Try.prog 68 #[.slice A n c, .int .i64 t] w fun e w' => e = .returned (.bool (Bks.validB xs t)) ∧ Below w.heap.size w w' := by
  have hlen := h.1
  by_cases ht : 1 ≤ t ∧ t ≤ 256
  · obtain ⟨h1, h2⟩ := ht
    have HL := Lib.hid hlen
    clear hlen
    go_enter Try.func68, Try.ntmps68
    go_wp2_with (go_at_call 79; refine (wordsValid_any _ _).mono ?_; rintro e w' ⟨rfl, rfl⟩)
    go_loopw [5, 13] (fun a i wr => ∃ k : Nat, k ≤ n ∧ i = .int .i64 k ∧ a = .int .i64 (Bks.offs xs k) ∧ Bks.okTo xs k ∧ Bks.offs xs k ≤ t ∧ Below w.heap.size w wr) (fun _ i _ => n - (intOf i).toNat)
    case atStart => exact ⟨0, Nat.zero_le _, rfl, rfl, Bks.okTo_zero _, by rw [Bks.offs_zero]; omega, Below.refl _ _⟩
    case round =>
      obtain ⟨k, hk, rfl, rfl, hok, hle, hb⟩ := hrel
      have hr := Bks.offs_range hok (by rw [HL.out]; exact hk)
      by_cases hlt : k < n
      · obtain ⟨g, o, x, rfl, hg, hx, ⟨i1, i2⟩, ⟨i3, i4⟩, c1, c2, c3⟩ := (h.below hb).at_ hlt
        obtain ⟨y, hy⟩ := (h.below hb).prev hlt
        have hgr : g < wr.heap.size := Nat.lt_of_lt_of_le hg hb.size
        have cp : 0 < k → wr.cell? ⟨g, o + (k - 1) * 3 + 2, none⟩ = some (.bool y.u) := fun h0 => (hy h0).2
        have HF := Lib.hid (Bks.round_false (t := t) (by rw [HL.out]; exact hlt) hx (fun h0 => (hy h0).1))
        have HT := Lib.hid (fun hh => Bks.round_true (t := t) hx (fun h0 => (hy h0).1) h2 (by omega) hh)
        have HO := Lib.hid (Bks.offs_succ xs k x hx)
        clear hx hy
        go_wp2
        all_goals first
          | (go_ret; exact ⟨ret_bool (HF.out (by rintro ⟨a1, a2, a3, a4⟩; first | contradiction | omega | (rcases a4 with a4 | a4 | a4 <;> simp_all))).symm, hb.alloc hb.size _⟩)
          | (go_roundw
             case rel => exact ⟨k + 1, by omega, by go_num, by rw [HO.out], Bks.okTo_succ hok (HT.out ⟨by assumption, by omega, by omega, by first | (left; omega) | (right; left; assumption) | (right; right; simp_all)⟩), by rw [HO.out]; omega, hb.alloc hb.size _⟩
             case measure => simp [intOf]; omega)
      · have hkn : k = n := by omega
        have HK := Lib.hid hkn
        clear hkn
        go_wp2
        go_ret
        refine ⟨ret_bool ?_, hb⟩
        have e := HK.out
        have e2 := HL.out
        subst e
        rw [← e2] at hok ⊢
        exact (Bks.valid_of_all hok h1 h2).symm
  · have hf : (decide (1 ≤ t) && decide (t ≤ 256)) = false := by simpa using ht
    have Hv := Lib.hid (Bks.invalid_of_total (xs := xs) ht)
    clear ht
    go_enter Try.func68, Try.ntmps68
    go_wp2_with (go_at_call 79; refine (wordsValid_any _ _).mono ?_; rintro e w' ⟨rfl, rfl⟩)
    go_ret
    exact ⟨ret_bool Hv.out.symm, Below.refl _ _⟩

theorem l1In_any (n lo hi : Int) (w : World) : Calls Try.prog 45 #[.int .i64 n, .int .i64 lo, .int .i64 hi] w fun e w' => e = .returned (.bool (decide (lo ≤ n) && decide (n ≤ hi))) ∧ w = w' := by
  go_enter Try.func45, Try.ntmps45
  go_wp2
  · go_ret
    exact ⟨ret_bool (by simp [*]), rfl⟩
  · go_ret
    exact ⟨ret_bool (by simp; omega), rfl⟩

end Go.Proofs.Ytkdoolilggkjpaa
