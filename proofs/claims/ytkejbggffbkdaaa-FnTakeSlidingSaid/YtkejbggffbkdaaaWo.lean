/- What slices.Concat at blocks returns: for every row of slices of blocks. -/
import Derived.Test.YtkejbggffbkdaaaWn
namespace Go.Proofs.Ytkejbggffbkdaaa
open Go.RowKit

set_option maxHeartbeats 2000000 in
theorem concat_any (g m c : Nat) (ps : List Part) (w : World) (hm : ps.length = m) (h : Parts w w.heap.size g ps) (hg : g < w.heap.size) (hbig : (catP ps).length ≤ 1099511627776) (hmm : m ≤ 1048576) :
    Calls Try.prog 51 #[.slice (some ⟨g, 0, none⟩) m c] w (GaveB w (catP ps)) := by
  have HP := Lib.hid h
  have HM := Lib.hid hm
  have HB := Lib.hid hbig
  clear h hm hbig
  go_enter Try.func51, Try.ntmps51
  go_wp2
  go_loop [3, 11] (fun a i => ∃ k : Nat, k ≤ m ∧ i = .int .i64 k ∧ a = .int .i64 ((catP (ps.take k)).length : Nat)) (fun _ i => m - (intOf i).toNat)
  case atStart => exact ⟨0, Nat.zero_le _, rfl, rfl⟩
  case round =>
    obtain ⟨k, hk, rfl, rfl⟩ := hrel
    have hle := catP_le ps k
    have hb := HB.out
    by_cases hlt : k < m
    · obtain ⟨p, hp, hc, hbs⟩ := HP.out.at_ (k := k) (by rw [HM.out]; exact hlt)
      have hn := hbs.1
      have hs := catP_succ hp
      have hle2 := catP_le ps (k + 1)
      have HS := Lib.hid (show (catP (ps.take (k + 1))).length = (catP (ps.take k)).length + p.n by rw [hs, List.length_append, hn])
      have hpn : (catP (ps.take k)).length + p.n ≤ 1099511627776 := by have := HS.out; omega
      clear hs hle2 hn hp hbs hle hb
      generalize (catP (ps.take k)).length = L at *
      go_wp2
      go_round
      case rel => exact ⟨k + 1, by omega, by go_num, by rw [HS.out]; go_num⟩
      case measure => simp [intOf]; omega
    · have hkm : k = m := by omega
      have HK := Lib.hid hkm
      clear hkm
      have hL : (catP (ps.take k)).length ≤ 1099511627776 := by omega
      clear hle hb
      generalize (catP (ps.take k)).length = L at hL
      go_wp2_with fail
      refine (grow_nil L _ hL).mono ?_
      rintro e w1 ⟨v1, rfl, o1, b1⟩
      go_wp2_with fail
      go_loopw [6, 27] (fun v i wr => ∃ k : Nat, k ≤ m ∧ i = .int .i64 k ∧ OwnB wr w.heap.size v (catP (ps.take k)) ∧ Below w.heap.size w wr) (fun _ i _ => m - (intOf i).toNat)
      case atStart => exact ⟨0, Nat.zero_le _, rfl, o1, b1⟩
      case round =>
        obtain ⟨j, hj, rfl, hown, hb⟩ := hrel
        by_cases hlt2 : j < m
        · obtain ⟨p, hp, hc, hbs⟩ := HP.out.at_ (k := j) (by rw [HM.out]; exact hlt2)
          have hc' := (hb.cell (p := ⟨g, j, none⟩) hg).trans hc
          have hbs' := hbs.below hb
          have hs := catP_succ hp
          have hle2 := catP_le ps (j + 1)
          have HS := Lib.hid hs
          have hn := hbs.1
          have hpn : (catP (ps.take j)).length + p.n ≤ 1099511627776 := by rw [hs, List.length_append, hn] at hle2; have := HB.out; omega
          clear hs hle2 hn hp hbs hc
          go_wp2_with (at_builtin; refine wpList_appendB rfl (.tmp 31) (.tmp 32) rfl w.heap.size _ _ rfl hown p.a p.n p.c w.heap.size p.xs rfl hbs' hpn hb.size ?_; intro v2 w2 o2 g2 s2)
          go_roundw
          case rel => exact ⟨j + 1, by omega, by go_num, OwnB.cast HS.out.symm o2, hb.grown g2 hb.size (fun k hk => (World.ownsRow.lt hown k hk).1)⟩
          case measure => simp [intOf]; omega
        · go_wp2
          go_ret
          refine ⟨_, rfl, OwnB.cast ?_ hown, hb⟩
          rw [List.take_of_length_le (by rw [HM.out]; omega)]
end Go.Proofs.Ytkejbggffbkdaaa
