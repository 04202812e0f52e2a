/- What the program's freeCells does to a heap in a box, and what freeList, place and limitValid return: in every memory in which the table of math/bits lies as laid. -/
import Derived.Test.YthmddmddcdofaaaUm
import Derived.Test.YthmddmddcdofaaaMw
import Derived.Deep.Cut
namespace Go.Proofs.Ythmddmddcdofaaa
open Go.RowKit
set_option maxRecDepth 100000

theorem take_snocZ {xs : List Int} {j : Nat} {y : Int} (h : xs[j]? = some y) : xs.take (j + 1) = xs.take j ++ [y] := by
  rw [List.take_add_one, h]
  rfl
set_option maxHeartbeats 1000000 in
theorem freeList_any (A : Option Addr) (n c : Nat) (cs : List Cl) (w : World) (h : CS w w.heap.size A n cs) (hn : n ≤ 64) :
    Calls Try.prog 35 #[.slice A n c] w (GaveI w (Hps.gapsL cs)) := by
  have hlc := h.1
  have HF := Lib.hid (show Hps.gapsL cs = Hps.gapsTo cs n by rw [Hps.gapsL, hlc])
  have o0 : OwnI w w.heap.size (.slice none 0 0) [] := World.ownsRow_nil _ _ _ _
  have HO0 := Lib.hid o0
  clear o0
  go_enter Try.func35, Try.ntmps35
  go_wp2_with fail
  go_loopw [3, 8] (fun v i wr => ∃ k : Nat, k ≤ n ∧ i = .int .i64 k ∧ OwnI wr w.heap.size v (Hps.gapsTo cs k) ∧ Below w.heap.size w wr) (fun _ i _ => n - (intOf i).toNat)
  case atStart => exact ⟨0, Nat.zero_le _, rfl, HO0.out, Below.refl _ _⟩
  case round =>
    obtain ⟨k, hk, rfl, ow, bb⟩ := hrel
    by_cases hlt : k < n
    · obtain ⟨g, o, cl, A', m', cc, rfl, hg, hcl, d1, d2, d3, hmc, hi⟩ := (h.below bb).at_ hlt
      have hlt' : (k : Int) < n := by omega
      have hU : Hps.usedAt cs k = cl.u := by rw [Hps.usedAt, hcl]
      have hyn : (Hps.gapsTo cs k).length + 1 ≤ 1099511627776 := by have := Hps.gapsTo_len cs k; omega
      clear hcl
      cases hu : cl.u
      · rw [hu] at d1 hU
        have HY := Lib.hid (show Hps.gapsTo cs (k + 1) = Hps.gapsTo cs k ++ [(k : Int)] by rw [Hps.gapsTo, hU, if_neg (by decide)])
        have bW := bb.alloc bb.size (.cells #[.bool false, .int .i64 cl.d, .slice A' m' cc] 31)
        have ow1 := World.ownsRow.alloc (World.ownsRow.alloc ow (.cells #[.bool false, .int .i64 cl.d, .slice A' m' cc] 31)) (.cells #[.int .i64 k] 3)
        have bW2 := bW.alloc bW.size (.cells #[.int .i64 k] 3)
        have r1 : IS ((wr.alloc (.cells #[.bool false, .int .i64 cl.d, .slice A' m' cc] 31)).alloc (.cells #[.int .i64 k] 3)) ((wr.alloc (.cells #[.bool false, .int .i64 cl.d, .slice A' m' cc] 31)).alloc (.cells #[.int .i64 k] 3)).heap.size (some ⟨(wr.alloc (.cells #[.bool false, .int .i64 cl.d, .slice A' m' cc] 31)).heap.size, 0, none⟩) 1 [(k : Int)] := (own_oneI _ _ 0 (Nat.zero_le _)).reads
        simp only [World.size_alloc] at r1
        have hba := bW2.size
        clear hu hU
        go_wp2_with (at_builtin; refine wpList_appendI rfl (.tmp 16) (.tmp 18) rfl w.heap.size _ (Hps.gapsTo cs k) rfl ow1 (some ⟨wr.heap.size + 1, 0, none⟩) 1 1 _ [(k : Int)] rfl r1 hyn hba ?_; intro v5 w5 o5 g5 s5)
        have b5 : Below w.heap.size w w5 := bW2.grown g5 bW2.size (fun kk hkk => (World.ownsRow.lt ow1 kk hkk).1)
        go_roundw
        case rel => exact ⟨k + 1, by omega, by go_num, by rw [HY.out]; exact o5, b5⟩
        case measure => simp [intOf]; omega
      · rw [hu] at d1 hU
        have HY := Lib.hid (show Hps.gapsTo cs (k + 1) = Hps.gapsTo cs k by rw [Hps.gapsTo, if_pos hU, List.append_nil])
        have bW := bb.alloc bb.size (.cells #[.bool true, .int .i64 cl.d, .slice A' m' cc] 31)
        have ow1 := World.ownsRow.alloc ow (.cells #[.bool true, .int .i64 cl.d, .slice A' m' cc] 31)
        clear hu hU
        go_wp2_with fail
        go_roundw
        case rel => exact ⟨k + 1, by omega, by go_num, by rw [HY.out]; exact ow1, bW⟩
        case measure => simp [intOf]; omega
    · obtain rfl : k = n := by omega
      go_wp2_with fail
      go_ret
      exact ⟨_, rfl, by rw [HF.out]; exact ow, bb⟩

end Go.Proofs.Ythmddmddcdofaaa
