/- The exact law of BlocksValid returns true: for every slice of blocks and every total. -/
import Derived.Test.YtafnhapaaiokaaaWb
namespace Go.Proofs.Ytafnhapaaiokaaa
open Go.RowKit

theorem MadeBS.reads {w w' : World} {xs : List Bl} {e : Ending} (h : MadeBS w xs e w') (hi : ∀ (k : Nat) (x : Bl), xs[k]? = some x → I64 x.s ∧ I64 x.z) :
    e = .returned (.slice (some ⟨w.heap.size, 0, none⟩) xs.length xs.length) ∧ BS w' w'.heap.size (some ⟨w.heap.size, 0, none⟩) xs.length xs ∧ Below w.heap.size w w' := by
  obtain ⟨cs, he, hr, hc, hs, hb⟩ := h
  exact ⟨he, BS.of_row hr hc hr.lt hi, hb⟩

theorem BS.up {w w' : World} {n : Nat} {A : Option Addr} {xs : List Bl} (h : BS w w.heap.size A n xs) (hb : Below w.heap.size w w') : BS w' w'.heap.size A n xs := (h.below hb).more hb.size

set_option maxHeartbeats 1000000 in
theorem exactBlocksValid_walk (A : Option Addr) (n c : Nat) (xs : List Bl) (t : Int) (w : World) (h : BS w w.heap.size A n xs) (hn : n ≤ 9223372036854775807) :
    Calls Try.prog 7 #[.slice A n c, .int .i64 t] w fun e w' => e = .returned (.bool true) ∧ Below w.heap.size w w' := by
  by_cases hs : n ≤ 1048576
  · have hlen := h.1
    have hi := h.2.1
    subst hlen
    go_enter Try.func7, Try.ntmps7
    go_wp2_with fail
    refine (szBlockS_in _ _ _ _ _ (by omega) (by omega) (by omega) (by omega)).mono ?_
    rintro e w' ⟨rfl, rfl⟩
    go_wp2_with fail
    refine (toBlockS_any _ _ _ xs _ h (by omega)).mono ?_
    intro e w1 hm
    obtain ⟨rfl, h1, b1⟩ := hm.reads hi
    go_wp2_with fail
    refine (mBlocksValid_any _ _ _ xs _ _ h1 (by omega)).mono ?_
    rintro e w2 ⟨rfl, b2⟩
    have bb2 := b1.trans (b2.mono b1.size)
    go_wp2_with fail
    refine (toBlockS_any _ _ _ xs _ (h.up bb2) (by omega)).mono ?_
    intro e w3 hm3
    obtain ⟨rfl, h3, b3⟩ := hm3.reads hi
    have bb3 := bb2.trans (b3.mono bb2.size)
    go_wp2_with fail
    refine (blocksValid_any _ _ _ xs _ _ h3 (by omega)).mono ?_
    rintro e w4 ⟨rfl, b4⟩
    have bb4 := bb3.trans (b4.mono bb3.size)
    go_wp2_with fail
    refine (toBlockS_any _ _ _ xs _ (h.up bb4) (by omega)).mono ?_
    intro e w5 hm5
    obtain ⟨rfl, h5, b5⟩ := hm5.reads hi
    have bb5 := bb4.trans (b5.mono bb4.size)
    go_wp2_with fail
    refine (eqBlockS_any _ _ _ _ _ _ xs xs _ ((h3.up b4).up b5) h5 (by omega) (by omega)).mono ?_
    rintro e w6 ⟨rfl, b6⟩
    have bb6 := bb5.trans (b6.mono bb5.size)
    go_wp2_with fail
    go_ret
    exact ⟨rfl, bb6⟩
  · go_enter Try.func7, Try.ntmps7
    go_wp2_with fail
    refine (szBlockS_out _ _ _ _ _ (by omega) (by omega) (by omega) (by omega)).mono ?_
    rintro e w' ⟨rfl, rfl⟩
    go_wp2_with fail
    go_ret
    exact ⟨rfl, Below.refl _ _⟩
end Go.Proofs.Ytafnhapaaiokaaa
