/- For every slice of blocks and all numbers the exact law of LargestFree returns true, and its arguments read as before. No conditions. -/
import Derived.Test.YtafnhapaaiokaaaWd
import Derived.Test.YtafnhapaaiokaaaPost
namespace Go.Proofs.Ytafnhapaaiokaaa.ELargestFree
open Go.ChangeShapes Go.WideShapes Go.ChangeAt Go.RowKit

set_option maxHeartbeats 1000000 in
theorem walk (A : Option Addr) (n c : Nat) (xs : List Bl) (a1 : Int) (w : World) (h : BS w w.heap.size A n xs) (hn : n ≤ 9223372036854775807) :
    Calls Try.prog 10 #[.slice A n c, .int .i64 a1] w fun e w' => e = .returned (.bool true) ∧ Below w.heap.size w w' := by
  by_cases hs : n ≤ 1048576
  · have hlen := h.1
    have hi := h.2.1
    subst hlen
    go_enter Try.func10, Try.ntmps10
    go_wp2_with fail
    refine (szBlockS_in _ _ _ _ _ (by omega) (by omega) (by omega) (by omega)).mono ?_
    rintro e w' ⟨rfl, rfl⟩
    go_wp2_with fail
    refine (toBlockS_any _ _ _ xs _ h (by omega)).mono ?_
    intro e w1 hm
    obtain ⟨rfl, h1, b1⟩ := hm.reads hi
    go_wp2_with fail
    refine (mLargestFree_any _ _ _ xs _ _ h1 (by omega)).mono ?_
    rintro e w2 ⟨rfl, b2⟩
    have bb2 := b1.trans (b2.mono b1.size)
    go_wp2_with fail
    refine (toBlockS_any _ _ _ xs _ (h.up bb2) (by omega)).mono ?_
    intro e w3 hm3
    obtain ⟨rfl, h3, b3⟩ := hm3.reads hi
    have bb3 := bb2.trans (b3.mono bb2.size)
    go_wp2_with fail
    refine (largestFree_any _ _ _ xs _ _ h3 (by omega)).mono ?_
    rintro e w4 ⟨rfl, b4⟩
    have bb4 := bb3.trans (b4.mono bb3.size)
    go_wp2_with fail
    refine (toBlockS_any _ _ _ xs _ (h.up bb4) (by omega)).mono ?_
    intro e w5 hm5
    obtain ⟨rfl, h5, b5⟩ := hm5.reads hi
    have bb5 := bb4.trans (b5.mono bb4.size)
    go_wp2_with fail
    refine (eqBlockS_any _ _ _ _ _ _ xs xs _ ((h3.up b4).up b5) h5 (by omega) (by omega)).mono ?_
    rintro e w6 ⟨rfl, b6⟩
    have bb6 := bb5.trans (b6.mono bb5.size)
    go_wp2_with fail
    go_ret
    exact ⟨rfl, bb6⟩
  · go_enter Try.func10, Try.ntmps10
    go_wp2_with fail
    refine (szBlockS_out _ _ _ _ _ (by omega) (by omega) (by omega) (by omega)).mono ?_
    rintro e w' ⟨rfl, rfl⟩
    go_wp2_with fail
    go_ret
    exact ⟨rfl, Below.refl _ _⟩

theorem contract (H : Type) (enc : TypeId × Value → H) (W : World) (base : Nat) (args : Array Value) (ds gs : List (DataW H)) (before : List MemPlace)
    (hval : ∀ (j : Nat) t v, Try.f10.params[j]? = some t → args[j]? = some v → Value.okWide Try.prog W .any base t v)
    (hW : DataW.Whole enc Try.prog Try.f10.params.toList Rows.fnExactLargestFreeSpec.vars false W args.toList ds gs before) :
    Calls Try.prog 10 args W fun e W' => ∃ v, e = .returned v ∧ Rows.fnExactLargestFreeSpec.post enc Try.prog Try.f10 false true false false W args v W' := by
  have hW' := hW
  obtain ⟨p, q, hA0, hV, rfl, hfz, hnd⟩ := hW
  have hA : DataW.TrodAll enc Try.prog W 0 (fun _ => true) true Try.f10.params.toList args.toList ds p := hA0
  rw [Try.params10] at hA hval
  obtain ⟨v0, vs0, d0, ds0, p0, q0, hargs, rfl, rfl, h0, r0⟩ := trodAll_cons hA
  obtain ⟨v1, vs1, d1, ds1, p1, q1, rfl, rfl, rfl, h1, r1⟩ := trodAll_cons r0
  obtain ⟨rfl, rfl, rfl⟩ := trodAll_nil r1
  obtain rfl : args = #[v0, v1] := by cases args; simp_all
  obtain ⟨rfl, rfl⟩ := trodVars_none hV
  have hlt0 : ∀ x ∈ p0, x.block < W.heap.size := fun x hx => by simpa using hW'.lt x (by simp [hx])
  obtain ⟨A, n, c, xs, rfl, hn, hbs⟩ := open_blocks Try.underlying38 Try.underlying52 (by kernel_rfl) rfl rfl rfl rfl rfl rfl Try.underlying3 Try.underlying4 (by kernel_rfl) (by kernel_rfl) (hval 0 38 v0 rfl rfl) h0 hlt0
  obtain ⟨a1, rfl, rfl, rfl, w1⟩ := open_int Try.underlying3 (hval 1 3 v1 rfl rfl) h1
  clear hA0
  refine (walk A n c xs a1 W hbs hn).mono fun e W' ⟨he, hb⟩ => ?_
  subst he
  exact ⟨_, rfl, law_post (tb := 4) laidOut (by decide +kernel) rfl Try.underlying4 rfl rfl hW' hb⟩

set_option maxRecDepth 100000 in
theorem lifted (os : Os) (started : os.Started) (H : Type) (enc : TypeId × Value → H) :
    ReturnsInHanded {} Try.checked os 10 .any (Rows.fnExactLargestFreeSpec.pre6 enc Try.prog Try.f10 Rows.fnExactLargestFreeRow.domain false) (Rows.fnExactLargestFreeSpec.post enc Try.prog Try.f10 false true false false) := by
  refine returnsInHanded_of_change (C := Try.checked) own started (by kernel_rfl) Try.func10
    (ChangeSpec.witness6 (enc := enc) (C := Try.checked) false ⟨#[], #[.slice none 0 0, .int .i64 0], []⟩ 8 (by kernel_rfl) (by kernel_rfl) (by kernel_rfl) (by kernel_rfl)) ?_
  intro W base args ds gs before hval hW _ _
  exact contract H enc W base args ds gs before hval hW

theorem holds : Rows.FnExactLargestFreeSaid :=
  OpenClaim.holds_of_wide 10 Try.f10 rfl rfl rfl rfl rfl rfl rfl ⟨rfl, rfl, rfl, rfl, rfl⟩ rfl rfl rfl rfl rfl (by kernel_rfl) Try.func10 (by kernel_rfl)
    (of_decide_eq_true (by kernel_rfl)) (by unfold Func.isWrapper; first | (rw [if_pos (by decide +kernel)]; kernel_rfl) | (rw [if_neg (by decide +kernel)]; exact ⟨rfl, rfl⟩))
    (fun os started H enc _ => lifted os started H enc)
end Go.Proofs.Ytafnhapaaiokaaa.ELargestFree
