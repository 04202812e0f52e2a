/- For every slice of bools and all numbers the exact law of BitsLongest returns true, and its arguments read as before. No conditions. -/
import Derived.Test.YtphcbjoafnffnaaBf
import Derived.Test.YtphcbjoafnffnaaBo
namespace Go.Proofs.Ytphcbjoafnffnaa.EBitsLongest
open Go.ChangeShapes Go.WideShapes Go.ChangeAt Go.RowKit

set_option maxRecDepth 100000 in
set_option maxHeartbeats 2000000 in
theorem exactBitsLongest_walk (A : Option Addr) (n c : Nat) (xs : List Bool) (w : World) (h : OS w w.heap.size A n xs) (hn : n ≤ 9223372036854775807) :
    Calls Try.prog 8 #[.slice A n c] w fun e w' => e = .returned (.bool true) ∧ Below w.heap.size w w' := by
  by_cases hs : n ≤ 1048576
  · have hs' : decide ((1048576 : Int) < (n : Int)) = false := by simp; omega
    have hlen := h.1
    subst hlen
    go_enter Try.func8, Try.ntmps8
    go_wp2_with fail
    refine (toBoolS_any _ _ _ xs _ h (by omega)).mono ?_
    rintro e w1 ⟨rfl, o1, b1⟩
    go_wp2_with fail
    refine (mBitsLongest_any _ _ _ xs _ o1.reads (by omega)).mono ?_
    rintro e w2 ⟨rfl, b2⟩
    have bb2 := b1.trans (b2.mono b1.size)
    clear o1
    go_wp2_with fail
    refine (toBoolS_any _ _ _ xs _ (h.up bb2) (by omega)).mono ?_
    rintro e w3 ⟨rfl, ox, b3⟩
    have bb3 := bb2.trans (b3.mono bb2.size)
    go_wp2_with fail
    refine (bitsLongest_any _ _ _ xs _ ox.reads (by omega) (Nat.le_refl _)).mono ?_
    rintro e w4 ⟨rfl, b4⟩
    have bb4 := bb3.trans (b4.mono bb3.size)
    have px := ox.below b4 (Nat.le_refl _)
    clear ox
    go_wp2_with fail
    refine (toBoolS_any _ _ _ xs _ (h.up bb4) (by omega)).mono ?_
    rintro e w5 ⟨rfl, oy, b5⟩
    have bb5 := bb4.trans (b5.mono bb4.size)
    have px := px.below b5 (Nat.le_refl _)
    go_wp2_with fail
    refine (eqBoolS_any _ _ _ _ _ _ xs xs _ px.reads oy.reads (by omega) (by omega)).mono ?_
    rw [decide_eq_true rfl]
    rintro e w6 ⟨rfl, b6⟩
    have bb6 := bb5.trans (b6.mono bb5.size)
    go_wp2_with fail
    go_ret
    exact ⟨rfl, bb6⟩
  · have hs' : (1048576 : Int) < (n : Int) := by omega
    go_enter Try.func8, Try.ntmps8
    go_wp2
    go_ret
    exact ⟨rfl, Below.refl _ _⟩

theorem contract (H : Type) (enc : TypeId × Value → H) (W : World) (base : Nat) (args : Array Value) (ds gs : List (DataW H)) (before : List MemPlace)
    (hval : ∀ (j : Nat) t v, Try.f8.params[j]? = some t → args[j]? = some v → Value.okWide Try.prog W .any base t v)
    (hW : DataW.Whole enc Try.prog Try.f8.params.toList Rows.fnExactBitsLongestSpec.vars false W args.toList ds gs before) :
    Calls Try.prog 8 args W fun e W' => ∃ v, e = .returned v ∧ Rows.fnExactBitsLongestSpec.post enc Try.prog Try.f8 false true false false W args v W' := by
  have hW' := hW
  obtain ⟨p, q, hA0, hV, rfl, hfz, hnd⟩ := hW
  have hA : DataW.TrodAll enc Try.prog W 0 (fun _ => true) true Try.f8.params.toList args.toList ds p := hA0
  rw [Try.params8] at hA hval
  obtain ⟨v0, vs0, d0, ds0, p0, q0, hargs, rfl, rfl, h0, r0⟩ := trodAll_cons hA
  obtain ⟨rfl, rfl, rfl⟩ := trodAll_nil r0
  obtain rfl : args = #[v0] := by cases args; simp_all
  obtain ⟨rfl, rfl⟩ := trodVars_none hV
  have hlt0 : ∀ x ∈ p0, x.block < W.heap.size := fun x hx => by simpa using hW'.lt x (by simp [hx])
  obtain ⟨A, n, c, xs, rfl, hc, hn, hbs⟩ := open_bools Try.underlying23 Try.underlying4 (by kernel_rfl) (hval 0 23 v0 rfl rfl) h0 hlt0
  clear hA0
  refine (exactBitsLongest_walk A n c xs W hbs hn).mono fun e W' ⟨he, hb⟩ => ?_
  subst he
  exact ⟨_, rfl, law_post (tb := 4) laidOut (by decide +kernel) rfl Try.underlying4 rfl rfl hW' hb⟩

set_option maxRecDepth 100000 in
theorem lifted (os : Os) (started : os.Started) (H : Type) (enc : TypeId × Value → H) :
    ReturnsInHanded {} Try.checked os 8 .any (Rows.fnExactBitsLongestSpec.pre6 enc Try.prog Try.f8 Rows.fnExactBitsLongestRow.domain false) (Rows.fnExactBitsLongestSpec.post enc Try.prog Try.f8 false true false false) := by
  refine returnsInHanded_of_change (C := Try.checked) own started (by kernel_rfl) Try.func8
    (ChangeSpec.witness6 (enc := enc) (C := Try.checked) false ⟨#[], #[.slice none 0 0], []⟩ 8 (by kernel_rfl) (by kernel_rfl) (by kernel_rfl) (by kernel_rfl)) ?_
  intro W base args ds gs before hval hW _ _
  exact contract H enc W base args ds gs before hval hW

theorem holds : Rows.FnExactBitsLongestSaid :=
  OpenClaim.holds_of_wide 8 Try.f8 rfl rfl rfl rfl rfl rfl rfl ⟨rfl, rfl, rfl, rfl, rfl⟩ rfl rfl rfl rfl rfl (by kernel_rfl) Try.func8 (by kernel_rfl)
    (of_decide_eq_true (by kernel_rfl)) (by unfold Func.isWrapper; first | (rw [if_pos (by decide +kernel)]; kernel_rfl) | (rw [if_neg (by decide +kernel)]; exact ⟨rfl, rfl⟩))
    (fun os started H enc _ => lifted os started H enc)
end Go.Proofs.Ytphcbjoafnffnaa.EBitsLongest
