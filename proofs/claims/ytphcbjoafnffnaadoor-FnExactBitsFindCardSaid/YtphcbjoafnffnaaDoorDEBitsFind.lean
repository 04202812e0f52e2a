/- For every slice of bools and all numbers the exact law of BitsFind returns true, and its arguments read as before. The table that is read lies as the program's own text lays it (the tied card says so); no other conditions. -/
import Derived.Test.YtphcbjoafnffnaaDoorBk
import Derived.Test.YtphcbjoafnffnaaDoorBo
import Derived.Test.YtphcbjoafnffnaaDoorPostU
import Derived.Test.YtphcbjoafnffnaaDoorCards
import Derived.Test.YtphcbjoafnffnaaDoorTie
import Derived.SevenTiedAt
namespace Go.Proofs.YtphcbjoafnffnaaDoor.DEBitsFind
open Go Go.ChangeShapes Go.WideShapes Go.ChangeAt Go.RowKit

set_option maxRecDepth 100000 in
set_option maxHeartbeats 2000000 in
theorem exactBitsFind_walk (A : Option Addr) (n c : Nat) (xs : List Bool) (a1 : Int) (w : World) (h : OS w w.heap.size A n xs) (hn : n ≤ 9223372036854775807) (hT : TzT w) :
    Calls Tryd.prog 5 #[.slice A n c, .int .i64 a1] w fun e w' => e = .returned (.bool true) ∧ Below w.heap.size w w' := by
  by_cases hs : n ≤ 1048576
  · have hs' : decide ((1048576 : Int) < (n : Int)) = false := by simp; omega
    have hlen := h.1
    subst hlen
    go_enter Tryd.func5, Tryd.ntmps5
    go_wp2_with fail
    refine (toBoolS_any _ _ _ xs _ h (by omega)).mono ?_
    rintro e w1 ⟨rfl, o1, b1⟩
    go_wp2_with fail
    refine (mBitsFind_any _ _ _ xs _ _ o1.reads (by omega)).mono ?_
    rintro e w2 ⟨rfl, b2⟩
    have bb2 := b1.trans (b2.mono b1.size)
    clear o1
    go_wp2_with fail
    refine (toBoolS_any _ _ _ xs _ (h.up bb2) (by omega)).mono ?_
    rintro e w3 ⟨rfl, ox, b3⟩
    have bb3 := bb2.trans (b3.mono bb2.size)
    go_wp2_with fail
    refine (bitsFind_any _ _ _ xs _ _ (hT.below bb3) ox.reads (by omega) (Nat.le_refl _)).mono ?_
    rintro e w4 ⟨rfl, b4⟩
    have bb4 := bb3.trans (b4.mono bb3.size)
    have px := ox.below b4 (Nat.le_refl _)
    clear ox
    go_wp2_with fail
    refine (toBoolS_any _ _ _ xs _ (h.up bb4) (by omega)).mono ?_
    rintro e w5 ⟨rfl, oy, b5⟩
    have bb5 := bb4.trans (b5.mono bb4.size)
    have px := px.below b5 (Nat.le_refl _)
    go_wp2_with fail
    refine (eqBoolS_any _ _ _ _ _ _ xs xs _ px.reads oy.reads (by omega) (by omega)).mono ?_
    rw [decide_eq_true rfl]
    rintro e w6 ⟨rfl, b6⟩
    have bb6 := bb5.trans (b6.mono bb5.size)
    go_wp2_with fail
    go_ret
    exact ⟨rfl, bb6⟩
  · have hs' : (1048576 : Int) < (n : Int) := by omega
    go_enter Tryd.func5, Tryd.ntmps5
    go_wp2
    go_ret
    exact ⟨rfl, Below.refl _ _⟩

theorem contract (H : Type) (enc : TypeId × Value → H) (W : World) (base : Nat) (args : Array Value) (ds gs : List (DataW H)) (before : List MemPlace)
    (hval : ∀ (j : Nat) t v, Tryd.f5.params[j]? = some t → args[j]? = some v → Value.okWide Tryd.prog W .any base t v)
    (hW : DataW.Whole enc Tryd.prog Tryd.f5.params.toList Rows.fnExactBitsFindSpec.vars false W args.toList ds gs before) (hL : laidMetH Tryd.prog [("math/bits.deBruijn64tab", Rows.laid_math_bits_deBruijn64tab)] W) :
    Calls Tryd.prog 5 args W fun e W' => ∃ v, e = .returned v ∧ Rows.fnExactBitsFindSpec.post enc Tryd.prog Tryd.f5 false true false false W args v W' := by
  have hW' := hW
  obtain ⟨p, q, hA0, hV, rfl, hfz, hnd⟩ := hW
  have hA : DataW.TrodAll enc Tryd.prog W 0 (fun _ => true) true Tryd.f5.params.toList args.toList ds p := hA0
  rw [Tryd.params5] at hA hval
  obtain ⟨v0, vs0, d0, ds0, p0, q0, hargs, rfl, rfl, h0, r0⟩ := trodAll_cons hA
  obtain ⟨v1, vs1, d1, ds1, p1, q1, rfl, rfl, rfl, h1, r1⟩ := trodAll_cons r0
  obtain ⟨rfl, rfl, rfl⟩ := trodAll_nil r1
  obtain rfl : args = #[v0, v1] := by cases args; simp_all
  obtain ⟨rfl, rfl⟩ := trodVars_none hV
  have hlt0 : ∀ x ∈ p0, x.block < W.heap.size := fun x hx => by simpa using hW'.lt x (by simp [hx])
  obtain ⟨A, n, c, xs, rfl, hc, hn, hbs⟩ := open_bools Tryd.underlying23 Tryd.underlying4 (by kernel_rfl) (hval 0 23 v0 rfl rfl) h0 hlt0
  obtain ⟨a1, rfl, rfl, rfl, w1⟩ := open_int Tryd.underlying3 (hval 1 3 v1 rfl rfl) h1
  clear hA0
  refine (exactBitsFind_walk A n c xs a1 W hbs hn (tzT_of_laid hL)).mono fun e W' ⟨he, hb⟩ => ?_
  subst he
  exact ⟨_, rfl, law_post (tb := 4) laidOut (by decide +kernel) rfl Tryd.underlying4 rfl rfl hW' hb⟩

set_option maxRecDepth 100000 in
theorem lifted (os : Os) (started : os.Started) (H : Type) (enc : TypeId × Value → H) :
    ReturnsInHanded {} Tryd.checked os 5 .any (fun w args => (Rows.fnExactBitsFindSpec.pre enc Tryd.prog Tryd.f5 [] false w args ∧ laidMetH Tryd.prog [("math/bits.deBruijn64tab", Rows.laid_math_bits_deBruijn64tab)] w) ∧ sizedMet enc Tryd.prog Tryd.f5 (OpenSpec.ofChange Rows.fnExactBitsFindSpec) false w args) (Rows.fnExactBitsFindSpec.post enc Tryd.prog Tryd.f5 false true false false) := by
  refine returnsInHanded_of_change_and (C := Tryd.checked) (X := fun w _ => laidMetH Tryd.prog [("math/bits.deBruijn64tab", Rows.laid_math_bits_deBruijn64tab)] w) (fun _ _ _ hh h => h.of_heap hh) own started (by kernel_rfl) Tryd.func5
    (ChangeSpec.witness_shaped (enc := enc) (C := Tryd.checked) (os := os) (X := fun w _ => laidMetH Tryd.prog [("math/bits.deBruijn64tab", Rows.laid_math_bits_deBruijn64tab)] w) false (World.doorLaid Tryd.prog 14 os) #[.slice none 0 0, .int .i64 0] 8 rfl (World.shaped_of_RefB (by kernel_rfl) (by kernel_rfl)) (by kernel_rfl) (by kernel_rfl) (by kernel_rfl) (door_tz os _)) ?_
  intro W base args ds gs before hval hW _ _ hL _
  exact contract H enc W base args ds gs before hval hW hL

theorem row_holds : Rows.FnExactBitsFindSaid :=
  OpenClaim.holds_of_wide 5 Tryd.f5 rfl rfl rfl rfl rfl rfl rfl ⟨rfl, rfl, rfl, rfl, rfl⟩ rfl rfl rfl rfl rfl (by kernel_rfl) Tryd.func5 (by kernel_rfl)
    (of_decide_eq_true (by kernel_rfl)) (by unfold Func.isWrapper; first | (rw [if_pos (by decide +kernel)]; kernel_rfl) | (rw [if_neg (by decide +kernel)]; exact ⟨rfl, rfl⟩))
    (fun os started H enc _ => lifted os started H enc)

theorem holds : Rows.FnExactBitsFindCardSaid :=
  Claim7.holds_tied_plain_at .later [] [.data] true Rows.fnExactBitsFindCard.stood.harness false
    row_holds (fun _ h => by cases h) (by kernel_rfl) (fun _ h => by cases h) fnExactBitsFind_row_tie rfl ⟨rfl, rfl⟩ (by kernel_rfl) rfl
    (fun f fn hf hfn => by
      obtain rfl : f = 5 := Option.some.inj ((show Tryd.prog.funcNamed "loop.example/memorymanagers/laws.FnExactBitsFind" = some 5 by kernel_rfl).symm.trans hf) |>.symm
      obtain rfl : fn = Tryd.f5 := (Option.some.inj (Tryd.func5.symm.trans hfn)).symm
      exact ⟨by kernel_rfl, fun j t ht => by
        rw [Tryd.params5] at ht
        have hm : t ∈ [23, 3] := by simpa using Array.mem_of_getElem? ht
        have hall : ([23, 3].all fun u => !Tryd.prog.wantsStandIn u) = true := by kernel_rfl
        exact (show Tryd.prog.wantsStandIn t = false by simpa using List.all_eq_true.1 hall t hm)⟩)
    (by kernel_rfl)
end Go.Proofs.YtphcbjoafnffnaaDoor.DEBitsFind
