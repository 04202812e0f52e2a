/- For every number the exact law of NewBlocks returns true, and its argument reads as before. No conditions. -/
import Derived.Test.YtafnhapaaiokaaaWf
import Derived.Test.YtafnhapaaiokaaaPost
namespace Go.Proofs.Ytafnhapaaiokaaa.ENewBlocks
open Go.ChangeShapes Go.WideShapes Go.ChangeAt Go.RowKit

theorem below_grown {B : Nat} {a w w' : World} {row : Option Nat} (h : Below B a w) (hg : w.grownBy w' row) (hB : B ≤ w.heap.size) (hr : ∀ k, row = some k → B ≤ k) : Below B a w' := h.grown hg hB hr

set_option maxHeartbeats 1000000 in
theorem walk (t : Int) (w : World) : Calls Try.prog 8 #[.int .i64 t] w fun e w' => e = .returned (.bool true) ∧ Below w.heap.size w w' := by
  have hl := newB_len t
  have ha := newB_all t
  generalize hx : newB t = xs at hl ha
  have HX := Lib.hid hx
  clear hx
  go_enter Try.func8, Try.ntmps8
  go_wp2_with fail
  refine (mNewBlocks_any _ _).mono ?_
  rw [HX.out]
  rintro e w1 ⟨v0, rfl, o0, b1⟩
  go_wp2_with fail
  refine (newBlocks_any _ _).mono ?_
  rw [HX.out]
  rintro e w2 ⟨v1, rfl, o1, b2⟩
  have o0' := o0.below b2 (Nat.le_refl _)
  have bb2 := b1.trans (b2.mono b1.size)
  obtain ⟨A0, c0, rfl, f0⟩ := o0.form
  obtain ⟨A1, c1, rfl, f1⟩ := o1.form
  go_wp2_with fail
  refine (eqBlockS_any _ _ _ _ _ _ xs xs _ (o1.reads ha) (o0'.reads ha) (by omega) (by omega)).mono ?_
  rw [decide_eq_true rfl]
  rintro e w3 ⟨rfl, b3⟩
  have bb3 := bb2.trans (b3.mono bb2.size)
  have p1 := o1.below b3 (Nat.le_refl _)
  have p0 := o0'.below b3 (Nat.le_refl _)
  go_wp2_with fail
  refine (markBlockS_any _ xs _ _ _ p1 (by omega) (by omega) (by omega)).mono ?_
  rintro e w4 ⟨rfl, m4, g4⟩
  have hsep : (Value.slice A0 xs.length c0).ownBlock = none ∨ (Value.slice A0 xs.length c0).ownBlock ≠ (Value.slice A1 xs.length c1).ownBlock := sep_of o0 o1 (Nat.le_refl _)
  have p0' := p0.far g4 hsep
  have bb4 : Below w.heap.size w w4 := bb3.grown g4 (Nat.le_trans (Nat.le_refl _) bb3.size) (fun k hk => Nat.le_trans b1.size (World.ownsRow.lt o1 k hk).1)
  have hmall := marks_all 1 xs.length (by omega) (by omega) (by omega)
  have hr4 := m4.reads hmall
  go_wp2_with fail
  refine (heldBlockS_any _ _ _ _ _ hr4 (by omega) (by omega) (by omega)).mono ?_
  rintro e w' ⟨rfl, rfl⟩
  go_wp2_with fail
  refine (newBlocks_any _ _).mono ?_
  rw [HX.out]
  rintro e w5 ⟨v2, rfl, o2, b5⟩
  have bb5 := bb4.trans (b5.mono bb4.size)
  have m5 := m4.below b5 (Nat.le_refl _)
  have q0 := p0'.below b5 (Nat.le_refl _)
  obtain ⟨A2, c2, rfl, f2⟩ := o2.form
  go_wp2_with fail
  refine (eqBlockS_any _ _ _ _ _ _ xs xs _ (o2.reads ha) (q0.reads ha) (by omega) (by omega)).mono ?_
  rw [decide_eq_true rfl]
  rintro e w6 ⟨rfl, b6⟩
  have bb6 := bb5.trans (b6.mono bb5.size)
  have m6 := m5.below b6 (Nat.le_refl _)
  go_wp2_with fail
  refine (heldBlockS_any _ _ _ _ _ (m6.reads hmall) (by omega) (by omega) (by omega)).mono ?_
  rintro e w' ⟨rfl, rfl⟩
  go_wp2_with fail
  go_ret
  exact ⟨rfl, bb6⟩

theorem contract (H : Type) (enc : TypeId × Value → H) (W : World) (base : Nat) (args : Array Value) (ds gs : List (DataW H)) (before : List MemPlace)
    (hval : ∀ (j : Nat) t v, Try.f8.params[j]? = some t → args[j]? = some v → Value.okWide Try.prog W .any base t v)
    (hW : DataW.Whole enc Try.prog Try.f8.params.toList Rows.fnExactNewBlocksSpec.vars false W args.toList ds gs before) :
    Calls Try.prog 8 args W fun e W' => ∃ v, e = .returned v ∧ Rows.fnExactNewBlocksSpec.post enc Try.prog Try.f8 false true false false W args v W' := by
  have hW' := hW
  obtain ⟨p, q, hA0, hV, rfl, hfz, hnd⟩ := hW
  have hA : DataW.TrodAll enc Try.prog W 0 (fun _ => true) true Try.f8.params.toList args.toList ds p := hA0
  rw [Try.params8] at hA hval
  obtain ⟨v0, vs0, d0, ds0, p0, q0, hargs, rfl, rfl, h0, r0⟩ := trodAll_cons hA
  obtain ⟨rfl, rfl, rfl⟩ := trodAll_nil r0
  obtain rfl : args = #[v0] := by cases args; simp_all
  obtain ⟨rfl, rfl⟩ := trodVars_none hV
  obtain ⟨a0, rfl, rfl, rfl, w0⟩ := open_int Try.underlying3 (hval 0 3 v0 rfl rfl) h0
  clear hA0
  refine (walk a0 W).mono fun e W' ⟨he, hb⟩ => ?_
  subst he
  exact ⟨_, rfl, law_post (tb := 4) laidOut (by decide +kernel) rfl Try.underlying4 rfl rfl hW' hb⟩

set_option maxRecDepth 100000 in
theorem lifted (os : Os) (started : os.Started) (H : Type) (enc : TypeId × Value → H) :
    ReturnsInHanded {} Try.checked os 8 .any (Rows.fnExactNewBlocksSpec.pre6 enc Try.prog Try.f8 Rows.fnExactNewBlocksRow.domain false) (Rows.fnExactNewBlocksSpec.post enc Try.prog Try.f8 false true false false) := by
  refine returnsInHanded_of_change (C := Try.checked) own started (by kernel_rfl) Try.func8
    (ChangeSpec.witness6 (enc := enc) (C := Try.checked) false ⟨#[], #[.int .i64 0], []⟩ 8 (by kernel_rfl) (by kernel_rfl) (by kernel_rfl) (by kernel_rfl)) ?_
  intro W base args ds gs before hval hW _ _
  exact contract H enc W base args ds gs before hval hW

theorem holds : Rows.FnExactNewBlocksSaid :=
  OpenClaim.holds_of_wide 8 Try.f8 rfl rfl rfl rfl rfl rfl rfl ⟨rfl, rfl, rfl, rfl, rfl⟩ rfl rfl rfl rfl rfl (by kernel_rfl) Try.func8 (by kernel_rfl)
    (of_decide_eq_true (by kernel_rfl)) (by unfold Func.isWrapper; first | (rw [if_pos (by decide +kernel)]; kernel_rfl) | (rw [if_neg (by decide +kernel)]; exact ⟨rfl, rfl⟩))
    (fun os started H enc _ => lifted os started H enc)
end Go.Proofs.Ytafnhapaaiokaaa.ENewBlocks
