/- For every slice of bools and all numbers the exact law of BitsTake returns true, and its arguments read as before. No conditions. -/
import Derived.Test.YtphcbjoafnffnaaBf
import Derived.Test.YtphcbjoafnffnaaBe
import Derived.Test.YtphcbjoafnffnaaBo
namespace Go.Proofs.Ytphcbjoafnffnaa.EBitsTake
open Go.ChangeShapes Go.WideShapes Go.ChangeAt Go.RowKit

set_option maxRecDepth 100000 in
set_option maxHeartbeats 2000000 in
theorem exactBitsTake_walk (A : Option Addr) (n c : Nat) (xs : List Bool) (a1 a2 : Int) (w : World) (h : OS w w.heap.size A n xs) (hn : n ≤ 9223372036854775807) :
    Calls Try.prog 6 #[.slice A n c, .int .i64 a1, .int .i64 a2] w fun e w' => e = .returned (.bool true) ∧ Below w.heap.size w w' := by
  by_cases hs : n ≤ 1048576
  · have hs' : decide ((1048576 : Int) < (n : Int)) = false := by simp; omega
    have hlen := h.1
    subst hlen
    obtain ⟨ys, hys⟩ : ∃ ys, Bm.chgW xs a1 a2 true = ys := ⟨_, rfl⟩
    obtain ⟨ok, hok⟩ : ∃ ok, Bm.chgOk xs a1 a2 true = ok := ⟨_, rfl⟩
    have hl : ys.length ≤ 1048576 := by rw [← hys]; exact Nat.le_trans (Bm.chg_len xs a1 a2 true) hs
    have HY := Lib.hid hys
    have HO := Lib.hid hok
    clear hys hok
    go_enter Try.func6, Try.ntmps6
    go_wp2_with fail
    refine (toBoolS_any _ _ _ xs _ h (by omega)).mono ?_
    rintro e w1 ⟨rfl, q1, b1⟩
    go_wp2_with fail
    refine (mBitsTake_any _ _ _ xs _ _ _ q1.reads (by omega)).mono ?_
    rw [HY.out, HO.out]
    rintro e w2 ⟨v0, rfl, o0, b2⟩
    have bb2 := b1.trans (b2.mono b1.size)
    clear q1
    go_wp2_with fail
    refine (toBoolS_any _ _ _ xs _ (h.up bb2) (by omega)).mono ?_
    rintro e w3 ⟨rfl, ox, b3⟩
    have bb3 := bb2.trans (b3.mono bb2.size)
    have p0 := o0.below b3 (Nat.le_refl _)
    have s0x := sep_ofO o0 ox (Nat.le_refl _)
    go_wp2_with fail
    refine (bitsTake_any _ _ _ xs _ _ _ ox.reads (by omega) (Nat.le_refl _)).mono ?_
    rw [HY.out, HO.out]
    rintro e w4 ⟨v1, rfl, o1, b4⟩
    have bb4 := bb3.trans (b4.mono bb3.size)
    have sx1 := sep_ofO ox o1 (Nat.le_refl _)
    have s01 := sep_ofO p0 o1 (Nat.le_refl _)
    have p0 := p0.below b4 (Nat.le_refl _)
    have px := ox.below b4 (Nat.le_refl _)
    obtain ⟨A0, c0, rfl, f0⟩ := o0.form
    obtain ⟨A1, c1, rfl, f1⟩ := o1.form
    clear f0 f1
    go_wp2_with fail
    refine (eqBoolS_any _ _ _ _ _ _ ys ys _ o1.reads p0.reads (by omega) (by omega)).mono ?_
    rw [decide_eq_true rfl]
    rintro e w5 ⟨rfl, b5⟩
    have bb5 := bb4.trans (b5.mono bb4.size)
    have p0 := p0.below b5 (Nat.le_refl _)
    have px := px.below b5 (Nat.le_refl _)
    have p1 := o1.below b5 (Nat.le_refl _)
    go_wp2_with fail
    refine (toBoolS_any _ _ _ xs _ (h.up bb5) (by omega)).mono ?_
    rintro e w6 ⟨rfl, o6, b6⟩
    have bb6 := bb5.trans (b6.mono bb5.size)
    have p0 := p0.below b6 (Nat.le_refl _)
    have px := px.below b6 (Nat.le_refl _)
    have p1 := p1.below b6 (Nat.le_refl _)
    go_wp2_with fail
    refine (eqBoolS_any _ _ _ _ _ _ xs xs _ px.reads o6.reads (by omega) (by omega)).mono ?_
    rw [decide_eq_true rfl]
    rintro e w7 ⟨rfl, b7⟩
    have bb7 := bb6.trans (b7.mono bb6.size)
    have p0 := p0.below b7 (Nat.le_refl _)
    have px := px.below b7 (Nat.le_refl _)
    have p1 := p1.below b7 (Nat.le_refl _)
    clear o6
    go_wp2_with fail
    refine (markBoolS_any _ xs _ _ _ px (by omega) (by omega) (by omega)).mono ?_
    rintro e w8 ⟨rfl, m8, g8⟩
    have p0 := p0.far g8 s0x
    have p1 := p1.far g8 (sep_swapO sx1)
    have bb8 : Below w.heap.size w w8 := bb7.grown g8 bb7.size (fun k hk => Nat.le_trans bb2.size (World.ownsRow.lt ox k hk).1)
    have hk0 : decide ((1 : Int) + (xs.length : Int) < 0) = false := decide_eq_false (by omega)
    clear m8 g8 px
    go_wp2_with fail
    refine (eqBoolS_any _ _ _ _ _ _ ys ys _ p1.reads p0.reads (by omega) (by omega)).mono ?_
    rw [decide_eq_true rfl]
    rintro e w9 ⟨rfl, b9⟩
    have bb9 := bb8.trans (b9.mono bb8.size)
    have p0 := p0.below b9 (Nat.le_refl _)
    have p1 := p1.below b9 (Nat.le_refl _)
    go_wp2_with fail
    refine (markBoolS_any _ ys _ _ _ p1 (by omega) (by omega) (by omega)).mono ?_
    rintro e w10 ⟨rfl, m10, g10⟩
    have p0 := p0.far g10 s01
    have bb10 : Below w.heap.size w w10 := bb9.grown g10 bb9.size (fun k hk => Nat.le_trans bb3.size (World.ownsRow.lt o1 k hk).1)
    have hq0 : decide ((1 : Int) + (ys.length : Int) < 0) = false := decide_eq_false (by omega)
    go_wp2_with fail
    refine (heldBoolS_any _ _ _ _ _ m10.reads (by omega) (by omega) (by omega)).mono ?_
    rintro e w' ⟨rfl, rfl⟩
    go_wp2_with fail
    refine (toBoolS_any _ _ _ xs _ (h.up bb10) (by omega)).mono ?_
    rintro e w11 ⟨rfl, o11, b11⟩
    have bb11 := bb10.trans (b11.mono bb10.size)
    have p0 := p0.below b11 (Nat.le_refl _)
    have m11 := m10.below b11 (Nat.le_refl _)
    go_wp2_with fail
    refine (bitsTake_any _ _ _ xs _ _ _ o11.reads (by omega) (Nat.le_refl _)).mono ?_
    rw [HY.out, HO.out]
    rintro e w12 ⟨v2, rfl, o2, b12⟩
    have bb12 := bb11.trans (b12.mono bb11.size)
    have p0 := p0.below b12 (Nat.le_refl _)
    have m12 := m11.below b12 (Nat.le_refl _)
    obtain ⟨A2, c2, rfl, f2⟩ := o2.form
    clear f2 o11
    go_wp2_with fail
    refine (eqBoolS_any _ _ _ _ _ _ ys ys _ o2.reads p0.reads (by omega) (by omega)).mono ?_
    rw [decide_eq_true rfl]
    rintro e w13 ⟨rfl, b13⟩
    have bb13 := bb12.trans (b13.mono bb12.size)
    have m13 := m12.below b13 (Nat.le_refl _)
    go_wp2_with fail
    refine (heldBoolS_any _ _ _ _ _ m13.reads (by omega) (by omega) (by omega)).mono ?_
    rintro e w' ⟨rfl, rfl⟩
    go_wp2_with fail
    go_ret
    exact ⟨rfl, bb13⟩
  · have hs' : (1048576 : Int) < (n : Int) := by omega
    go_enter Try.func6, Try.ntmps6
    go_wp2
    go_ret
    exact ⟨rfl, Below.refl _ _⟩

theorem contract (H : Type) (enc : TypeId × Value → H) (W : World) (base : Nat) (args : Array Value) (ds gs : List (DataW H)) (before : List MemPlace)
    (hval : ∀ (j : Nat) t v, Try.f6.params[j]? = some t → args[j]? = some v → Value.okWide Try.prog W .any base t v)
    (hW : DataW.Whole enc Try.prog Try.f6.params.toList Rows.fnExactBitsTakeSpec.vars false W args.toList ds gs before) :
    Calls Try.prog 6 args W fun e W' => ∃ v, e = .returned v ∧ Rows.fnExactBitsTakeSpec.post enc Try.prog Try.f6 false true false false W args v W' := by
  have hW' := hW
  obtain ⟨p, q, hA0, hV, rfl, hfz, hnd⟩ := hW
  have hA : DataW.TrodAll enc Try.prog W 0 (fun _ => true) true Try.f6.params.toList args.toList ds p := hA0
  rw [Try.params6] at hA hval
  obtain ⟨v0, vs0, d0, ds0, p0, q0, hargs, rfl, rfl, h0, r0⟩ := trodAll_cons hA
  obtain ⟨v1, vs1, d1, ds1, p1, q1, rfl, rfl, rfl, h1, r1⟩ := trodAll_cons r0
  obtain ⟨v2, vs2, d2, ds2, p2, q2, rfl, rfl, rfl, h2, r2⟩ := trodAll_cons r1
  obtain ⟨rfl, rfl, rfl⟩ := trodAll_nil r2
  obtain rfl : args = #[v0, v1, v2] := by cases args; simp_all
  obtain ⟨rfl, rfl⟩ := trodVars_none hV
  have hlt0 : ∀ x ∈ p0, x.block < W.heap.size := fun x hx => by simpa using hW'.lt x (by simp [hx])
  obtain ⟨A, n, c, xs, rfl, hc, hn, hbs⟩ := open_bools Try.underlying23 Try.underlying4 (by kernel_rfl) (hval 0 23 v0 rfl rfl) h0 hlt0
  obtain ⟨a1, rfl, rfl, rfl, w1⟩ := open_int Try.underlying3 (hval 1 3 v1 rfl rfl) h1
  obtain ⟨a2, rfl, rfl, rfl, w2⟩ := open_int Try.underlying3 (hval 2 3 v2 rfl rfl) h2
  clear hA0
  refine (exactBitsTake_walk A n c xs a1 a2 W hbs hn).mono fun e W' ⟨he, hb⟩ => ?_
  subst he
  exact ⟨_, rfl, law_post (tb := 4) laidOut (by decide +kernel) rfl Try.underlying4 rfl rfl hW' hb⟩

set_option maxRecDepth 100000 in
theorem lifted (os : Os) (started : os.Started) (H : Type) (enc : TypeId × Value → H) :
    ReturnsInHanded {} Try.checked os 6 .any (Rows.fnExactBitsTakeSpec.pre6 enc Try.prog Try.f6 Rows.fnExactBitsTakeRow.domain false) (Rows.fnExactBitsTakeSpec.post enc Try.prog Try.f6 false true false false) := by
  refine returnsInHanded_of_change (C := Try.checked) own started (by kernel_rfl) Try.func6
    (ChangeSpec.witness6 (enc := enc) (C := Try.checked) false ⟨#[], #[.slice none 0 0, .int .i64 0, .int .i64 0], []⟩ 8 (by kernel_rfl) (by kernel_rfl) (by kernel_rfl) (by kernel_rfl)) ?_
  intro W base args ds gs before hval hW _ _
  exact contract H enc W base args ds gs before hval hW

theorem holds : Rows.FnExactBitsTakeSaid :=
  OpenClaim.holds_of_wide 6 Try.f6 rfl rfl rfl rfl rfl rfl rfl ⟨rfl, rfl, rfl, rfl, rfl⟩ rfl rfl rfl rfl rfl (by kernel_rfl) Try.func6 (by kernel_rfl)
    (of_decide_eq_true (by kernel_rfl)) (by unfold Func.isWrapper; first | (rw [if_pos (by decide +kernel)]; kernel_rfl) | (rw [if_neg (by decide +kernel)]; exact ⟨rfl, rfl⟩))
    (fun os started H enc _ => lifted os started H enc)
end Go.Proofs.Ytphcbjoafnffnaa.EBitsTake
