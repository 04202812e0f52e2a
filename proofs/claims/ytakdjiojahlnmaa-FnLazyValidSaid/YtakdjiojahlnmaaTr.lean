/- For every list of bytes the law FnLazyValid returns true (P67), over the program's contracts. No conditions. -/
import Derived.Test.YtakdjiojahlnmaaTn
import Derived.Test.YtakdjiojahlnmaaTd
import Derived.Test.YtakdjiojahlnmaaTl
import Derived.Test.YtakdjiojahlnmaaGx
import Derived.Deep.Cut
namespace Go.Proofs.Ytakdjiojahlnmaa
open Go.RowKit
set_option maxRecDepth 100000

theorem own_rwO {w : World} {k base : Nat} (hr : Rw w k 4 #[]) (hb : base ≤ k) : OwnO w base (.slice (some ⟨k, 0, none⟩) 0 0) [] :=
  ⟨by simp, .inr ⟨k, 0, #[], rfl, hb, hr, Nat.le_refl _, by unfold maxLen; omega, rfl, rfl⟩⟩
theorem os_rwO {w : World} {k : Nat} {b : Bool} (hr : Rw w k 4 #[.bool b]) : OS w w.heap.size (some ⟨k, 0, none⟩) 1 [b] :=
  ⟨rfl, fun _ => ⟨k, 0, rfl, hr.lt, fun j x hj => by
    match j, hj with
    | 0, hj =>
      obtain rfl := Option.some.inj hj
      exact hr.cell 0⟩⟩

set_option maxHeartbeats 16000000 in
theorem lazyValidLaw_walk (A0 : Option Addr) (n0 c0 : Nat) (w : World) (hby : Bytes w w.heap.size A0 n0) (hc0 : n0 ≤ c0) (hn0 : n0 ≤ 9223372036854775807) :
    Calls Try.prog 4 #[.slice A0 n0 c0] w fun e w' => e = .returned (.bool true) ∧ Below w.heap.size w w' := by
  by_cases hs : n0 ≤ 1048576
  case neg =>
    have hs' : (1048576 : Int) < (n0 : Int) := by omega
    go_enter Try.func4, Try.ntmps4
    go_wp2
    go_ret
    exact ⟨rfl, Below.refl _ _⟩
  have hs' : decide ((1048576 : Int) < (n0 : Int)) = false := by simp; omega
  go_enter Try.func4, Try.ntmps4
  go_wp2_with fail
  refine (drawLazyValid_any _ _ _ _ hby hc0 hn0).mono ?_
  rintro e w1 ⟨A, n, c, R, m, d, D, q, ce, h, ms, i, rfl, hnc, hmd, ⟨rvs, own⟩, hsm, hml, b1⟩
  have hsr := own.heap.reads
  have hkr := own.mks.reads
  have hn41 : n ≤ 41 := by have := hsm.1; have := hsr.cells.1; omega
  have hm4 : m ≤ 4 := by have := hsm.2.1; have := hsr.roots.1; omega
  have hq41 : q ≤ 41 := by have := hkr.1; omega
  have HKL := Lib.hid hkr.1
  have bA : Below w1.heap.size w1 (w1.alloc (.cells #[.slice A n c, .slice R m d, .slice D q ce, .int .i64 i] 30)) := (Below.refl _ _).alloc (Nat.le_refl _) _
  have bx := Rw.new w1 30 #[.slice A n c, .slice R m d, .slice D q ce, .int .i64 i]
  replace hsr := hsr.up bA
  replace hkr := hkr.up bA
  have bb := b1.trans (bA.mono b1.size)
  clear bA b1 hsm hby own hml
  go_upto_region 4 with fail
  generalize w1.alloc (.cells #[.slice A n c, .slice R m d, .slice D q ce, .int .i64 i] 30) = w2 at bx hsr hkr bb ⊢
  generalize w1.heap.size = b at bx ⊢
  have x0 : w2.cell? ⟨b, 0, none⟩ = some (.slice A n c) := bx.cell 0
  have x1 : w2.cell? ⟨b, 1, none⟩ = some (.slice R m d) := bx.cell 1
  have x2 : w2.cell? ⟨b, 2, none⟩ = some (.slice D q ce) := bx.cell 2
  have x3 : w2.cell? ⟨b, 3, none⟩ = some (.int .i64 i) := bx.cell 3
  go_wp2_with fail
  refine (lazyValid_any _ _ _ _ _ _ _ _ _ i h ms _ hsr hkr (by omega) (by omega) (by omega) hnc hmd).mono ?_
  rintro e w3 ⟨⟨r1, rfl, hr1⟩, b3⟩
  replace bx := bx.keep b3 bx.lt
  replace hsr := hsr.up b3
  replace hkr := hkr.up b3
  replace bb := bb.trans (b3.mono bb.size)
  have HR1 := Lib.hid hr1
  clear b3 hr1 x0 x1 x2 x3
  have x0 : w3.cell? ⟨b, 0, none⟩ = some (.slice A n c) := bx.cell 0
  have x1 : w3.cell? ⟨b, 1, none⟩ = some (.slice R m d) := bx.cell 1
  have x2 : w3.cell? ⟨b, 2, none⟩ = some (.slice D q ce) := bx.cell 2
  have x3 : w3.cell? ⟨b, 3, none⟩ = some (.int .i64 i) := bx.cell 3
  go_wp2_with fail
  refine (mLazyValid_any _ _ _ _ _ _ _ _ _ i h ms _ hsr hkr (by omega) (by omega) (by omega)).mono ?_
  rintro e w4 ⟨⟨r2, rfl, hr2⟩, b4⟩
  obtain rfl : r1 = r2 := by
    have := HR1.out
    cases r1 <;> cases r2 <;> simp_all
  replace bx := bx.keep b4 bx.lt
  replace hsr := hsr.up b4
  replace hkr := hkr.up b4
  replace bb := bb.trans (b4.mono bb.size)
  clear b4 hr2 x0 x1 x2 x3
  have hbb : (r1 != r1) = false := by cases r1 <;> rfl
  cases r1
  · go_wp2_with fail
    refine (alive_any _).mono ?_
    rintro e w7 ⟨rfl, b7⟩
    have bb7 := bb.trans (b7.mono bb.size)
    go_wp2_with fail
    go_ret
    exact ⟨rfl, bb7⟩
  have HOK := Lib.hid (HR1.out.1 rfl)
  have hbl := bx.lt
  clear HR1
  go_upto_region 9 with fail
  refine wp_region_inv (by kernel_rfl) (by kernel_rfl) (fun L ac ww => ∃ t5 t21 t22 t23 t24 t25 t26 t27 t28 t29 t30 t31 : Value, ac = { tmps := #[Value.slice A0 n0 c0, undef, Value.bool false, Value.pointer (some { block := b, off := 0 }), Value.bool true, t5, undef, Value.slice A0 n0 c0, Value.int IntKind.i64 ↑n0, Value.bool false, Value.slice A0 n0 c0, lzV A n c R m d D q ce i, Value.agg #[Value.slice A n c, Value.slice R m d, Value.slice D q ce, Value.int IntKind.i64 i], Value.bool true, Value.bool true, Value.agg #[Value.slice A n c, Value.slice R m d, Value.slice D q ce, Value.int IntKind.i64 i], Value.bool true, Value.bool false, Value.bool true, Value.bool false, undef, t21, t22, t23, t24, t25, t26, t27, t28, t29, t30, t31, undef, undef, undef, undef, undef, undef, undef, undef, undef, undef, undef, undef, undef, undef, undef, undef, undef, undef, undef, undef, undef, undef], defers := [] } ∧ (L 12 = false → Below w4.heap.size w4 ww) ∧ (L 0 = true → t21 = .pointer (some ⟨b, 0, none⟩)) ∧ (L 1 = true → t22 = .agg #[.slice A n c, .slice R m d]) ∧ (L 2 = true → ∃ k2 : Nat, t23 = .slice (some ⟨k2, 0, none⟩) 0 0 ∧ w4.heap.size ≤ k2 ∧ (L 5 = false → Rw ww k2 4 #[])) ∧ (L 3 = true → t24 = .pointer (some ⟨b, 2, none⟩)) ∧ (L 4 = true → t25 = .slice D q ce) ∧ (L 5 = true → ∃ (K3 : Option Addr) (c3 : Nat), t26 = .slice K3 q c3 ∧ (L 7 = false → OwnO ww w4.heap.size (.slice K3 q c3) ms)) ∧ (L 6 = true → ∃ k4 : Nat, t27 = .slice (some ⟨k4, 0, none⟩) 1 1 ∧ w4.heap.size ≤ k4 ∧ (L 7 = false → Rw ww k4 4 #[.bool true])) ∧ (L 7 = true → L 5 = true ∧ ∃ (K5 : Option Addr) (c5 : Nat), t28 = .slice K5 (q + 1) c5 ∧ (L 12 = false → OwnO ww w4.heap.size (.slice K5 (q + 1) c5) (ms ++ [true]))) ∧ (L 8 = true → t29 = .pointer (some ⟨b, 3, none⟩)) ∧ (L 9 = true → t30 = .int .i64 i) ∧ (L 10 = true → L 7 = true ∧ ∃ (K5 : Option Addr) (c5 : Nat), t28 = .slice K5 (q + 1) c5 ∧ t31 = .agg #[.slice A n c, .slice R m d, .slice K5 (q + 1) c5, .int .i64 i]) ∧ (L 11 = true → ∃ gx : Nat, t5 = .pointer (some ⟨gx, 0, none⟩) ∧ w4.heap.size ≤ gx ∧ (L 12 = false → Rw ww gx 30 #[.slice none 0 0, .slice none 0 0, .slice none 0 0, .int .i64 0])) ∧ (L 12 = true → (∀ q, q < 12 → L q = true) ∧ ∃ (K5 : Option Addr) (c5 gx : Nat), t5 = .pointer (some ⟨gx, 0, none⟩) ∧ OwnO ww w4.heap.size (.slice K5 (q + 1) c5) (ms ++ [true]) ∧ Rw ww gx 30 #[.slice A n c, .slice R m d, .slice K5 (q + 1) c5, .int .i64 i] ∧ Below w4.heap.size w4 ww)) ?h0 ?hstep ?hdone
  case h0 => exact ⟨_, _, _, _, _, _, _, _, _, _, _, _, rfl, fun _ => (Below.refl _ _).drew, (fun h => absurd h Bool.false_ne_true), (fun h => absurd h Bool.false_ne_true), (fun h => absurd h Bool.false_ne_true), (fun h => absurd h Bool.false_ne_true), (fun h => absurd h Bool.false_ne_true), (fun h => absurd h Bool.false_ne_true), (fun h => absurd h Bool.false_ne_true), (fun h => absurd h Bool.false_ne_true), (fun h => absurd h Bool.false_ne_true), (fun h => absurd h Bool.false_ne_true), (fun h => absurd h Bool.false_ne_true), (fun h => absurd h Bool.false_ne_true), (fun h => absurd h Bool.false_ne_true)⟩
  case hstep =>
    rintro L ac ww i o ho hL hd ⟨t5, t21, t22, t23, t24, t25, t26, t27, t28, t29, t30, t31, rfl, I0, f0, f1, f2, f3, f4, f5, f6, f7, f8, f9, f10, f11, f12⟩
    have hi : i < 13 := (Array.getElem?_eq_some_iff.1 ho).1
    obtain rfl | rfl | rfl | rfl | rfl | rfl | rfl | rfl | rfl | rfl | rfl | rfl | rfl : i = 0 ∨ i = 1 ∨ i = 2 ∨ i = 3 ∨ i = 4 ∨ i = 5 ∨ i = 6 ∨ i = 7 ∨ i = 8 ∨ i = 9 ∨ i = 10 ∨ i = 11 ∨ i = 12 := by omega
    · obtain rfl := Option.some.inj ho
      have hLS : L 12 = false := by
        cases e : L 12
        · rfl
        · exact absurd ((f12 e).1 0 (by decide)) (by rw [hL]; decide)
      have J := I0 hLS
      refine wpOp_step rfl (fun K' hK => ?_)
      go_simp
      refine hK _ _ ?_
      exact ⟨_, _, _, _, _, _, _, _, _, _, _, _, rfl, (fun _ => J), (fun _ => rfl), (kp f1), (fun h => by
        obtain ⟨k2, e, hk, r⟩ := f2 (upd_ne h (by decide))
        exact ⟨k2, e, hk, fun h6 => r (by rw [upd_other (by decide)] at h6; exact h6)⟩), (kp f3), (kp f4), (fun h => by
        obtain ⟨K3, c3, e, r⟩ := f5 (upd_ne h (by decide))
        exact ⟨K3, c3, e, fun h6 => r (by rw [upd_other (by decide)] at h6; exact h6)⟩), (fun h => by
        obtain ⟨k4, e, hk, r⟩ := f6 (upd_ne h (by decide))
        exact ⟨k4, e, hk, fun h6 => r (by rw [upd_other (by decide)] at h6; exact h6)⟩), (fun h => by
        obtain ⟨l5, K5, c5, e, r⟩ := f7 (upd_ne h (by decide))
        exact ⟨upd_mono l5, K5, c5, e, fun h6 => r (by rw [upd_other (by decide)] at h6; exact h6)⟩), (kp f8), (kp f9), (fun h => by
        obtain ⟨l7, r⟩ := f10 (upd_ne h (by decide))
        exact ⟨upd_mono l7, r⟩), (fun h => by
        obtain ⟨gx, e, hk, r⟩ := f11 (upd_ne h (by decide))
        exact ⟨gx, e, hk, fun h6 => r (by rw [upd_other (by decide)] at h6; exact h6)⟩), (fun h => absurd hLS (by rw [upd_ne h (by decide)]; decide))⟩
    · obtain rfl := Option.some.inj ho
      have g0 := f0 (hd ⟨0, .data⟩ (by simp) rfl)
      subst g0
      have hLS : L 12 = false := by
        cases e : L 12
        · rfl
        · exact absurd ((f12 e).1 1 (by decide)) (by rw [hL]; decide)
      have J := I0 hLS
      have z0 : ww.cell? ⟨b, 0, none⟩ = some (.slice A n c) := (J.cell (p := ⟨b, 0, none⟩) hbl).trans (bx.cell 0)
      have z1 : ww.cell? ⟨b, 1, none⟩ = some (.slice R m d) := (J.cell (p := ⟨b, 1, none⟩) hbl).trans (bx.cell 1)
      refine wpOp_step rfl (fun K' hK => ?_)
      go_simp
      refine hK _ _ ?_
      exact ⟨_, _, _, _, _, _, _, _, _, _, _, _, rfl, (fun _ => J), (kp f0), (fun _ => rfl), (fun h => by
        obtain ⟨k2, e, hk, r⟩ := f2 (upd_ne h (by decide))
        exact ⟨k2, e, hk, fun h6 => r (by rw [upd_other (by decide)] at h6; exact h6)⟩), (kp f3), (kp f4), (fun h => by
        obtain ⟨K3, c3, e, r⟩ := f5 (upd_ne h (by decide))
        exact ⟨K3, c3, e, fun h6 => r (by rw [upd_other (by decide)] at h6; exact h6)⟩), (fun h => by
        obtain ⟨k4, e, hk, r⟩ := f6 (upd_ne h (by decide))
        exact ⟨k4, e, hk, fun h6 => r (by rw [upd_other (by decide)] at h6; exact h6)⟩), (fun h => by
        obtain ⟨l5, K5, c5, e, r⟩ := f7 (upd_ne h (by decide))
        exact ⟨upd_mono l5, K5, c5, e, fun h6 => r (by rw [upd_other (by decide)] at h6; exact h6)⟩), (kp f8), (kp f9), (fun h => by
        obtain ⟨l7, r⟩ := f10 (upd_ne h (by decide))
        exact ⟨upd_mono l7, r⟩), (fun h => by
        obtain ⟨gx, e, hk, r⟩ := f11 (upd_ne h (by decide))
        exact ⟨gx, e, hk, fun h6 => r (by rw [upd_other (by decide)] at h6; exact h6)⟩), (fun h => absurd hLS (by rw [upd_ne h (by decide)]; decide))⟩
    · obtain rfl := Option.some.inj ho
      have hLS : L 12 = false := by
        cases e : L 12
        · rfl
        · exact absurd ((f12 e).1 2 (by decide)) (by rw [hL]; decide)
      have J := I0 hLS
      refine wpOp_step rfl (fun K' hK => ?_)
      go_simp
      refine hK _ _ ?_
      exact ⟨_, _, _, _, _, _, _, _, _, _, _, _, rfl, (fun _ => J.alloc J.size _), (kp f0), (kp f1), (fun _ => ⟨ww.heap.size, rfl, J.size, fun _ => Rw.new ww 4 #[]⟩), (kp f3), (kp f4), (fun h => by
        obtain ⟨K3, c3, e, r⟩ := f5 (upd_ne h (by decide))
        exact ⟨K3, c3, e, fun h6 => World.ownsRow.alloc (r (by rw [upd_other (by decide)] at h6; exact h6)) _⟩), (fun h => by
        obtain ⟨k4, e, hk, r⟩ := f6 (upd_ne h (by decide))
        exact ⟨k4, e, hk, fun h6 => (r (by rw [upd_other (by decide)] at h6; exact h6)).alloc _⟩), (fun h => by
        obtain ⟨l5, K5, c5, e, r⟩ := f7 (upd_ne h (by decide))
        exact ⟨upd_mono l5, K5, c5, e, fun h6 => World.ownsRow.alloc (r (by rw [upd_other (by decide)] at h6; exact h6)) _⟩), (kp f8), (kp f9), (fun h => by
        obtain ⟨l7, r⟩ := f10 (upd_ne h (by decide))
        exact ⟨upd_mono l7, r⟩), (fun h => by
        obtain ⟨gx, e, hk, r⟩ := f11 (upd_ne h (by decide))
        exact ⟨gx, e, hk, fun h6 => (r (by rw [upd_other (by decide)] at h6; exact h6)).alloc _⟩), (fun h => absurd hLS (by rw [upd_ne h (by decide)]; decide))⟩
    · obtain rfl := Option.some.inj ho
      have hLS : L 12 = false := by
        cases e : L 12
        · rfl
        · exact absurd ((f12 e).1 3 (by decide)) (by rw [hL]; decide)
      have J := I0 hLS
      refine wpOp_step rfl (fun K' hK => ?_)
      go_simp
      refine hK _ _ ?_
      exact ⟨_, _, _, _, _, _, _, _, _, _, _, _, rfl, (fun _ => J), (kp f0), (kp f1), (fun h => by
        obtain ⟨k2, e, hk, r⟩ := f2 (upd_ne h (by decide))
        exact ⟨k2, e, hk, fun h6 => r (by rw [upd_other (by decide)] at h6; exact h6)⟩), (fun _ => rfl), (kp f4), (fun h => by
        obtain ⟨K3, c3, e, r⟩ := f5 (upd_ne h (by decide))
        exact ⟨K3, c3, e, fun h6 => r (by rw [upd_other (by decide)] at h6; exact h6)⟩), (fun h => by
        obtain ⟨k4, e, hk, r⟩ := f6 (upd_ne h (by decide))
        exact ⟨k4, e, hk, fun h6 => r (by rw [upd_other (by decide)] at h6; exact h6)⟩), (fun h => by
        obtain ⟨l5, K5, c5, e, r⟩ := f7 (upd_ne h (by decide))
        exact ⟨upd_mono l5, K5, c5, e, fun h6 => r (by rw [upd_other (by decide)] at h6; exact h6)⟩), (kp f8), (kp f9), (fun h => by
        obtain ⟨l7, r⟩ := f10 (upd_ne h (by decide))
        exact ⟨upd_mono l7, r⟩), (fun h => by
        obtain ⟨gx, e, hk, r⟩ := f11 (upd_ne h (by decide))
        exact ⟨gx, e, hk, fun h6 => r (by rw [upd_other (by decide)] at h6; exact h6)⟩), (fun h => absurd hLS (by rw [upd_ne h (by decide)]; decide))⟩
    · obtain rfl := Option.some.inj ho
      have g3 := f3 (hd ⟨3, .data⟩ (by simp) rfl)
      subst g3
      have hLS : L 12 = false := by
        cases e : L 12
        · rfl
        · exact absurd ((f12 e).1 4 (by decide)) (by rw [hL]; decide)
      have J := I0 hLS
      have z2 : ww.cell? ⟨b, 2, none⟩ = some (.slice D q ce) := (J.cell (p := ⟨b, 2, none⟩) hbl).trans (bx.cell 2)
      refine wpOp_step rfl (fun K' hK => ?_)
      go_simp
      refine hK _ _ ?_
      exact ⟨_, _, _, _, _, _, _, _, _, _, _, _, rfl, (fun _ => J), (kp f0), (kp f1), (fun h => by
        obtain ⟨k2, e, hk, r⟩ := f2 (upd_ne h (by decide))
        exact ⟨k2, e, hk, fun h6 => r (by rw [upd_other (by decide)] at h6; exact h6)⟩), (kp f3), (fun _ => rfl), (fun h => by
        obtain ⟨K3, c3, e, r⟩ := f5 (upd_ne h (by decide))
        exact ⟨K3, c3, e, fun h6 => r (by rw [upd_other (by decide)] at h6; exact h6)⟩), (fun h => by
        obtain ⟨k4, e, hk, r⟩ := f6 (upd_ne h (by decide))
        exact ⟨k4, e, hk, fun h6 => r (by rw [upd_other (by decide)] at h6; exact h6)⟩), (fun h => by
        obtain ⟨l5, K5, c5, e, r⟩ := f7 (upd_ne h (by decide))
        exact ⟨upd_mono l5, K5, c5, e, fun h6 => r (by rw [upd_other (by decide)] at h6; exact h6)⟩), (kp f8), (kp f9), (fun h => by
        obtain ⟨l7, r⟩ := f10 (upd_ne h (by decide))
        exact ⟨upd_mono l7, r⟩), (fun h => by
        obtain ⟨gx, e, hk, r⟩ := f11 (upd_ne h (by decide))
        exact ⟨gx, e, hk, fun h6 => r (by rw [upd_other (by decide)] at h6; exact h6)⟩), (fun h => absurd hLS (by rw [upd_ne h (by decide)]; decide))⟩
    · obtain rfl := Option.some.inj ho
      have g2 := f2 (hd ⟨2, .data⟩ (by simp) rfl)
      have g4 := f4 (hd ⟨4, .data⟩ (by simp) rfl)
      subst g4
      have hLS : L 12 = false := by
        cases e : L 12
        · rfl
        · exact absurd ((f12 e).1 5 (by decide)) (by rw [hL]; decide)
      have J := I0 hLS
      obtain ⟨k2, e2, hk2, r2⟩ := g2
      subst e2
      have rw2 := r2 hL
      have o2 := own_rwO rw2 hk2
      refine wpOp_step rfl (fun K' hK => ?_)
      refine app_stepO rfl (.tmp 23) (.tmp 25) rfl w4.heap.size _ [] rfl o2 D q ce ww.heap.size ms rfl (hkr.up J) (by have := HKL.out; simp <;> omega) J.size ?_
      intro v' w' o1 g1 s1
      rw [List.nil_append] at o1
      have JN := J.grown g1 J.size (fun kk hk => by have e2 : k2 = kk := Option.some.inj hk; omega)
      obtain ⟨K3, c3, e3, -⟩ := o1.form
      rw [HKL.out] at e3
      subst e3
      refine hK _ _ ?_
      exact ⟨_, _, _, _, _, _, _, _, _, _, _, _, rfl, (fun _ => JN), (kp f0), (kp f1), (fun _ => ⟨k2, rfl, hk2, fun h => absurd h (by rw [upd_self]; decide)⟩), (kp f3), (kp f4), (fun _ => ⟨K3, c3, rfl, fun _ => o1⟩), (fun h => by
        obtain ⟨k4, e, hk, r⟩ := f6 (upd_ne h (by decide))
        exact ⟨k4, e, hk, fun h6 => by
          have r4 := r (by rw [upd_other (by decide)] at h6; exact h6)
          exact r4.far g1 (fun e => rw_size r4 rw2 (by decide) (Option.some.inj e))⟩), (fun h => absurd (f7 (upd_ne h (by decide))).1 (by rw [hL]; decide)), (kp f8), (kp f9), (fun h => by
        obtain ⟨l7, r⟩ := f10 (upd_ne h (by decide))
        exact ⟨upd_mono l7, r⟩), (fun h => by
        obtain ⟨gx, e, hk, r⟩ := f11 (upd_ne h (by decide))
        exact ⟨gx, e, hk, fun h6 => by
          have r4 := r (by rw [upd_other (by decide)] at h6; exact h6)
          exact r4.far g1 (fun e => rw_type r4 rw2 (by decide) (Option.some.inj e))⟩), (fun h => absurd hLS (by rw [upd_ne h (by decide)]; decide))⟩
    · obtain rfl := Option.some.inj ho
      have hLS : L 12 = false := by
        cases e : L 12
        · rfl
        · exact absurd ((f12 e).1 6 (by decide)) (by rw [hL]; decide)
      have J := I0 hLS
      refine wpOp_step rfl (fun K' hK => ?_)
      go_simp
      refine hK _ _ ?_
      exact ⟨_, _, _, _, _, _, _, _, _, _, _, _, rfl, (fun _ => J.alloc J.size _), (kp f0), (kp f1), (fun h => by
        obtain ⟨k2, e, hk, r⟩ := f2 (upd_ne h (by decide))
        exact ⟨k2, e, hk, fun h6 => (r (by rw [upd_other (by decide)] at h6; exact h6)).alloc _⟩), (kp f3), (kp f4), (fun h => by
        obtain ⟨K3, c3, e, r⟩ := f5 (upd_ne h (by decide))
        exact ⟨K3, c3, e, fun h6 => World.ownsRow.alloc (r (by rw [upd_other (by decide)] at h6; exact h6)) _⟩), (fun _ => ⟨ww.heap.size, rfl, J.size, fun _ => Rw.new ww 4 #[.bool true]⟩), (fun h => by
        obtain ⟨l5, K5, c5, e, r⟩ := f7 (upd_ne h (by decide))
        exact ⟨upd_mono l5, K5, c5, e, fun h6 => World.ownsRow.alloc (r (by rw [upd_other (by decide)] at h6; exact h6)) _⟩), (kp f8), (kp f9), (fun h => by
        obtain ⟨l7, r⟩ := f10 (upd_ne h (by decide))
        exact ⟨upd_mono l7, r⟩), (fun h => by
        obtain ⟨gx, e, hk, r⟩ := f11 (upd_ne h (by decide))
        exact ⟨gx, e, hk, fun h6 => (r (by rw [upd_other (by decide)] at h6; exact h6)).alloc _⟩), (fun h => absurd hLS (by rw [upd_ne h (by decide)]; decide))⟩
    · obtain rfl := Option.some.inj ho
      have g5 := f5 (hd ⟨5, .data⟩ (by simp) rfl)
      have g6 := f6 (hd ⟨6, .data⟩ (by simp) rfl)
      have hLS : L 12 = false := by
        cases e : L 12
        · rfl
        · exact absurd ((f12 e).1 7 (by decide)) (by rw [hL]; decide)
      have J := I0 hLS
      have l5 := Lib.hid (hd ⟨5, .data⟩ (by simp) rfl)
      obtain ⟨K3, c3, e5, r5⟩ := g5
      subst e5
      have o3 := r5 hL
      obtain ⟨k4, e6, hk4, r6⟩ := g6
      subst e6
      have rw4 := r6 hL
      have os4 := os_rwO rw4
      refine wpOp_step rfl (fun K' hK => ?_)
      refine app_stepO rfl (.tmp 26) (.tmp 27) rfl w4.heap.size _ ms rfl o3 (some ⟨k4, 0, none⟩) 1 1 ww.heap.size [true] rfl os4 (by have := HKL.out; omega) J.size ?_
      intro v' w' o1 g1 s1
      have JN := J.grown g1 J.size (fun kk hk => (World.ownsRow.lt o3 kk hk).1)
      obtain ⟨K5, c5, e3, -⟩ := o1.form
      rw [List.length_append, HKL.out, List.length_singleton] at e3
      subst e3
      refine hK _ _ ?_
      exact ⟨_, _, _, _, _, _, _, _, _, _, _, _, rfl, (fun _ => JN), (kp f0), (kp f1), (fun h => by
        obtain ⟨k2, e, hk, r⟩ := f2 (upd_ne h (by decide))
        exact ⟨k2, e, hk, fun h6 => absurd h6 (by rw [upd_other (by decide), l5.out]; decide)⟩), (kp f3), (kp f4), (fun _ => ⟨K3, c3, rfl, fun h => absurd h (by rw [upd_self]; decide)⟩), (fun _ => ⟨k4, rfl, hk4, fun h => absurd h (by rw [upd_self]; decide)⟩), (fun _ => ⟨upd_mono l5.out, K5, c5, rfl, fun _ => o1⟩), (kp f8), (kp f9), (fun h => absurd (f10 (upd_ne h (by decide))).1 (by rw [hL]; decide)), (fun h => by
        obtain ⟨gx, e, hk, r⟩ := f11 (upd_ne h (by decide))
        exact ⟨gx, e, hk, fun h6 => by
          have r4 := r (by rw [upd_other (by decide)] at h6; exact h6)
          exact r4.far g1 (row_type o3 r4 (by decide))⟩), (fun h => absurd hLS (by rw [upd_ne h (by decide)]; decide))⟩
    · obtain rfl := Option.some.inj ho
      have hLS : L 12 = false := by
        cases e : L 12
        · rfl
        · exact absurd ((f12 e).1 8 (by decide)) (by rw [hL]; decide)
      have J := I0 hLS
      refine wpOp_step rfl (fun K' hK => ?_)
      go_simp
      refine hK _ _ ?_
      exact ⟨_, _, _, _, _, _, _, _, _, _, _, _, rfl, (fun _ => J), (kp f0), (kp f1), (fun h => by
        obtain ⟨k2, e, hk, r⟩ := f2 (upd_ne h (by decide))
        exact ⟨k2, e, hk, fun h6 => r (by rw [upd_other (by decide)] at h6; exact h6)⟩), (kp f3), (kp f4), (fun h => by
        obtain ⟨K3, c3, e, r⟩ := f5 (upd_ne h (by decide))
        exact ⟨K3, c3, e, fun h6 => r (by rw [upd_other (by decide)] at h6; exact h6)⟩), (fun h => by
        obtain ⟨k4, e, hk, r⟩ := f6 (upd_ne h (by decide))
        exact ⟨k4, e, hk, fun h6 => r (by rw [upd_other (by decide)] at h6; exact h6)⟩), (fun h => by
        obtain ⟨l5, K5, c5, e, r⟩ := f7 (upd_ne h (by decide))
        exact ⟨upd_mono l5, K5, c5, e, fun h6 => r (by rw [upd_other (by decide)] at h6; exact h6)⟩), (fun _ => rfl), (kp f9), (fun h => by
        obtain ⟨l7, r⟩ := f10 (upd_ne h (by decide))
        exact ⟨upd_mono l7, r⟩), (fun h => by
        obtain ⟨gx, e, hk, r⟩ := f11 (upd_ne h (by decide))
        exact ⟨gx, e, hk, fun h6 => r (by rw [upd_other (by decide)] at h6; exact h6)⟩), (fun h => absurd hLS (by rw [upd_ne h (by decide)]; decide))⟩
    · obtain rfl := Option.some.inj ho
      have g8 := f8 (hd ⟨8, .data⟩ (by simp) rfl)
      subst g8
      have hLS : L 12 = false := by
        cases e : L 12
        · rfl
        · exact absurd ((f12 e).1 9 (by decide)) (by rw [hL]; decide)
      have J := I0 hLS
      have z3 : ww.cell? ⟨b, 3, none⟩ = some (.int .i64 i) := (J.cell (p := ⟨b, 3, none⟩) hbl).trans (bx.cell 3)
      refine wpOp_step rfl (fun K' hK => ?_)
      go_simp
      refine hK _ _ ?_
      exact ⟨_, _, _, _, _, _, _, _, _, _, _, _, rfl, (fun _ => J), (kp f0), (kp f1), (fun h => by
        obtain ⟨k2, e, hk, r⟩ := f2 (upd_ne h (by decide))
        exact ⟨k2, e, hk, fun h6 => r (by rw [upd_other (by decide)] at h6; exact h6)⟩), (kp f3), (kp f4), (fun h => by
        obtain ⟨K3, c3, e, r⟩ := f5 (upd_ne h (by decide))
        exact ⟨K3, c3, e, fun h6 => r (by rw [upd_other (by decide)] at h6; exact h6)⟩), (fun h => by
        obtain ⟨k4, e, hk, r⟩ := f6 (upd_ne h (by decide))
        exact ⟨k4, e, hk, fun h6 => r (by rw [upd_other (by decide)] at h6; exact h6)⟩), (fun h => by
        obtain ⟨l5, K5, c5, e, r⟩ := f7 (upd_ne h (by decide))
        exact ⟨upd_mono l5, K5, c5, e, fun h6 => r (by rw [upd_other (by decide)] at h6; exact h6)⟩), (kp f8), (fun _ => rfl), (fun h => by
        obtain ⟨l7, r⟩ := f10 (upd_ne h (by decide))
        exact ⟨upd_mono l7, r⟩), (fun h => by
        obtain ⟨gx, e, hk, r⟩ := f11 (upd_ne h (by decide))
        exact ⟨gx, e, hk, fun h6 => r (by rw [upd_other (by decide)] at h6; exact h6)⟩), (fun h => absurd hLS (by rw [upd_ne h (by decide)]; decide))⟩
    · obtain rfl := Option.some.inj ho
      have g1 := f1 (hd ⟨1, .data⟩ (by simp) rfl)
      have g7 := f7 (hd ⟨7, .data⟩ (by simp) rfl)
      have g9 := f9 (hd ⟨9, .data⟩ (by simp) rfl)
      subst g1
      subst g9
      have hLS : L 12 = false := by
        cases e : L 12
        · rfl
        · exact absurd ((f12 e).1 10 (by decide)) (by rw [hL]; decide)
      have J := I0 hLS
      have l7 := Lib.hid (hd ⟨7, .data⟩ (by simp) rfl)
      obtain ⟨l5, K5, c5, e7, r7⟩ := g7
      have L5 := Lib.hid l5
      clear l5
      subst e7
      refine wpOp_step rfl (fun K' hK => ?_)
      go_simp
      refine hK _ _ ?_
      exact ⟨_, _, _, _, _, _, _, _, _, _, _, _, rfl, (fun _ => J), (kp f0), (kp f1), (fun h => by
        obtain ⟨k2, e, hk, r⟩ := f2 (upd_ne h (by decide))
        exact ⟨k2, e, hk, fun h6 => r (by rw [upd_other (by decide)] at h6; exact h6)⟩), (kp f3), (kp f4), (fun h => by
        obtain ⟨K3, c3, e, r⟩ := f5 (upd_ne h (by decide))
        exact ⟨K3, c3, e, fun h6 => r (by rw [upd_other (by decide)] at h6; exact h6)⟩), (fun h => by
        obtain ⟨k4, e, hk, r⟩ := f6 (upd_ne h (by decide))
        exact ⟨k4, e, hk, fun h6 => r (by rw [upd_other (by decide)] at h6; exact h6)⟩), (fun _ => ⟨upd_mono L5.out, K5, c5, rfl, fun h6 => r7 (by rw [upd_other (by decide)] at h6; exact h6)⟩), (kp f8), (kp f9), (fun _ => ⟨upd_mono l7.out, K5, c5, rfl, rfl⟩), (fun h => by
        obtain ⟨gx, e, hk, r⟩ := f11 (upd_ne h (by decide))
        exact ⟨gx, e, hk, fun h6 => r (by rw [upd_other (by decide)] at h6; exact h6)⟩), (fun h => absurd hLS (by rw [upd_ne h (by decide)]; decide))⟩
    · obtain rfl := Option.some.inj ho
      have hLS : L 12 = false := by
        cases e : L 12
        · rfl
        · exact absurd ((f12 e).1 11 (by decide)) (by rw [hL]; decide)
      have J := I0 hLS
      refine wpOp_step rfl (fun K' hK => ?_)
      go_simp
      refine hK _ _ ?_
      exact ⟨_, _, _, _, _, _, _, _, _, _, _, _, rfl, (fun _ => J.alloc J.size _), (kp f0), (kp f1), (fun h => by
        obtain ⟨k2, e, hk, r⟩ := f2 (upd_ne h (by decide))
        exact ⟨k2, e, hk, fun h6 => (r (by rw [upd_other (by decide)] at h6; exact h6)).alloc _⟩), (kp f3), (kp f4), (fun h => by
        obtain ⟨K3, c3, e, r⟩ := f5 (upd_ne h (by decide))
        exact ⟨K3, c3, e, fun h6 => World.ownsRow.alloc (r (by rw [upd_other (by decide)] at h6; exact h6)) _⟩), (fun h => by
        obtain ⟨k4, e, hk, r⟩ := f6 (upd_ne h (by decide))
        exact ⟨k4, e, hk, fun h6 => (r (by rw [upd_other (by decide)] at h6; exact h6)).alloc _⟩), (fun h => by
        obtain ⟨l5, K5, c5, e, r⟩ := f7 (upd_ne h (by decide))
        exact ⟨upd_mono l5, K5, c5, e, fun h6 => World.ownsRow.alloc (r (by rw [upd_other (by decide)] at h6; exact h6)) _⟩), (kp f8), (kp f9), (fun h => by
        obtain ⟨l7, r⟩ := f10 (upd_ne h (by decide))
        exact ⟨upd_mono l7, r⟩), (fun _ => ⟨ww.heap.size, rfl, J.size, fun _ => Rw.new ww 30 #[.slice none 0 0, .slice none 0 0, .slice none 0 0, .int .i64 0]⟩), (fun h => absurd hLS (by rw [upd_ne h (by decide)]; decide))⟩
    · obtain rfl := Option.some.inj ho
      have g10 := f10 (hd ⟨10, .data⟩ (by simp) rfl)
      have g11 := f11 (hd ⟨11, .data⟩ (by simp) rfl)
      have lq : Hid (∀ q, q < 12 → L q = true) := Lib.hid (by
        intro q hq
        obtain rfl | rfl | rfl | rfl | rfl | rfl | rfl | rfl | rfl | rfl | rfl | rfl : q = 0 ∨ q = 1 ∨ q = 2 ∨ q = 3 ∨ q = 4 ∨ q = 5 ∨ q = 6 ∨ q = 7 ∨ q = 8 ∨ q = 9 ∨ q = 10 ∨ q = 11 := by omega
        · exact hd ⟨0, .phase⟩ (by simp) rfl
        · exact hd ⟨1, .phase⟩ (by simp) rfl
        · exact hd ⟨2, .phase⟩ (by simp) rfl
        · exact hd ⟨3, .phase⟩ (by simp) rfl
        · exact hd ⟨4, .phase⟩ (by simp) rfl
        · exact hd ⟨5, .phase⟩ (by simp) rfl
        · exact hd ⟨6, .phase⟩ (by simp) rfl
        · exact hd ⟨7, .phase⟩ (by simp) rfl
        · exact hd ⟨8, .phase⟩ (by simp) rfl
        · exact hd ⟨9, .phase⟩ (by simp) rfl
        · exact hd ⟨10, .phase⟩ (by simp) rfl
        · exact hd ⟨11, .phase⟩ (by simp) rfl)
      have J := I0 hL
      obtain ⟨l7, K5, c5, e7, e10⟩ := g10
      subst e10
      obtain ⟨l5, K6, c6, e7b, r7⟩ := f7 (lq.out 7 (by decide))
      have o7 := r7 hL
      rw [e7] at e7b
      injection e7b with h1 h2 h3
      subst h1
      subst h3
      subst e7
      clear l7 l5 h2
      obtain ⟨gx, e11, hgx, r11⟩ := g11
      subst e11
      have P := r11 hL
      have zf0 : ww.frozen? ⟨gx, 0, none⟩ = false := P.frozen 0
      have zf1 : ww.frozen? ⟨gx, 1, none⟩ = false := P.frozen 1
      have zf2 : ww.frozen? ⟨gx, 2, none⟩ = false := P.frozen 2
      have zf3 : ww.frozen? ⟨gx, 3, none⟩ = false := P.frozen 3
      have zc0 : ww.cell? ⟨gx, 0, none⟩ = some (.slice none 0 0) := P.cell 0
      have zc1 : ww.cell? ⟨gx, 1, none⟩ = some (.slice none 0 0) := P.cell 1
      have zc2 : ww.cell? ⟨gx, 2, none⟩ = some (.slice none 0 0) := P.cell 2
      have zc3 : ww.cell? ⟨gx, 3, none⟩ = some (.int .i64 0) := P.cell 3
      have hne : some gx ≠ (Value.slice K5 (q + 1) c5).ownBlock := row_type o7 P (by decide)
      have hap : (Value.slice K5 (q + 1) c5).ownBlock = none ∨ (Value.slice K5 (q + 1) c5).ownBlock ≠ some gx := .inr (fun e => hne e.symm)
      refine wpOp_step rfl (fun K' hK => ?_)
      go_simp
      refine hK _ _ ?_
      exact ⟨_, _, _, _, _, _, _, _, _, _, _, _, rfl, (fun h => absurd h (by rw [upd_self]; decide)), (kp f0), (kp f1), (fun h => by
        obtain ⟨k2, e, hk, r⟩ := f2 (upd_ne h (by decide))
        exact ⟨k2, e, hk, fun h6 => absurd (lq.out 5 (by decide)) (by rw [upd_other (by decide)] at h6; rw [h6]; decide)⟩), (kp f3), (kp f4), (fun h => by
        obtain ⟨K3, c3, e, r⟩ := f5 (upd_ne h (by decide))
        exact ⟨K3, c3, e, fun h6 => absurd (lq.out 7 (by decide)) (by rw [upd_other (by decide)] at h6; rw [h6]; decide)⟩), (fun h => by
        obtain ⟨k4, e, hk, r⟩ := f6 (upd_ne h (by decide))
        exact ⟨k4, e, hk, fun h6 => absurd (lq.out 7 (by decide)) (by rw [upd_other (by decide)] at h6; rw [h6]; decide)⟩), (fun _ => ⟨upd_mono (lq.out 5 (by decide)), K5, c5, rfl, fun h => absurd h (by rw [upd_self]; decide)⟩), (kp f8), (kp f9), (fun _ => ⟨upd_mono (lq.out 7 (by decide)), K5, c5, rfl, rfl⟩), (fun _ => ⟨gx, rfl, hgx, fun h => absurd h (by rw [upd_self]; decide)⟩), (fun _ => ⟨fun q hq => upd_mono (lq.out q hq), K5, c5, gx, rfl, ((((o7.far (put_any _ gx 0 (.slice A n c)) hap).far (put_any _ gx 1 (.slice R m d)) hap).far (put_any _ gx 2 (.slice K5 (q + 1) c5)) hap).far (put_any _ gx 3 (.int .i64 i)) hap), by simpa using ((((P.put 0 (.slice A n c)).put 1 (.slice R m d)).put 2 (.slice K5 (q + 1) c5)).put 3 (.int .i64 i)), ((((J.setCell (p := ⟨gx, 0, none⟩) hgx (.slice A n c)).setCell (p := ⟨gx, 1, none⟩) hgx (.slice R m d)).setCell (p := ⟨gx, 2, none⟩) hgx (.slice K5 (q + 1) c5)).setCell (p := ⟨gx, 3, none⟩) hgx (.int .i64 i))⟩)⟩
  case hdone =>
    rintro L ac ww hall ⟨t5, t21, t22, t23, t24, t25, t26, t27, t28, t29, t30, t31, rfl, I0, f0, f1, f2, f3, f4, f5, f6, f7, f8, f9, f10, f11, f12⟩
    have e0 := f0 (hall 0 (by decide))
    have e1 := f1 (hall 1 (by decide))
    have e2 := f2 (hall 2 (by decide))
    have e3 := f3 (hall 3 (by decide))
    have e4 := f4 (hall 4 (by decide))
    have e5 := f5 (hall 5 (by decide))
    have e6 := f6 (hall 6 (by decide))
    have e7 := f7 (hall 7 (by decide))
    have e8 := f8 (hall 8 (by decide))
    have e9 := f9 (hall 9 (by decide))
    have e10 := f10 (hall 10 (by decide))
    have e11 := f11 (hall 11 (by decide))
    have e12 := f12 (hall 12 (by decide))
    clear f0 f1 f2 f3 f4 f5 f6 f7 f8 f9 f10 f11 f12
    obtain ⟨-, K5, c5, gx, et, o7, lx, J⟩ := e12
    subst et
    have hlr := o7.reads
    replace bx := bx.keep J hbl
    replace hsr := hsr.up J
    replace hkr := hkr.up J
    replace bb := bb.trans (J.mono bb.size)
    clear I0 e0 e1 e2 e3 e4 e5 e6 e7 e8 e9 e10 e11 hall o7 J hbl
    generalize ww = w5 at bx hsr hkr bb lx hlr ⊢
    have hbl := bx.lt
    have hgl := lx.lt
    go_upto_region 10 with fail
    refine wp_region_inv (by kernel_rfl) (by kernel_rfl) (fun L ac ww => ∃ t6 t32 t33 t34 t35 t36 t37 t38 : Value, ac = { tmps := #[Value.slice A0 n0 c0, undef, Value.bool false, Value.pointer (some { block := b, off := 0 }), Value.bool true, Value.pointer (some { block := gx, off := 0 }), t6, Value.slice A0 n0 c0, Value.int IntKind.i64 ↑n0, Value.bool false, Value.slice A0 n0 c0, lzV A n c R m d D q ce i, Value.agg #[Value.slice A n c, Value.slice R m d, Value.slice D q ce, Value.int IntKind.i64 i], Value.bool true, Value.bool true, Value.agg #[Value.slice A n c, Value.slice R m d, Value.slice D q ce, Value.int IntKind.i64 i], Value.bool true, Value.bool false, Value.bool true, Value.bool false, undef, t21, t22, t23, t24, t25, t26, t27, t28, t29, t30, t31, t32, t33, t34, t35, t36, t37, t38, undef, undef, undef, undef, undef, undef, undef, undef, undef, undef, undef, undef, undef, undef, undef], defers := [] } ∧ (L 8 = false → Below w5.heap.size w5 ww) ∧ (L 0 = true → t32 = .pointer (some ⟨b, 0, none⟩)) ∧ (L 1 = true → t33 = .agg #[.slice A n c, .slice R m d]) ∧ (L 2 = true → t34 = .pointer (some ⟨b, 2, none⟩)) ∧ (L 3 = true → t35 = .slice D q ce) ∧ (L 4 = true → t36 = .int .i64 (q : Nat)) ∧ (L 5 = true → ∃ kf : Nat, t37 = .slice (some ⟨kf, 0, none⟩) q q ∧ w5.heap.size ≤ kf ∧ (L 8 = false → Rw ww kf 4 (Array.replicate q (.bool false)))) ∧ (L 6 = true → L 5 = true ∧ ∃ kf : Nat, t37 = .slice (some ⟨kf, 0, none⟩) q q ∧ t38 = .agg #[.slice A n c, .slice R m d, .slice (some ⟨kf, 0, none⟩) q q, .int .i64 0]) ∧ (L 7 = true → ∃ gn : Nat, t6 = .pointer (some ⟨gn, 0, none⟩) ∧ w5.heap.size ≤ gn ∧ (L 8 = false → Rw ww gn 30 #[.slice none 0 0, .slice none 0 0, .slice none 0 0, .int .i64 0])) ∧ (L 8 = true → (∀ q, q < 8 → L q = true) ∧ ∃ kf gn : Nat, t6 = .pointer (some ⟨gn, 0, none⟩) ∧ Rw ww kf 4 (Array.replicate q (.bool false)) ∧ Rw ww gn 30 #[.slice A n c, .slice R m d, .slice (some ⟨kf, 0, none⟩) q q, .int .i64 0] ∧ Below w5.heap.size w5 ww)) ?h0 ?hstep ?hdone
    case h0 => exact ⟨_, _, _, _, _, _, _, _, rfl, fun _ => (Below.refl _ _).drew, (fun h => absurd h Bool.false_ne_true), (fun h => absurd h Bool.false_ne_true), (fun h => absurd h Bool.false_ne_true), (fun h => absurd h Bool.false_ne_true), (fun h => absurd h Bool.false_ne_true), (fun h => absurd h Bool.false_ne_true), (fun h => absurd h Bool.false_ne_true), (fun h => absurd h Bool.false_ne_true), (fun h => absurd h Bool.false_ne_true)⟩
    case hstep =>
      rintro L ac ww i o ho hL hd ⟨t6, t32, t33, t34, t35, t36, t37, t38, rfl, I0, f0, f1, f2, f3, f4, f5, f6, f7, f8⟩
      have hi : i < 9 := (Array.getElem?_eq_some_iff.1 ho).1
      obtain rfl | rfl | rfl | rfl | rfl | rfl | rfl | rfl | rfl : i = 0 ∨ i = 1 ∨ i = 2 ∨ i = 3 ∨ i = 4 ∨ i = 5 ∨ i = 6 ∨ i = 7 ∨ i = 8 := by omega
      · obtain rfl := Option.some.inj ho
        have hLS : L 8 = false := by
          cases e : L 8
          · rfl
          · exact absurd ((f8 e).1 0 (by decide)) (by rw [hL]; decide)
        have J := I0 hLS
        refine wpOp_step rfl (fun K' hK => ?_)
        go_simp
        refine hK _ _ ?_
        exact ⟨_, _, _, _, _, _, _, _, rfl, (fun _ => J), (fun _ => rfl), (kp f1), (kp f2), (kp f3), (kp f4), (fun h => by
          obtain ⟨kf, e, hk, r⟩ := f5 (upd_ne h (by decide))
          exact ⟨kf, e, hk, fun h6 => r (by rw [upd_other (by decide)] at h6; exact h6)⟩), (fun h => by
          obtain ⟨l7, r⟩ := f6 (upd_ne h (by decide))
          exact ⟨upd_mono l7, r⟩), (fun h => by
          obtain ⟨gn, e, hk, r⟩ := f7 (upd_ne h (by decide))
          exact ⟨gn, e, hk, fun h6 => r (by rw [upd_other (by decide)] at h6; exact h6)⟩), (fun h => absurd hLS (by rw [upd_ne h (by decide)]; decide))⟩
      · obtain rfl := Option.some.inj ho
        have g0 := f0 (hd ⟨0, .data⟩ (by simp) rfl)
        subst g0
        have hLS : L 8 = false := by
          cases e : L 8
          · rfl
          · exact absurd ((f8 e).1 1 (by decide)) (by rw [hL]; decide)
        have J := I0 hLS
        have z0 : ww.cell? ⟨b, 0, none⟩ = some (.slice A n c) := (J.cell (p := ⟨b, 0, none⟩) hbl).trans (bx.cell 0)
        have z1 : ww.cell? ⟨b, 1, none⟩ = some (.slice R m d) := (J.cell (p := ⟨b, 1, none⟩) hbl).trans (bx.cell 1)
        refine wpOp_step rfl (fun K' hK => ?_)
        go_simp
        refine hK _ _ ?_
        exact ⟨_, _, _, _, _, _, _, _, rfl, (fun _ => J), (kp f0), (fun _ => rfl), (kp f2), (kp f3), (kp f4), (fun h => by
          obtain ⟨kf, e, hk, r⟩ := f5 (upd_ne h (by decide))
          exact ⟨kf, e, hk, fun h6 => r (by rw [upd_other (by decide)] at h6; exact h6)⟩), (fun h => by
          obtain ⟨l7, r⟩ := f6 (upd_ne h (by decide))
          exact ⟨upd_mono l7, r⟩), (fun h => by
          obtain ⟨gn, e, hk, r⟩ := f7 (upd_ne h (by decide))
          exact ⟨gn, e, hk, fun h6 => r (by rw [upd_other (by decide)] at h6; exact h6)⟩), (fun h => absurd hLS (by rw [upd_ne h (by decide)]; decide))⟩
      · obtain rfl := Option.some.inj ho
        have hLS : L 8 = false := by
          cases e : L 8
          · rfl
          · exact absurd ((f8 e).1 2 (by decide)) (by rw [hL]; decide)
        have J := I0 hLS
        refine wpOp_step rfl (fun K' hK => ?_)
        go_simp
        refine hK _ _ ?_
        exact ⟨_, _, _, _, _, _, _, _, rfl, (fun _ => J), (kp f0), (kp f1), (fun _ => rfl), (kp f3), (kp f4), (fun h => by
          obtain ⟨kf, e, hk, r⟩ := f5 (upd_ne h (by decide))
          exact ⟨kf, e, hk, fun h6 => r (by rw [upd_other (by decide)] at h6; exact h6)⟩), (fun h => by
          obtain ⟨l7, r⟩ := f6 (upd_ne h (by decide))
          exact ⟨upd_mono l7, r⟩), (fun h => by
          obtain ⟨gn, e, hk, r⟩ := f7 (upd_ne h (by decide))
          exact ⟨gn, e, hk, fun h6 => r (by rw [upd_other (by decide)] at h6; exact h6)⟩), (fun h => absurd hLS (by rw [upd_ne h (by decide)]; decide))⟩
      · obtain rfl := Option.some.inj ho
        have g2 := f2 (hd ⟨2, .data⟩ (by simp) rfl)
        subst g2
        have hLS : L 8 = false := by
          cases e : L 8
          · rfl
          · exact absurd ((f8 e).1 3 (by decide)) (by rw [hL]; decide)
        have J := I0 hLS
        have z2 : ww.cell? ⟨b, 2, none⟩ = some (.slice D q ce) := (J.cell (p := ⟨b, 2, none⟩) hbl).trans (bx.cell 2)
        refine wpOp_step rfl (fun K' hK => ?_)
        go_simp
        refine hK _ _ ?_
        exact ⟨_, _, _, _, _, _, _, _, rfl, (fun _ => J), (kp f0), (kp f1), (kp f2), (fun _ => rfl), (kp f4), (fun h => by
          obtain ⟨kf, e, hk, r⟩ := f5 (upd_ne h (by decide))
          exact ⟨kf, e, hk, fun h6 => r (by rw [upd_other (by decide)] at h6; exact h6)⟩), (fun h => by
          obtain ⟨l7, r⟩ := f6 (upd_ne h (by decide))
          exact ⟨upd_mono l7, r⟩), (fun h => by
          obtain ⟨gn, e, hk, r⟩ := f7 (upd_ne h (by decide))
          exact ⟨gn, e, hk, fun h6 => r (by rw [upd_other (by decide)] at h6; exact h6)⟩), (fun h => absurd hLS (by rw [upd_ne h (by decide)]; decide))⟩
      · obtain rfl := Option.some.inj ho
        have g3 := f3 (hd ⟨3, .data⟩ (by simp) rfl)
        subst g3
        have hLS : L 8 = false := by
          cases e : L 8
          · rfl
          · exact absurd ((f8 e).1 4 (by decide)) (by rw [hL]; decide)
        have J := I0 hLS
        refine wpOp_step rfl (fun K' hK => ?_)
        go_simp
        refine hK _ _ ?_
        exact ⟨_, _, _, _, _, _, _, _, rfl, (fun _ => J), (kp f0), (kp f1), (kp f2), (kp f3), (fun _ => rfl), (fun h => by
          obtain ⟨kf, e, hk, r⟩ := f5 (upd_ne h (by decide))
          exact ⟨kf, e, hk, fun h6 => r (by rw [upd_other (by decide)] at h6; exact h6)⟩), (fun h => by
          obtain ⟨l7, r⟩ := f6 (upd_ne h (by decide))
          exact ⟨upd_mono l7, r⟩), (fun h => by
          obtain ⟨gn, e, hk, r⟩ := f7 (upd_ne h (by decide))
          exact ⟨gn, e, hk, fun h6 => r (by rw [upd_other (by decide)] at h6; exact h6)⟩), (fun h => absurd hLS (by rw [upd_ne h (by decide)]; decide))⟩
      · obtain rfl := Option.some.inj ho
        have g4 := f4 (hd ⟨4, .data⟩ (by simp) rfl)
        subst g4
        have hLS : L 8 = false := by
          cases e : L 8
          · rfl
          · exact absurd ((f8 e).1 5 (by decide)) (by rw [hL]; decide)
        have J := I0 hLS
        have hmk := makeO ww q (by omega)
        refine wpOp_step rfl (fun K' hK => ?_)
        go_simp
        refine hK _ _ ?_
        exact ⟨_, _, _, _, _, _, _, _, rfl, (fun _ => J.alloc J.size _), (kp f0), (kp f1), (kp f2), (kp f3), (kp f4), (fun _ => ⟨ww.heap.size, rfl, J.size, fun _ => Rw.new ww 4 (Array.replicate q (.bool false))⟩), (fun h => absurd (f6 (upd_ne h (by decide))).1 (by rw [hL]; decide)), (fun h => by
          obtain ⟨gn, e, hk, r⟩ := f7 (upd_ne h (by decide))
          exact ⟨gn, e, hk, fun h6 => (r (by rw [upd_other (by decide)] at h6; exact h6)).alloc _⟩), (fun h => absurd hLS (by rw [upd_ne h (by decide)]; decide))⟩
      · obtain rfl := Option.some.inj ho
        have g1 := f1 (hd ⟨1, .data⟩ (by simp) rfl)
        have g5 := f5 (hd ⟨5, .data⟩ (by simp) rfl)
        subst g1
        have hLS : L 8 = false := by
          cases e : L 8
          · rfl
          · exact absurd ((f8 e).1 6 (by decide)) (by rw [hL]; decide)
        have J := I0 hLS
        have l5 := Lib.hid (hd ⟨5, .data⟩ (by simp) rfl)
        obtain ⟨kf, e5, hkf, r5⟩ := g5
        subst e5
        refine wpOp_step rfl (fun K' hK => ?_)
        go_simp
        refine hK _ _ ?_
        exact ⟨_, _, _, _, _, _, _, _, rfl, (fun _ => J), (kp f0), (kp f1), (kp f2), (kp f3), (kp f4), (fun _ => ⟨kf, rfl, hkf, fun h6 => r5 (by rw [upd_other (by decide)] at h6; exact h6)⟩), (fun _ => ⟨upd_mono l5.out, kf, rfl, rfl⟩), (fun h => by
          obtain ⟨gn, e, hk, r⟩ := f7 (upd_ne h (by decide))
          exact ⟨gn, e, hk, fun h6 => r (by rw [upd_other (by decide)] at h6; exact h6)⟩), (fun h => absurd hLS (by rw [upd_ne h (by decide)]; decide))⟩
      · obtain rfl := Option.some.inj ho
        have hLS : L 8 = false := by
          cases e : L 8
          · rfl
          · exact absurd ((f8 e).1 7 (by decide)) (by rw [hL]; decide)
        have J := I0 hLS
        refine wpOp_step rfl (fun K' hK => ?_)
        go_simp
        refine hK _ _ ?_
        exact ⟨_, _, _, _, _, _, _, _, rfl, (fun _ => J.alloc J.size _), (kp f0), (kp f1), (kp f2), (kp f3), (kp f4), (fun h => by
          obtain ⟨kf, e, hk, r⟩ := f5 (upd_ne h (by decide))
          exact ⟨kf, e, hk, fun h6 => (r (by rw [upd_other (by decide)] at h6; exact h6)).alloc _⟩), (fun h => by
          obtain ⟨l7, r⟩ := f6 (upd_ne h (by decide))
          exact ⟨upd_mono l7, r⟩), (fun _ => ⟨ww.heap.size, rfl, J.size, fun _ => Rw.new ww 30 #[.slice none 0 0, .slice none 0 0, .slice none 0 0, .int .i64 0]⟩), (fun h => absurd hLS (by rw [upd_ne h (by decide)]; decide))⟩
      · obtain rfl := Option.some.inj ho
        have g6 := f6 (hd ⟨6, .data⟩ (by simp) rfl)
        have g7 := f7 (hd ⟨7, .data⟩ (by simp) rfl)
        have lq : Hid (∀ q, q < 8 → L q = true) := Lib.hid (by
          intro q hq
          obtain rfl | rfl | rfl | rfl | rfl | rfl | rfl | rfl : q = 0 ∨ q = 1 ∨ q = 2 ∨ q = 3 ∨ q = 4 ∨ q = 5 ∨ q = 6 ∨ q = 7 := by omega
          · exact hd ⟨0, .phase⟩ (by simp) rfl
          · exact hd ⟨1, .phase⟩ (by simp) rfl
          · exact hd ⟨2, .phase⟩ (by simp) rfl
          · exact hd ⟨3, .phase⟩ (by simp) rfl
          · exact hd ⟨4, .phase⟩ (by simp) rfl
          · exact hd ⟨5, .phase⟩ (by simp) rfl
          · exact hd ⟨6, .phase⟩ (by simp) rfl
          · exact hd ⟨7, .phase⟩ (by simp) rfl)
        have J := I0 hL
        obtain ⟨l5, kf, e5, e6⟩ := g6
        subst e6
        obtain ⟨kf2, e5b, hkf, r5⟩ := f5 (lq.out 5 (by decide))
        have rf := r5 hL
        rw [e5] at e5b
        injection e5b with h1 h2 h3
        injection h1 with h1
        injection h1 with h1
        subst h1
        subst e5
        clear l5 h2 h3
        obtain ⟨gn, e7, hgn, r7⟩ := g7
        subst e7
        have P := r7 hL
        have zf0 : ww.frozen? ⟨gn, 0, none⟩ = false := P.frozen 0
        have zf1 : ww.frozen? ⟨gn, 1, none⟩ = false := P.frozen 1
        have zf2 : ww.frozen? ⟨gn, 2, none⟩ = false := P.frozen 2
        have zf3 : ww.frozen? ⟨gn, 3, none⟩ = false := P.frozen 3
        have zc0 : ww.cell? ⟨gn, 0, none⟩ = some (.slice none 0 0) := P.cell 0
        have zc1 : ww.cell? ⟨gn, 1, none⟩ = some (.slice none 0 0) := P.cell 1
        have zc2 : ww.cell? ⟨gn, 2, none⟩ = some (.slice none 0 0) := P.cell 2
        have zc3 : ww.cell? ⟨gn, 3, none⟩ = some (.int .i64 0) := P.cell 3
        have hne : kf ≠ gn := rw_type rf P (by decide)
        refine wpOp_step rfl (fun K' hK => ?_)
        go_simp
        refine hK _ _ ?_
        exact ⟨_, _, _, _, _, _, _, _, rfl, (fun h => absurd h (by rw [upd_self]; decide)), (kp f0), (kp f1), (kp f2), (kp f3), (kp f4), (fun _ => ⟨kf, rfl, hkf, fun h => absurd h (by rw [upd_self]; decide)⟩), (fun _ => ⟨upd_mono (lq.out 5 (by decide)), kf, rfl, rfl⟩), (fun _ => ⟨gn, rfl, hgn, fun h => absurd h (by rw [upd_self]; decide)⟩), (fun _ => ⟨fun q hq => upd_mono (lq.out q hq), kf, gn, rfl, ((((rf.other hne (i := 0) (.slice A n c)).other hne (i := 1) (.slice R m d)).other hne (i := 2) (.slice (some ⟨kf, 0, none⟩) q q)).other hne (i := 3) (.int .i64 0)), by simpa using ((((P.put 0 (.slice A n c)).put 1 (.slice R m d)).put 2 (.slice (some ⟨kf, 0, none⟩) q q)).put 3 (.int .i64 0)), ((((J.setCell (p := ⟨gn, 0, none⟩) hgn (.slice A n c)).setCell (p := ⟨gn, 1, none⟩) hgn (.slice R m d)).setCell (p := ⟨gn, 2, none⟩) hgn (.slice (some ⟨kf, 0, none⟩) q q)).setCell (p := ⟨gn, 3, none⟩) hgn (.int .i64 0))⟩)⟩
    case hdone =>
      rintro L ac ww hall ⟨t6, t32, t33, t34, t35, t36, t37, t38, rfl, I0, f0, f1, f2, f3, f4, f5, f6, f7, f8⟩
      have e0 := f0 (hall 0 (by decide))
      have e1 := f1 (hall 1 (by decide))
      have e2 := f2 (hall 2 (by decide))
      have e3 := f3 (hall 3 (by decide))
      have e4 := f4 (hall 4 (by decide))
      have e5 := f5 (hall 5 (by decide))
      have e6 := f6 (hall 6 (by decide))
      have e7 := f7 (hall 7 (by decide))
      have e8 := f8 (hall 8 (by decide))
      clear f0 f1 f2 f3 f4 f5 f6 f7 f8
      obtain ⟨-, kf, gn, et, rf, nx, J⟩ := e8
      subst et
      replace bx := bx.keep J hbl
      replace lx := lx.keep J hgl
      replace hsr := hsr.up J
      replace hkr := hkr.up J
      replace hlr := hlr.up J
      replace bb := bb.trans (J.mono bb.size)
      clear I0 e0 e1 e2 e3 e4 e5 e6 e7 hall J hbl hgl
      generalize ww = w6 at bx hsr hkr bb lx hlr rf nx ⊢
      have hfr : OS w6 w6.heap.size (some ⟨kf, 0, none⟩) q (List.replicate q false) := ⟨by simp, fun _ => ⟨kf, 0, rfl, rf.lt, fun k x hk => by
        rw [rf.cell (0 + k)]
        rw [List.getElem?_replicate] at hk
        split at hk
        · next h => obtain rfl := Option.some.inj hk; rw [Nat.zero_add, Array.getElem?_replicate, if_pos h]
        · cases hk⟩⟩
      have y0 : w6.cell? ⟨gx, 0, none⟩ = some (.slice A n c) := lx.cell 0
      have y1 : w6.cell? ⟨gx, 1, none⟩ = some (.slice R m d) := lx.cell 1
      have y2 : w6.cell? ⟨gx, 2, none⟩ = some (.slice K5 (q + 1) c5) := lx.cell 2
      have y3 : w6.cell? ⟨gx, 3, none⟩ = some (.int .i64 i) := lx.cell 3
      go_wp2_with fail
      refine (lazyValid_any _ _ _ _ _ _ _ _ _ i h (ms ++ [true]) _ hsr hlr (by omega) (by omega) (by omega) hnc hmd).mono ?_
      rintro e w7 ⟨⟨r1, rfl, hr1⟩, b7⟩
      obtain rfl : r1 = false := by
        cases r1
        · rfl
        · exact absurd (hr1.1 rfl) (Hps.long_bad HOK.out)
      replace bx := bx.keep b7 bx.lt
      replace nx := nx.keep b7 nx.lt
      replace hsr := hsr.up b7
      replace hfr := hfr.up b7
      replace bb := bb.trans (b7.mono bb.size)
      clear hr1 y0 y1 y2 y3 lx hlr rf b7
      have x0 : w7.cell? ⟨b, 0, none⟩ = some (.slice A n c) := bx.cell 0
      have x1 : w7.cell? ⟨b, 1, none⟩ = some (.slice R m d) := bx.cell 1
      go_wp2_with fail
      refine (metOrder_any _ _ _ _ _ _ h _ hsr (by omega) (by omega) hnc hmd).mono ?_
      rintro e w8 ⟨v, rfl, ov, b8⟩
      obtain ⟨V, cv, rfl, -⟩ := ov.form
      have HNE := Lib.hid (show ∀ k : Nat, (k : Int) ∈ Hps.orderH h → ¬ Hps.okLz ⟨h, List.replicate ms.length false, 0⟩ from fun k hk => Hps.none_bad HOK.out ((Hps.mem_order HOK.out.1).1 hk))
      have HON := Lib.hid (fun n (hn : n ∈ Hps.orderH h) => Hps.order_nat hn)
      obtain ⟨oo, hoo⟩ : ∃ oo, Hps.orderH h = oo := ⟨_, rfl⟩
      rw [hoo] at HNE HON ⊢
      replace nx := nx.keep b8 nx.lt
      replace hsr := hsr.up b8
      replace hfr := hfr.up b8
      replace bb := bb.trans (b8.mono bb.size)
      clear hoo x0 x1 ov b8 bx
      cases oo with
      | nil =>
        go_wp2_with fail
        go_ret
        exact ⟨rfl, bb⟩
      | cons o1 os =>
        have hz : ((((o1 :: os).length : Nat) : Int) == 0) = false := by rw [beq_eq_false_iff_ne, List.length_cons]; omega
        have HBAD := Lib.hid (show ¬ Hps.okLz ⟨h, List.replicate q false, 0⟩ by
          obtain ⟨k, hk, -⟩ := HON.out o1 (by simp)
          have := HNE.out k (by rw [← hk]; simp)
          rwa [HKL.out] at this)
        obtain ⟨lo, hlo⟩ : ∃ lo, (o1 :: os).length = lo := ⟨_, rfl⟩
        rw [hlo] at hz ⊢
        clear hlo
        have x0 : w8.cell? ⟨gn, 0, none⟩ = some (.slice A n c) := nx.cell 0
        have x1 : w8.cell? ⟨gn, 1, none⟩ = some (.slice R m d) := nx.cell 1
        have x2 : w8.cell? ⟨gn, 2, none⟩ = some (.slice (some ⟨kf, 0, none⟩) q q) := nx.cell 2
        have x3 : w8.cell? ⟨gn, 3, none⟩ = some (.int .i64 0) := nx.cell 3
        go_wp2_with fail
        refine (lazyValid_any _ _ _ _ _ _ _ _ _ 0 h (List.replicate q false) _ hsr hfr (by omega) (by omega) (by omega) hnc hmd).mono ?_
        rintro e w9 ⟨⟨r1, rfl, hr1⟩, b9⟩
        obtain rfl : r1 = false := by
          cases r1
          · rfl
          · exact absurd (hr1.1 rfl) HBAD.out
        replace bb := bb.trans (b9.mono bb.size)
        clear hr1 x0 x1 x2 x3 nx b9
        go_wp2_with fail
        go_ret
        exact ⟨rfl, bb⟩
end Go.Proofs.Ytakdjiojahlnmaa
