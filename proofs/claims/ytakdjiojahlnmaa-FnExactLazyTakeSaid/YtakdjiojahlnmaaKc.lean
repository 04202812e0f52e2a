/- Which instructions are possible in a heap (the model). No conditions. -/
import Derived.Test.YtakdjiojahlnmaaGc
import Derived.BigRegion
import Derived.StillTailTactics
namespace Go.Proofs.Ytakdjiojahlnmaa
open Go.RowKit
set_option maxRecDepth 100000

set_option maxHeartbeats 1000000 in
theorem l8Place_any (A R : Option Addr) (n c m d : Nat) (h : Hp) (i p : Int) (w : World) (hs : HS w w.heap.size A n R m h) (_hn : n ≤ 1099511627776) (ho : Hps.okRef h.cs i = true) :
    Calls Try.prog 112 #[heapV A n c R m d, .int .i64 i, .int .i64 p] w fun e w' => e = .returned (.bool (Hps.placeH h.cs i p)) ∧ Below w.heap.size w w' := by
  have hlc := hs.cells.1
  have bb : Below w.heap.size w (w.alloc (.cells #[.slice A n c, .slice R m d] 26)) := (Below.refl _ _).alloc (Nat.le_refl _) _
  by_cases h0 : 0 ≤ i
  · obtain ⟨y, rfl, hy, _⟩ := Hps.okRef_nat ho h0
    obtain ⟨g, o, cl, A', m', cc, rfl, hg, hcl, d1, d2, d3, hmc, hi⟩ := (hs.cells.below bb).at_ (k := y) (by omega)
    have hyn : (y : Int) < n := by omega
    have HP := Lib.hid (show Hps.placeH h.cs (y : Int) p = decide (p < (m' : Int)) by
      simp [Hps.placeH, hcl, hi.1])
    clear ho hcl hy d1 d2 hi
    go_enter Try.func112, Try.ntmps112
    go_wp2_with fail
    go_ret
    exact ⟨by rw [HP.out]; rfl, bb⟩
  · have HP := Lib.hid (show Hps.placeH h.cs i p = false by rw [Hps.placeH, decide_eq_false h0]; rfl)
    have h0' : decide ((0 : Int) ≤ i) = false := decide_eq_false h0
    go_enter Try.func112, Try.ntmps112
    go_wp2_with fail
    go_ret
    exact ⟨by rw [HP.out]; rfl, bb⟩

namespace Hps
theorem canH_no {h : Hp} {o : Cm} (e : validH h = false ∨ okCm o = false) : canH h o = false := by
  unfold canH
  rcases e with e | e <;> simp [e]
theorem canH_get {h : Hp} {o : Cm} (h1 : validH h = true) (h2 : okCm o = true) (e : o.op = 2) : canH h o = placeH h.cs (rootAt h o.b) o.c := by
  simp [canH, h1, h2, e]
theorem canH_set {h : Hp} {o : Cm} (h1 : validH h = true) (h2 : okCm o = true) (e : o.op = 3) : canH h o = placeH h.cs (rootAt h o.a) o.c := by
  simp [canH, h1, h2, e]
theorem canH_data {h : Hp} {o : Cm} (h1 : validH h = true) (h2 : okCm o = true) (e : o.op = 6) : canH h o = decide (0 ≤ rootAt h o.a) := by
  simp [canH, h1, h2, e]
theorem canH_else {h : Hp} {o : Cm} (h1 : validH h = true) (h2 : okCm o = true) (e2 : ¬ o.op = 2) (e3 : ¬ o.op = 3) (e6 : ¬ o.op = 6) : canH h o = true := by
  simp [canH, h1, h2, e2, e3, e6]
theorem rootAt_nat {h : Hp} {k : Nat} {x : Int} (hx : h.rt[k]? = some x) : rootAt h (k : Int) = x := by simp [rootAt, hx]
end Hps

set_option maxHeartbeats 2000000 in
theorem mCommandPossible_any (A R : Option Addr) (n c m d : Nat) (h : Hp) (o : Cm) (w : World) (hs : HS w w.heap.size A n R m h) (hn : n ≤ 1099511627776) (hm : m ≤ 1099511627776) :
    Calls Try.prog 107 #[heapV A n c R m d, cmV o] w fun e w' => e = .returned (.bool (Hps.canH h o)) ∧ Below w.heap.size w w' := by
  have b2 : Below w.heap.size w ((w.alloc (.cells #[.slice A n c, .slice R m d] 26)).alloc (.cells #[.int .i64 o.op, .int .i64 o.a, .int .i64 o.b, .int .i64 o.c] 128)) := ((Below.refl w.heap.size w).alloc (Nat.le_refl _) _).alloc (by simp) _
  have s2 := hs.up b2
  have q1 := (Rw.new w 26 #[.slice A n c, .slice R m d]).alloc (.cells #[.int .i64 o.op, .int .i64 o.a, .int .i64 o.b, .int .i64 o.c] 128)
  have q2 := Rw.new (w.alloc (.cells #[.slice A n c, .slice R m d] 26)) 128 #[.int .i64 o.op, .int .i64 o.a, .int .i64 o.b, .int .i64 o.c]
  rw [World.size_alloc] at q2
  go_enter Try.func107, Try.ntmps107
  go_wp2_with fail
  refine (mHeapValid_any _ _ _ _ _ _ h _ s2 hn hm).mono ?_
  cases hv : Hps.validH h
  · have R0 := Lib.hid (Hps.canH_no (o := o) (.inl hv))
    rintro e w1 ⟨rfl, b1⟩
    have bb := b2.trans (b1.mono b2.size)
    go_wp2_with fail
    go_ret
    exact ⟨by rw [R0.out]; rfl, bb⟩
  rintro e w1 ⟨rfl, b1⟩
  replace q1 := q1.keep b1 q1.lt
  replace q2 := q2.keep b1 q2.lt
  replace b2 := b2.trans (b1.mono b2.size)
  replace s2 := hs.up b2
  have z0 : w1.cell? ⟨w.heap.size + 1, 0, none⟩ = some (.int .i64 o.op) := q2.cell 0
  have z1 : w1.cell? ⟨w.heap.size + 1, 1, none⟩ = some (.int .i64 o.a) := q2.cell 1
  have z2 : w1.cell? ⟨w.heap.size + 1, 2, none⟩ = some (.int .i64 o.b) := q2.cell 2
  have z3 : w1.cell? ⟨w.heap.size + 1, 3, none⟩ = some (.int .i64 o.c) := q2.cell 3
  clear b1
  go_wp2_with fail
  refine (mCommandValid_any o _).mono ?_
  cases ho : Hps.okCm o
  · have R0 := Lib.hid (Hps.canH_no (h := h) (.inr ho))
    rintro e w3 ⟨rfl, b1⟩
    have bb := b2.trans (b1.mono b2.size)
    go_wp2_with fail
    go_ret
    exact ⟨by rw [R0.out]; rfl, bb⟩
  rintro e w3 ⟨rfl, b1⟩
  replace q1 := q1.keep b1 q1.lt
  replace q2 := q2.keep b1 q2.lt
  replace b2 := b2.trans (b1.mono b2.size)
  replace s2 := hs.up b2
  have x0 : w3.cell? ⟨w.heap.size, 0, none⟩ = some (.slice A n c) := q1.cell 0
  have x1 : w3.cell? ⟨w.heap.size, 1, none⟩ = some (.slice R m d) := q1.cell 1
  have y0 : w3.cell? ⟨w.heap.size + 1, 0, none⟩ = some (.int .i64 o.op) := q2.cell 0
  have y1 : w3.cell? ⟨w.heap.size + 1, 1, none⟩ = some (.int .i64 o.a) := q2.cell 1
  have y2 : w3.cell? ⟨w.heap.size + 1, 2, none⟩ = some (.int .i64 o.b) := q2.cell 2
  have y3 : w3.cell? ⟨w.heap.size + 1, 3, none⟩ = some (.int .i64 o.c) := q2.cell 3
  have hr4 := (Hps.valid_iff.1 hv).2.2.1
  have hm4 : m = 4 := by rw [← hs.roots.1]; exact hr4
  clear b1 q1 q2 hr4 z0 z1 z2 z3
  by_cases e2 : o.op = 2
  · have R0 := Lib.hid (Hps.canH_get hv ho e2)
    obtain ⟨_, ⟨hb1, hb2⟩, _⟩ := (Hps.okCm_get (.inl e2)).1 ho
    obtain ⟨b, hbn⟩ := Int.eq_ofNat_of_zero_le hb1
    obtain ⟨g, og, x, e1, hg, hx, d1⟩ := s2.roots.at_ (k := b) (by omega)
    have HRt := Lib.hid (Hps.rootAt_nat hx)
    have ok := Hps.valid_root hv hx
    have hb4 : (b : Int) < m := by omega
    subst e1
    have BB := Lib.hid b2
    rw [e2] at y0
    rw [hbn] at y2
    clear hx e2 hb1 hb2 ho hv hm4 b2 y1
    go_wp2_with fail
    go_still_tail 9, (by kernel_rfl)
    change wpList _ _ _ _ _ w3.drew
    have b4 := BB.out.drew
    have s4 := hs.up b4
    generalize w3.drew = w4 at b4 s4
    go_wp2_with fail
    refine (l8Place_any _ _ _ _ _ _ h _ _ _ s4 hn ok).mono ?_
    rintro e w5 ⟨rfl, b5⟩
    have b6 := b4.trans (b5.mono b4.size)
    go_wp2_with fail
    go_ret
    exact ⟨by rw [R0.out, hbn, HRt.out]; rfl, b6⟩
  by_cases e3 : o.op = 3
  · have R0 := Lib.hid (Hps.canH_set hv ho e3)
    obtain ⟨hb1, hb2⟩ := Hps.okCm_a ho
    obtain ⟨b, hbn⟩ := Int.eq_ofNat_of_zero_le hb1
    obtain ⟨g, og, x, e1, hg, hx, d1⟩ := s2.roots.at_ (k := b) (by omega)
    have HRt := Lib.hid (Hps.rootAt_nat hx)
    have ok := Hps.valid_root hv hx
    have hb4 : (b : Int) < m := by omega
    subst e1
    have BB := Lib.hid b2
    rw [e3] at y0
    rw [hbn] at y1
    clear hx e2 e3 hb1 hb2 ho hv hm4 b2 y2
    go_wp2_with fail
    go_still_tail 9, (by kernel_rfl)
    change wpList _ _ _ _ _ w3.drew
    have b4 := BB.out.drew
    have s4 := hs.up b4
    generalize w3.drew = w4 at b4 s4
    go_wp2_with fail
    refine (l8Place_any _ _ _ _ _ _ h _ _ _ s4 hn ok).mono ?_
    rintro e w5 ⟨rfl, b5⟩
    have b6 := b4.trans (b5.mono b4.size)
    go_wp2_with fail
    go_ret
    exact ⟨by rw [R0.out, hbn, HRt.out]; rfl, b6⟩
  by_cases e6 : o.op = 6
  · have R0 := Lib.hid (Hps.canH_data hv ho e6)
    obtain ⟨hb1, hb2⟩ := Hps.okCm_a ho
    obtain ⟨b, hbn⟩ := Int.eq_ofNat_of_zero_le hb1
    obtain ⟨g, og, x, e1, hg, hx, d1⟩ := s2.roots.at_ (k := b) (by omega)
    have HRt := Lib.hid (Hps.rootAt_nat hx)
    have hb4 : (b : Int) < m := by omega
    subst e1
    rw [e6] at y0
    rw [hbn] at y1
    clear hx e2 e3 e6 hb1 hb2 ho hv hm4 y2 y3
    go_wp2_with fail
    go_ret
    exact ⟨by rw [R0.out, hbn, HRt.out]; rfl, b2⟩
  have R0 := Lib.hid (Hps.canH_else hv ho e2 e3 e6)
  clear ho hv hm4 y1 y2 y3 x0 x1
  go_wp2_with fail
  go_ret
  exact ⟨by rw [R0.out]; rfl, b2⟩
end Go.Proofs.Ytakdjiojahlnmaa
