/- What the program's CommandPossible returns: for every heap and instruction. No conditions. -/
import Derived.Test.YtmjejcfifkbkoaaMd
import Derived.Test.YtmjejcfifkbkoaaGg
import Derived.Test.YtmjejcfifkbkoaaKc
namespace Go.Proofs.Ytmjejcfifkbkoaa
open Go.RowKit
set_option maxRecDepth 100000

theorem okRef_form {cs : List Cl} {x : Int} (h : Hps.okRef cs x = true) : x = -1 ∨ ∃ y : Nat, x = y ∧ y < cs.length := by
  by_cases h0 : 0 ≤ x
  · obtain ⟨y, e, hy, _⟩ := Hps.okRef_nat h h0
    exact .inr ⟨y, e, hy⟩
  · have := Hps.okRef_lo h
    have hlo : -1 ≤ x := by
      rcases Hps.okRef_iff.1 h with e | e
      · omega
      · omega
    exact .inl (by omega)

set_option maxHeartbeats 1000000 in
theorem hasRef_any (A R : Option Addr) (n c m d : Nat) (h : Hp) (k : Nat) (p x : Int) (w : World) (hs : HS w w.heap.size A n R m h) (_hn : n ≤ 1099511627776) (hx : h.rt[k]? = some x) (ho : Hps.okRef h.cs x = true) :
    Calls Try.prog 160 #[heapV A n c R m d, .int .i64 k, .int .i64 p] w fun e w' => e = .returned (.bool (Hps.placeH h.cs x p)) ∧ Below w.heap.size w w' := by
  have hlc := hs.cells.1
  have hlr := hs.roots.1
  have bb : Below w.heap.size w (w.alloc (.cells #[.slice A n c, .slice R m d] 28)) := (Below.refl _ _).alloc (Nat.le_refl _) _
  have hkm : k < m := by have := (List.getElem?_eq_some_iff.1 hx).1; omega
  obtain ⟨g, og, x', rfl, hg, hx', d1⟩ := (hs.roots.below bb).at_ (k := k) hkm
  rw [hx] at hx'
  obtain rfl := Option.some.inj hx'
  have hkm' : (k : Int) < m := by omega
  rcases okRef_form ho with rfl | ⟨y, rfl, hy⟩
  · have HP := Lib.hid (show Hps.placeH h.cs (-1) p = false by simp [Hps.placeH])
    clear hx hx' ho
    go_enter Try.func160, Try.ntmps160
    go_wp2_with fail
    go_ret
    exact ⟨by rw [HP.out]; rfl, bb⟩
  · obtain ⟨g2, o2, cl, A', m', cc, rfl, hg2, hcl, e1, e2, e3, hmc, hi⟩ := (hs.cells.below bb).at_ (k := y) (by omega)
    have hyn : (y : Int) < n := by omega
    have hne : ((y : Int) != -1) = true := by rw [bne_iff_ne]; omega
    have HP := Lib.hid (show Hps.placeH h.cs (y : Int) p = decide (p < (m' : Int)) by
      simp [Hps.placeH, hcl, hi.1])
    clear ho hcl hy e1 e2 hi hx hx'
    go_enter Try.func160, Try.ntmps160
    go_wp2_with fail
    go_ret
    exact ⟨by rw [HP.out]; rfl, bb⟩

/-- a function with a body is entered -/
theorem run_entered {f : Nat} {fn : Func} (hf : Try.prog.funcs[f]? = some fn) (hn : (fn.name == "runtime.NumGoroutine") = false) (hb : fn.body.isNone = false) (args : Array Value) (w : World) : (callFunc f args).run Try.prog w = .ok (.enter f args) w := by
  unfold callFunc
  simp only [Sem.run_bind, run_program, Result.andThen_ok, hf, hn, hb, Bool.false_eq_true, if_false]
  rfl
/-- what CommandPossible asks of the function in the table -/
def PossF (f : Nat) (o : Cm) (h : Hp) : Prop := ∀ (A R : Option Addr) (n c m d : Nat) (w : World), HS w w.heap.size A n R m h → n ≤ 1099511627776 → m ≤ 1099511627776 → n ≤ c → m ≤ d →
  Calls Try.prog f #[cmV o, heapV A n c R m d] w fun e w' => e = .returned (.bool (Hps.canH h o)) ∧ Below w.heap.size w w'

theorem poss_always {o : Cm} {h : Hp} (hc : Hps.canH h o = true) : PossF 141 o h := by
  intro A R n c m d w _ _ _ _ _
  rw [hc]
  have bb : Below w.heap.size w ((w.alloc (.cells #[.int .i64 o.op, .int .i64 o.a, .int .i64 o.b, .int .i64 o.c] 36)).alloc (.cells #[.slice A n c, .slice R m d] 28)) := ((Below.refl _ _).alloc (Nat.le_refl _) _).alloc (by simp) _
  go_enter Try.func141, Try.ntmps141
  go_wp2_with fail
  go_ret
  exact ⟨rfl, bb⟩

set_option maxHeartbeats 1000000 in
theorem poss_get {o : Cm} {h : Hp} (hv : Hps.validH h = true) (ho : Hps.okCm o = true) (e2 : o.op = 2) : PossF 143 o h := by
  intro A R n c m d w hs hn hm hc hd
  have R0 := Lib.hid (Hps.canH_get hv ho e2)
  obtain ⟨_, ⟨hb1, hb2⟩, _⟩ := (Hps.okCm_get (.inl e2)).1 ho
  obtain ⟨b, hbn⟩ := Int.eq_ofNat_of_zero_le hb1
  have hr4 := (Hps.valid_iff.1 hv).2.2.1
  have hx := List.getElem?_eq_getElem (show b < h.rt.length by omega)
  generalize h.rt[b]'(by omega) = x at hx
  have HRt := Lib.hid (Hps.rootAt_nat hx)
  have ok := Hps.valid_root hv hx
  obtain ⟨op, a, b', cc⟩ := o
  simp only at hbn
  subst hbn
  have bb : Below w.heap.size w ((w.alloc (.cells #[.int .i64 op, .int .i64 a, .int .i64 b, .int .i64 cc] 36)).alloc (.cells #[.slice A n c, .slice R m d] 28)) := ((Below.refl _ _).alloc (Nat.le_refl _) _).alloc (by simp) _
  have s2 := hs.up bb
  clear hb1 hb2 e2 ho hr4
  go_enter Try.func143, Try.ntmps143
  go_wp2_with fail
  refine (hasRef_any _ _ _ _ _ _ h b cc x _ s2 hn hx ok).mono ?_
  rintro e w1 ⟨rfl, b1⟩
  have b3 := bb.trans (b1.mono bb.size)
  go_wp2_with fail
  go_ret
  exact ⟨by rw [R0.out]; simp only [HRt.out]; rfl, b3⟩

set_option maxHeartbeats 1000000 in
theorem poss_set {o : Cm} {h : Hp} (hv : Hps.validH h = true) (ho : Hps.okCm o = true) (e2 : o.op = 3) : PossF 145 o h := by
  intro A R n c m d w hs hn hm hc hd
  have R0 := Lib.hid (Hps.canH_set hv ho e2)
  obtain ⟨hb1, hb2⟩ := Hps.okCm_a ho
  obtain ⟨b, hbn⟩ := Int.eq_ofNat_of_zero_le hb1
  have hr4 := (Hps.valid_iff.1 hv).2.2.1
  have hx := List.getElem?_eq_getElem (show b < h.rt.length by omega)
  generalize h.rt[b]'(by omega) = x at hx
  have HRt := Lib.hid (Hps.rootAt_nat hx)
  have ok := Hps.valid_root hv hx
  obtain ⟨op, a, b', cc⟩ := o
  simp only at hbn
  subst hbn
  have bb : Below w.heap.size w ((w.alloc (.cells #[.int .i64 op, .int .i64 b, .int .i64 b', .int .i64 cc] 36)).alloc (.cells #[.slice A n c, .slice R m d] 28)) := ((Below.refl _ _).alloc (Nat.le_refl _) _).alloc (by simp) _
  have s2 := hs.up bb
  clear hb1 hb2 e2 ho hr4
  go_enter Try.func145, Try.ntmps145
  go_wp2_with fail
  refine (hasRef_any _ _ _ _ _ _ h b cc x _ s2 hn hx ok).mono ?_
  rintro e w1 ⟨rfl, b1⟩
  have b3 := bb.trans (b1.mono bb.size)
  go_wp2_with fail
  go_ret
  exact ⟨by rw [R0.out]; simp only [HRt.out]; rfl, b3⟩

set_option maxHeartbeats 1000000 in
theorem poss_data {o : Cm} {h : Hp} (hv : Hps.validH h = true) (ho : Hps.okCm o = true) (e2 : o.op = 6) : PossF 149 o h := by
  intro A R n c m d w hs hn hm hc hd
  have R0 := Lib.hid (Hps.canH_data hv ho e2)
  obtain ⟨hb1, hb2⟩ := Hps.okCm_a ho
  obtain ⟨b, hbn⟩ := Int.eq_ofNat_of_zero_le hb1
  have hr4 := (Hps.valid_iff.1 hv).2.2.1
  have hx := List.getElem?_eq_getElem (show b < h.rt.length by omega)
  generalize h.rt[b]'(by omega) = x at hx
  have HRt := Lib.hid (Hps.rootAt_nat hx)
  have ok := Hps.valid_root hv hx
  obtain ⟨op, a, b', cc⟩ := o
  simp only at hbn
  subst hbn
  have bb : Below w.heap.size w ((w.alloc (.cells #[.int .i64 op, .int .i64 b, .int .i64 b', .int .i64 cc] 36)).alloc (.cells #[.slice A n c, .slice R m d] 28)) := ((Below.refl _ _).alloc (Nat.le_refl _) _).alloc (by simp) _
  have s2 := hs.below bb
  have hlr := hs.roots.1
  have hb4 : b < m := by
    simp only at hb2
    omega
  obtain ⟨g, og, x', rfl, hg, hx', d1⟩ := s2.roots.at_ (k := b) hb4
  rw [hx] at hx'
  obtain rfl := Option.some.inj hx'
  have hbm : (b : Int) < m := by exact_mod_cast hb4
  have HV := Lib.hid (show (x != -1) = decide (0 ≤ x) by
    rcases okRef_form ok with rfl | ⟨y, rfl, _⟩
    · rfl
    · rw [decide_eq_true (by omega : (0 : Int) ≤ (y : Int)), bne_iff_ne]
      omega)
  clear hb1 hb2 e2 ho hr4 hx hx' s2 hlr hs
  go_enter Try.func149, Try.ntmps149
  go_wp2_with fail
  go_ret
  exact ⟨by rw [R0.out]; simp only [HRt.out]; rw [← HV.out]; rfl, bb⟩

end Go.Proofs.Ytmjejcfifkbkoaa
