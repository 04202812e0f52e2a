/- What the model's FreePlace and StepSweep return: for every heap, limit and instruction. No conditions. -/
import Derived.Test.YthmddmddcdofaaaUa
import Derived.Test.YthmddmddcdofaaaCc
import Derived.Test.YthmddmddcdofaaaKf
import Derived.Test.YthmddmddcdofaaaGa
import Derived.Deep.Cut
namespace Go.Proofs.Ythmddmddcdofaaa
open Go.RowKit
set_option maxRecDepth 100000

theorem OwnH.parts {w : World} {base : Nat} {vc vr : Value} {h : Hp} (ho : OwnH w base vc vr h) : ∃ A n c R m d, vc = .slice A n c ∧ vr = .slice R m d ∧ HS w w.heap.size A n R m h := by
  obtain ⟨A, c, R, d, e1, e2, s⟩ := ho.form
  exact ⟨A, _, c, R, _, d, e1, e2, s⟩
theorem mFreePlace_any (A R : Option Addr) (n c m d : Nat) (h : Hp) (w : World) (hs : HS w w.heap.size A n R m h) (hn : n ≤ 1099511627776) (hm : m ≤ 1099511627776) :
    Calls Try.prog 7 #[heapV A n c R m d] w fun e w' => e = .returned (.int .i64 (Hps.placeF h)) ∧ Below w.heap.size w w' := by
  have b0 : Below w.heap.size w (w.alloc (.cells #[.slice A n c, .slice R m d] 26)) := (Below.refl _ _).alloc (Nat.le_refl _) _
  have s0 := hs.up b0
  have q0 := Rw.new w 26 #[.slice A n c, .slice R m d]
  have HV := Lib.hid (fun (hv : Hps.validH h = true) => Hps.placeF_ok hv)
  have HN := Lib.hid (fun (hv : Hps.validH h = false) => Hps.placeF_no hv)
  go_enter Try.func7, Try.ntmps7
  go_upto_region 1 with fail
  generalize w.alloc (.cells #[.slice A n c, .slice R m d] 26) = w0 at b0 s0 q0 ⊢
  have x0 : w0.cell? ⟨w.heap.size, 0, none⟩ = some (.slice A n c) := q0.cell 0
  have x1 : w0.cell? ⟨w.heap.size, 1, none⟩ = some (.slice R m d) := q0.cell 1
  go_wp2_with fail
  refine (mHeapValid_any _ _ _ _ _ _ h _ s0 hn hm).mono ?_
  cases hv : Hps.validH h
  · have HE := Lib.hid (HN.out hv)
    clear hv
    rintro e w1 ⟨rfl, b1⟩
    have b2 := b0.trans (b1.mono b0.size)
    go_wp2_with fail
    go_ret
    exact ⟨by rw [HE.out]; rfl, b2⟩
  · have HE := Lib.hid (HV.out hv)
    clear hv
    rintro e w1 ⟨rfl, b1⟩
    have b2 := b0.trans (b1.mono b0.size)
    have s1 := s0.up b1
    have q1 := q0.keep b1 q0.lt
    clear x0 x1 s0 q0
    have x0 : w1.cell? ⟨w.heap.size, 0, none⟩ = some (.slice A n c) := q1.cell 0
    have x1 : w1.cell? ⟨w.heap.size, 1, none⟩ = some (.slice R m d) := q1.cell 1
    go_wp2_with fail
    refine (mPlace_any _ _ _ _ _ _ h _ s1 hn).mono ?_
    rintro e w2 ⟨rfl, b3⟩
    have b4 := b2.trans (b3.mono b2.size)
    go_wp2_with fail
    go_ret
    exact ⟨by rw [HE.out]; rfl, b4⟩

end Go.Proofs.Ythmddmddcdofaaa
