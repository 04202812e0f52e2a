/- What the program's keepsTargets, SweepCells and FreePlace return: for every heap and marks, in every memory in which the table of math/bits lies as laid. -/
import Derived.Test.YthmddmddcdofaaaUp
import Derived.Test.YthmddmddcdofaaaRq
import Derived.Test.YthmddmddcdofaaaGg
import Derived.Test.YthmddmddcdofaaaGf
import Derived.Test.YthmddmddcdofaaaKf
import Derived.Deep.Cut
namespace Go.Proofs.Ythmddmddcdofaaa
open Go.RowKit
set_option maxRecDepth 100000

set_option maxHeartbeats 2000000 in
theorem freePlace_any (A R : Option Addr) (n c m d : Nat) (h : Hp) (w : World) (hs : HS w w.heap.size A n R m h) (hn : n ≤ 1099511627776) (hm : m ≤ 1099511627776) (hnc : n ≤ c) (hmd : m ≤ d) :
    Calls Try.prog 6 #[heapV A n c R m d] w fun e w' => e = .returned (.int .i64 (Hps.placeF h)) ∧ Below w.heap.size w w' := by
  have hlc := hs.cells.1
  have hlr := hs.roots.1
  have b2 : Below w.heap.size w (w.alloc (.cells #[.slice A n c, .slice R m d] 26)) := (Below.refl _ _).alloc (Nat.le_refl _) _
  have q1 := Rw.new w 26 #[.slice A n c, .slice R m d]
  have s2 := hs.up b2
  clear hs
  go_enter Try.func6, Try.ntmps6
  go_upto_region 1 with fail
  generalize (w.alloc (.cells #[.slice A n c, .slice R m d] 26)) = w2 at b2 q1 s2 ⊢
  have x0 : w2.cell? ⟨w.heap.size, 0, none⟩ = some (.slice A n c) := q1.cell 0
  have x1 : w2.cell? ⟨w.heap.size, 1, none⟩ = some (.slice R m d) := q1.cell 1
  go_wp2_with fail
  refine (heapValid_any _ _ _ _ _ _ h _ s2 hn hm hnc hmd).mono ?_
  obtain ⟨r, hv⟩ : ∃ r, Hps.validH h = r := ⟨_, rfl⟩
  rw [hv]
  rintro e w3 ⟨rfl, b1⟩
  replace q1 := q1.keep b1 q1.lt
  replace s2 := s2.up b1
  replace b2 := b2.trans (b1.mono b2.size)
  clear b1 x0 x1
  cases r
  · have HF := Lib.hid (Hps.placeF_no hv)
    clear hv
    go_wp2_with fail
    go_ret
    exact ⟨by rw [HF.out]; rfl, b2⟩
  have HF := Lib.hid (Hps.placeF_ok hv)
  obtain ⟨h40, hr4, h3⟩ := Hps.valid_small hv
  have H3 := Lib.hid (fun cl (hcl : cl ∈ h.cs) => show cl.r.length ≤ 1000000 by have := h3 cl hcl; omega)
  have x0 : w3.cell? ⟨w.heap.size, 0, none⟩ = some (.slice A n c) := q1.cell 0
  have x1 : w3.cell? ⟨w.heap.size, 1, none⟩ = some (.slice R m d) := q1.cell 1
  have hm4 : m ≤ 4 := by omega
  have hn40 : n ≤ 40 := by omega
  clear h3 hv hr4 h40
  go_wp2_with fail
  refine (sweeperOf_any A R n c m d h w3 s2 (by omega) (by omega) H3.out).mono ?_
  rintro e w5 ⟨vc, vr, vk, rfl, oc, b5⟩
  obtain ⟨rv, S⟩ := SwSt.of oc b5
  obtain ⟨A5, n5, c5, R5, m5, d5, K5, p5, q5, rfl, rfl, rfl⟩ := oc.slices
  clear oc b5 x0 x1 q1
  go_upto_region 4 with fail
  generalize w5.alloc (.cells #[.slice A5 n5 c5, .slice R5 m5 d5, .slice K5 p5 q5] 45) = w6 at S ⊢
  generalize w5.heap.size = b at S ⊢
  have HPL := Lib.hid (place_any [] w3 w6 b _ _ rv h S)
  have b6 := b2.trans (S.low.mono b2.size)
  obtain ⟨p, hp⟩ : ∃ p, Hps.gapH h = p := ⟨_, rfl⟩
  rw [hp] at HPL HF
  clear S hp
  go_wp2_with fail
  refine HPL.out.mono ?_
  rintro e w7 ⟨rfl, rfl⟩
  go_wp2_with fail
  go_ret
  exact ⟨by rw [HF.out]; rfl, b6⟩
end Go.Proofs.Ythmddmddcdofaaa
