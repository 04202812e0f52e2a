/- What the laws' sameLazy returns for two equal lazy heaps. No conditions. -/
import Derived.Test.YtakdjiojahlnmaaTb
import Derived.Test.YtakdjiojahlnmaaKw
namespace Go.Proofs.Ytakdjiojahlnmaa
open Go.RowKit
set_option maxRecDepth 100000

set_option maxHeartbeats 2000000 in
theorem sameLazy_same (A R K A' R' K' : Option Addr) (n c m d p q c' d' q' : Nat) (x : Hp) (l : List Bool) (i : Int) (w : World) (hx : HS w w.heap.size A n R m x) (hkx : OS w w.heap.size K p l) (hy : HS w w.heap.size A' n R' m x) (hky : OS w w.heap.size K' p l) (hn : n ≤ 1000000) (hm : m ≤ 1000000) (hp : p ≤ 1099511627776) (hb : ∀ cl ∈ x.cs, cl.r.length ≤ 1000000) :
    Calls Try.prog 12 #[lzV A n c R m d K p q i, lzV A' n c' R' m d' K' p q' i] w fun e w' => e = .returned (.bool true) ∧ Below w.heap.size w w' := by
  have b2 : Below w.heap.size w ((w.alloc (.cells #[.slice A n c, .slice R m d, .slice K p q, .int .i64 i] 30)).alloc (.cells #[.slice A' n c', .slice R' m d', .slice K' p q', .int .i64 i] 30)) := ((Below.refl w.heap.size w).alloc (Nat.le_refl _) _).alloc (by simp) _
  have x2 := hx.up b2
  have y2 := hy.up b2
  have q1 := (Rw.new w 30 #[.slice A n c, .slice R m d, .slice K p q, .int .i64 i]).alloc (.cells #[.slice A' n c', .slice R' m d', .slice K' p q', .int .i64 i] 30)
  have q2 := Rw.new (w.alloc (.cells #[.slice A n c, .slice R m d, .slice K p q, .int .i64 i] 30)) 30 #[.slice A' n c', .slice R' m d', .slice K' p q', .int .i64 i]
  simp only [World.size_alloc] at q2
  have HB := Lib.hid hb
  clear hb hx hy
  go_enter Try.func12, Try.ntmps12
  go_upto_region 1 with fail
  generalize (w.alloc (.cells #[.slice A n c, .slice R m d, .slice K p q, .int .i64 i] 30)).alloc (.cells #[.slice A' n c', .slice R' m d', .slice K' p q', .int .i64 i] 30) = w2 at b2 x2 y2 q1 q2 ⊢
  have a0 : w2.cell? ⟨w.heap.size, 0, none⟩ = some (.slice A n c) := q1.cell 0
  have a1 : w2.cell? ⟨w.heap.size, 1, none⟩ = some (.slice R m d) := q1.cell 1
  have a2 : w2.cell? ⟨w.heap.size + 1, 0, none⟩ = some (.slice A' n c') := q2.cell 0
  have a3 : w2.cell? ⟨w.heap.size + 1, 1, none⟩ = some (.slice R' m d') := q2.cell 1
  go_wp2_with fail
  refine (sameHeap_same _ _ _ _ _ _ _ _ _ _ x _ x2 y2 hn hm HB.out).mono ?_
  rintro e w3 ⟨rfl, b3⟩
  replace q1 := q1.keep b3 q1.lt
  replace q2 := q2.keep b3 q2.lt
  replace b2 := b2.trans (b3.mono b2.size)
  clear x2 y2 b3 a0 a1 a2 a3
  have z1 : w3.cell? ⟨w.heap.size, 2, none⟩ = some (.slice K p q) := q1.cell 2
  have z2 : w3.cell? ⟨w.heap.size + 1, 2, none⟩ = some (.slice K' p q') := q2.cell 2
  have i1 := hkx.up b2
  have i2 := hky.up b2
  go_wp2_with fail
  refine (sameFlags_any _ _ _ _ _ _ l l _ i1 i2 hp hp).mono ?_
  rw [decide_eq_true (rfl : l = l)]
  rintro e w4 ⟨rfl, b4⟩
  replace q1 := q1.keep b4 q1.lt
  replace q2 := q2.keep b4 q2.lt
  replace b2 := b2.trans (b4.mono b2.size)
  have z3 : w4.cell? ⟨w.heap.size, 3, none⟩ = some (.int .i64 i) := q1.cell 3
  have z4 : w4.cell? ⟨w.heap.size + 1, 3, none⟩ = some (.int .i64 i) := q2.cell 3
  have hie : (i == i) = true := by simp
  clear z1 z2 i1 i2 b4 hkx hky
  go_wp2_with fail
  go_ret
  exact ⟨rfl, b2⟩
end Go.Proofs.Ytakdjiojahlnmaa
