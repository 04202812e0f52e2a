/- What the draws of chapter 4 return: numbers, and slabs whose numbers are small. -/
import Derived.Test.YtaacoedmlfcdbaaDoorSc
import Derived.Test.YtaacoedmlfcdbaaDoorInv
import Derived.Test.YtaacoedmlfcdbaaDoorRwk
namespace Go.Proofs.YtaacoedmlfcdbaaDoor
open Go.RowKit

theorem drawClassSize_any (A : Option Addr) (n c : Nat) (w : World) (h : Bytes w w.heap.size A n) (hc : n ≤ c) (hn : n ≤ 9223372036854775807) :
    Calls Tryd.prog 12 #[.slice A n c] w fun e w' => ∃ q : Int, e = .returned (.int .i64 q) ∧ -1 ≤ q ∧ q ≤ 8 ∧ Below w.heap.size w w' := by
  go_enter Tryd.func12, Tryd.ntmps12
  go_wp2_with fail
  refine (open_any _ _ _ _ h hc hn).mono ?_
  rintro e w1 ⟨rfl, hr1, b1⟩
  go_wp2_with fail
  refine (pick_any _ _ _ _ hr1 (by omega) (by omega)).mono ?_
  rintro e w2 ⟨r, rfl, r0, r1, hr2, g2⟩
  have r9 : r < 10 := by omega
  clear r1
  go_wp2_with fail
  go_ret
  exact ⟨_, rfl, by omega, by omega, b1.grown g2 b1.size (fun k hk => by injection hk; omega)⟩
theorem drawClassFor_any (A : Option Addr) (n c : Nat) (w : World) (h : Bytes w w.heap.size A n) (hc : n ≤ c) (hn : n ≤ 9223372036854775807) :
    Calls Tryd.prog 16 #[.slice A n c] w fun e w' => ∃ q : Int, e = .returned (.int .i64 q) ∧ -1 ≤ q ∧ q ≤ 18 ∧ Below w.heap.size w w' := by
  go_enter Tryd.func16, Tryd.ntmps16
  go_wp2_with fail
  refine (open_any _ _ _ _ h hc hn).mono ?_
  rintro e w1 ⟨rfl, hr1, b1⟩
  go_wp2_with fail
  refine (pick_any _ _ _ _ hr1 (by omega) (by omega)).mono ?_
  rintro e w2 ⟨r, rfl, r0, r1, hr2, g2⟩
  have r9 : r < 20 := by omega
  clear r1
  go_wp2_with fail
  go_ret
  exact ⟨_, rfl, by omega, by omega, b1.grown g2 b1.size (fun k hk => by injection hk; omega)⟩
theorem drawSlabWaste_any (A : Option Addr) (n c : Nat) (w : World) (h : Bytes w w.heap.size A n) (hc : n ≤ c) (hn : n ≤ 9223372036854775807) :
    Calls Tryd.prog 24 #[.slice A n c] w fun e w' => ∃ q : Int, e = .returned (.int .i64 q) ∧ -1 ≤ q ∧ q ≤ 18 ∧ Below w.heap.size w w' := by
  go_enter Tryd.func24, Tryd.ntmps24
  go_wp2_with fail
  refine (open_any _ _ _ _ h hc hn).mono ?_
  rintro e w1 ⟨rfl, hr1, b1⟩
  go_wp2_with fail
  refine (pick_any _ _ _ _ hr1 (by omega) (by omega)).mono ?_
  rintro e w2 ⟨r, rfl, r0, r1, hr2, g2⟩
  have r9 : r < 20 := by omega
  clear r1
  go_wp2_with fail
  go_ret
  exact ⟨_, rfl, by omega, by omega, b1.grown g2 b1.size (fun k hk => by injection hk; omega)⟩

/-- a slab has been drawn -/
def DrewS (w : World) (gr N : Nat) (e : Ending) (w' : World) : Prop :=
  ∃ c u : Int, e = .returned (slabV c u) ∧ -1 ≤ c ∧ c ≤ 8 ∧ -1 ≤ u ∧ u ≤ 256 ∧ Rd w' gr (N + 6) ∧ w.grownBy w' (some gr)
/-- what is known while a slab is drawn: the result's box, the slab's box, the reader -/
structure SlabSt (w : World) (gr g4 g5 : Nat) (N : Nat) (c u : Int) (wr : World) : Prop where
  res : Rw wr g4 28 #[.int .i64 0, .int .i64 0]
  slab : Rw wr g5 28 #[.int .i64 c, .int .i64 u]
  rd : Rd wr gr N
  grown : w.grownBy wr (some gr)

theorem SlabSt.pick {w wr w' : World} {gr g4 g5 N : Nat} {c u : Int} (h : SlabSt w gr g4 g5 N c u wr) (h4 : gr < g4) (h5 : gr < g5) (hr : Rd w' gr (N + 1)) (hg : wr.grownBy w' (some gr)) : SlabSt w gr g4 g5 (N + 1) c u w' :=
  ⟨h.res.far hg (by simp; omega), h.slab.far hg (by simp; omega), hr, World.grownBy.trans h.grown hg⟩
theorem SlabSt.alloc {w wr : World} {gr g4 g5 N : Nat} {c u : Int} (h : SlabSt w gr g4 g5 N c u wr) (o : Obj) : SlabSt w gr g4 g5 N c u (wr.alloc o) :=
  ⟨h.res.alloc o, h.slab.alloc o, h.rd.below ((Below.refl wr.heap.size wr).alloc (Nat.le_refl _) o) h.rd.lt, World.grownBy.trans h.grown (World.grownBy_alloc _ _ _)⟩
theorem below_two (w : World) (g : Nat) (a b : Value) : Below g w ((w.setCell ⟨g, 0, none⟩ a).setCell ⟨g, 1, none⟩ b) := ((Below.refl g w).setCell (p := ⟨g, 0, none⟩) (Nat.le_refl _) a).setCell (p := ⟨g, 1, none⟩) (Nat.le_refl _) b
theorem below_three (w : World) (g h i : Nat) (hh : g ≤ h) (a b c : Value) : Below g w (((w.setCell ⟨h, i, none⟩ a).setCell ⟨g, 0, none⟩ b).setCell ⟨g, 1, none⟩ c) := (((Below.refl g w).setCell (p := ⟨h, i, none⟩) hh a).setCell (p := ⟨g, 0, none⟩) (Nat.le_refl _) b).setCell (p := ⟨g, 1, none⟩) (Nat.le_refl _) c
theorem SlabSt.done {w wr w' : World} {gr g5 N M : Nat} {c u c' u' : Int} (h : SlabSt w gr w.heap.size g5 M c u wr) (hgr : gr < w.heap.size) (hM : M ≤ N + 6) (h1 : -1 ≤ c') (h2 : c' ≤ 8) (h3 : -1 ≤ u') (h4 : u' ≤ 256) (hb : Below w.heap.size wr w') : DrewS w gr N (.returned (slabV c' u')) w' :=
  ⟨c', u', rfl, h1, h2, h3, h4, (h.rd.below hb hgr).more hM, grown_below h.grown hb⟩

set_option maxHeartbeats 2000000 in
theorem l20Slab_any (gr N : Nat) (n : Int) (w : World) (h : Rd w gr N) (hN : N ≤ 1000000) (hn1 : 1 ≤ n) (hn : n ≤ 1000000) :
    Calls Tryd.prog 35 #[.pointer (some ⟨gr, 0, none⟩), .int .i64 n] w (DrewS w gr N) := by
  have hgl := h.lt
  have ba : Below w.heap.size w (w.alloc (.cells #[.int .i64 0, .int .i64 0] 28)) := (Below.refl _ _).alloc (Nat.le_refl _) _
  have q0 := Rw.new w 28 #[.int .i64 0, .int .i64 0]
  have rd0 := h.below ba hgl
  have gw0 : w.grownBy (w.alloc (.cells #[.int .i64 0, .int .i64 0] 28)) (some gr) := World.grownBy_alloc _ _ _
  clear ba
  go_enter Tryd.func35, Tryd.ntmps35
  go_wp2_with fail
  refine (pick_any _ _ _ _ rd0 (by omega) (by omega)).mono ?_
  rintro e w1 ⟨r1, rfl, a1, b1, hr1, g1⟩
  have c1 : r1 < 8 := by omega
  have q1 := q0.far g1 (by simp; omega)
  have gw1 := World.grownBy.trans gw0 g1
  clear b1 g1 q0 gw0 rd0
  go_wp2_with fail
  refine (pick_any _ _ _ _ hr1 (by omega) (by omega)).mono ?_
  rintro e w2 ⟨r2, rfl, a2, b2, hr2, g2⟩
  have c2 : r2 < 256 := by omega
  have q2 := q1.far g2 (by simp; omega)
  have gw2 := World.grownBy.trans gw1 g2
  clear b2 g2 q1 gw1 hr1
  have ta2 := (Rw.new w2 3 #[.int .i64 r2, .int .i64 0, .int .i64 255]).alloc (.cells #[.int .i64 0, .int .i64 0, .int .i64 0, .int .i64 1, .int .i64 2] 3)
  have tb2 : Rw ((w2.alloc (.cells #[.int .i64 r2, .int .i64 0, .int .i64 255] 3)).alloc (.cells #[.int .i64 0, .int .i64 0, .int .i64 0, .int .i64 1, .int .i64 2] 3)) (w2.heap.size + 1) 3 #[.int .i64 0, .int .i64 0, .int .i64 0, .int .i64 1, .int .i64 2] := by
    have := Rw.new (w2.alloc (.cells #[.int .i64 r2, .int .i64 0, .int .i64 255] 3)) 3 #[.int .i64 0, .int .i64 0, .int .i64 0, .int .i64 1, .int .i64 2]
    simpa using this
  have bW : Below w2.heap.size w2 ((w2.alloc (.cells #[.int .i64 r2, .int .i64 0, .int .i64 255] 3)).alloc (.cells #[.int .i64 0, .int .i64 0, .int .i64 0, .int .i64 1, .int .i64 2] 3)) := ((Below.refl _ _).alloc (Nat.le_refl _) _).alloc (by simp) _
  have q2' := q2.keep bW q2.lt
  have rd2 := hr2.below bW hr2.lt
  have gw2' := World.grownBy.trans gw2 (⟨bW.os, bW.tape, bW.output, bW.size, fun i hi _ => bW.block i hi⟩ : w2.grownBy ((w2.alloc (.cells #[.int .i64 r2, .int .i64 0, .int .i64 255] 3)).alloc (.cells #[.int .i64 0, .int .i64 0, .int .i64 0, .int .i64 1, .int .i64 2] 3)) (some gr))
  have hl2 := hr2.lt
  have hs2 := gw2.size
  clear bW q2 hr2 gw2
  go_wp2_with fail
  refine (pick_any _ _ _ _ rd2 (by omega) (by omega)).mono ?_
  rintro e w3 ⟨r3, rfl, a3, b3, hr3, g3⟩
  have c3 : r3 < 5 := by omega
  have q3 := q2'.far g3 (by simp; omega)
  have ta := ta2.far g3 (by simp; omega)
  have tb := tb2.far g3 (by simp; omega)
  have gw3 := World.grownBy.trans gw2' g3
  clear b3 g3 q2' ta2 tb2 gw2' rd2
  have tbl5 : ∃ (R j : Nat) (U : Int), r3 = R ∧ R < 5 ∧ j < 3 ∧ w3.cell? ⟨w2.heap.size + 1, R, none⟩ = some (.int .i64 j) ∧ w3.cell? ⟨w2.heap.size, j, none⟩ = some (.int .i64 U) ∧ 0 ≤ U ∧ U ≤ 255 := by
    obtain rfl | rfl | rfl | rfl | rfl : r3 = 0 ∨ r3 = 1 ∨ r3 = 2 ∨ r3 = 3 ∨ r3 = 4 := by omega
    · exact ⟨0, 0, r2, rfl, by omega, by omega, tb.cell 0, ta.cell 0, a2, by omega⟩
    · exact ⟨1, 0, r2, rfl, by omega, by omega, tb.cell 1, ta.cell 0, a2, by omega⟩
    · exact ⟨2, 0, r2, rfl, by omega, by omega, tb.cell 2, ta.cell 0, a2, by omega⟩
    · exact ⟨3, 1, 0, rfl, by omega, by omega, tb.cell 3, ta.cell 1, by omega, by omega⟩
    · exact ⟨4, 2, 255, rfl, by omega, by omega, tb.cell 4, ta.cell 2, by omega, by omega⟩
  obtain ⟨R, j, U, rfl, hR, hj, hy, hx, hU0, hU1⟩ := tbl5
  have hR' : (R : Int) < 5 := by omega
  have hj' : (j : Int) < 3 := by omega
  clear ta tb a3 c3
  have st : SlabSt w gr w.heap.size w3.heap.size (N + 3) r1 U (w3.alloc (.cells #[.int .i64 r1, .int .i64 U] 28)) := ⟨q3.alloc _, Rw.new _ _ _, hr3.below ((Below.refl w3.heap.size w3).alloc (Nat.le_refl _) _) hr3.lt, World.grownBy.trans gw3 (World.grownBy_alloc _ _ _)⟩
  have hs3 := gw3.size
  have hl3 := q3.lt
  clear q3 hr3 gw3
  go_wp2_with fail
  refine (odd_any _ _ _ _ st.rd (by omega) hn1 (by omega)).mono ?_
  rintro e w4 ⟨b, rfl, hr4, g4⟩
  have st4 := st.pick hgl (by omega) hr4 g4
  clear st hr4 g4 hx hy
  cases b
  · have z0 : w4.cell? ⟨w.heap.size, 0, none⟩ = some (.int .i64 0) := st4.res.cell 0
    have z1 : w4.cell? ⟨w.heap.size, 1, none⟩ = some (.int .i64 0) := st4.res.cell 1
    have z2 : w4.frozen? ⟨w.heap.size, 0, none⟩ = false := st4.res.frozen 0
    have z3 : w4.frozen? ⟨w.heap.size, 1, none⟩ = false := st4.res.frozen 1
    have s0 : w4.cell? ⟨w3.heap.size, 0, none⟩ = some (.int .i64 r1) := st4.slab.cell 0
    have s1 : w4.cell? ⟨w3.heap.size, 1, none⟩ = some (.int .i64 U) := st4.slab.cell 1
    go_wp2_with fail
    exact bodyPost_ret (v := slabV r1 U) (by simp [results, Tryd.results35, go_sem, z0, z1]) rfl (st4.done hgl (by omega) (by omega) (by omega) (by omega) (by omega) (below_two _ _ _ _))
  · go_wp2_with fail
    refine (pick_any _ _ _ _ st4.rd (by omega) (by omega)).mono ?_
    rintro e w5 ⟨r5, rfl, a5, b5, hr5, g5⟩
    have st5 := st4.pick hgl (by omega) hr5 g5
    clear st4 hr5 g5 b5
    by_cases h5 : r5 = 0
    · have h5' : (r5 == 0) = true := by rw [beq_iff_eq]; exact h5
      clear h5
      have t6 := Rw.new w5 3 #[.int .i64 (-1), .int .i64 8]
      have st6 := st5.alloc (.cells #[.int .i64 (-1), .int .i64 8] 3)
      have hl5 := st5.slab.lt
      clear st5
      go_wp2_with fail
      refine (pick_any _ _ _ _ st6.rd (by omega) (by omega)).mono ?_
      rintro e w7 ⟨r7, rfl, a7, b7, hr7, g7⟩
      have c7 : r7 < 2 := by omega
      have st7 := st6.pick hgl (by omega) hr7 g7
      have t7 := t6.far g7 (by simp; omega)
      clear st6 hr7 g7 b7 t6
      have tb2 : ∃ (R : Nat) (V : Int), r7 = R ∧ R < 2 ∧ w7.cell? ⟨w5.heap.size, R, none⟩ = some (.int .i64 V) ∧ -1 ≤ V ∧ V ≤ 8 := by
        obtain rfl | rfl : r7 = 0 ∨ r7 = 1 := by omega
        · exact ⟨0, -1, rfl, by omega, t7.cell 0, by omega, by omega⟩
        · exact ⟨1, 8, rfl, by omega, t7.cell 1, by omega, by omega⟩
      obtain ⟨R7, V, rfl, hR7, hy7, hV0, hV1⟩ := tb2
      have hR7' : (R7 : Int) < 2 := by omega
      clear t7 a7 c7
      have s0 : w7.cell? ⟨w3.heap.size, 0, none⟩ = some (.int .i64 r1) := st7.slab.cell 0
      have s2 : w7.frozen? ⟨w3.heap.size, 0, none⟩ = false := st7.slab.frozen 0
      have s1 : w7.cell? ⟨w3.heap.size, 1, none⟩ = some (.int .i64 U) := st7.slab.cell 1
      have z0 : w7.cell? ⟨w.heap.size, 0, none⟩ = some (.int .i64 0) := st7.res.cell 0
      have z1 : w7.cell? ⟨w.heap.size, 1, none⟩ = some (.int .i64 0) := st7.res.cell 1
      have z2 : w7.frozen? ⟨w.heap.size, 0, none⟩ = false := st7.res.frozen 0
      have z3 : w7.frozen? ⟨w.heap.size, 1, none⟩ = false := st7.res.frozen 1
      have ne1 : w.heap.size ≠ w3.heap.size := by omega
      have ne2 : w3.heap.size ≠ w.heap.size := by omega
      go_wp2_with fail
      exact bodyPost_ret (v := slabV V U) (by simp [results, Tryd.results35, go_sem, z0, z1]) rfl (st7.done hgl (by omega) (by omega) (by omega) (by omega) (by omega) (below_three _ _ _ _ (by omega) _ _ _))
    · have h5' : (r5 == 0) = false := by rw [beq_eq_false_iff_ne]; exact h5
      clear h5
      have t6 := Rw.new w5 3 #[.int .i64 (-1), .int .i64 256]
      have st6 := st5.alloc (.cells #[.int .i64 (-1), .int .i64 256] 3)
      have hl5 := st5.slab.lt
      clear st5
      go_wp2_with fail
      refine (pick_any _ _ _ _ st6.rd (by omega) (by omega)).mono ?_
      rintro e w7 ⟨r7, rfl, a7, b7, hr7, g7⟩
      have c7 : r7 < 2 := by omega
      have st7 := st6.pick hgl (by omega) hr7 g7
      have t7 := t6.far g7 (by simp; omega)
      clear st6 hr7 g7 b7 t6
      have tb2 : ∃ (R : Nat) (V : Int), r7 = R ∧ R < 2 ∧ w7.cell? ⟨w5.heap.size, R, none⟩ = some (.int .i64 V) ∧ -1 ≤ V ∧ V ≤ 256 := by
        obtain rfl | rfl : r7 = 0 ∨ r7 = 1 := by omega
        · exact ⟨0, -1, rfl, by omega, t7.cell 0, by omega, by omega⟩
        · exact ⟨1, 256, rfl, by omega, t7.cell 1, by omega, by omega⟩
      obtain ⟨R7, V, rfl, hR7, hy7, hV0, hV1⟩ := tb2
      have hR7' : (R7 : Int) < 2 := by omega
      clear t7 a7 c7
      have s0 : w7.cell? ⟨w3.heap.size, 0, none⟩ = some (.int .i64 r1) := st7.slab.cell 0
      have s2 : w7.frozen? ⟨w3.heap.size, 1, none⟩ = false := st7.slab.frozen 1
      have s1 : w7.cell? ⟨w3.heap.size, 1, none⟩ = some (.int .i64 U) := st7.slab.cell 1
      have z0 : w7.cell? ⟨w.heap.size, 0, none⟩ = some (.int .i64 0) := st7.res.cell 0
      have z1 : w7.cell? ⟨w.heap.size, 1, none⟩ = some (.int .i64 0) := st7.res.cell 1
      have z2 : w7.frozen? ⟨w.heap.size, 0, none⟩ = false := st7.res.frozen 0
      have z3 : w7.frozen? ⟨w.heap.size, 1, none⟩ = false := st7.res.frozen 1
      have ne1 : w.heap.size ≠ w3.heap.size := by omega
      have ne2 : w3.heap.size ≠ w.heap.size := by omega
      go_wp2_with fail
      exact bodyPost_ret (v := slabV r1 V) (by simp [results, Tryd.results35, go_sem, z0, z1]) rfl (st7.done hgl (by omega) (by omega) (by omega) (by omega) (by omega) (below_three _ _ _ _ (by omega) _ _ _))
/-- a slab has been drawn for a law -/
def DrawnS (w : World) (e : Ending) (w' : World) : Prop :=
  ∃ c u : Int, e = .returned (slabV c u) ∧ -1 ≤ c ∧ c ≤ 8 ∧ -1 ≤ u ∧ u ≤ 256 ∧ Below w.heap.size w w'

set_option maxHeartbeats 1000000 in
theorem drawSlabTake_any (A : Option Addr) (n c : Nat) (w : World) (h : Bytes w w.heap.size A n) (hc : n ≤ c) (hn : n ≤ 9223372036854775807) :
    Calls Tryd.prog 19 #[.slice A n c] w (DrawnS w) := by
  have ba : Below w.heap.size w (w.alloc (.cells #[.int .i64 0, .int .i64 0] 28)) := (Below.refl _ _).alloc (Nat.le_refl _) _
  have q0 := Rw.new w 28 #[.int .i64 0, .int .i64 0]
  have hs0 : (w.alloc (.cells #[.int .i64 0, .int .i64 0] 28)).heap.size = w.heap.size + 1 := by simp
  have hb0 : Bytes (w.alloc (.cells #[.int .i64 0, .int .i64 0] 28)) (w.alloc (.cells #[.int .i64 0, .int .i64 0] 28)).heap.size A n := (h.keep fun p hp => ba.cell hp).more (by omega)
  go_enter Tryd.func19, Tryd.ntmps19
  go_wp2_with fail
  refine (open_any _ _ _ _ hb0 hc hn).mono ?_
  rintro e w1 ⟨rfl, hr1, b1⟩
  rw [hs0] at hr1 b1
  have q1 := q0.keep b1 (by omega)
  have bb1 := ba.trans (b1.mono (by omega))
  simp only [hs0]
  clear q0 ba b1 hb0
  go_wp2_with fail
  refine (l20Slab_any _ _ _ _ hr1 (by omega) (by omega) (by omega)).mono ?_
  rintro e w2 ⟨c1, u1, rfl, k1, k2, k3, k4, hr2, g2⟩
  have q2 := q1.far g2 (by simp)
  have bb2 : Below w.heap.size w w2 := bb1.grown g2 bb1.size (fun k hk => by injection hk; omega)
  have z0 : w2.cell? ⟨w.heap.size, 0, none⟩ = some (.int .i64 0) := q2.cell 0
  have z1 : w2.cell? ⟨w.heap.size, 1, none⟩ = some (.int .i64 0) := q2.cell 1
  have z2 : w2.frozen? ⟨w.heap.size, 0, none⟩ = false := q2.frozen 0
  have z3 : w2.frozen? ⟨w.heap.size, 1, none⟩ = false := q2.frozen 1
  go_wp2_with fail
  exact bodyPost_ret (v := slabV c1 u1) (by simp [results, Tryd.results19, go_sem, z0, z1]) rfl ⟨c1, u1, rfl, k1, k2, k3, k4, bb2.trans (below_two _ _ _ _)⟩

/-- a slab and a place have been drawn for a law -/
def DrawnSG (w : World) (e : Ending) (w' : World) : Prop :=
  ∃ c u q : Int, e = .returned (.tuple #[slabV c u, .int .i64 q]) ∧ -1 ≤ c ∧ c ≤ 8 ∧ -1 ≤ u ∧ u ≤ 256 ∧ -1 ≤ q ∧ q ≤ 8 ∧ Below w.heap.size w w'

end Go.Proofs.YtaacoedmlfcdbaaDoor
