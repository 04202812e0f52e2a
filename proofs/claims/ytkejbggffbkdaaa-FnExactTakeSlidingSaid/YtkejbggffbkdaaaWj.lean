/- What l20Blocks draws: blocks that a call owns and a total; nothing else is known of them. -/
import Derived.Test.YtkejbggffbkdaaaWi
import Derived.Test.YtkejbggffbkdaaaWg
import Derived.Deep.RegionWith
namespace Go.Proofs.Ytkejbggffbkdaaa
open Go.RowKit

theorem only_below {a w : World} (h : Below a.heap.size a w) (row : Option Nat) : a.grownBy w row := ⟨h.os, h.tape, h.output, h.size, fun i hi _ => h.block i hi⟩

theorem valid_all_ {xs : List Bl} {t : Int} (hv : Bks.validB xs t = true) : AllI xs := by
  intro k x hx
  have h := Bks.valid_at hv hx
  unfold I64
  omega

/-- blocks and a total have been drawn -/
def DrewB (w : World) (gr N : Nat) (e : Ending) (w' : World) : Prop :=
  ∃ (v : Value) (xs : List Bl) (T : Int), e = .returned (.tuple #[v, .int .i64 T]) ∧ OwnB w' w.heap.size v xs ∧ AllI xs ∧ 1 ≤ xs.length ∧ xs.length ≤ 300 ∧ 1 ≤ T ∧ T ≤ 65 ∧ Rd w' gr (N + 100) ∧ w.grownBy w' (some gr)

/-- what is known while blocks are drawn -/
structure DrawSt (w : World) (gr N : Nat) (T : Int) (wr : World) (v : Value) (xs : List Bl) : Prop where
  own : OwnB wr w.heap.size v xs
  valid : Bks.validB xs T = true
  rd : Rd wr gr N
  grown : w.grownBy wr (some gr)

theorem DrawSt.size {w wr : World} {gr N : Nat} {T : Int} {v : Value} {xs : List Bl} (h : DrawSt w gr N T wr v xs) : w.heap.size ≤ wr.heap.size := h.grown.size

theorem DrawSt.pick {w wr w' : World} {gr N : Nat} {T : Int} {v : Value} {xs : List Bl} (h : DrawSt w gr N T wr v xs) (hgr : gr < w.heap.size) (hr : Rd w' gr (N + 1)) (hg : wr.grownBy w' (some gr)) : DrawSt w gr (N + 1) T w' v xs := by
  refine ⟨h.own.far hg ?_, h.valid, hr, World.grownBy.trans h.grown hg⟩
  right
  intro e
  have := (World.ownsRow.lt h.own gr e).1
  omega

theorem DrawSt.next {w wr w' : World} {gr N : Nat} {T : Int} {v v' : Value} {xs ys : List Bl} (h : DrawSt w gr N T wr v xs) (ho : OwnB w' wr.heap.size v' ys) (hv : Bks.validB ys T = true) (hb : Below wr.heap.size wr w') : DrawSt w gr N T w' v' ys :=
  ⟨ho.base h.size, hv, h.rd.below hb h.rd.lt, World.grownBy.trans h.grown (only_below hb _)⟩

theorem DrawSt.more {w wr : World} {gr N N' : Nat} {T : Int} {v : Value} {xs : List Bl} (h : DrawSt w gr N T wr v xs) (hN : N ≤ N') : DrawSt w gr N' T wr v xs := ⟨h.own, h.valid, h.rd.more hN, h.grown⟩

theorem flat_set_s : ∀ (xs : List Bl) (k : Nat) (x : Bl) (s : Int), xs[k]? = some x → (flat xs).set (k * 3) (.int .i64 s) = flat (xs.set k ⟨s, x.z, x.u⟩)
  | [], k, x, s, h => by simp at h
  | y :: ys, 0, x, s, h => by
    simp at h
    subst h
    simp [flat]
  | y :: ys, k + 1, x, s, h => by
    have := flat_set_s ys k x s (by simpa using h)
    have e : (k + 1) * 3 = k * 3 + 3 := by omega
    rw [e]
    simpa [flat] using this
theorem flat_set_z : ∀ (xs : List Bl) (k : Nat) (x : Bl) (s : Int), xs[k]? = some x → (flat xs).set (k * 3 + 1) (.int .i64 s) = flat (xs.set k ⟨x.s, s, x.u⟩)
  | [], k, x, s, h => by simp at h
  | y :: ys, 0, x, s, h => by
    simp at h
    subst h
    simp [flat]
  | y :: ys, k + 1, x, s, h => by
    have := flat_set_z ys k x s (by simpa using h)
    have e : (k + 1) * 3 = k * 3 + 3 := by omega
    rw [e]
    simpa [flat] using this

theorem OwnB.put_s {w : World} {base g c j : Nat} {xs : List Bl} {x : Bl} {s : Int} (h : OwnB w base (.slice (some ⟨g, 0, none⟩) xs.length c) xs) (hx : xs[j]? = some x) :
    OwnB (w.setCell ⟨g, j * 3, none⟩ (.int .i64 s)) base (.slice (some ⟨g, 0, none⟩) xs.length c) (xs.set j ⟨s, x.z, x.u⟩) := by
  have := (World.ownsRow.stored h (j * 3) (.int .i64 s)).1
  unfold OwnB
  rw [List.length_set, ← flat_set_s xs j x s hx]
  exact this
theorem OwnB.put_z {w : World} {base g c j : Nat} {xs : List Bl} {x : Bl} {s : Int} (h : OwnB w base (.slice (some ⟨g, 0, none⟩) xs.length c) xs) (hx : xs[j]? = some x) :
    OwnB (w.setCell ⟨g, j * 3 + 1, none⟩ (.int .i64 s)) base (.slice (some ⟨g, 0, none⟩) xs.length c) (xs.set j ⟨x.s, s, x.u⟩) := by
  have := (World.ownsRow.stored h (j * 3 + 1) (.int .i64 s)).1
  unfold OwnB
  rw [List.length_set, ← flat_set_z xs j x s hx]
  exact this

theorem AllI.put {xs : List Bl} {j : Nat} {y : Bl} (h : AllI xs) (h1 : I64 y.s) (h2 : I64 y.z) : AllI (xs.set j y) := by
  intro k x hx
  rw [List.getElem?_set] at hx
  split at hx
  · split at hx
    · injection hx with hx
      subst hx
      exact ⟨h1, h2⟩
    · cases hx
  · exact h k x hx

theorem grown_new {w wr : World} {row : Option Nat} (h : w.grownBy wr row) {p : Addr} (hp : w.heap.size ≤ p.block) (u : Value) : w.grownBy (wr.setCell p u) row :=
  ⟨h.os, h.tape, h.output, by simpa [World.setCell] using h.size, fun i hi hne => (Below.heap_setCell wr p u i (by omega)).trans (h.block i hi hne)⟩

theorem grown_more {w wr w' : World} {row row' : Option Nat} (h : w.grownBy wr row) (h' : wr.grownBy w' row') (hr : ∀ k, row' = some k → w.heap.size ≤ k) : w.grownBy w' row :=
  ⟨h'.os.trans h.os, h'.tape.trans h.tape, h'.output.trans h.output, Nat.le_trans h.size h'.size, fun i hi hne => (h'.block i (Nat.lt_of_lt_of_le hi h.size) (fun e => by have := hr i e.symm; omega)).trans (h.block i hi hne)⟩

theorem rd_grown {wr w' : World} {gr N B : Nat} {row : Option Nat} (h : Rd wr gr N) (hg : wr.grownBy w' row) (hr : ∀ k, row = some k → B ≤ k) (hB : gr < B) (hB2 : B ≤ wr.heap.size) : Rd w' gr N :=
  h.below ((Below.refl B wr).grown hg hB2 hr) hB

theorem pick_cell {w6 W w7 : World} {gr g i : Nat} {v : Value} (hW : Below w6.heap.size w6 W) (g7 : W.grownBy w7 (some gr)) (hne : g ≠ gr) (hlt : g < w6.heap.size) (d : w6.cell? ⟨g, i, none⟩ = some v) : w7.cell? ⟨g, i, none⟩ = some v :=
  (grown_cell g7 g i (Nat.lt_of_lt_of_le hlt hW.size) hne).trans ((hW.cell (p := ⟨g, i, none⟩) hlt).trans d)
theorem pick_frozen {w6 W w7 : World} {gr g i : Nat} (hW : Below w6.heap.size w6 W) (g7 : W.grownBy w7 (some gr)) (hne : g ≠ gr) (hlt : g < w6.heap.size) (d : w6.frozen? ⟨g, i, none⟩ = false) : w7.frozen? ⟨g, i, none⟩ = false :=
  (World.frozen?_of_block (g7.block g (Nat.lt_of_lt_of_le hlt hW.size) (fun e => hne (by injection e)))).trans ((hW.frozen (p := ⟨g, i, none⟩) hlt).trans d)

theorem DrawSt.over {w w6 W w7 : World} {gr N : Nat} {T : Int} {v : Value} {xs : List Bl} {A' : Option Addr} {m' c' p' : Nat} {F : Nat → Int} (h : DrawSt w gr N T w6 v xs) (hW : Below w6.heap.size w6 W) (hgr : gr < w.heap.size) (hX : RdX w7 gr A' m' c' (p' + 1) F) (hp : p' ≤ N) (hg : W.grownBy w7 (some gr)) : DrawSt w gr (N + 1) T w7 v xs := by
  refine ⟨(h.own.below hW (Nat.le_refl _)).far hg ?_, h.valid, hX.rd (by omega), World.grownBy.trans (World.grownBy.trans h.grown (only_below hW _)) hg⟩
  right
  intro e
  have := (World.ownsRow.lt h.own gr e).1
  omega

theorem OwnB.put_zA {w w' : World} {base g c j : Nat} {xs : List Bl} {x : Bl} {s : Int} (h : OwnB w base (.slice (some ⟨g, 0, none⟩) xs.length c) xs) (hx : xs[j]? = some x)
    (hw : w' = w.setCell ⟨g, j * 3 + 1, none⟩ (.int .i64 s) ∨ ∃ o, w' = (w.setCell ⟨g, j * 3 + 1, none⟩ (.int .i64 s)).alloc o) :
    OwnB w' base (.slice (some ⟨g, 0, none⟩) xs.length c) (xs.set j ⟨x.s, s, x.u⟩) := by
  rcases hw with rfl | ⟨o, rfl⟩
  · exact h.put_z hx
  · exact World.ownsRow.alloc (h.put_z hx) o

set_option maxRecDepth 100000 in
set_option maxHeartbeats 4000000 in
theorem l20Blocks_any (gr N : Nat) (n : Int) (w : World) (h : Rd w gr N) (hN : N ≤ 1000000) (hn1 : 1 ≤ n) (hn : n ≤ 1000000) :
    Calls Try.prog 31 #[.pointer (some ⟨gr, 0, none⟩), .int .i64 n] w (DrewB w gr N) := by
  have hgl := h.lt
  go_enter Try.func31, Try.ntmps31
  go_wp2_with fail
  refine (pick_any _ _ _ _ h (by omega) (by omega)).mono ?_
  rintro e w1 ⟨r1, rfl, a1, b1, hr1, g1⟩
  have c1 : r1 < 64 := by omega
  clear b1
  obtain ⟨T, hT⟩ : ∃ T, T = 1 + r1 := ⟨_, rfl⟩
  have t1 : 1 ≤ T := by omega
  have t2 : T ≤ 64 := by omega
  go_wp2_with fail
  rw [← hT]
  clear hT a1 c1
  refine (mNewBlocks_any _ _).mono ?_
  rintro e w2 ⟨v2, rfl, o2, b2⟩
  have hnew : newB T = [⟨0, T, false⟩] := by simp [newB]; omega
  rw [hnew] at o2
  have st2 : DrawSt w gr (N + 1) T w2 v2 [⟨0, T, false⟩] := ⟨o2.base g1.size, one_valid T t1 (by omega), hr1.below b2 hr1.lt, World.grownBy.trans g1 (only_below b2 _)⟩
  clear hnew o2 b2 g1 hr1
  go_wp2_with fail
  refine (pick_any _ _ _ _ st2.rd (by omega) (by omega)).mono ?_
  rintro e w3 ⟨r3, rfl, a3, b3, hr3, g3⟩
  have c3 : r3 < 14 := by omega
  have st3 := (st2.pick hgl hr3 g3).more (N' := N + 70 - 4 * r3.toNat) (by omega)
  clear st2 hr3 g3 b3
  obtain ⟨q, rfl⟩ := Int.eq_ofNat_of_zero_le a3
  simp only [Int.toNat_natCast] at st3
  clear a3
  go_wp2_with fail
  go_loopw [7, 8] (fun v i wr => ∃ (k : Nat) (xs : List Bl), k < 14 ∧ i = .int .i64 k ∧ DrawSt w gr (N + 70 - 4 * k) T wr v xs) (fun _ i _ => (intOf i).toNat)
  case atStart => exact ⟨q, _, by omega, rfl, st3⟩
  case round =>
    clear st3
    obtain ⟨k, xs, hk, rfl, st⟩ := hrel
    obtain ⟨v1, v2', v3', v4', v5'⟩ := Bks.valid_len st.valid
    clear v5'
    obtain ⟨A, c, rfl, hA⟩ := st.own.form
    obtain ⟨g, rfl, hg1, hg2⟩ := hA v1
    clear hA
    have hcap := st.own.cap.2
    by_cases hk0 : 0 < k
    · go_wp2_with fail
      refine (pick_any _ _ _ _ st.rd (by omega) (by omega)).mono ?_
      rintro e w4 ⟨r4, rfl, a4, b4, hr4, g4⟩
      have st4 := st.pick hgl hr4 g4
      have c4 : r4 < xs.length := by omega
      clear st b4 hr4 g4
      obtain ⟨j, rfl⟩ := Int.eq_ofNat_of_zero_le a4
      have hj : j < xs.length := by omega
      clear a4
      have bs4 := st4.own.reads (valid_all_ st4.valid)
      obtain ⟨g', o', x, e', _, hx, _, _, d1, d2, d3⟩ := bs4.at_ hj
      injection e' with e'
      injection e' with e1 e2
      subst e1 e2
      simp only [Nat.zero_add] at d1 d2 d3
      clear d1 d2 hx
      by_cases hu : x.u = true
      · rw [hu] at d3
        clear hu
        go_wp2_with fail
        refine (pick_any _ _ _ _ st4.rd (by omega) (by omega)).mono ?_
        rintro e w5 ⟨r5, rfl, a5, b5, hr5, g5⟩
        have st5 := st4.pick hgl hr5 g5
        clear st4 b5 hr5 g5 d3 bs4
        by_cases h5 : r5 = 0
        · have h5' : (r5 == 0) = true := by rw [beq_iff_eq]; exact h5
          clear h5
          go_wp2_with fail
          refine (mGiveBlock_any _ _ _ xs _ _ _ (st5.own.reads (valid_all_ st5.valid)) (by omega)).mono ?_
          rintro e w6 ⟨v6, rfl, o6, b6⟩
          rw [if_pos st5.valid] at o6
          have st6 := (st5.next o6 (Bks.giveB_valid st5.valid) b6).more (N' := N + 70 - 4 * (k - 1)) (by omega)
          clear st5 o6 b6
          go_wp2
          go_roundw
          case rel => exact ⟨k - 1, _, by omega, int_eq (by omega), st6⟩
          case measure => simp [intOf]; omega
        · have h5' : (r5 == 0) = false := by rw [beq_eq_false_iff_ne]; exact h5
          clear h5
          go_wp2_with fail
          refine (pick_any _ _ _ _ st5.rd (by omega) (by omega)).mono ?_
          rintro e w6 ⟨r6, rfl, a6, b6, hr6, g6⟩
          have st6 := st5.pick hgl hr6 g6
          have c6 : r6 < 8 := by omega
          clear st5 b6 hr6 g6
          go_wp2_with fail
          refine (mTakeBlock_any _ _ _ xs _ _ _ _ (st6.own.reads (valid_all_ st6.valid)) (by omega) hcap).mono ?_
          rintro e w7 ⟨v7, rfl, o7, b7⟩
          rw [if_pos st6.valid] at o7
          have st7 := (st6.next o7 (Bks.takeB_valid st6.valid) b7).more (N' := N + 70 - 4 * (k - 1)) (by omega)
          clear st6 o7 b7
          go_wp2
          go_roundw
          case rel => exact ⟨k - 1, _, by omega, int_eq (by omega), st7⟩
          case measure => simp [intOf]; omega
      · have hu' : x.u = false := by simpa using hu
        rw [hu'] at d3
        clear hu hu'
        go_wp2_with fail
        refine (pick_any _ _ _ _ st4.rd (by omega) (by omega)).mono ?_
        rintro e w6 ⟨r6, rfl, a6, b6, hr6, g6⟩
        have st6 := st4.pick hgl hr6 g6
        have c6 : r6 < 8 := by omega
        clear st4 b6 hr6 g6 d3 bs4
        go_wp2_with fail
        refine (mTakeBlock_any _ _ _ xs _ _ _ _ (st6.own.reads (valid_all_ st6.valid)) (by omega) hcap).mono ?_
        rintro e w7 ⟨v7, rfl, o7, b7⟩
        rw [if_pos st6.valid] at o7
        have st7 := (st6.next o7 (Bks.takeB_valid st6.valid) b7).more (N' := N + 70 - 4 * (k - 1)) (by omega)
        clear st6 o7 b7
        go_wp2
        go_roundw
        case rel => exact ⟨k - 1, _, by omega, int_eq (by omega), st7⟩
        case measure => simp [intOf]; omega
    · obtain rfl : k = 0 := by omega
      go_wp2_with fail
      refine (odd_any _ _ _ _ st.rd (by omega) hn1 (by omega)).mono ?_
      rintro e w4 ⟨b, rfl, hr4, g4⟩
      have st4 := st.pick hgl hr4 g4
      clear st hr4 g4
      cases b
      · go_wp2_with fail
        go_ret2
        exact ⟨_, xs, T, rfl, st4.own, valid_all_ st4.valid, v1, by omega, t1, by omega, st4.rd.more (by omega), st4.grown⟩
      · go_wp2_with fail
        refine (pick_any _ _ _ _ st4.rd (by omega) (by omega)).mono ?_
        rintro e w5 ⟨r5, rfl, a5, b5, hr5, g5⟩
        have st5 := st4.pick hgl hr5 g5
        have c5 : r5 < xs.length := by omega
        clear st4 b5 hr5 g5
        obtain ⟨j, rfl⟩ := Int.eq_ofNat_of_zero_le a5
        have hj : j < xs.length := by omega
        clear a5
        go_wp2_with fail
        refine (pick_any _ _ _ _ st5.rd (by omega) (by omega)).mono ?_
        rintro e w6 ⟨r6, rfl, a6, b6, hr6, g6⟩
        have st6 := st5.pick hgl hr6 g6
        have c6 : r6 < 5 := by omega
        clear st5 b6 hr6 g6
        obtain ⟨x, hx⟩ : ∃ x, xs[j]? = some x := ⟨_, List.getElem?_eq_getElem hj⟩
        obtain ⟨z0, z1, z2, z3, z4, z5, z6⟩ := Bks.valid_at st6.valid hx
        have y0 : 0 ≤ x.s := by omega
        have y1 : x.s ≤ 256 := by omega
        clear z0 z5
        have hl : (xs.length : Int) ≤ 256 := by omega
        have HX := Lib.hid hx
        obtain ⟨f1, f2, f3⟩ := flat_at xs j x hx
        have d1 := (World.ownsRow.cellAt st6.own (j * 3) (by omega)).trans f1
        have d2 := (World.ownsRow.cellAt st6.own (j * 3 + 1) (by omega)).trans f2
        have e1 := World.ownsRow.frozenAt st6.own (j * 3)
        have e2 := World.ownsRow.frozenAt st6.own (j * 3 + 1)
        have HA := Lib.hid (valid_all_ st6.valid)
        clear hx f1 f2 f3
        obtain rfl | rfl | rfl | rfl | rfl : r6 = 0 ∨ r6 = 1 ∨ r6 = 2 ∨ r6 = 3 ∨ r6 = 4 := by omega
        · go_wp2_with fail
          go_ret2
          exact ⟨_, xs, _, rfl, st6.own, HA.out, v1, by omega, by omega, by omega, st6.rd.more (by omega), st6.grown⟩
        · go_wp2_with fail
          go_ret2
          exact ⟨_, _, T, rfl, st6.own.put_s HX.out, HA.out.put (y := ⟨x.s + 1, x.z, x.u⟩) (show I64 (x.s + 1) from ⟨by omega, by omega⟩) (show I64 x.z from ⟨by omega, by omega⟩), by rw [List.length_set]; exact v1, by rw [List.length_set]; omega, t1, by omega,
            (st6.rd.below ((Below.refl w.heap.size w6).setCell hg1 _) hgl).more (by omega), grown_new st6.grown hg1 _⟩
        · have hsep : g ≠ gr := by omega
          have hj' : (j : Int) < xs.length := by omega
          have hs6 := st6.size
          have hg26 : g < w6.heap.size := (World.ownsRow.lt st6.own g rfl).2
          have hne6 : w6.heap.size ≠ gr := by omega
          have u1 : IntKind.i64.wrap (x.z + 1) = x.z + 1 := IntWalk.i64_in _ (by omega)
          obtain ⟨A', m', c', p', F, hX, hp⟩ := st6.rd.told
          have hpr := pickV_range hX (by omega) 2
          have hgl6 := hX.1.lt
          have HX6 := Lib.hid hX
          obtain hr | hr : pickV F m' p' 2 = 0 ∨ pickV F m' p' 2 = 1 := by omega
          · have HR := Lib.hid hr
            clear hr hpr hX
            go_wp2_with fail
            go_region_with (go_at_call 45; go_must (refine (pick_exact gr A' m' c' p' F 2 _ (by first | exact HX6.out | exact HX6.out.below (Below.refl w6.heap.size w6).drew hgl6 | exact HX6.out.below ((Below.refl w6.heap.size w6).alloc (Nat.le_refl _) _) hgl6 | exact HX6.out.below ((Below.refl w6.heap.size w6).alloc (Nat.le_refl _) _).drew hgl6) (by omega) (by omega)).mono ?_; intro e w7 hq; obtain ⟨he, hX7, g7⟩ := hq; rw [HR.out] at he; subst he; have d7 := pick_cell (w6 := w6) (by first | exact Below.refl _ _ | exact (Below.refl _ _).drew | exact ((Below.refl _ _).alloc (Nat.le_refl _) _) | exact (((Below.refl _ _).alloc (Nat.le_refl _) _).drew)) g7 hsep hg26 d2; have e7 := pick_frozen (w6 := w6) (by first | exact Below.refl _ _ | exact (Below.refl _ _).drew | exact ((Below.refl _ _).alloc (Nat.le_refl _) _) | exact (((Below.refl _ _).alloc (Nat.le_refl _) _).drew)) g7 hsep hg26 e2; have z7 := World.block_lt_of_cell? _ _ d7; have k7 := fun hlt => grown_cell g7 w6.heap.size 0 hlt hne6; have st7 := st6.over (by first | exact Below.refl _ _ | exact (Below.refl _ _).drew | exact ((Below.refl _ _).alloc (Nat.le_refl _) _) | exact (((Below.refl _ _).alloc (Nat.le_refl _) _).drew)) hgl hX7 hp g7; clear g7 hX7))
            all_goals
              go_wp2
              go_ret2
              refine ⟨_, _, T, rfl, OwnB.put_zA st7.own HX.out (by first | exact .inl rfl | exact .inr ⟨_, rfl⟩), HA.out.put (y := ⟨x.s, 0, x.u⟩) (show I64 x.s from ⟨by omega, by omega⟩) (show I64 (0) from ⟨by omega, by omega⟩), by rw [List.length_set]; exact v1, by rw [List.length_set]; omega, t1, by omega, ?_, ?_⟩
              · exact (st7.rd.below (by first | exact (Below.refl w.heap.size w7).setCell hg1 _ | exact ((Below.refl w.heap.size w7).setCell hg1 _).alloc (by have := st7.size; simpa [World.setCell] using this) _) hgl).more (by omega)
              · first | exact grown_new st7.grown hg1 _ | exact World.grownBy.trans (grown_new st7.grown hg1 _) (World.grownBy_alloc _ _ _)
          · have HR := Lib.hid hr
            clear hr hpr hX
            go_wp2_with fail
            go_region_with (go_at_call 45; go_must (refine (pick_exact gr A' m' c' p' F 2 _ (by first | exact HX6.out | exact HX6.out.below (Below.refl w6.heap.size w6).drew hgl6 | exact HX6.out.below ((Below.refl w6.heap.size w6).alloc (Nat.le_refl _) _) hgl6 | exact HX6.out.below ((Below.refl w6.heap.size w6).alloc (Nat.le_refl _) _).drew hgl6) (by omega) (by omega)).mono ?_; intro e w7 hq; obtain ⟨he, hX7, g7⟩ := hq; rw [HR.out] at he; subst he; have d7 := pick_cell (w6 := w6) (by first | exact Below.refl _ _ | exact (Below.refl _ _).drew | exact ((Below.refl _ _).alloc (Nat.le_refl _) _) | exact (((Below.refl _ _).alloc (Nat.le_refl _) _).drew)) g7 hsep hg26 d2; have e7 := pick_frozen (w6 := w6) (by first | exact Below.refl _ _ | exact (Below.refl _ _).drew | exact ((Below.refl _ _).alloc (Nat.le_refl _) _) | exact (((Below.refl _ _).alloc (Nat.le_refl _) _).drew)) g7 hsep hg26 e2; have z7 := World.block_lt_of_cell? _ _ d7; have k7 := fun hlt => grown_cell g7 w6.heap.size 1 hlt hne6; have st7 := st6.over (by first | exact Below.refl _ _ | exact (Below.refl _ _).drew | exact ((Below.refl _ _).alloc (Nat.le_refl _) _) | exact (((Below.refl _ _).alloc (Nat.le_refl _) _).drew)) hgl hX7 hp g7; clear g7 hX7))
            all_goals
              go_wp2
              go_ret2
              refine ⟨_, _, T, rfl, OwnB.put_zA st7.own HX.out (by first | exact .inl rfl | exact .inr ⟨_, rfl⟩), HA.out.put (y := ⟨x.s, x.z + 1, x.u⟩) (show I64 x.s from ⟨by omega, by omega⟩) (show I64 (x.z + 1) from ⟨by omega, by omega⟩), by rw [List.length_set]; exact v1, by rw [List.length_set]; omega, t1, by omega, ?_, ?_⟩
              · exact (st7.rd.below (by first | exact (Below.refl w.heap.size w7).setCell hg1 _ | exact ((Below.refl w.heap.size w7).setCell hg1 _).alloc (by have := st7.size; simpa [World.setCell] using this) _) hgl).more (by omega)
              · first | exact grown_new st7.grown hg1 _ | exact World.grownBy.trans (grown_new st7.grown hg1 _) (World.grownBy_alloc _ _ _)
        · have ob := own_one w6 T 1 false 0 (Nat.zero_le _)
          have rb := ob.reads (allI_one (by omega) (by omega) (by omega) (by omega))
          have hs6 := st6.size
          go_wp2_with (at_builtin; go_must (refine wpList_appendB rfl (.tmp 101) (.tmp 104) rfl w.heap.size _ xs rfl (World.ownsRow.alloc st6.own _) (some ⟨w6.heap.size, 0, none⟩) 1 1 _ [⟨T, 1, false⟩] rfl rb (by omega) (by simp; omega) ?_); intro v7 w7 o7 g7 s7)
          go_ret2
          have hrow := fun k hk => (World.ownsRow.lt st6.own k hk).1
          exact ⟨_, _, T, rfl, o7, HA.out.append (allI_one (by omega) (by omega) (by omega) (by omega)), by simp, by simp; omega, t1, by omega,
            (rd_grown (B := w.heap.size) (st6.rd.below ((Below.refl w.heap.size w6).alloc hs6 _) hgl) g7 hrow hgl (by simp; omega)).more (by omega), grown_more (World.grownBy.trans st6.grown (World.grownBy_alloc w6 _ _)) g7 hrow⟩
        · have ob := own_one w6 0 1 false w.heap.size st6.size
          have rb := OwnB.reads (World.ownsRow.alloc st6.own (.cells #[.int .i64 0, .int .i64 1, .bool false] 32)) HA.out
          have hs6 := st6.size
          go_wp2_with (at_builtin; go_must (refine wpList_appendB rfl (.tmp 63) (.tmp 64) rfl w.heap.size _ [⟨0, 1, false⟩] rfl ob (some ⟨g, 0, none⟩) xs.length c _ xs rfl rb (by simp; omega) (by simp; omega) ?_); intro v7 w7 o7 g7 s7)
          go_ret2
          have hrow := fun k hk => (World.ownsRow.lt ob k hk).1
          exact ⟨_, _, T, rfl, o7, AllI.append (allI_one (by omega) (by omega) (by omega) (by omega)) HA.out, by simp, by simp; omega, t1, by omega,
            (rd_grown (B := w.heap.size) (st6.rd.below ((Below.refl w.heap.size w6).alloc hs6 _) hgl) g7 hrow hgl (by simp; omega)).more (by omega), grown_more (World.grownBy.trans st6.grown (World.grownBy_alloc w6 _ _)) g7 hrow⟩
end Go.Proofs.Ytkejbggffbkdaaa
