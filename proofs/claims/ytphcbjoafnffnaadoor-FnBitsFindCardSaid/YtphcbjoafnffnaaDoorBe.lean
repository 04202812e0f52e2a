/- What the draws of chapter 5 return: bools that a call can read, and numbers. -/
import Derived.Test.YtphcbjoafnffnaaDoorBd
import Derived.Test.YtphcbjoafnffnaaDoorRwk
namespace Go.Proofs.YtphcbjoafnffnaaDoor
open Go.RowKit

/-- bools have been drawn -/
def DrewO (w : World) (gr N : Nat) (e : Ending) (w' : World) : Prop :=
  ∃ (A : Option Addr) (n c : Nat) (xs : List Bool), e = .returned (.slice A n c) ∧ OS w' w'.heap.size A n xs ∧ (0 < n → ∃ g, A = some ⟨g, 0, none⟩ ∧ w.heap.size ≤ g) ∧ n ≤ c ∧ n ≤ 65 ∧ Rd w' gr (N + 70) ∧ w.grownBy w' (some gr)
/-- what is known while bools are drawn -/
structure DrawSO (w : World) (gr N : Nat) (wr : World) (v : Value) (xs : List Bool) : Prop where
  own : OwnO wr w.heap.size v xs
  rd : Rd wr gr N
  grown : w.grownBy wr (some gr)
theorem DrawSO.size {w wr : World} {gr N : Nat} {v : Value} {xs : List Bool} (h : DrawSO w gr N wr v xs) : w.heap.size ≤ wr.heap.size := h.grown.size
theorem DrawSO.pick {w wr w' : World} {gr N : Nat} {v : Value} {xs : List Bool} (h : DrawSO w gr N wr v xs) (hgr : gr < w.heap.size) (hr : Rd w' gr (N + 1)) (hg : wr.grownBy w' (some gr)) : DrawSO w gr (N + 1) w' v xs := by
  refine ⟨h.own.far hg ?_, hr, World.grownBy.trans h.grown hg⟩
  right
  intro e
  have := (World.ownsRow.lt h.own gr e).1
  omega
theorem DrawSO.more {w wr : World} {gr N N' : Nat} {v : Value} {xs : List Bool} (h : DrawSO w gr N wr v xs) (hN : N ≤ N') : DrawSO w gr N' wr v xs := ⟨h.own, h.rd.more hN, h.grown⟩
theorem DrawSO.next {w wr w' : World} {gr N : Nat} {v v' : Value} {xs ys : List Bool} (h : DrawSO w gr N wr v xs) (hgr : gr < w.heap.size) (ho : OwnO w' w.heap.size v' ys) (hb : Below w.heap.size wr w') : DrawSO w gr N w' v' ys :=
  ⟨ho, h.rd.below hb hgr, grown_below h.grown hb⟩
theorem OS.take {w : World} {B n : Nat} {A : Option Addr} {xs : List Bool} (h : OS w B A n xs) {k : Nat} (hk : k ≤ n) : OS w B A k (xs.take k) := by
  refine ⟨by rw [List.length_take, h.1]; omega, fun h0 => ?_⟩
  obtain ⟨g, o, e, hb, hc⟩ := h.2 (by omega)
  refine ⟨g, o, e, hb, fun j b hj => ?_⟩
  have hlt : j < k := by
    have := (List.getElem?_eq_some_iff.1 hj).1
    rw [List.length_take] at this
    omega
  rw [List.getElem?_take_of_lt hlt] at hj
  exact hc j b hj

theorem made65 (w : World) : OS (w.alloc (.cells (Array.replicate 65 (.bool false)) 4)) (w.alloc (.cells (Array.replicate 65 (.bool false)) 4)).heap.size (some ⟨w.heap.size, 0, none⟩) 65 (List.replicate 65 false) := by
  refine ⟨by simp, fun _ => ⟨w.heap.size, 0, rfl, by simp, fun k b hk => ?_⟩⟩
  have hq := (Rw.new w 4 (Array.replicate 65 (.bool false))).cell (0 + k)
  rw [hq]
  rw [List.getElem?_replicate] at hk
  split at hk
  · next h => injection hk with hk; subst hk; rw [Nat.zero_add, Array.getElem?_replicate, if_pos h]
  · cases hk

theorem made_eq : madeCells (Value.bool false).cells 65 = Array.replicate 65 (.bool false) := by kernel_rfl
theorem make65 (W : World) : (Instr.makeSlice 23 (.int .i64 65) (.int .i64 65)).run Tryd.prog W = .ok (.slice (some ⟨W.heap.size, 0, none⟩) 65 65) (W.alloc (.cells (Array.replicate 65 (.bool false)) 4)) := by
  obtain ⟨i0, hi0, hz0, hz1, hz2⟩ := info_parts info_bool
  have := run_make (P := Tryd.prog) W 23 4 i0 _ Tryd.underlying23 hi0 hz0 .i64 .i64 65 65 (by omega) (by omega) (by rw [hz2]; omega) (by omega)
  rw [hz1] at this
  rw [← made_eq]
  simpa using this

set_option maxHeartbeats 2000000 in
theorem l20Bits_any (gr N : Nat) (n : Int) (w : World) (h : Rd w gr N) (hN : N ≤ 1000000) (hn1 : 1 ≤ n) (hn : n ≤ 1000000) :
    Calls Tryd.prog 17 #[.pointer (some ⟨gr, 0, none⟩), .int .i64 n] w (DrewO w gr N) := by
  have hgl := h.lt
  have b0 : Below w.heap.size w (w.alloc (.cells #[] 4)) := (Below.refl _ _).alloc (Nat.le_refl _) _
  have st0 : DrawSO w gr N (w.alloc (.cells #[] 4)) (.slice (some ⟨w.heap.size, 0, none⟩) 0 0) [] := ⟨own_noneO w w.heap.size (Nat.le_refl _), h.below b0 hgl, World.grownBy_alloc _ _ _⟩
  clear b0
  go_enter Tryd.func17, Tryd.ntmps17
  go_wp2_with fail
  refine (pick_any _ _ _ _ st0.rd (by omega) (by omega)).mono ?_
  rintro e w1 ⟨r1, rfl, a1, c1, hr1, g1⟩
  have c1' : r1 < 30 := by omega
  have st1 := (st0.pick hgl hr1 g1).more (N' := N + 65 - 2 * r1.toNat) (by omega)
  clear st0 hr1 g1 c1
  obtain ⟨q, rfl⟩ := Int.eq_ofNat_of_zero_le a1
  simp only [Int.toNat_natCast] at st1
  clear a1
  go_wp2_with fail
  go_loopw [5, 6] (fun v i wr => ∃ (k : Nat) (xs : List Bool), k < 30 ∧ i = .int .i64 k ∧ xs.length ≤ 4 * (30 - k) ∧ DrawSO w gr (N + 65 - 2 * k) wr v xs) (fun _ i _ => (intOf i).toNat)
  case atStart => exact ⟨q, _, by omega, rfl, by simp, st1⟩
  case round =>
    clear st1
    obtain ⟨k, xs, hk, rfl, hxl, st⟩ := hrel
    by_cases hk0 : 0 < k
    · have hk0' : (0 : Int) < k := by omega
      go_wp2_with fail
      refine (pick_any _ _ _ _ st.rd (by omega) (by omega)).mono ?_
      rintro e w2 ⟨r2, rfl, a2, _, hr2, g2⟩
      have st2 := st.pick hgl hr2 g2
      obtain ⟨b, hb⟩ : ∃ b, (r2 == 0) = b := ⟨_, rfl⟩
      clear st hr2 g2
      go_wp2_with fail
      refine (pick_any _ _ _ _ st2.rd (by omega) (by omega)).mono ?_
      rintro e w3 ⟨r3, rfl, a3, c3, hr3, g3⟩
      have c3' : r3 < 4 := by omega
      have st3 := (st2.pick hgl hr3 g3).more (N' := N + 65 - 2 * (k - 1)) (by omega)
      clear st2 hr3 g3 c3
      go_wp2_with fail
      go_loopw [5, 8] (fun v i wr2 => ∃ (j : Int) (ys : List Bool), -1 ≤ j ∧ j < 4 ∧ i = .int .i64 j ∧ (ys.length : Int) + j + 1 ≤ 4 * (30 - (k - 1 : Nat)) ∧ DrawSO w gr (N + 65 - 2 * (k - 1)) wr2 v ys) (fun _ i _ => (intOf i + 1).toNat)
      case atStart => exact ⟨r3, xs, by omega, c3', rfl, by omega, st3⟩
      case round =>
        clear st3
        obtain ⟨j, ys, hj1, hj2, rfl, hyl, st4⟩ := hrel
        by_cases hj : 0 ≤ j
        · have hs4 := st4.size
          have ow := World.ownsRow.alloc st4.own (.cells #[.bool b] 4)
          have rr : OS (wr.alloc (.cells #[.bool b] 4)) (wr.alloc (.cells #[.bool b] 4)).heap.size (some ⟨wr.heap.size, 0, none⟩) 1 [b] := (own_oneO wr b 0 (Nat.zero_le _)).reads
          have hyn : ys.length + 1 ≤ 1099511627776 := by omega
          go_wp2_with (at_builtin; refine wpList_appendO rfl (.tmp 25) (.tmp 27) rfl w.heap.size _ ys rfl ow (some ⟨wr.heap.size, 0, none⟩) 1 1 _ [b] rfl rr hyn (by simp; omega) ?_; intro v5 w5 o5 g5 s5)
          have bn : Below w.heap.size wr w5 := ((Below.refl w.heap.size wr).alloc hs4 _).grown g5 (by simp; omega) (fun k hk => (World.ownsRow.lt st4.own k hk).1)
          have st5 := st4.next hgl o5 bn
          clear ow rr g5 s5 o5 bn st4
          go_roundw
          case rel => exact ⟨j - 1, ys ++ [b], by omega, by omega, rfl, by simp; omega, st5⟩
          case measure => simp [intOf]; omega
        · obtain rfl : j = -1 := by omega
          go_wp2_with fail
          go_roundw
          case rel => exact ⟨k - 1, ys, by omega, int_eq (by omega), by omega, st4⟩
          case measure => simp [intOf]; omega
    · obtain rfl : k = 0 := by omega
      obtain ⟨A5, c5, rfl, f5⟩ := st.own.form
      have hcap := st.own.cap.2
      have hxl2 : xs.length ≤ 120 := by omega
      have HB := Lib.hid (fun hh : 0 < xs.length => show ∃ g, A5 = some ⟨g, 0, none⟩ ∧ w.heap.size ≤ g by
        obtain ⟨g, e1, e2, _⟩ := f5 hh
        exact ⟨g, e1, e2⟩)
      clear f5
      rcases Nat.lt_trichotomy xs.length 64 with h64 | h64 | h64
      · have t1 : (xs.length : Int) < 64 := by omega
        have t3 : ¬ ((64 : Int) < xs.length) := by omega
        have t2 : (xs.length : Int) ≤ c5 := by omega
        go_wp2_with fail
        refine (odd_any _ _ _ _ st.rd (by omega) hn1 (by omega)).mono ?_
        rintro e w6 ⟨b, rfl, hr6, g6⟩
        have st6 := st.pick hgl hr6 g6
        clear st hr6 g6
        cases b
        · go_wp2_with fail
          go_ret
          exact ⟨_, _, _, _, rfl, st6.own.reads, HB.out, by omega, by omega, st6.rd.more (by omega), st6.grown⟩
        · have hl6 := st6.rd.lt
          have hmk := make65
          go_wp2_with fail
          go_ret
          exact ⟨_, _, _, List.replicate 65 false, rfl, made65 w6, (fun _ => ⟨_, rfl, st6.size⟩), by omega, by omega, (st6.rd.below ((Below.refl w6.heap.size w6).alloc (Nat.le_refl _) _) hl6).more (by omega), World.grownBy.trans st6.grown (World.grownBy_alloc _ _ _)⟩
      · have hcap' : (64 : Int) ≤ c5 := by omega
        rw [h64]
        go_wp2_with fail
        refine (odd_any _ _ _ _ st.rd (by omega) hn1 (by omega)).mono ?_
        rintro e w6 ⟨b, rfl, hr6, g6⟩
        have st6 := st.pick hgl hr6 g6
        clear st hr6 g6
        cases b
        · go_wp2_with fail
          go_ret
          exact ⟨_, _, _, _, rfl, (by have := st6.own.reads; rw [h64] at this; exact this), (fun _ => HB.out (by omega)), by omega, by omega, st6.rd.more (by omega), st6.grown⟩
        · have hl6 := st6.rd.lt
          have hmk := make65
          go_wp2_with fail
          go_ret
          exact ⟨_, _, _, List.replicate 65 false, rfl, made65 w6, (fun _ => ⟨_, rfl, st6.size⟩), by omega, by omega, (st6.rd.below ((Below.refl w6.heap.size w6).alloc (Nat.le_refl _) _) hl6).more (by omega), World.grownBy.trans st6.grown (World.grownBy_alloc _ _ _)⟩
      · have t1 : (64 : Int) < xs.length := by omega
        have t2 : (64 : Int) ≤ c5 := by omega
        go_wp2_with fail
        refine (odd_any _ _ _ _ st.rd (by omega) hn1 (by omega)).mono ?_
        rintro e w6 ⟨b, rfl, hr6, g6⟩
        have st6 := st.pick hgl hr6 g6
        clear st hr6 g6
        cases b
        · go_wp2_with fail
          go_ret
          exact ⟨_, _, _, _, rfl, (st6.own.reads.take (k := 64) (by omega)), (fun _ => HB.out (by omega)), by omega, by omega, st6.rd.more (by omega), st6.grown⟩
        · have hl6 := st6.rd.lt
          have hmk := make65
          go_wp2_with fail
          go_ret
          exact ⟨_, _, _, List.replicate 65 false, rfl, made65 w6, (fun _ => ⟨_, rfl, st6.size⟩), by omega, by omega, (st6.rd.below ((Below.refl w6.heap.size w6).alloc (Nat.le_refl _) _) hl6).more (by omega), World.grownBy.trans st6.grown (World.grownBy_alloc _ _ _)⟩

set_option maxHeartbeats 2000000 in
theorem l20Many_any (gr N : Nat) (w : World) (h : Rd w gr N) (hN : N ≤ 1000000) :
    Calls Tryd.prog 18 #[.pointer (some ⟨gr, 0, none⟩)] w fun e w' => ∃ q : Int, e = .returned (.int .i64 q) ∧ 0 ≤ q ∧ q ≤ 65 ∧ Rd w' gr (N + 2) ∧ w.grownBy w' (some gr) := by
  have hgl := h.lt
  go_enter Tryd.func18, Tryd.ntmps18
  go_wp2_with fail
  refine (pick_any _ _ _ _ h (by omega) (by omega)).mono ?_
  rintro e w2 ⟨r2, rfl, a2, b2, hr2, g2⟩
  have c2 : r2 < 6 := by omega
  clear b2
  have ta2 := (Rw.new w2 3 #[.int .i64 (1 + r2), .int .i64 0, .int .i64 64, .int .i64 65]).alloc (.cells #[.int .i64 0, .int .i64 0, .int .i64 0, .int .i64 0, .int .i64 0, .int .i64 1, .int .i64 2, .int .i64 3] 3)
  have tb2 : Rw ((w2.alloc (.cells #[.int .i64 (1 + r2), .int .i64 0, .int .i64 64, .int .i64 65] 3)).alloc (.cells #[.int .i64 0, .int .i64 0, .int .i64 0, .int .i64 0, .int .i64 0, .int .i64 1, .int .i64 2, .int .i64 3] 3)) (w2.heap.size + 1) 3 #[.int .i64 0, .int .i64 0, .int .i64 0, .int .i64 0, .int .i64 0, .int .i64 1, .int .i64 2, .int .i64 3] := by
    have := Rw.new (w2.alloc (.cells #[.int .i64 (1 + r2), .int .i64 0, .int .i64 64, .int .i64 65] 3)) 3 #[.int .i64 0, .int .i64 0, .int .i64 0, .int .i64 0, .int .i64 0, .int .i64 1, .int .i64 2, .int .i64 3]
    simpa using this
  have bW : Below w2.heap.size w2 ((w2.alloc (.cells #[.int .i64 (1 + r2), .int .i64 0, .int .i64 64, .int .i64 65] 3)).alloc (.cells #[.int .i64 0, .int .i64 0, .int .i64 0, .int .i64 0, .int .i64 0, .int .i64 1, .int .i64 2, .int .i64 3] 3)) := ((Below.refl _ _).alloc (Nat.le_refl _) _).alloc (by simp) _
  have rd2 := hr2.below bW hr2.lt
  have gw2 := grown_below g2 (bW.mono g2.size)
  have hl2 := hr2.lt
  have hs2 := g2.size
  clear bW hr2 g2
  go_wp2_with fail
  refine (pick_any _ _ _ _ rd2 (by omega) (by omega)).mono ?_
  rintro e w3 ⟨r3, rfl, a3, b3, hr3, g3⟩
  have c3 : r3 < 8 := by omega
  have ta := ta2.far g3 (by simp; omega)
  have tb := tb2.far g3 (by simp; omega)
  have gw3 := World.grownBy.trans gw2 g3
  clear b3 g3 ta2 tb2 gw2 rd2
  have tbl : ∃ (R j : Nat) (U : Int), r3 = R ∧ R < 8 ∧ j < 4 ∧ w3.cell? ⟨w2.heap.size + 1, R, none⟩ = some (.int .i64 j) ∧ w3.cell? ⟨w2.heap.size, j, none⟩ = some (.int .i64 U) ∧ 0 ≤ U ∧ U ≤ 65 := by
    obtain rfl | rfl | rfl | rfl | rfl | rfl | rfl | rfl : r3 = 0 ∨ r3 = 1 ∨ r3 = 2 ∨ r3 = 3 ∨ r3 = 4 ∨ r3 = 5 ∨ r3 = 6 ∨ r3 = 7 := by omega
    · exact ⟨0, 0, 1 + r2, rfl, by omega, by omega, tb.cell 0, ta.cell 0, by omega, by omega⟩
    · exact ⟨1, 0, 1 + r2, rfl, by omega, by omega, tb.cell 1, ta.cell 0, by omega, by omega⟩
    · exact ⟨2, 0, 1 + r2, rfl, by omega, by omega, tb.cell 2, ta.cell 0, by omega, by omega⟩
    · exact ⟨3, 0, 1 + r2, rfl, by omega, by omega, tb.cell 3, ta.cell 0, by omega, by omega⟩
    · exact ⟨4, 0, 1 + r2, rfl, by omega, by omega, tb.cell 4, ta.cell 0, by omega, by omega⟩
    · exact ⟨5, 1, 0, rfl, by omega, by omega, tb.cell 5, ta.cell 1, by omega, by omega⟩
    · exact ⟨6, 2, 64, rfl, by omega, by omega, tb.cell 6, ta.cell 2, by omega, by omega⟩
    · exact ⟨7, 3, 65, rfl, by omega, by omega, tb.cell 7, ta.cell 3, by omega, by omega⟩
  obtain ⟨R, j, U, rfl, hR, hj, hy, hx, hU0, hU1⟩ := tbl
  have hR' : (R : Int) < 8 := by omega
  have hj' : (j : Int) < 4 := by omega
  clear ta tb a3 c3
  go_wp2_with fail
  go_ret
  exact ⟨U, rfl, hU0, hU1, hr3, gw3⟩

theorem Bm.findW_bd (xs : List Bool) (m : Int) (h : xs.length ≤ 65) : -1 ≤ Bm.findW xs m ∧ Bm.findW xs m ≤ 65 := by
  unfold Bm.findW
  split
  · cases hf : Bm.findN xs m.toNat with
    | none => simp
    | some k =>
      have := (Bm.find_some hf).1
      simp only
      omega
  · omega

/-- bools, a word and a number have been drawn -/
def DrewOR (w : World) (gr N : Nat) (e : Ending) (w' : World) : Prop :=
  ∃ (A : Option Addr) (n c : Nat) (xs : List Bool) (s m : Int), e = .returned (.tuple #[.slice A n c, .int .i64 s, .int .i64 m]) ∧ OS w' w'.heap.size A n xs ∧ (0 < n → ∃ g, A = some ⟨g, 0, none⟩ ∧ w.heap.size ≤ g) ∧ n ≤ c ∧ n ≤ 65 ∧ -1 ≤ s ∧ s ≤ 70 ∧ 0 ≤ m ∧ m ≤ 65 ∧ Rd w' gr (N + 80) ∧ w.grownBy w' (some gr)
/-- what is read stays when the reader goes on -/
theorem OS.far {w w' : World} {gr base n : Nat} {A : Option Addr} {xs : List Bool} (h : OS w w.heap.size A n xs) (hA : 0 < n → ∃ g, A = some ⟨g, 0, none⟩ ∧ base ≤ g) (hgr : gr < base) (hg : w.grownBy w' (some gr)) : OS w' w'.heap.size A n xs := by
  refine ⟨h.1, fun hn => ?_⟩
  obtain ⟨g, o, e, hb, hc⟩ := h.2 hn
  obtain ⟨g', e', hb'⟩ := hA hn
  rw [e] at e'
  injection e' with e'
  injection e' with e1 e2
  exact ⟨g, o, e, Nat.lt_of_lt_of_le hb hg.size, fun k b hk => (World.cell?_of_block (w := w) (hg.block g hb (by intro h2; injection h2 with h2; omega))).trans (hc k b hk)⟩

/-- bools (and numbers) have been drawn for a law -/
def DrawnO (w : World) (e : Ending) (w' : World) : Prop :=
  ∃ (A : Option Addr) (n c : Nat) (xs : List Bool), e = .returned (.slice A n c) ∧ OS w' w'.heap.size A n xs ∧ n ≤ c ∧ n ≤ 65 ∧ Below w.heap.size w w'
def DrawnOM (w : World) (e : Ending) (w' : World) : Prop :=
  ∃ (A : Option Addr) (n c : Nat) (xs : List Bool) (m : Int), e = .returned (.tuple #[.slice A n c, .int .i64 m]) ∧ OS w' w'.heap.size A n xs ∧ n ≤ c ∧ n ≤ 65 ∧ 0 ≤ m ∧ m ≤ 65 ∧ Below w.heap.size w w'
def DrawnOR (w : World) (e : Ending) (w' : World) : Prop :=
  ∃ (A : Option Addr) (n c : Nat) (xs : List Bool) (s m : Int), e = .returned (.tuple #[.slice A n c, .int .i64 s, .int .i64 m]) ∧ OS w' w'.heap.size A n xs ∧ n ≤ c ∧ n ≤ 65 ∧ -1 ≤ s ∧ s ≤ 70 ∧ 0 ≤ m ∧ m ≤ 65 ∧ Below w.heap.size w w'

theorem drawBitsLongest_any (A : Option Addr) (n c : Nat) (w : World) (h : Bytes w w.heap.size A n) (hc : n ≤ c) (hn : n ≤ 9223372036854775807) :
    Calls Tryd.prog 12 #[.slice A n c] w (DrawnO w) := by
  go_enter Tryd.func12, Tryd.ntmps12
  go_wp2_with fail
  refine (open_any _ _ _ _ h hc hn).mono ?_
  rintro e w1 ⟨rfl, hr1, b1⟩
  go_wp2_with fail
  refine (l20Bits_any _ _ _ _ hr1 (by omega) (by omega) (by omega)).mono ?_
  rintro e w2 ⟨A2, n2, c2, xs, rfl, os, _, hnc, hn65, _, g2⟩
  go_wp2_with fail
  go_ret
  exact ⟨A2, n2, c2, xs, rfl, os, hnc, hn65, b1.grown g2 b1.size (fun k hk => by injection hk; omega)⟩
theorem drawBitsFind_any (A : Option Addr) (n c : Nat) (w : World) (h : Bytes w w.heap.size A n) (hc : n ≤ c) (hn : n ≤ 9223372036854775807) :
    Calls Tryd.prog 6 #[.slice A n c] w (DrawnOM w) := by
  go_enter Tryd.func6, Tryd.ntmps6
  go_wp2_with fail
  refine (open_any _ _ _ _ h hc hn).mono ?_
  rintro e w1 ⟨rfl, hr1, b1⟩
  have hgl := hr1.lt
  go_wp2_with fail
  refine (l20Bits_any _ _ _ _ hr1 (by omega) (by omega) (by omega)).mono ?_
  rintro e w2 ⟨A2, n2, c2, xs, rfl, os, hA, hnc, hn65, hr2, g2⟩
  have HA := Lib.hid hA
  clear hA
  go_wp2_with fail
  refine (l20Many_any _ _ _ hr2 (by omega)).mono ?_
  rintro e w3 ⟨m, rfl, m0, m1, hr3, g3⟩
  have os3 := os.far HA.out hgl g3
  have b2 : Below w.heap.size w w2 := b1.grown g2 b1.size (fun k hk => by injection hk; omega)
  have b3 : Below w.heap.size w w3 := b2.grown g3 b2.size (fun k hk => by injection hk; omega)
  clear os
  go_wp2_with fail
  go_ret2
  exact ⟨A2, n2, c2, xs, m, rfl, os3, hnc, hn65, m0, m1, b3⟩
theorem Bm.chg_len (xs : List Bool) (s m : Int) (b : Bool) : (Bm.chgW xs s m b).length ≤ xs.length := by
  rcases Bm.chg_cases xs s m b with ⟨_, h | h⟩ | ⟨_, _, S, M, _, _, _, _, h2, _, h⟩
  · rw [h]; simp
  · rw [h]; exact Nat.le_refl _
  · rw [h, Bm.setR_len b h2]; exact Nat.le_refl _
end Go.Proofs.YtphcbjoafnffnaaDoor
