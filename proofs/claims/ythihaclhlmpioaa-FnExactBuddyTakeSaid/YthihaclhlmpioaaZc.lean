/- What slices.Clone, slices.Grow and slices.Concat at buddies return: for every slice of buddies. -/
import Derived.Test.YthihaclhlmpioaaZb
import Derived.Test.YthihaclhlmpioaaWp
import Derived.Lib.SliceRun
import Derived.Lib.AppendZerosOnto
namespace Go.Proofs.Ythihaclhlmpioaa
open Go.RowKit

theorem cloneY_any (A : Option Addr) (n c : Nat) (xs : List Bl) (w : World) (h : BS w w.heap.size A n xs) (hn : n ≤ 1099511627776) :
    Calls Try.prog 47 #[.slice A n c] w (GaveY w xs) := by
  have q : ∀ (w : World) (a : Option Addr) (n c n' c' : Nat), (binOp .eql 27 (.slice a n c) (.slice none n' c')).run Try.prog w = .ok (.bool a.isNone) w := fun w a n c n' c' => Lib.run_eql_slice_nil w _ _ a n c n' c' Try.underlying27
  cases A with
  | none =>
    have h0 : n = 0 := by
      rcases Nat.eq_zero_or_pos n with h0 | h0
      · exact h0
      · obtain ⟨g, o, e, _⟩ := h.2.2 h0
        cases e
    have : xs = [] := List.eq_nil_of_length_eq_zero (h.1.trans h0)
    subst this h0
    go_enter Try.func47, Try.ntmps47
    go_wp2
    go_ret
    exact ⟨_, rfl, World.ownsRow_nil _ _ _ _, Below.refl _ _⟩
  | some a =>
    have o0 := own_noneY w w.heap.size (Nat.le_refl _)
    have bl0 : Below w.heap.size w (w.alloc (.cells #[] 40)) := (Below.refl _ _).alloc (Nat.le_refl _) _
    have r0 := h.below bl0
    go_enter Try.func47, Try.ntmps47
    go_wp2_with (at_builtin; refine wpList_appendY rfl (.tmp 5) (.tmp 6) rfl w.heap.size _ [] rfl o0 (some a) n c w.heap.size xs rfl r0 (by simp <;> omega) (by simp) ?_; intro v1 w1 o1 g1 s1)
    go_ret
    exact ⟨_, rfl, OwnY.cast (by simp) o1, bl0.grown g1 (by simp) (fun k hk => (World.ownsRow.lt o0 k hk).1)⟩

theorem grown_rowY (w : World) (n G : Nat) (h : n ≤ G) (hG : G ≤ maxLen) :
    OwnY (w.alloc (.cells (Builtin.zeroCells #[.int .i64 0, .int .i64 0, .bool false] n ++ Builtin.zeroCells #[.int .i64 0, .int .i64 0, .bool false] (G - n)) 40)).drew w.heap.size (.slice (some ⟨w.heap.size, 0, none⟩) 0 G) [] := by
  refine ⟨by simp [flat], .inr ⟨w.heap.size, G, Builtin.zeroCells #[.int .i64 0, .int .i64 0, .bool false] n ++ Builtin.zeroCells #[.int .i64 0, .int .i64 0, .bool false] (G - n), rfl, Nat.le_refl _, ?_, by simp, hG, ?_, by simp [flat]⟩⟩
  · show (w.heap.push _)[w.heap.size]? = _
    simp
  · simp [Builtin.zeroCells]
    omega

set_option maxHeartbeats 2000000 in
theorem grow_nilY (n : Nat) (w : World) (hn : n ≤ 1099511627776) :
    Calls Try.prog 63 #[.slice none 0 0, .int .i64 n] w (GaveY w []) := by
  rcases Nat.eq_zero_or_pos n with h0 | h0
  · subst h0
    go_enter Try.func63, Try.ntmps63
    go_wp2
    go_ret
    exact ⟨_, rfl, World.ownsRow_nil _ _ _ _, Below.refl _ _⟩
  · obtain ⟨i0, hi0, hz0, hz1, hz2⟩ := info_parts info_buddy
    have hrz : ∀ ty, (Builtin.append_ #[27, 3] ty #[.slice none 0 0, .int .i64 n]).run Try.prog w =
        .ok (.slice (some ⟨w.heap.size, 0, none⟩) n (grownCap w n 0 40)) (w.drew.alloc (.cells (#[] ++ Builtin.zeroCells (Value.agg #[.int .i64 0, .int .i64 0, .bool false]).cells n ++ Builtin.zeroCells (Value.agg #[.int .i64 0, .int .i64 0, .bool false]).cells (grownCap w n 0 40 - n)) 40)) := fun ty => by
      have hx := Lib.run_append_grow_zeros w 27 3 ty 40 i0 _ .i64 .i64 Try.underlying27 Try.underlying3 hi0 hz0 none 0 0 [] (run_firstCells_none w.drew i0.size 0 0 0) n h0 (by omega) (by omega) (by omega) (by rw [hz2]; omega)
        (by rw [Nat.zero_add]; exact growslice_fits h0 (by rw [hz2]; omega))
      simpa using hx
    have hGn : n ≤ grownCap w n 0 40 := grownCap_ge w _ _ _
    have hG63 := grownCap_le_maxLen w n 0 40 (by unfold maxLen; omega)
    generalize grownCap w n 0 40 = G at hrz hGn hG63
    have HG := Lib.hid hG63
    unfold maxLen at hG63
    have hnn : ¬ ((n : Int) < 0) := by omega
    have hpos : (n : Int) > 0 := by omega
    clear hi0 hz0 hz1 hz2
    go_enter Try.func63, Try.ntmps63
    go_wp2_with (at_builtin; refine Lib.wpList_append_run _ rfl _ _ _ _ rfl _ _ rfl rfl _ _ (hrz _) ?_)
    go_ret
    exact ⟨_, rfl, grown_rowY w n G hGn HG.out, ((Below.refl w.heap.size w).alloc (Nat.le_refl _) _).drew⟩

set_option maxHeartbeats 2000000 in
theorem concatY_any (g m c : Nat) (ps : List Part) (w : World) (hm : ps.length = m) (h : Parts w w.heap.size g ps) (hg : g < w.heap.size) (hbig : (catP ps).length ≤ 1099511627776) (hmm : m ≤ 1048576) :
    Calls Try.prog 52 #[.slice (some ⟨g, 0, none⟩) m c] w (GaveY w (catP ps)) := by
  have HP := Lib.hid h
  have HM := Lib.hid hm
  have HB := Lib.hid hbig
  clear h hm hbig
  go_enter Try.func52, Try.ntmps52
  go_wp2
  go_loop [3, 11] (fun a i => ∃ k : Nat, k ≤ m ∧ i = .int .i64 k ∧ a = .int .i64 ((catP (ps.take k)).length : Nat)) (fun _ i => m - (intOf i).toNat)
  case atStart => exact ⟨0, Nat.zero_le _, rfl, rfl⟩
  case round =>
    obtain ⟨k, hk, rfl, rfl⟩ := hrel
    have hle := catP_le ps k
    have hb := HB.out
    by_cases hlt : k < m
    · obtain ⟨p, hp, hc, hbs⟩ := HP.out.at_ (k := k) (by rw [HM.out]; exact hlt)
      have hn := hbs.1
      have hs := catP_succ hp
      have hle2 := catP_le ps (k + 1)
      have HS := Lib.hid (show (catP (ps.take (k + 1))).length = (catP (ps.take k)).length + p.n by rw [hs, List.length_append, hn])
      have hpn : (catP (ps.take k)).length + p.n ≤ 1099511627776 := by have := HS.out; omega
      clear hs hle2 hn hp hbs hle hb
      generalize (catP (ps.take k)).length = L at *
      go_wp2
      go_round
      case rel => exact ⟨k + 1, by omega, by go_num, by rw [HS.out]; go_num⟩
      case measure => simp [intOf]; omega
    · have hkm : k = m := by omega
      have HK := Lib.hid hkm
      clear hkm
      have hL : (catP (ps.take k)).length ≤ 1099511627776 := by omega
      clear hle hb
      generalize (catP (ps.take k)).length = L at hL
      go_wp2_with fail
      refine (grow_nilY L _ hL).mono ?_
      rintro e w1 ⟨v1, rfl, o1, b1⟩
      go_wp2_with fail
      go_loopw [6, 27] (fun v i wr => ∃ k : Nat, k ≤ m ∧ i = .int .i64 k ∧ OwnY wr w.heap.size v (catP (ps.take k)) ∧ Below w.heap.size w wr) (fun _ i _ => m - (intOf i).toNat)
      case atStart => exact ⟨0, Nat.zero_le _, rfl, o1, b1⟩
      case round =>
        obtain ⟨j, hj, rfl, hown, hb⟩ := hrel
        by_cases hlt2 : j < m
        · obtain ⟨p, hp, hc, hbs⟩ := HP.out.at_ (k := j) (by rw [HM.out]; exact hlt2)
          have hc' := (hb.cell (p := ⟨g, j, none⟩) hg).trans hc
          have hbs' := hbs.below hb
          have hs := catP_succ hp
          have hle2 := catP_le ps (j + 1)
          have HS := Lib.hid hs
          have hn := hbs.1
          have hpn : (catP (ps.take j)).length + p.n ≤ 1099511627776 := by rw [hs, List.length_append, hn] at hle2; have := HB.out; omega
          clear hs hle2 hn hp hbs hc
          go_wp2_with (at_builtin; refine wpList_appendY rfl (.tmp 31) (.tmp 32) rfl w.heap.size _ _ rfl hown p.a p.n p.c w.heap.size p.xs rfl hbs' hpn hb.size ?_; intro v2 w2 o2 g2 s2)
          go_roundw
          case rel => exact ⟨j + 1, by omega, by go_num, OwnY.cast HS.out.symm o2, hb.grown g2 hb.size (fun k hk => (World.ownsRow.lt hown k hk).1)⟩
          case measure => simp [intOf]; omega
        · go_wp2
          go_ret
          refine ⟨_, rfl, OwnY.cast ?_ hown, hb⟩
          rw [List.take_of_length_le (by rw [HM.out]; omega)]
/-- slices.Concat at three slices -/
theorem concat3Y (W : World) (t : TypeId) (A0 A1 A2 : Option Addr) (n0 n1 n2 c0 c1 c2 : Nat) (X0 X1 X2 : List Bl) (h0 : BS W W.heap.size A0 n0 X0) (h1 : BS W W.heap.size A1 n1 X1) (h2 : BS W W.heap.size A2 n2 X2) (hb : n0 + n1 + n2 ≤ 1099511627776) :
    Calls Try.prog 52 #[.slice (some ⟨W.heap.size, 0, none⟩) 3 3] (W.alloc (.cells #[.slice A0 n0 c0, .slice A1 n1 c1, .slice A2 n2 c2] t)) (GaveY W (X0 ++ X1 ++ X2)) := by
  refine (concatY_any _ _ _ [⟨A0, n0, c0, X0⟩, ⟨A1, n1, c1, X1⟩, ⟨A2, n2, c2, X2⟩] _ rfl (parts3 ⟨A0, n0, c0, X0⟩ ⟨A1, n1, c1, X1⟩ ⟨A2, n2, c2, X2⟩ t h0 h1 h2) (by simp) ?_ (by simp)).mono ?_
  · have e0 := h0.1
    have e1 := h1.1
    have e2 := h2.1
    simp [catP]
    omega
  · rintro e w' ⟨v, rfl, ho, hb⟩
    exact ⟨v, rfl, (OwnY.cast (by simp [catP]) ho).base (by simp), ((Below.refl W.heap.size W).alloc (Nat.le_refl _) _).trans (hb.mono (by simp))⟩
end Go.Proofs.Ythihaclhlmpioaa
