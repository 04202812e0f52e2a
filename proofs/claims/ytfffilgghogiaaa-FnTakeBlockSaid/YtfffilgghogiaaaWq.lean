/- What GiveBlock returns: for every slice of blocks and every number. -/
import Derived.Test.YtfffilgghogiaaaWp
import Derived.Test.YtfffilgghogiaaaFits5
import Derived.Deep.QuietTactic
import Derived.BigQuiet
import Derived.Deep.RegionWith
import Derived.Deep.DeepMust
namespace Go.Proofs.Ytfffilgghogiaaa
open Go.RowKit

theorem giveB_not {xs : List Bl} {num : Int} (h : isB xs num true = false) : Bks.giveB xs num = xs ∧ Bks.canGive xs num = false := by
  have hc : Bks.canGive xs num = false := by rw [canGive_isB]; exact h
  refine ⟨?_, hc⟩
  rw [Bks.giveB, hc]
  simp

theorem left_used {xs : List Bl} {k : Nat} (hk : k < xs.length) (h : isB xs ((k : Int) - 1) false = false) : k = 0 ∨ ∃ y, xs[k - 1]? = some y ∧ y.u = true := by
  rcases Nat.eq_zero_or_pos k with e | e
  · exact .inl e
  · right
    have hy : xs[k - 1]? = some (xs[k - 1]'(by omega)) := List.getElem?_eq_getElem (by omega)
    refine ⟨_, hy, ?_⟩
    rw [show (k : Int) - 1 = ((k - 1 : Nat) : Int) by omega, isB_at false hy] at h
    simpa using h
theorem right_used {xs : List Bl} {k : Nat} (h : isB xs ((k : Int) + 1) false = false) : ∀ y, xs[k + 1]? = some y → y.u = true := by
  intro y hy
  rw [show (k : Int) + 1 = ((k + 1 : Nat) : Int) by omega, isB_at false hy] at h
  simpa using h

/-- the cells of a block in a later world -/
theorem BS.later {w W : World} {g o n f : Nat} {xs : List Bl} {x : Bl} (h : BS w w.heap.size (some ⟨g, o, none⟩) n xs) (hx : xs[f]? = some x) (hb : Below w.heap.size w W) :
    W.cell? ⟨g, o + f * 3, none⟩ = some (.int .i64 x.s) ∧ W.cell? ⟨g, o + f * 3 + 1, none⟩ = some (.int .i64 x.z) := by
  have hl := h.1
  have hf := (List.getElem?_eq_some_iff.1 hx).1
  obtain ⟨g', o', e, _, hc⟩ := (h.below hb).2.2 (by omega)
  injection e with e
  injection e with e1 e2
  subst e1 e2
  exact ⟨(hc f x hx).1, (hc f x hx).2.1⟩

theorem parts_drew {w : World} {B g : Nat} {ps : List Part} (h : Parts w B g ps) : Parts w.drew B g ps := fun k p hp => ⟨(h k p hp).1, (h k p hp).2.below (Below.refl _ _).drew⟩

theorem concat_give (w3 : World) (t : TypeId) (a b : Int) (A0 A2 : Option Addr) (n0 n2 c0 c2 : Nat) (X0 X2 : List Bl) (h0 : BS w3 w3.heap.size A0 n0 X0) (h2 : BS w3 w3.heap.size A2 n2 X2) (hb : n0 + 1 + n2 ≤ 1099511627776) (q0 : 0 ≤ a) (q1 : a ≤ 256) (q2 : 0 ≤ b) (q3 : b ≤ 512) :
    Calls Try.prog 49 #[.slice (some ⟨w3.heap.size + 1, 0, none⟩) 3 3]
      ((w3.alloc (.cells #[.int .i64 a, .int .i64 b, .bool false] 34)).alloc (.cells #[.slice A0 n0 c0, .slice (some ⟨w3.heap.size, 0, none⟩) 1 1, .slice A2 n2 c2] t)).drew (GaveB w3 (X0 ++ [⟨a, b, false⟩] ++ X2)) := by
  have hw : Below w3.heap.size w3 (w3.alloc (.cells #[.int .i64 a, .int .i64 b, .bool false] 34)) := (Below.refl _ _).alloc (Nat.le_refl _) _
  have h1 := (own_one w3 a b false 0 (Nat.zero_le _)).reads (allI_one (by omega) (by omega) (by omega) (by omega))
  have hp := parts_drew (parts3 ⟨A0, n0, c0, X0⟩ ⟨_, _, 1, _⟩ ⟨A2, n2, c2, X2⟩ t (h0.up hw) h1 (h2.up hw))
  have hz : (w3.alloc (.cells #[.int .i64 a, .int .i64 b, .bool false] 34)).heap.size = w3.heap.size + 1 := by simp
  rw [hz] at hp
  refine (concat_any _ _ _ _ _ rfl hp (by simp) ?_ (by simp)).mono ?_
  · have e0 := h0.1
    have e2 := h2.1
    simp [catP]
    omega
  · rintro e w' ⟨v, rfl, ho, hb⟩
    exact ⟨v, rfl, (OwnB.cast (by simp [catP]) ho).base (by simp; omega), ((hw.alloc (by simp) _).drew).trans (hb.mono (by simp; omega))⟩


set_option maxRecDepth 100000 in
set_option maxHeartbeats 4000000 in
theorem giveNN (g o n c m : Nat) (xs : List Bl) (t : Int) (w : World) (h : BS w w.heap.size (some ⟨g, o, none⟩) n xs) (hg : g < w.heap.size) (hc : n ≤ c) (hv : Bks.validB xs t = true) (hk : m < n)
    (x : Bl) (hx : xs[m]? = some x) (hu : x.u = true) (hp : isB xs ((m : Int) - 1) false = false) (hq : isB xs ((m : Int) + 1) false = false) :
    Calls Try.prog 29 #[.slice (some ⟨g, o, none⟩) n c, .int .i64 t, .int .i64 (m : Int)] w (GaveB2 w (Bks.giveB xs (m : Int)) true) := by
  have HG := Lib.hid (Bks.give_split hv hx hu (f := m) (l := m) (xf := x) (xl := x) hx hx (.inl ⟨rfl, left_used (List.getElem?_eq_some_iff.1 hx).1 hp⟩) (.inl ⟨rfl, right_used (by simpa using hq)⟩))
  have HI0 := Lib.hid (show isB xs (m : Int) true = true by rw [isB_at true hx, hu]; rfl)
  have HI1 := Lib.hid (show isB xs ((m : Int) - 1) false = false by exact hp)
  have HI2 := Lib.hid (show isB xs ((m : Int) + 1) false = false by exact hq)
  have hl := Bks.valid_len hv
  have hlen := h.1
  have hn5 : n ≤ 256 := by omega
  obtain ⟨bf0, bf1, bf2, bf3, bf4, _, _⟩ := Bks.valid_at hv hx
  obtain ⟨bl0, bl1, bl2, bl3, bl4, _, bl6⟩ := Bks.valid_at hv hx
  have hmo := Bks.offs_mono hv (i := m) (j := m) (by omega) (by omega)
  have HV := Lib.hid hv
  have HF := Lib.hid (show xs[m]? = some x from hx)
  have HL := Lib.hid (show xs[m]? = some x from hx)
  have q0 : 0 ≤ x.s := by omega
  have q1 : x.s ≤ 256 := by omega
  have q2 : 0 ≤ x.s := by omega
  have q3 : x.s ≤ 256 := by omega
  have q4 : x.s ≤ x.s := by omega
  clear bf0 bl0 hmo hl hlen hv hx hu hp hq
  go_enter Try.func29, Try.ntmps29
  go_wp2_with fail
  refine (blocksValid_any _ _ _ xs _ _ h (by omega)).mono ?_
  rw [HV.out]
  rintro e w1 ⟨rfl, b1⟩
  have hs1 := b1.size
  have hg1 : g < w1.heap.size := by omega
  obtain ⟨d1, _⟩ := h.later HF.out b1
  obtain ⟨d2, d3⟩ := h.later HL.out b1
  go_wp2_with (first
    | (go_at_call 47; refine (blockIs_any _ _ _ xs _ _ _ (h.up b1)).mono ?_; (first | rw [HI0.out] | rw [HI1.out] | rw [HI2.out]); rintro e w' ⟨rfl, rfl⟩)
    | fail)
  have t1 : (m : Int) < n := by omega
  have t2 : (m : Int).toNat = m := by omega
  have t3 : 0 ≤ (m : Int) := by omega
  have t4 : IntKind.i64.wrap (x.s + x.z) = x.s + x.z := IntWalk.i64_in _ (by omega)
  go_quiet (fail)
  clear t1 t2 t3 t4 d1 d2 d3
  have b2 := below_drewN b1 nq
  generalize w1.drewN nq = w2 at b2
  clear b1 hs1 hg1
  have hs2 := b2.size
  have hg2 : g < w2.heap.size := by omega
  obtain ⟨d1, _⟩ := h.later HF.out b2
  have t1 : (m : Int) < n := by omega
  have t2 : (m : Int).toNat = m := by omega
  have t3 : 0 ≤ (m : Int) := by omega
  have t4 : IntKind.i64.wrap (x.s + x.z - x.s) = x.s + x.z - x.s := IntWalk.i64_in _ (by omega)
  go_wp2_with fail
  go_region
  clear t1 t2 t3 t4 d1
  obtain ⟨w3, hw3⟩ : ∃ w3, w3 = (w2.alloc (.cells #[.int .i64 x.s, .int .i64 (x.s + x.z - x.s), .bool false] 34)).drew := ⟨_, rfl⟩
  have b3 : Below w.heap.size w w3 := by rw [hw3]; exact (b2.alloc hs2 _).drew
  have j0 : w3.cell? ⟨w2.heap.size, 0, none⟩ = some (.int .i64 x.s) := by rw [hw3]; simp
  have j1 : w3.cell? ⟨w2.heap.size, 1, none⟩ = some (.int .i64 (x.s + x.z - x.s)) := by rw [hw3]; simp
  have j2 : w3.cell? ⟨w2.heap.size, 2, none⟩ = some (.bool false) := by rw [hw3]; simp
  go_wp2_with fail
  rw [← hw3]
  clear hw3
  generalize w2.heap.size = jb at *
  clear b2 hg2
  have hs3 := b3.size
  have t1 : (m : Int) ≤ n := by omega
  have t0 : (m : Int) ≤ c := by omega
  have t2 : (m : Int).toNat = m := by omega
  have t3 : 0 ≤ (m : Int) := by omega
  have t4 : IntKind.i64.wrap ((m : Int) + 1) = (m : Int) + 1 := IntWalk.i64_in _ (by omega)
  have t5 : (m : Int) + 1 ≤ n := by omega
  have t6 : (m : Int) + 1 ≤ c := by omega
  have t7 : 0 ≤ (m : Int) + 1 := by omega
  have t8 : ((m : Int) + 1).toNat = m + 1 := by omega
  by_cases hcap : c = m + 1
  · obtain rfl : n = m + 1 := by omega
    subst hcap
    have HD := Lib.hid (show xs.drop (m + 1) = [] from List.drop_eq_nil_of_le (by rw [h.1]; omega))
    have r0 := (h.up b3).take (k := m) (by omega)
    have t9 : (m : Int) ≤ (m : Int) + 1 := by omega
    go_region_with (go_at_call 49; go_must (refine (concat_give w3 _ x.s (x.s + x.z - x.s) (some ⟨g, o, none⟩) (some ⟨g, o, none⟩) m 0 _ _ (xs.take (m)) [] r0 (BS.none_ _ _ _) (by omega) q0 q1 (by omega) (by omega)).mono ?_; rintro e w4 ⟨v4, rfl, o4, b4⟩))
    all_goals
      go_wp2
      go_ret2
      exact GaveB.two ⟨o4.base hs3, b3.trans (b4.mono hs3)⟩ _ _ _ (by rw [HG.out, HD.out]; try simp) rfl
  · have r0 := (h.up b3).take (k := m) (by omega)
    have r2 := (h.up b3).drop (k := m + 1) (by omega)
    go_region_with (go_at_call 49; go_must (refine (concat_give w3 _ x.s (x.s + x.z - x.s) (some ⟨g, o, none⟩) (some ⟨g, o + (m + 1) * 3, none⟩) m _ _ _ (xs.take (m)) (xs.drop (m + 1)) r0 r2 (by omega) q0 q1 (by omega) (by omega)).mono ?_; rintro e w4 ⟨v4, rfl, o4, b4⟩))
    all_goals
      go_wp2
      go_ret2
      exact GaveB.two ⟨o4.base hs3, b3.trans (b4.mono hs3)⟩ _ _ _ (by rw [HG.out]; try simp) rfl

set_option maxRecDepth 100000 in
set_option maxHeartbeats 4000000 in
theorem giveNR (g o n c m : Nat) (xs : List Bl) (t : Int) (w : World) (h : BS w w.heap.size (some ⟨g, o, none⟩) n xs) (hg : g < w.heap.size) (hc : n ≤ c) (hv : Bks.validB xs t = true) (hk : m + 1 < n)
    (x q : Bl) (hx : xs[m]? = some x) (hu : x.u = true) (hp : isB xs ((m : Int) - 1) false = false) (hq : xs[m + 1]? = some q) (hqu : q.u = false) :
    Calls Try.prog 29 #[.slice (some ⟨g, o, none⟩) n c, .int .i64 t, .int .i64 (m : Int)] w (GaveB2 w (Bks.giveB xs (m : Int)) true) := by
  have HG := Lib.hid (Bks.give_split hv hx hu (f := m) (l := m + 1) (xf := x) (xl := q) hx hq (.inl ⟨rfl, left_used (List.getElem?_eq_some_iff.1 hx).1 hp⟩) (.inr ⟨rfl, hqu⟩))
  have HI0 := Lib.hid (show isB xs (m : Int) true = true by rw [isB_at true hx, hu]; rfl)
  have HI1 := Lib.hid (show isB xs ((m : Int) - 1) false = false by exact hp)
  have HI2 := Lib.hid (show isB xs ((m : Int) + 1) false = true by rw [show (m : Int) + 1 = ((m + 1 : Nat) : Int) by omega, isB_at false hq, hqu]; rfl)
  have hl := Bks.valid_len hv
  have hlen := h.1
  have hn5 : n ≤ 256 := by omega
  obtain ⟨bf0, bf1, bf2, bf3, bf4, _, _⟩ := Bks.valid_at hv hx
  obtain ⟨bl0, bl1, bl2, bl3, bl4, _, bl6⟩ := Bks.valid_at hv hq
  have hmo := Bks.offs_mono hv (i := m) (j := m + 1) (by omega) (by omega)
  have HV := Lib.hid hv
  have HF := Lib.hid (show xs[m]? = some x from hx)
  have HL := Lib.hid (show xs[m + 1]? = some q from hq)
  have q0 : 0 ≤ x.s := by omega
  have q1 : x.s ≤ 256 := by omega
  have q2 : 0 ≤ q.s := by omega
  have q3 : q.s ≤ 256 := by omega
  have q4 : x.s ≤ q.s := by omega
  clear bf0 bl0 hmo hl hlen hv hx hu hp hqu hq
  go_enter Try.func29, Try.ntmps29
  go_wp2_with fail
  refine (blocksValid_any _ _ _ xs _ _ h (by omega)).mono ?_
  rw [HV.out]
  rintro e w1 ⟨rfl, b1⟩
  have hs1 := b1.size
  have hg1 : g < w1.heap.size := by omega
  obtain ⟨d1, _⟩ := h.later HF.out b1
  obtain ⟨d2, d3⟩ := h.later HL.out b1
  go_wp2_with (first
    | (go_at_call 47; refine (blockIs_any _ _ _ xs _ _ _ (h.up b1)).mono ?_; (first | rw [HI0.out] | rw [HI1.out] | rw [HI2.out]); rintro e w' ⟨rfl, rfl⟩)
    | fail)
  have t1 : ((m : Int) + 1) < n := by omega
  have t2 : ((m : Int) + 1).toNat = m + 1 := by omega
  have t3 : 0 ≤ ((m : Int) + 1) := by omega
  have t4 : IntKind.i64.wrap (q.s + q.z) = q.s + q.z := IntWalk.i64_in _ (by omega)
  go_quiet (fail)
  clear t1 t2 t3 t4 d1 d2 d3
  have b2 := below_drewN b1 nq
  generalize w1.drewN nq = w2 at b2
  clear b1 hs1 hg1
  have hs2 := b2.size
  have hg2 : g < w2.heap.size := by omega
  obtain ⟨d1, _⟩ := h.later HF.out b2
  have t1 : (m : Int) < n := by omega
  have t2 : (m : Int).toNat = m := by omega
  have t3 : 0 ≤ (m : Int) := by omega
  have t4 : IntKind.i64.wrap (q.s + q.z - x.s) = q.s + q.z - x.s := IntWalk.i64_in _ (by omega)
  go_wp2_with fail
  go_region
  clear t1 t2 t3 t4 d1
  obtain ⟨w3, hw3⟩ : ∃ w3, w3 = (w2.alloc (.cells #[.int .i64 x.s, .int .i64 (q.s + q.z - x.s), .bool false] 34)).drew := ⟨_, rfl⟩
  have b3 : Below w.heap.size w w3 := by rw [hw3]; exact (b2.alloc hs2 _).drew
  have j0 : w3.cell? ⟨w2.heap.size, 0, none⟩ = some (.int .i64 x.s) := by rw [hw3]; simp
  have j1 : w3.cell? ⟨w2.heap.size, 1, none⟩ = some (.int .i64 (q.s + q.z - x.s)) := by rw [hw3]; simp
  have j2 : w3.cell? ⟨w2.heap.size, 2, none⟩ = some (.bool false) := by rw [hw3]; simp
  go_wp2_with fail
  rw [← hw3]
  clear hw3
  generalize w2.heap.size = jb at *
  clear b2 hg2
  have hs3 := b3.size
  have t1 : (m : Int) ≤ n := by omega
  have t0 : (m : Int) ≤ c := by omega
  have t2 : (m : Int).toNat = m := by omega
  have t3 : 0 ≤ (m : Int) := by omega
  have t4 : IntKind.i64.wrap (((m : Int) + 1) + 1) = ((m : Int) + 1) + 1 := IntWalk.i64_in _ (by omega)
  have t5 : ((m : Int) + 1) + 1 ≤ n := by omega
  have t6 : ((m : Int) + 1) + 1 ≤ c := by omega
  have t7 : 0 ≤ ((m : Int) + 1) + 1 := by omega
  have t8 : (((m : Int) + 1) + 1).toNat = m + 1 + 1 := by omega
  by_cases hcap : c = m + 1 + 1
  · obtain rfl : n = m + 1 + 1 := by omega
    subst hcap
    have HD := Lib.hid (show xs.drop (m + 1 + 1) = [] from List.drop_eq_nil_of_le (by rw [h.1]; omega))
    have r0 := (h.up b3).take (k := m) (by omega)
    have t9 : (m : Int) ≤ ((m : Int) + 1) + 1 := by omega
    go_region_with (go_at_call 49; go_must (refine (concat_give w3 _ x.s (q.s + q.z - x.s) (some ⟨g, o, none⟩) (some ⟨g, o, none⟩) m 0 _ _ (xs.take (m)) [] r0 (BS.none_ _ _ _) (by omega) q0 q1 (by omega) (by omega)).mono ?_; rintro e w4 ⟨v4, rfl, o4, b4⟩))
    all_goals
      go_wp2
      go_ret2
      exact GaveB.two ⟨o4.base hs3, b3.trans (b4.mono hs3)⟩ _ _ _ (by rw [HG.out, HD.out]; try simp) rfl
  · have r0 := (h.up b3).take (k := m) (by omega)
    have r2 := (h.up b3).drop (k := m + 1 + 1) (by omega)
    go_region_with (go_at_call 49; go_must (refine (concat_give w3 _ x.s (q.s + q.z - x.s) (some ⟨g, o, none⟩) (some ⟨g, o + (m + 1 + 1) * 3, none⟩) m _ _ _ (xs.take (m)) (xs.drop (m + 1 + 1)) r0 r2 (by omega) q0 q1 (by omega) (by omega)).mono ?_; rintro e w4 ⟨v4, rfl, o4, b4⟩))
    all_goals
      go_wp2
      go_ret2
      exact GaveB.two ⟨o4.base hs3, b3.trans (b4.mono hs3)⟩ _ _ _ (by rw [HG.out]; try simp) rfl

set_option maxRecDepth 100000 in
set_option maxHeartbeats 4000000 in
theorem giveLN (g o n c m : Nat) (xs : List Bl) (t : Int) (w : World) (h : BS w w.heap.size (some ⟨g, o, none⟩) n xs) (hg : g < w.heap.size) (hc : n ≤ c) (hv : Bks.validB xs t = true) (hk : m + 1 < n)
    (x p : Bl) (hx : xs[m + 1]? = some x) (hu : x.u = true) (hp : xs[m]? = some p) (hpu : p.u = false) (hq : isB xs (((m : Int) + 1) + 1) false = false) :
    Calls Try.prog 29 #[.slice (some ⟨g, o, none⟩) n c, .int .i64 t, .int .i64 ((m : Int) + 1)] w (GaveB2 w (Bks.giveB xs ((m : Int) + 1)) true) := by
  have HG := Lib.hid (Bks.give_split hv hx hu (f := m) (l := m + 1) (xf := p) (xl := x) hp hx (.inr ⟨rfl, hpu⟩) (.inl ⟨rfl, right_used (by simpa using hq)⟩))
  have HI0 := Lib.hid (show isB xs ((m : Int) + 1) true = true by rw [show (m : Int) + 1 = ((m + 1 : Nat) : Int) by omega, isB_at true hx, hu]; rfl)
  have HI1 := Lib.hid (show isB xs ((m : Int)) false = true by rw [isB_at false hp, hpu]; rfl)
  have HI2 := Lib.hid (show isB xs (((m : Int) + 1) + 1) false = false by exact hq)
  have hl := Bks.valid_len hv
  have hlen := h.1
  have hn5 : n ≤ 256 := by omega
  obtain ⟨bf0, bf1, bf2, bf3, bf4, _, _⟩ := Bks.valid_at hv hp
  obtain ⟨bl0, bl1, bl2, bl3, bl4, _, bl6⟩ := Bks.valid_at hv hx
  have hmo := Bks.offs_mono hv (i := m) (j := m + 1) (by omega) (by omega)
  have HV := Lib.hid hv
  have HF := Lib.hid (show xs[m]? = some p from hp)
  have HL := Lib.hid (show xs[m + 1]? = some x from hx)
  have q0 : 0 ≤ p.s := by omega
  have q1 : p.s ≤ 256 := by omega
  have q2 : 0 ≤ x.s := by omega
  have q3 : x.s ≤ 256 := by omega
  have q4 : p.s ≤ x.s := by omega
  clear bf0 bl0 hmo hl hlen hv hx hu hpu hp hq
  go_enter Try.func29, Try.ntmps29
  go_wp2_with fail
  refine (blocksValid_any _ _ _ xs _ _ h (by omega)).mono ?_
  rw [HV.out]
  rintro e w1 ⟨rfl, b1⟩
  have hs1 := b1.size
  have hg1 : g < w1.heap.size := by omega
  obtain ⟨d1, _⟩ := h.later HF.out b1
  obtain ⟨d2, d3⟩ := h.later HL.out b1
  go_wp2_with (first
    | (go_at_call 47; refine (blockIs_any _ _ _ xs _ _ _ (h.up b1)).mono ?_; (first | rw [HI0.out] | rw [HI1.out] | rw [HI2.out]); rintro e w' ⟨rfl, rfl⟩)
    | fail)
  have t1 : ((m : Int) + 1) < n := by omega
  have t2 : ((m : Int) + 1).toNat = m + 1 := by omega
  have t3 : 0 ≤ ((m : Int) + 1) := by omega
  have t4 : IntKind.i64.wrap (x.s + x.z) = x.s + x.z := IntWalk.i64_in _ (by omega)
  go_quiet (fail)
  clear t1 t2 t3 t4 d1 d2 d3
  have b2 := below_drewN b1 nq
  generalize w1.drewN nq = w2 at b2
  clear b1 hs1 hg1
  have hs2 := b2.size
  have hg2 : g < w2.heap.size := by omega
  obtain ⟨d1, _⟩ := h.later HF.out b2
  have t1 : (m : Int) < n := by omega
  have t2 : (m : Int).toNat = m := by omega
  have t3 : 0 ≤ (m : Int) := by omega
  have t4 : IntKind.i64.wrap (x.s + x.z - p.s) = x.s + x.z - p.s := IntWalk.i64_in _ (by omega)
  go_wp2_with fail
  go_region
  clear t1 t2 t3 t4 d1
  obtain ⟨w3, hw3⟩ : ∃ w3, w3 = (w2.alloc (.cells #[.int .i64 p.s, .int .i64 (x.s + x.z - p.s), .bool false] 34)).drew := ⟨_, rfl⟩
  have b3 : Below w.heap.size w w3 := by rw [hw3]; exact (b2.alloc hs2 _).drew
  have j0 : w3.cell? ⟨w2.heap.size, 0, none⟩ = some (.int .i64 p.s) := by rw [hw3]; simp
  have j1 : w3.cell? ⟨w2.heap.size, 1, none⟩ = some (.int .i64 (x.s + x.z - p.s)) := by rw [hw3]; simp
  have j2 : w3.cell? ⟨w2.heap.size, 2, none⟩ = some (.bool false) := by rw [hw3]; simp
  go_wp2_with fail
  rw [← hw3]
  clear hw3
  generalize w2.heap.size = jb at *
  clear b2 hg2
  have hs3 := b3.size
  have t1 : (m : Int) ≤ n := by omega
  have t0 : (m : Int) ≤ c := by omega
  have t2 : (m : Int).toNat = m := by omega
  have t3 : 0 ≤ (m : Int) := by omega
  have t4 : IntKind.i64.wrap (((m : Int) + 1) + 1) = ((m : Int) + 1) + 1 := IntWalk.i64_in _ (by omega)
  have t5 : ((m : Int) + 1) + 1 ≤ n := by omega
  have t6 : ((m : Int) + 1) + 1 ≤ c := by omega
  have t7 : 0 ≤ ((m : Int) + 1) + 1 := by omega
  have t8 : (((m : Int) + 1) + 1).toNat = m + 1 + 1 := by omega
  by_cases hcap : c = m + 1 + 1
  · obtain rfl : n = m + 1 + 1 := by omega
    subst hcap
    have HD := Lib.hid (show xs.drop (m + 1 + 1) = [] from List.drop_eq_nil_of_le (by rw [h.1]; omega))
    have r0 := (h.up b3).take (k := m) (by omega)
    have t9 : (m : Int) ≤ ((m : Int) + 1) + 1 := by omega
    go_region_with (go_at_call 49; go_must (refine (concat_give w3 _ p.s (x.s + x.z - p.s) (some ⟨g, o, none⟩) (some ⟨g, o, none⟩) m 0 _ _ (xs.take (m)) [] r0 (BS.none_ _ _ _) (by omega) q0 q1 (by omega) (by omega)).mono ?_; rintro e w4 ⟨v4, rfl, o4, b4⟩))
    all_goals
      go_wp2
      go_ret2
      exact GaveB.two ⟨o4.base hs3, b3.trans (b4.mono hs3)⟩ _ _ _ (by rw [show (m : Int) + 1 = ((m + 1 : Nat) : Int) from rfl, HG.out, HD.out]; try simp) rfl
  · have r0 := (h.up b3).take (k := m) (by omega)
    have r2 := (h.up b3).drop (k := m + 1 + 1) (by omega)
    go_region_with (go_at_call 49; go_must (refine (concat_give w3 _ p.s (x.s + x.z - p.s) (some ⟨g, o, none⟩) (some ⟨g, o + (m + 1 + 1) * 3, none⟩) m _ _ _ (xs.take (m)) (xs.drop (m + 1 + 1)) r0 r2 (by omega) q0 q1 (by omega) (by omega)).mono ?_; rintro e w4 ⟨v4, rfl, o4, b4⟩))
    all_goals
      go_wp2
      go_ret2
      exact GaveB.two ⟨o4.base hs3, b3.trans (b4.mono hs3)⟩ _ _ _ (by rw [show (m : Int) + 1 = ((m + 1 : Nat) : Int) from rfl, HG.out]; try simp) rfl

set_option maxRecDepth 100000 in
set_option maxHeartbeats 4000000 in
theorem giveLR (g o n c m : Nat) (xs : List Bl) (t : Int) (w : World) (h : BS w w.heap.size (some ⟨g, o, none⟩) n xs) (hg : g < w.heap.size) (hc : n ≤ c) (hv : Bks.validB xs t = true) (hk : m + 1 + 1 < n)
    (x p q : Bl) (hx : xs[m + 1]? = some x) (hu : x.u = true) (hp : xs[m]? = some p) (hpu : p.u = false) (hq : xs[m + 1 + 1]? = some q) (hqu : q.u = false) :
    Calls Try.prog 29 #[.slice (some ⟨g, o, none⟩) n c, .int .i64 t, .int .i64 ((m : Int) + 1)] w (GaveB2 w (Bks.giveB xs ((m : Int) + 1)) true) := by
  have HG := Lib.hid (Bks.give_split hv hx hu (f := m) (l := m + 1 + 1) (xf := p) (xl := q) hp hq (.inr ⟨rfl, hpu⟩) (.inr ⟨rfl, hqu⟩))
  have HI0 := Lib.hid (show isB xs ((m : Int) + 1) true = true by rw [show (m : Int) + 1 = ((m + 1 : Nat) : Int) by omega, isB_at true hx, hu]; rfl)
  have HI1 := Lib.hid (show isB xs ((m : Int)) false = true by rw [isB_at false hp, hpu]; rfl)
  have HI2 := Lib.hid (show isB xs (((m : Int) + 1) + 1) false = true by rw [show ((m : Int) + 1) + 1 = ((m + 1 + 1 : Nat) : Int) by omega, isB_at false hq, hqu]; rfl)
  have hl := Bks.valid_len hv
  have hlen := h.1
  have hn5 : n ≤ 256 := by omega
  obtain ⟨bf0, bf1, bf2, bf3, bf4, _, _⟩ := Bks.valid_at hv hp
  obtain ⟨bl0, bl1, bl2, bl3, bl4, _, bl6⟩ := Bks.valid_at hv hq
  have hmo := Bks.offs_mono hv (i := m) (j := m + 1 + 1) (by omega) (by omega)
  have HV := Lib.hid hv
  have HF := Lib.hid (show xs[m]? = some p from hp)
  have HL := Lib.hid (show xs[m + 1 + 1]? = some q from hq)
  have q0 : 0 ≤ p.s := by omega
  have q1 : p.s ≤ 256 := by omega
  have q2 : 0 ≤ q.s := by omega
  have q3 : q.s ≤ 256 := by omega
  have q4 : p.s ≤ q.s := by omega
  clear bf0 bl0 hmo hl hlen hv hx hu hpu hp hqu hq
  go_enter Try.func29, Try.ntmps29
  go_wp2_with fail
  refine (blocksValid_any _ _ _ xs _ _ h (by omega)).mono ?_
  rw [HV.out]
  rintro e w1 ⟨rfl, b1⟩
  have hs1 := b1.size
  have hg1 : g < w1.heap.size := by omega
  obtain ⟨d1, _⟩ := h.later HF.out b1
  obtain ⟨d2, d3⟩ := h.later HL.out b1
  go_wp2_with (first
    | (go_at_call 47; refine (blockIs_any _ _ _ xs _ _ _ (h.up b1)).mono ?_; (first | rw [HI0.out] | rw [HI1.out] | rw [HI2.out]); rintro e w' ⟨rfl, rfl⟩)
    | fail)
  have t1 : ((m : Int) + 1 + 1) < n := by omega
  have t2 : ((m : Int) + 1 + 1).toNat = m + 1 + 1 := by omega
  have t3 : 0 ≤ ((m : Int) + 1 + 1) := by omega
  have t4 : IntKind.i64.wrap (q.s + q.z) = q.s + q.z := IntWalk.i64_in _ (by omega)
  go_quiet (fail)
  clear t1 t2 t3 t4 d1 d2 d3
  have b2 := below_drewN b1 nq
  generalize w1.drewN nq = w2 at b2
  clear b1 hs1 hg1
  have hs2 := b2.size
  have hg2 : g < w2.heap.size := by omega
  obtain ⟨d1, _⟩ := h.later HF.out b2
  have t1 : (m : Int) < n := by omega
  have t2 : (m : Int).toNat = m := by omega
  have t3 : 0 ≤ (m : Int) := by omega
  have t4 : IntKind.i64.wrap (q.s + q.z - p.s) = q.s + q.z - p.s := IntWalk.i64_in _ (by omega)
  go_wp2_with fail
  go_region
  clear t1 t2 t3 t4 d1
  obtain ⟨w3, hw3⟩ : ∃ w3, w3 = (w2.alloc (.cells #[.int .i64 p.s, .int .i64 (q.s + q.z - p.s), .bool false] 34)).drew := ⟨_, rfl⟩
  have b3 : Below w.heap.size w w3 := by rw [hw3]; exact (b2.alloc hs2 _).drew
  have j0 : w3.cell? ⟨w2.heap.size, 0, none⟩ = some (.int .i64 p.s) := by rw [hw3]; simp
  have j1 : w3.cell? ⟨w2.heap.size, 1, none⟩ = some (.int .i64 (q.s + q.z - p.s)) := by rw [hw3]; simp
  have j2 : w3.cell? ⟨w2.heap.size, 2, none⟩ = some (.bool false) := by rw [hw3]; simp
  go_wp2_with fail
  rw [← hw3]
  clear hw3
  generalize w2.heap.size = jb at *
  clear b2 hg2
  have hs3 := b3.size
  have t1 : (m : Int) ≤ n := by omega
  have t0 : (m : Int) ≤ c := by omega
  have t2 : (m : Int).toNat = m := by omega
  have t3 : 0 ≤ (m : Int) := by omega
  have t4 : IntKind.i64.wrap (((m : Int) + 1 + 1) + 1) = ((m : Int) + 1 + 1) + 1 := IntWalk.i64_in _ (by omega)
  have t5 : ((m : Int) + 1 + 1) + 1 ≤ n := by omega
  have t6 : ((m : Int) + 1 + 1) + 1 ≤ c := by omega
  have t7 : 0 ≤ ((m : Int) + 1 + 1) + 1 := by omega
  have t8 : (((m : Int) + 1 + 1) + 1).toNat = m + 1 + 1 + 1 := by omega
  by_cases hcap : c = m + 1 + 1 + 1
  · obtain rfl : n = m + 1 + 1 + 1 := by omega
    subst hcap
    have HD := Lib.hid (show xs.drop (m + 1 + 1 + 1) = [] from List.drop_eq_nil_of_le (by rw [h.1]; omega))
    have r0 := (h.up b3).take (k := m) (by omega)
    have t9 : (m : Int) ≤ ((m : Int) + 1 + 1) + 1 := by omega
    go_region_with (go_at_call 49; go_must (refine (concat_give w3 _ p.s (q.s + q.z - p.s) (some ⟨g, o, none⟩) (some ⟨g, o, none⟩) m 0 _ _ (xs.take (m)) [] r0 (BS.none_ _ _ _) (by omega) q0 q1 (by omega) (by omega)).mono ?_; rintro e w4 ⟨v4, rfl, o4, b4⟩))
    all_goals
      go_wp2
      go_ret2
      exact GaveB.two ⟨o4.base hs3, b3.trans (b4.mono hs3)⟩ _ _ _ (by rw [show (m : Int) + 1 = ((m + 1 : Nat) : Int) from rfl, HG.out, HD.out]; try simp) rfl
  · have r0 := (h.up b3).take (k := m) (by omega)
    have r2 := (h.up b3).drop (k := m + 1 + 1 + 1) (by omega)
    go_region_with (go_at_call 49; go_must (refine (concat_give w3 _ p.s (q.s + q.z - p.s) (some ⟨g, o, none⟩) (some ⟨g, o + (m + 1 + 1 + 1) * 3, none⟩) m _ _ _ (xs.take (m)) (xs.drop (m + 1 + 1 + 1)) r0 r2 (by omega) q0 q1 (by omega) (by omega)).mono ?_; rintro e w4 ⟨v4, rfl, o4, b4⟩))
    all_goals
      go_wp2
      go_ret2
      exact GaveB.two ⟨o4.base hs3, b3.trans (b4.mono hs3)⟩ _ _ _ (by rw [show (m : Int) + 1 = ((m + 1 : Nat) : Int) from rfl, HG.out]; try simp) rfl

set_option maxHeartbeats 1000000 in
theorem giveBlock_any (A : Option Addr) (n c : Nat) (xs : List Bl) (t num : Int) (w : World) (h : BS w w.heap.size A n xs) (hn : n ≤ 1099511627776) (hc : n ≤ c) :
    Calls Try.prog 29 #[.slice A n c, .int .i64 t, .int .i64 num] w (GaveB2 w (if Bks.validB xs t = true then Bks.giveB xs num else []) (Bks.validB xs t && Bks.canGive xs num)) := by
  cases hv : Bks.validB xs t
  · have HV := Lib.hid hv
    clear hv
    go_enter Try.func29, Try.ntmps29
    go_wp2_with fail
    refine (blocksValid_any _ _ _ xs _ _ h hn).mono ?_
    rw [HV.out]
    rintro e w1 ⟨rfl, b1⟩
    go_wp2_with fail
    go_ret2
    exact ⟨_, rfl, World.ownsRow_nil _ _ _ _, b1⟩
  · rw [if_pos rfl, Bool.true_and]
    cases hi : isB xs num true
    · have HV := Lib.hid hv
      have HI := Lib.hid hi
      have HT := Lib.hid (giveB_not hi)
      clear hv hi
      go_enter Try.func29, Try.ntmps29
      go_wp2_with fail
      refine (blocksValid_any _ _ _ xs _ _ h hn).mono ?_
      rw [HV.out]
      rintro e w1 ⟨rfl, b1⟩
      go_wp2_with fail
      refine (blockIs_any _ _ _ xs _ _ _ (h.up b1)).mono ?_
      rw [HI.out]
      rintro e w' ⟨rfl, rfl⟩
      go_wp2_with fail
      refine (clone_any _ _ _ xs _ (h.up b1) hn).mono ?_
      rintro e w2 ⟨v2, rfl, o2, b2⟩
      go_wp2_with fail
      go_ret2
      exact GaveB.two ⟨o2.base b1.size, b1.trans (b2.mono b1.size)⟩ _ _ _ HT.out.1.symm HT.out.2.symm
    · rw [show Bks.canGive xs num = true by rw [canGive_isB]; exact hi]
      obtain ⟨k, x, rfl, hk, hx, hu⟩ := isB_yes hi
      have hlen := h.1
      obtain ⟨g, o, rfl, hg, _⟩ := h.2.2 (by omega)
      cases hL : isB xs ((k : Int) - 1) false
      · cases hR : isB xs ((k : Int) + 1) false
        · exact giveNN g o n c k xs t w h hg hc hv (by omega) x hx hu hL hR
        · obtain ⟨l, q, e, hl, hq, hqu⟩ := isB_yes hR
          obtain rfl : l = k + 1 := by omega
          exact giveNR g o n c k xs t w h hg hc hv (by omega) x q hx hu hL hq hqu
      · obtain ⟨m, p, e, hm, hp, hpu⟩ := isB_yes hL
        obtain rfl : k = m + 1 := by omega
        cases hR : isB xs (((m + 1 : Nat) : Int) + 1) false
        · exact giveLN g o n c m xs t w h hg hc hv (by omega) x p hx hu hp hpu hR
        · obtain ⟨l, q, e, hl, hq, hqu⟩ := isB_yes hR
          obtain rfl : l = m + 1 + 1 := by omega
          exact giveLR g o n c m xs t w h hg hc hv (by omega) x p q hx hu hp hpu hq hqu
end Go.Proofs.Ytfffilgghogiaaa
