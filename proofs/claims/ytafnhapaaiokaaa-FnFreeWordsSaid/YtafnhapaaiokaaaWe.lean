/- What BlockAt returns, the program's (by sort.Search) and the model's: for every slice of blocks, every total and every word. -/
import Derived.Test.YtafnhapaaiokaaaWd
import Derived.Deep.QuietTactic
import Derived.BigQuiet
import Derived.IntWalk
namespace Go.Proofs.Ytafnhapaaiokaaa
open Go.RowKit

theorem below_drewN {B : Nat} {a w : World} (h : Below B a w) (n : Nat) : Below B a (w.drewN n) := ⟨h.os, h.tape, h.output, h.size, h.block⟩

theorem later_any (g o n c k : Nat) (p q : Nat) (x : Bl) (v : Int) (w : World) (hk : k < n)
    (hp : w.cell? ⟨p, 0, none⟩ = some (.slice (some ⟨g, o, none⟩) n c)) (hq : w.cell? ⟨q, 0, none⟩ = some (.int .i64 v)) (hx : w.cell? ⟨g, o + k * 3, none⟩ = some (.int .i64 x.s)) :
    Calls Try.prog 39 #[.int .i64 k, .pointer (some ⟨p, 0, none⟩), .pointer (some ⟨q, 0, none⟩)] w fun e w' => e = .returned (.bool (decide (v < x.s))) ∧ Below w.heap.size w w' := by
  have hk' : (k : Int) < n := by omega
  go_enter Try.func39, Try.ntmps39
  go_wp2
  go_quiet (fail)
  go_wp2
  go_ret
  exact ⟨rfl, below_drewN (Below.refl _ _) _⟩

theorem search_any (g o n c : Nat) (p q : Nat) (xs : List Bl) (t v : Int) (w : World) (hn : n ≤ 1099511627776) (hv : Bks.validB xs t = true) (hbs : BS w w.heap.size (some ⟨g, o, none⟩) n xs)
    (hp : w.cell? ⟨p, 0, none⟩ = some (.slice (some ⟨g, o, none⟩) n c)) (hq : w.cell? ⟨q, 0, none⟩ = some (.int .i64 v)) (hpl : p < w.heap.size) (hql : q < w.heap.size) :
    Calls Try.prog 38 #[.int .i64 n, .func (.func 39) #[] #[.pointer (some ⟨p, 0, none⟩), .pointer (some ⟨q, 0, none⟩)]] w fun e w' => e = .returned (.int .i64 (Bks.cnt xs v)) ∧ Below w.heap.size w w' := by
  have HV := Lib.hid hv
  have HL := Lib.hid hbs.1
  clear hv
  go_enter Try.func38, Try.ntmps38
  go_wp2
  go_loopw [5, 6] (fun a b wr => ∃ i j : Nat, i ≤ j ∧ j ≤ n ∧ a = .int .i64 i ∧ b = .int .i64 j ∧ Hid (∀ (k : Nat) (x : Bl), k < i → xs[k]? = some x → x.s ≤ v) ∧ Hid (∀ (k : Nat) (x : Bl), j ≤ k → xs[k]? = some x → v < x.s) ∧ Below w.heap.size w wr) (fun a b _ => (intOf b - intOf a).toNat)
  case atStart => exact ⟨0, n, Nat.zero_le _, Nat.le_refl _, rfl, rfl, Lib.hid (fun k x h => absurd h (by omega)), Lib.hid (fun k x h hx => by have := HL.out; rw [List.getElem?_eq_none (by omega)] at hx; cases hx), Below.refl _ _⟩
  case round =>
    obtain ⟨i, j, hij, hj, rfl, rfl, hlo, hhi, hb⟩ := hrel
    by_cases hlt : i < j
    · have hdiv : ((i : Int) + j) / 2 = ((i + j) / 2 : Nat) := by omega
      have hm1 : i ≤ (i + j) / 2 := by omega
      have hm2 : (i + j) / 2 < j := by omega
      have HD := Lib.hid hdiv
      clear hdiv
      generalize (i + j) / 2 = m at HD hm1 hm2
      obtain ⟨g', o', x, e, hg, hx, ⟨i1, i2⟩, ⟨i3, i4⟩, c1, c2, c3⟩ := (hbs.below hb).at_ (k := m) (by omega)
      injection e with e
      injection e with e1 e2
      subst e1 e2
      have hx' : ∀ (k : Nat) (y : Bl), k ≤ m → xs[k]? = some y → y.s ≤ x.s := fun k y hk hy => by
        have a1 := Bks.valid_at HV.out hx
        have a2 := Bks.valid_at HV.out hy
        have := Bks.offs_mono HV.out (i := k) (j := m) hk (by rw [HL.out]; omega)
        omega
      have hx'' : ∀ (k : Nat) (y : Bl), m ≤ k → xs[k]? = some y → x.s ≤ y.s := fun k y hk hy => by
        have a1 := Bks.valid_at HV.out hx
        have a2 := Bks.valid_at HV.out hy
        have := Bks.offs_mono HV.out (i := m) (j := k) hk (by have := (List.getElem?_eq_some_iff.1 hy).1; omega)
        omega
      have HX := Lib.hid hx
      have HX1 := Lib.hid hx'
      have HX2 := Lib.hid hx''
      clear hx hx' hx''
      go_wp2_with fail
      rw [HD.out]
      refine (later_any g o n c m p q x v _ (by omega) ((hb.cell hpl).trans hp) ((hb.cell hql).trans hq) c1).mono ?_
      by_cases hvx : v < x.s
      · rw [decide_eq_true hvx]
        rintro e w1 ⟨rfl, b1⟩
        go_wp2
        go_roundw
        case rel => exact ⟨i, m, by omega, by omega, rfl, rfl, hlo, Lib.hid (fun k y hk hy => by have := HX2.out k y hk hy; omega), hb.trans (b1.mono hb.size)⟩
        case measure => simp [intOf]; omega
      · rw [decide_eq_false hvx]
        rintro e w1 ⟨rfl, b1⟩
        go_wp2
        go_roundw
        case rel => exact ⟨m + 1, j, by omega, by omega, by go_num, rfl, Lib.hid (fun k y hk hy => by have := HX1.out k y (by omega) hy; omega), hhi, hb.trans (b1.mono hb.size)⟩
        case measure => simp [intOf]; omega
    · go_wp2
      go_ret
      have hije : i = j := by omega
      refine ⟨?_, hb⟩
      have := Bks.cnt_eq xs v i (by rw [HL.out]; omega) hlo.out (fun y hy => hhi.out i y (by omega) hy)
      rw [this]
      rfl

theorem atW_not {xs : List Bl} {t v : Int} (h : ¬ (Bks.validB xs t = true ∧ 0 ≤ v ∧ v < t)) : Bks.atW xs t v = -1 := by rw [Bks.atW, if_neg h]
theorem atW_yes {xs : List Bl} {t v : Int} (h : Bks.validB xs t = true ∧ 0 ≤ v ∧ v < t) : Bks.atW xs t v = (Bks.cnt xs v : Int) - 1 := by rw [Bks.atW, if_pos h]

theorem cnt_le (xs : List Bl) (v : Int) : Bks.cnt xs v ≤ xs.length := (List.takeWhile_prefix _).length_le

set_option maxHeartbeats 1000000 in
theorem blockAt_any (A : Option Addr) (n c : Nat) (xs : List Bl) (t v : Int) (w : World) (h : BS w w.heap.size A n xs) (hn : n ≤ 1099511627776) :
    Calls Try.prog 24 #[.slice A n c, .int .i64 t, .int .i64 v] w fun e w' => e = .returned (.int .i64 (Bks.atW xs t v)) ∧ Below w.heap.size w w' := by
  have h2 : BS ((w.alloc (.cells #[.slice A n c] 23)).alloc (.cells #[.int .i64 v] 3)) (w.heap.size + 2) A n xs :=
    (h.below (((Below.refl _ _).alloc (Nat.le_refl _) _).alloc (by simp) _)).more (by omega)
  have bb0 : Below w.heap.size w ((w.alloc (.cells #[.slice A n c] 23)).alloc (.cells #[.int .i64 v] 3)) := ((Below.refl _ _).alloc (Nat.le_refl _) _).alloc (by simp) _
  have hmf : ∀ (fn : Fn) (first cap : Array Value) (w : World), (Instr.makeFunc fn first cap).run Try.prog w = .ok (.func fn first cap) w := fun _ _ _ _ => rfl
  cases hv : Bks.validB xs t
  · have HR := Lib.hid (atW_not (t := t) (v := v) (xs := xs) (fun hh => by rw [hv] at hh; cases hh.1))
    have HV := Lib.hid hv
    clear hv
    go_enter Try.func24, Try.ntmps24
    go_wp2_with fail
    refine (blocksValid_any _ _ _ xs _ _ (by simpa using h2) hn).mono ?_
    rw [HV.out]
    rintro e w1 ⟨rfl, b1⟩
    go_wp2_with fail
    go_ret
    exact ⟨by rw [HR.out]; rfl, bb0.trans (b1.mono (by simp; omega))⟩
  · by_cases hq : 0 ≤ v ∧ v < t
    · have HR := Lib.hid (atW_yes (t := t) (v := v) (xs := xs) ⟨hv, hq⟩)
      have HV := Lib.hid hv
      have hlen := Bks.valid_len hv
      have hl := h.1
      have hc := cnt_le xs v
      obtain ⟨g, o, _, rfl, _⟩ := h.at_ (k := 0) (by omega)
      obtain ⟨q1, q2⟩ := hq
      have HL := Lib.hid hlen
      have HL2 := Lib.hid hl
      have hc2 : (Bks.cnt xs v : Int) ≤ n := by omega
      clear hv hlen hl hc
      go_enter Try.func24, Try.ntmps24
      go_wp2_with fail
      refine (blocksValid_any _ _ _ xs _ _ (by simpa using h2) hn).mono ?_
      rw [HV.out]
      rintro e w1 ⟨rfl, b1⟩
      have p1 := b1.cell (p := ⟨w.heap.size, 0, none⟩) (by simp; omega)
      have p2 := b1.cell (p := ⟨w.heap.size + 1, 0, none⟩) (by simp)
      have b1s := b1.size
      simp at p1 p2 b1s
      go_wp2_with fail
      refine (search_any g o n c _ _ xs t v _ hn HV.out ((h2.below (b1.mono (by simp))).more b1s) p1 p2 (by omega) (by omega)).mono ?_
      rintro e w2 ⟨rfl, b2⟩
      go_wp2
      go_ret
      exact ⟨by rw [HR.out]; rfl, bb0.trans ((b1.mono (by simp; omega)).trans (b2.mono (by omega)))⟩
    · have HR := Lib.hid (atW_not (t := t) (v := v) (xs := xs) (fun hh => hq hh.2))
      have HV := Lib.hid hv
      have HQ := Lib.hid hq
      clear hv hq
      go_enter Try.func24, Try.ntmps24
      go_wp2_with fail
      refine (blocksValid_any _ _ _ xs _ _ (by simpa using h2) hn).mono ?_
      rw [HV.out]
      rintro e w1 ⟨rfl, b1⟩
      have p1 := b1.cell (p := ⟨w.heap.size, 0, none⟩) (by simp; omega)
      have p2 := b1.cell (p := ⟨w.heap.size + 1, 0, none⟩) (by simp)
      simp at p1 p2
      by_cases hv0 : v < 0
      · go_wp2_with fail
        go_ret
        exact ⟨by rw [HR.out]; rfl, bb0.trans (b1.mono (by simp; omega))⟩
      · have hv1 : t ≤ v := by have := HQ.out; omega
        go_wp2_with fail
        go_ret
        exact ⟨by rw [HR.out]; rfl, bb0.trans (b1.mono (by simp; omega))⟩

theorem l1In_quiet (n lo hi : Int) (w : World) (k : Nat) : Calls Try.prog 36 #[.int .i64 n, .int .i64 lo, .int .i64 hi] (w.drewN k) fun e w' => e = .returned (.bool (decide (lo ≤ n) && decide (n ≤ hi))) ∧ ∃ m, w' = w.drewN m :=
  (l1In_any n lo hi _).mono fun _ _ ⟨he, hw⟩ => ⟨he, k, hw.symm⟩

set_option maxHeartbeats 1000000 in
theorem mBlockAt_any (A : Option Addr) (n c : Nat) (xs : List Bl) (t v : Int) (w : World) (h : BS w w.heap.size A n xs) (hn : n ≤ 1099511627776) :
    Calls Try.prog 26 #[.slice A n c, .int .i64 t, .int .i64 v] w fun e w' => e = .returned (.int .i64 (Bks.atW xs t v)) ∧ Below w.heap.size w w' := by
  have hlen := h.1
  have HL := Lib.hid hlen
  cases hv : Bks.validB xs t
  · have HR := Lib.hid (atW_not (t := t) (v := v) (xs := xs) (fun hh => by rw [hv] at hh; cases hh.1))
    have HV := Lib.hid hv
    clear hv hlen
    go_enter Try.func26, Try.ntmps26
    go_wp2
    go_loopw [7] (fun i wr => i = .int .i64 0 ∧ wr = w) (fun _ _ => 0)
    case atStart => exact ⟨rfl, rfl⟩
    case round =>
      obtain ⟨rfl, rfl⟩ := hrel
      by_cases h0 : 0 < n
      · go_wp2_with fail
        refine (mBlocksValid_any _ _ _ xs _ _ h hn).mono ?_
        rw [HV.out]
        rintro e w1 ⟨rfl, b1⟩
        go_wp2_with fail
        go_ret
        exact ⟨by rw [HR.out]; rfl, b1⟩
      · go_wp2_with fail
        go_ret
        exact ⟨by rw [HR.out]; rfl, Below.refl _ _⟩
  · have HV := Lib.hid hv
    clear hv hlen
    go_enter Try.func26, Try.ntmps26
    go_wp2
    go_loopw [7] (fun i wr => ∃ k : Nat, k ≤ n ∧ i = .int .i64 k ∧ Hid (v < 0 ∨ Bks.offs xs k ≤ v) ∧ Below w.heap.size w wr) (fun i _ => n - (intOf i).toNat)
    case atStart => exact ⟨0, Nat.zero_le _, rfl, Lib.hid (by rw [Bks.offs_zero]; omega), Below.refl _ _⟩
    case round =>
      obtain ⟨k, hk, rfl, hpre, hb⟩ := hrel
      by_cases hlt : k < n
      · go_wp2_with fail
        refine (mBlocksValid_any _ _ _ xs _ _ ((h.below hb).more hb.size) hn).mono ?_
        rw [HV.out]
        rintro e w1 ⟨rfl, b1⟩
        have hb1 := hb.trans (b1.mono hb.size)
        obtain ⟨g, o, x, rfl, hg, hx, ⟨i1, i2⟩, ⟨i3, i4⟩, c1, c2, c3⟩ := (h.below hb1).at_ hlt
        obtain ⟨z0, z1, z2, z3, z4, z5, z6⟩ := Bks.valid_at HV.out hx
        have HZ := Lib.hid z0
        have HO := Lib.hid z5
        have y1 : x.s ≤ 256 := by omega
        have y0 : 0 ≤ x.s := by omega
        clear hx z0 z5
        have hlt' : (k : Int) < n := by omega
        have u1 : IntKind.i64.wrap (x.s + x.z) = x.s + x.z := IntWalk.i64_in _ (by omega)
        have u2 : IntKind.i64.wrap (x.s + x.z - 1) = x.s + x.z - 1 := IntWalk.i64_in _ (by omega)
        go_wp2_with fail
        go_quiet ((go_at_call 36; exact l1In_quiet _ _ _ _ _))
        clear u1 u2
        by_cases hin : x.s ≤ v ∧ v ≤ x.s + x.z - 1
        · have d1 : (decide (x.s ≤ v) && decide (v ≤ x.s + x.z - 1)) = true := by simpa using hin
          go_wp2
          go_ret
          refine ⟨?_, below_drewN hb1 _⟩
          have e1 := HZ.out
          have e2 := HO.out
          have hc := Bks.cnt_at (q := v) HV.out (k := k) (by rw [HL.out]; exact hlt) (by omega) (by omega)
          rw [atW_yes ⟨HV.out, by omega, by omega⟩, hc]
          exact ret_int (by simp)
        · have d1 : (decide (x.s ≤ v) && decide (v ≤ x.s + x.z - 1)) = false := by simpa using hin
          go_wp2
          go_roundw
          case rel => exact ⟨k + 1, by omega, by go_num, Lib.hid (by have e1 := HZ.out; have e2 := HO.out; have e3 := hpre.out; omega), below_drewN hb1 _⟩
          case measure => simp [intOf]; omega
      · go_wp2_with fail
        go_ret
        refine ⟨?_, hb⟩
        rw [atW_not]
        · rfl
        · rintro ⟨_, hq1, hq2⟩
          have hkn : k = n := by omega
          have hl := Bks.valid_len HV.out
          have hp := hpre.out
          rw [hkn, ← HL.out, hl.2.2.2.2] at hp
          omega
end Go.Proofs.Ytafnhapaaiokaaa
