/- What the claim DCountsComplete stands on, part 5 of 5: texts of one seat put together, with what the claim needs of them. No conditions. -/
import Derived.Test.YtiojoailjiojjaaDoorShBd
namespace Go.Proofs.YtiojoailjiojjaaDoor
open Go.RowKit
set_option maxRecDepth 100000
set_option maxHeartbeats 4000000 in
theorem runHeap_any (A : Option Addr) (n c : Nat) (l : List Cm) (w : World) (h : MS w w.heap.size A n l) (hn : n ≤ 1099511627776) (hc : n ≤ c) :
    Calls Tryd.prog 28 #[.slice A n c] w (GaveH w (Hps.runH l)) := by
  have b1 : Below w.heap.size w (w.alloc (.cells #[.slice none 0 0, .slice none 0 0] 26)) := (Below.refl _ _).alloc (Nat.le_refl _) _
  have m1 := h.up b1
  have q3 := Rw.new w 26 #[.slice none 0 0, .slice none 0 0]
  go_enter Tryd.func28, Tryd.ntmps28
  go_wp2_with fail
  refine (commandsValid_any _ _ _ l _ m1 hn hc).mono ?_
  rintro e w1 ⟨rfl, b2⟩
  replace q3 := q3.keep b2 q3.lt
  replace b1 := b1.trans (b2.mono b1.size)
  clear m1 b2
  cases hv : Hps.okCms l
  · have HF := Lib.hid (show Hps.runH l = Hps.zeroH by rw [Hps.runH, if_neg (by rw [hv]; simp)])
    have r2 : w1.frozen? ⟨w.heap.size, 0, none⟩ = false := q3.frozen 0
    have r3 : w1.frozen? ⟨w.heap.size, 1, none⟩ = false := q3.frozen 1
    have r4 : w1.cell? ⟨w.heap.size, 0, none⟩ = some (.slice none 0 0) := q3.cell 0
    have r5 : w1.cell? ⟨w.heap.size, 1, none⟩ = some (.slice none 0 0) := q3.cell 1
    have r6 : ((w1.setCell ⟨w.heap.size, 0, none⟩ (.slice none 0 0)).setCell ⟨w.heap.size, 1, none⟩ (.slice none 0 0)).cell? ⟨w.heap.size, 0, none⟩ = some (.slice none 0 0) := ((q3.put 0 (.slice none 0 0)).put 1 (.slice none 0 0)).cell 0
    have r7 : ((w1.setCell ⟨w.heap.size, 0, none⟩ (.slice none 0 0)).setCell ⟨w.heap.size, 1, none⟩ (.slice none 0 0)).cell? ⟨w.heap.size, 1, none⟩ = some (.slice none 0 0) := ((q3.put 0 (.slice none 0 0)).put 1 (.slice none 0 0)).cell 1
    have D := Lib.hid ((own_zeroH w1 w1.heap.size (Nat.le_refl _)).out q3.lt b1 (Nat.le_refl _))
    clear q3 b1 hv
    go_wp2_with fail
    exact bodyPost_ret (v := .agg #[.slice none 0 0, .slice none 0 0]) (by simp [results, Tryd.results28, go_sem, *]) rfl ⟨_, _, rfl, by rw [HF.out]; exact D.out.1, D.out.2⟩
  have HF := Lib.hid (show Hps.runH l = Hps.runFrom Hps.emptyH l by rw [Hps.runH, if_pos hv])
  have HV := Lib.hid ((Hps.okCms_iff.1 hv).1)
  clear hv
  go_wp2_with fail
  refine (emptyHeap_any _).mono ?_
  rintro e w2 ⟨vc, vr, rfl, ⟨rvs, own⟩, b2⟩
  have hsz : w.heap.size + 1 ≤ w1.heap.size := q3.lt
  replace q3 := q3.keep b2 q3.lt
  have hsz2 := b2.size
  have hq := Rw.new w2 26 #[vc, vr]
  have S0 : RunSt w (w2.alloc (.cells #[vc, vr] 26)) w2.heap.size vc vr Hps.emptyH :=
    ⟨⟨rvs, (OwnHx.base (base' := w.heap.size + 1) own hsz).below ((Below.refl w2.heap.size w2).alloc (Nat.le_refl _) _) (Nat.le_refl _), own.apart_new (Nat.le_refl _)⟩, hq, q3.alloc _, (b1.trans (b2.mono b1.size)).alloc (by omega) _, by omega⟩
  obtain ⟨Ac, cc, Rc, dc, rfl, rfl, -⟩ := own.form
  clear hq own q3 b2
  go_upto_region 4 with fail
  generalize w2.alloc (.cells #[.slice Ac Hps.emptyH.cs.length cc, .slice Rc Hps.emptyH.rt.length dc] 26) = w3 at S0 ⊢
  generalize w2.heap.size = b at S0 ⊢
  clear hsz hsz2 w2 b1 w1
  go_wp2_with fail
  go_loopw [13] (fun i wr => ∃ (k : Nat) (A1 : Option Addr) (c1 : Nat) (R1 : Option Addr) (d1 : Nat) (hh : Hp), k ≤ n ∧ i = .int .i64 k ∧ hh = Hps.runFrom Hps.emptyH (l.take k) ∧ Hps.validH hh = true ∧ hh.cs.length ≤ c1 ∧ hh.rt.length ≤ d1 ∧ RunSt w wr b (.slice A1 hh.cs.length c1) (.slice R1 hh.rt.length d1) hh) (fun i _ => n - (intOf i).toNat)
  case atStart =>
    obtain ⟨rvs0, own0, _⟩ := S0.own
    obtain ⟨A', c', R', d', e1, e2, hc', hd', _⟩ := own0.form
    injection e1 with _ _ e1
    injection e2 with _ _ e2
    subst e1 e2
    exact ⟨0, Ac, cc, Rc, dc, Hps.emptyH, by omega, rfl, by simp [Hps.runFrom], Hps.empty_valid, hc', hd', S0⟩
  case round =>
    clear S0
    obtain ⟨k, A1, c1, R1, d1, hh, hk, rfl, hhe, hhv, hc1, hd1, S⟩ := hrel
    have hlo := S.lo
    have hml := h.1
    by_cases hlt : k < n
    · obtain ⟨g, o, x, rfl, hg, hx, c0, c1', c2, c3⟩ := (h.below S.bel).at_ hlt
      have hlt' : (k : Int) < n := by omega
      obtain ⟨h2, hh2⟩ : ∃ h2, (Hps.stepH hh x).1 = h2 := ⟨_, rfl⟩
      obtain ⟨ok, hok⟩ : ∃ ok, (Hps.stepH hh x).2 = ok := ⟨_, rfl⟩
      have HX := Lib.hid hx
      have HNX := Lib.hid (show h2 = Hps.runFrom Hps.emptyH (l.take (k + 1)) by
        rw [List.take_add_one, HX.out, Option.toList, Hps.runFrom_snoc, ← hhe]
        exact hh2.symm)
      have HVX := Lib.hid (show Hps.validH h2 = true by rw [← hh2]; exact Hps.stepH_valid hhv (HV.out x (List.mem_of_getElem? HX.out)))
      have hn40 := (Hps.valid_iff.1 hhv).2.1
      have hm4 := (Hps.valid_iff.1 hhv).2.2.1
      have BC : Below wr.heap.size wr (wr.alloc (.cells #[.int .i64 x.op, .int .i64 x.a, .int .i64 x.b, .int .i64 x.c] 99)) := (Below.refl _ _).alloc (Nat.le_refl _) _
      have QC := Rw.new wr 99 #[.int .i64 x.op, .int .i64 x.a, .int .i64 x.b, .int .i64 x.c]
      have CALL := Lib.hid (fun (ww : World) (hB : Below wr.heap.size wr ww) => by
        obtain ⟨rvs, own, _⟩ := S.own
        have hs := (own.below hB (Nat.le_refl _)).reads
        have := stepHeap_any A1 R1 hh.cs.length c1 hh.rt.length d1 hh x ww hs (by omega) (by omega) hc1 hd1
        rw [hh2, hok] at this
        exact this)
      have SS := Lib.hid S
      have hbx := S.box.lt
      have hbel := S.bel.size
      have q0 := S.box.keep BC hbx
      clear S hx hhe hhv hh2 hok hn40 hm4 hml hc1 hd1
      go_upto_region 7 with fail
      generalize wr.alloc (.cells #[.int .i64 x.op, .int .i64 x.a, .int .i64 x.b, .int .i64 x.c] 99) = w4 at BC QC q0 ⊢
      generalize wr.heap.size = q5 at QC ⊢
      have x0 : w4.cell? ⟨b, 0, none⟩ = some (.slice A1 hh.cs.length c1) := q0.cell 0
      have x1 : w4.cell? ⟨b, 1, none⟩ = some (.slice R1 hh.rt.length d1) := q0.cell 1
      have y0 : w4.cell? ⟨q5, 0, none⟩ = some (.int .i64 x.op) := QC.cell 0
      have y1 : w4.cell? ⟨q5, 1, none⟩ = some (.int .i64 x.a) := QC.cell 1
      have y2 : w4.cell? ⟨q5, 2, none⟩ = some (.int .i64 x.b) := QC.cell 2
      have y3 : w4.cell? ⟨q5, 3, none⟩ = some (.int .i64 x.c) := QC.cell 3
      have q0k := Lib.hid q0
      have BK := Lib.hid BC
      clear c0 c1' c2 c3 QC q0
      go_wp2_with fail
      refine (CALL.out _ BK.out).mono ?_
      rintro e w5 ⟨v1, v2, rfl, oh, b5⟩
      obtain ⟨Ax, cx, Rx, dx, rfl, rfl, hr⟩ := oh.form
      have q6 := q0k.out.keep b5 q0k.out.lt
      have B6 := BK.out.trans (b5.mono BK.out.size)
      obtain ⟨nn, hnn⟩ : ∃ nn, h2.cs.length = nn := ⟨_, rfl⟩
      obtain ⟨mm, hmm⟩ : ∃ mm, h2.rt.length = mm := ⟨_, rfl⟩
      have NX := SS.out.next B6 (oh.base BK.out.size)
      obtain ⟨rvs2, own2⟩ := oh
      obtain ⟨A', c', R', d', e1, e2, hc', hd', _⟩ := own2.form
      injection e1 with ea _ e1
      injection e2 with eb _ e2
      subst ea eb e1 e2
      have HC' := Lib.hid hc'
      have HD' := Lib.hid hd'
      have z2 : w5.frozen? ⟨b, 0, none⟩ = false := q6.frozen 0
      have z3 : w5.frozen? ⟨b, 1, none⟩ = false := q6.frozen 1
      have z4 : w5.cell? ⟨b, 0, none⟩ = some (.slice A1 hh.cs.length c1) := q6.cell 0
      have z5 : w5.cell? ⟨b, 1, none⟩ = some (.slice R1 hh.rt.length d1) := q6.cell 1
      clear hnn hmm x0 x1 y0 y1 y2 y3 q6 hc' hd' own2 hr b5 B6 BC
      go_wp2_with fail
      go_roundw
      case rel => exact ⟨k + 1, Ax, cx, Rx, dx, h2, by omega, by go_num, HNX.out, HVX.out, HC'.out, HD'.out, NX⟩
      case measure => simp [intOf]; omega
    · obtain rfl : k = n := by omega
      have x0 : wr.cell? ⟨b, 0, none⟩ = some (.slice A1 hh.cs.length c1) := S.box.cell 0
      have x1 : wr.cell? ⟨b, 1, none⟩ = some (.slice R1 hh.rt.length d1) := S.box.cell 1
      have HE := Lib.hid (show Hps.runH l = hh by rw [HF.out, hhe, List.take_of_length_le (by omega)])
      have r2 : wr.frozen? ⟨w.heap.size, 0, none⟩ = false := S.res.frozen 0
      have r3 : wr.frozen? ⟨w.heap.size, 1, none⟩ = false := S.res.frozen 1
      have r4 : wr.cell? ⟨w.heap.size, 0, none⟩ = some (.slice none 0 0) := S.res.cell 0
      have r5 : wr.cell? ⟨w.heap.size, 1, none⟩ = some (.slice none 0 0) := S.res.cell 1
      obtain ⟨nn, hnn⟩ : ∃ nn, hh.cs.length = nn := ⟨_, rfl⟩
      obtain ⟨mm, hmm⟩ : ∃ mm, hh.rt.length = mm := ⟨_, rfl⟩
      rw [hnn, hmm] at S
      rw [hnn] at x0
      rw [hmm] at x1
      have r6 : ((wr.setCell ⟨w.heap.size, 0, none⟩ (.slice A1 nn c1)).setCell ⟨w.heap.size, 1, none⟩ (.slice R1 mm d1)).cell? ⟨w.heap.size, 0, none⟩ = some (.slice A1 nn c1) := ((S.res.put 0 (.slice A1 nn c1)).put 1 (.slice R1 mm d1)).cell 0
      have r7 : ((wr.setCell ⟨w.heap.size, 0, none⟩ (.slice A1 nn c1)).setCell ⟨w.heap.size, 1, none⟩ (.slice R1 mm d1)).cell? ⟨w.heap.size, 1, none⟩ = some (.slice R1 mm d1) := ((S.res.put 0 (.slice A1 nn c1)).put 1 (.slice R1 mm d1)).cell 1
      have D := Lib.hid (by
        obtain ⟨rvs, own, _⟩ := S.own
        exact OwnH.out (w := w) (g := w.heap.size) ⟨rvs, own⟩ (by omega) S.bel (Nat.le_refl _))
      clear S hhe hhv hnn hmm hml hc1 hd1
      go_wp2_with fail
      exact bodyPost_ret (v := .agg #[.slice A1 nn c1, .slice R1 mm d1]) (by simp [results, Tryd.results28, go_sem, *]) rfl ⟨_, _, rfl, by rw [HE.out]; exact D.out.1, D.out.2⟩
end Go.Proofs.YtiojoailjiojjaaDoor

namespace Go.Proofs.YtiojoailjiojjaaDoor
open Go.RowKit
set_option maxRecDepth 100000
set_option maxHeartbeats 1000000 in
theorem drawRunCounted_any (A : Option Addr) (n c : Nat) (w : World) (h : Bytes w w.heap.size A n) (hc : n ≤ c) (hn : n ≤ 9223372036854775807) :
    Calls Tryd.prog 24 #[.slice A n c] w (DrawnP w) := by
  go_enter Tryd.func24, Tryd.ntmps24
  go_wp2_with fail
  refine (open_any _ _ _ _ h hc hn).mono ?_
  rintro e w1 ⟨rfl, hr1, b1⟩
  go_wp2_with fail
  refine (l20Program_any _ _ 14 _ hr1 (by omega) (by omega) (by omega)).mono ?_
  rintro e w2 ⟨v, l, rfl, ow, hl, hs, -, g2⟩
  obtain ⟨A2, c2, rfl, -⟩ := ow.form
  have hcap := ow.cap.2
  have bb2 : Below w.heap.size w w2 := b1.grown g2 b1.size (fun k hk => by injection hk; omega)
  have ob := ow.base b1.size
  go_wp2_with fail
  go_ret
  exact ⟨A2, _, c2, l, rfl, hcap, hl, ob, hs, bb2⟩
namespace Hps
theorem runCt_cases (l : List Cm) : (okCms l = false ∧ runCt l = (zeroH, [])) ∨ (okCms l = true ∧ okCt (runCt l).1 (runCt l).2 = true ∧ sameV (runCt l).1 (runH l) = true ∧ ∀ x ∈ leakH (runCt l).1, ∃ (k : Nat) (y : Int), x = k ∧ k < (runCt l).2.length ∧ (runCt l).2[k]? = some y ∧ y ≠ 0) := by
  cases h : okCms l
  · exact .inl ⟨rfl, by rw [runCt, if_neg (by rw [h]; simp)]⟩
  · obtain ⟨h1, h2, h3⟩ := run_same h
    refine .inr ⟨rfl, h1, h2, fun x hx => ?_⟩
    obtain ⟨hv, hl⟩ := okCt_iff.1 h1
    rw [leakH, if_pos hv] at hx
    obtain ⟨k, rfl, hu, _⟩ := mem_leak.1 hx
    have hlt := usedAt_lt hu
    have hm := h3 k hu
    refine ⟨k, _, rfl, by rw [hl, counts_len]; exact hlt, by rw [hl]; exact counts_at hlt, ?_⟩
    have := List.count_pos_iff.2 hm
    omega
theorem runH_tiny (l : List Cm) : (runH l).cs.length ≤ 40 ∧ (runH l).rt.length ≤ 4 := by
  cases h : okCms l
  · rw [runH, if_neg (by rw [h]; simp)]
    exact ⟨by decide, by decide⟩
  · obtain ⟨_, h2, _⟩ := run_same h
    obtain ⟨_, hv, _⟩ := sameV_iff.1 h2
    obtain ⟨_, a, b, _⟩ := valid_iff.1 hv
    exact ⟨a, by omega⟩
end Hps
end Go.Proofs.YtiojoailjiojjaaDoor

namespace Go.Proofs.YtiojoailjiojjaaDoor
namespace Hps
/-- the references of the roots and of those of the first i cells that are not in the set -/
def outTo (h : Hp) (s : List Bool) : Nat → List Int
  | 0 => h.rt
  | i + 1 => outTo h s i ++ (if s[i]? = some true then [] else match h.cs[i]? with | some c => c.r | none => [])
def outOf (h : Hp) (s : List Bool) : List Int := outTo h s h.cs.length
theorem mem_outTo {h : Hp} {s : List Bool} {n : Int} : ∀ i, n ∈ outTo h s i ↔ n ∈ h.rt ∨ ∃ (j : Nat) (c : Cl), j < i ∧ h.cs[j]? = some c ∧ s[j]? ≠ some true ∧ n ∈ c.r
  | 0 => by
    rw [outTo]
    constructor
    · exact .inl
    · rintro (h1 | ⟨j, c, hj, _⟩)
      · exact h1
      · omega
  | i + 1 => by
    rw [outTo, List.mem_append, mem_outTo i]
    constructor
    · rintro ((h1 | ⟨j, c, hj, h2⟩) | h1)
      · exact .inl h1
      · exact .inr ⟨j, c, by omega, h2⟩
      · split at h1
        · simp at h1
        · next hs =>
          cases e : h.cs[i]? with
          | none => rw [e] at h1; simp at h1
          | some c => rw [e] at h1; exact .inr ⟨i, c, by omega, e, hs, h1⟩
    · rintro (h1 | ⟨j, c, hj, hc, hs, h2⟩)
      · exact .inl (.inl h1)
      · rcases Nat.lt_or_ge j i with h3 | h3
        · exact .inl (.inr ⟨j, c, h3, hc, hs, h2⟩)
        · obtain rfl : j = i := by omega
          rw [if_neg hs, hc]
          exact .inr h2
theorem mem_outOf {h : Hp} {s : List Bool} {n : Int} : n ∈ outOf h s ↔ n ∈ h.rt ∨ ∃ (j : Nat) (c : Cl), h.cs[j]? = some c ∧ s[j]? ≠ some true ∧ n ∈ c.r := by
  rw [outOf, mem_outTo]
  constructor
  · rintro (h1 | ⟨j, c, _, h2⟩)
    · exact .inl h1
    · exact .inr ⟨j, c, h2⟩
  · rintro (h1 | ⟨j, c, h2, h3⟩)
    · exact .inl h1
    · exact .inr ⟨j, c, (List.getElem?_eq_some_iff.1 h2).1, h2, h3⟩
/-- how many references lead to a cell of the set from outside of it; -1 for other cells -/
def trialAt (h : Hp) (s : List Bool) (k : Nat) : Int := if s[k]? = some true then (((outOf h s).count (k : Int) : Nat) : Int) else -1
theorem trial_pos {h : Hp} {s : List Bool} {k : Nat} : 0 < trialAt h s k ↔ s[k]? = some true ∧ (k : Int) ∈ outOf h s := by
  unfold trialAt
  by_cases e : s[k]? = some true
  · rw [if_pos e, ← List.count_pos_iff]
    constructor
    · intro h1
      exact ⟨e, by omega⟩
    · rintro ⟨_, h1⟩
      omega
  · rw [if_neg e]
    constructor
    · intro h1
      omega
    · rintro ⟨h1, _⟩
      exact absurd h1 e
/-- the cells of a set to which something leads from outside of it, up to number i -/
def outsideTo (h : Hp) (s : List Bool) (i : Nat) : List Int := ((List.range i).filter fun k => decide (0 < trialAt h s k)).map fun (k : Nat) => (k : Int)
def outsideL (h : Hp) (s : List Bool) : List Int := outsideTo h s h.cs.length
theorem mem_outside {h : Hp} {s : List Bool} {x : Int} : x ∈ outsideL h s ↔ ∃ k : Nat, x = k ∧ k < h.cs.length ∧ s[k]? = some true ∧ (k : Int) ∈ outOf h s := by
  unfold outsideL outsideTo
  simp only [List.mem_map, List.mem_filter, List.mem_range, decide_eq_true_eq, trial_pos]
  constructor
  · rintro ⟨k, ⟨h1, h2, h3⟩, rfl⟩
    exact ⟨k, rfl, h1, h2, h3⟩
  · rintro ⟨k, rfl, h1, h2, h3⟩
    exact ⟨k, ⟨h1, h2, h3⟩, rfl⟩
/-- for every cell whether it is in the first set and not in the second -/
def minusL (s t : List Bool) : List Bool := List.zipWith (fun a b => a && !b) s t
theorem minus_at {s t : List Bool} {k : Nat} (hl : s.length = t.length) : (minusL s t)[k]? = some true ↔ s[k]? = some true ∧ t[k]? ≠ some true := by
  unfold minusL
  rw [List.getElem?_zipWith]
  rcases Nat.lt_or_ge k s.length with hk | hk
  · rw [List.getElem?_eq_getElem hk, List.getElem?_eq_getElem (show k < t.length by omega)]
    cases s[k] <;> cases t[k]'(by omega) <;> simp
  · rw [List.getElem?_eq_none hk]
    simp
noncomputable def deadL (h : Hp) (n : Int) : List Bool := minusL (reachL h.cs [n]) (reachL h.cs (outsideL h (reachL h.cs [n])))
theorem deadL_len (h : Hp) (n : Int) : (deadL h n).length = h.cs.length := by simp [deadL, minusL, reachL_len]
theorem reachL_some {cs : List Cl} {a : List Int} {k : Nat} : (reachL cs a)[k]? = some true ↔ k < cs.length ∧ Rch cs a k := by
  constructor
  · intro h
    have hk := (List.getElem?_eq_some_iff.1 h).1
    rw [reachL_len] at hk
    exact ⟨hk, (reachL_true hk).1 h⟩
  · rintro ⟨hk, h⟩
    exact (reachL_true hk).2 h
theorem from_used {h : Hp} (hv : validH h = true) {n : Nat} (hn : usedAt h.cs n = true) {k : Nat} (hr : Rch h.cs [(n : Int)] k) : usedAt h.cs k = true :=
  hr.used (okRefs_iff.2 fun m hm => by rw [List.mem_singleton] at hm; subst hm; exact okRef_iff.2 (.inr ⟨by omega, by simpa using hn⟩)) (valid_refs hv)
theorem Rch.self (cs : List Cl) (n : Nat) : Rch cs [(n : Int)] n := .root (by simp)
theorem Rch.then {cs : List Cl} {a : List Int} {m k : Nat} (h1 : Rch cs a m) (h2 : Rch cs [(m : Int)] k) : Rch cs a k :=
  h2.mono fun x hx => by
    rw [List.mem_singleton] at hx
    obtain rfl : x = m := by omega
    exact h1
/-- what leads to a set's cell from outside keeps it alive -/
def Alive (h : Hp) (n k : Nat) : Prop := Rch h.cs (outsideL h (reachL h.cs [(n : Int)])) k
theorem dead_iff {h : Hp} {n k : Nat} : (deadL h (n : Int))[k]? = some true ↔ k < h.cs.length ∧ Rch h.cs [(n : Int)] k ∧ ¬ Alive h n k := by
  unfold deadL
  rw [minus_at (by rw [reachL_len, reachL_len]), reachL_some]
  constructor
  · rintro ⟨⟨h1, h2⟩, h3⟩
    exact ⟨h1, h2, fun q => h3 (reachL_some.2 ⟨h1, q⟩)⟩
  · rintro ⟨h1, h2, h3⟩
    exact ⟨⟨h1, h2⟩, fun q => h3 (reachL_some.1 q).2⟩
theorem dead_used {h : Hp} (hv : validH h = true) {n : Nat} (hn : usedAt h.cs n = true) {k : Nat} (hd : (deadL h (n : Int))[k]? = some true) : usedAt h.cs k = true := from_used hv hn (dead_iff.1 hd).2.1
/-- what can be reached is alive, if it is in the set -/
theorem reached_alive {h : Hp} (hv : validH h = true) {n k : Nat} (hr : Rch h.cs h.rt k) (hf : Rch h.cs [(n : Int)] k) : Alive h n k := by
  induction hr with
  | root hk =>
    have hf' := hf
    refine .root (mem_outside.2 ⟨_, rfl, ?_, reachL_some.2 ⟨?_, hf⟩, mem_outOf.2 (.inl hk)⟩) <;> exact usedAt_lt (Rch.live hv (.root hk))
  | @step k m c h1 hc hm ih =>
    by_cases q : Rch h.cs [(n : Int)] k
    · exact .step (ih q) hc hm
    · have hl := usedAt_lt (Rch.live hv (.step h1 hc hm))
      exact .root (mem_outside.2 ⟨_, rfl, hl, reachL_some.2 ⟨hl, hf⟩, mem_outOf.2 (.inr ⟨k, c, hc, fun e => q (reachL_some.1 e).2, hm⟩)⟩)
/-- P61: what can be reached is not dead -/
theorem dead_lost {h : Hp} (hv : validH h = true) {n k : Nat} (hd : (deadL h (n : Int))[k]? = some true) : ¬ Rch h.cs h.rt k := fun hr => (dead_iff.1 hd).2.2 (reached_alive hv hr (dead_iff.1 hd).2.1)
/-- P61: only dead cells refer to dead cells -/
theorem dead_back {h : Hp} {n j m : Nat} {c : Cl} (hc : h.cs[j]? = some c) (hm : (m : Int) ∈ c.r) (hd : (deadL h (n : Int))[m]? = some true) : (deadL h (n : Int))[j]? = some true := by
  obtain ⟨h1, h2, h3⟩ := dead_iff.1 hd
  refine dead_iff.2 ⟨(List.getElem?_eq_some_iff.1 hc).1, ?_, fun q => h3 (.step q hc hm)⟩
  refine Classical.byContradiction fun q => h3 (.root (mem_outside.2 ⟨_, rfl, h1, reachL_some.2 ⟨h1, h2⟩, mem_outOf.2 (.inr ⟨j, c, hc, fun e => q (reachL_some.1 e).2, hm⟩)⟩))
/-- an outside cell leads to what is not dead though it is in the set -/
theorem spared {h : Hp} (hv : validH h = true) {n k : Nat} (hf : Rch h.cs [(n : Int)] k) (hk : k < h.cs.length) (hd : (deadL h (n : Int))[k]? ≠ some true) (hr : ¬ Rch h.cs h.rt k) :
    ∃ j : Nat, usedAt h.cs j = true ∧ Rch h.cs [(j : Int)] k ∧ ¬ Rch h.cs [(n : Int)] j := by
  have ha : Alive h n k := Classical.byContradiction fun q => hd (dead_iff.2 ⟨hk, hf, q⟩)
  unfold Alive at ha
  have key : ∀ o : Nat, (o : Int) ∈ outsideL h (reachL h.cs [(n : Int)]) → Rch h.cs [(o : Int)] k → ∃ j : Nat, usedAt h.cs j = true ∧ Rch h.cs [(j : Int)] k ∧ ¬ Rch h.cs [(n : Int)] j := by
    intro o ho hok
    obtain ⟨o', e, h1, h2, h3⟩ := mem_outside.1 ho
    obtain rfl : o = o' := by omega
    rcases mem_outOf.1 h3 with h4 | ⟨j, c, hc, hs, hm⟩
    · exact absurd (Rch.then (.root h4) hok) hr
    · refine ⟨j, ?_, Rch.then (.step (Rch.self _ j) hc hm) hok, fun q => hs (reachL_some.2 ⟨(List.getElem?_eq_some_iff.1 hc).1, q⟩)⟩
      refine usedAt_iff.2 ⟨c, hc, ?_⟩
      cases hu : c.u
      · have := valid_unused hv hc hu
        rw [this] at hm
        simp [freeCl] at hm
      · rfl
  have gen : ∀ k', Rch h.cs (outsideL h (reachL h.cs [(n : Int)])) k' → ∃ o : Nat, (o : Int) ∈ outsideL h (reachL h.cs [(n : Int)]) ∧ Rch h.cs [(o : Int)] k' := by
    intro k' hk'
    induction hk' with
    | root h1 => exact ⟨_, h1, Rch.self _ _⟩
    | step _ hc hm ih =>
      obtain ⟨o, h1, h2⟩ := ih
      exact ⟨o, h1, .step h2 hc hm⟩
  obtain ⟨o, h1, h2⟩ := gen k ha
  exact key o h1 h2
/-! a heap without its dead cells -/
/-- nothing that stays leads to a cell that goes -/
structure Drp (x : Hp) (D : List Bool) : Prop where
  rt : ∀ k : Nat, (k : Int) ∈ x.rt → D[k]? ≠ some true
  back : ∀ {j m : Nat} {c : Cl}, x.cs[j]? = some c → (m : Int) ∈ c.r → D[m]? = some true → D[j]? = some true
theorem dead_drp {h : Hp} (hv : validH h = true) (n : Nat) : Drp h (deadL h (n : Int)) := ⟨fun _ hk hd => dead_lost hv hd (.root hk), dead_back⟩
theorem drop_stays {x : Hp} {D : List Bool} {k : Nat} (hd : D[k]? ≠ some true) : (dropH x D).cs[k]? = x.cs[k]? := by
  rcases Nat.lt_or_ge k x.cs.length with hk | hk
  · rw [dropH, dropL_at _ _ _ _ (List.getElem?_eq_getElem hk), if_neg hd, List.getElem?_eq_getElem hk]
  · rw [List.getElem?_eq_none hk, List.getElem?_eq_none (by rw [dropH, dropL_len]; exact hk)]
theorem drop_cases {x : Hp} {D : List Bool} {k : Nat} {c : Cl} (hc : (dropH x D).cs[k]? = some c) : (D[k]? ≠ some true ∧ x.cs[k]? = some c) ∨ (D[k]? = some true ∧ c = zeroCl) := by
  by_cases e : D[k]? = some true
  · have hk := (List.getElem?_eq_some_iff.1 hc).1
    rw [dropH, dropL_len] at hk
    rw [dropH, dropL_at _ _ _ _ (List.getElem?_eq_getElem hk), if_pos e] at hc
    exact .inr ⟨e, (Option.some.inj hc).symm⟩
  · rw [drop_stays e] at hc
    exact .inl ⟨e, hc⟩
theorem drop_len (x : Hp) (D : List Bool) : (dropH x D).cs.length = x.cs.length := by rw [dropH, dropL_len]
theorem drop_usedAt {x : Hp} {D : List Bool} {k : Nat} : usedAt (dropH x D).cs k = true ↔ usedAt x.cs k = true ∧ D[k]? ≠ some true := by
  constructor
  · intro h
    obtain ⟨c, hc, hu⟩ := usedAt_iff.1 h
    rcases drop_cases hc with ⟨h1, h2⟩ | ⟨_, rfl⟩
    · exact ⟨usedAt_iff.2 ⟨c, h2, hu⟩, h1⟩
    · cases hu
  · rintro ⟨h1, h2⟩
    obtain ⟨c, hc, hu⟩ := usedAt_iff.1 h1
    exact usedAt_iff.2 ⟨c, by rw [drop_stays h2]; exact hc, hu⟩
theorem drop_rch_sub {x : Hp} {D : List Bool} {a : List Int} {k : Nat} (h : Rch (dropH x D).cs a k) : Rch x.cs a k := by
  induction h with
  | root hk => exact .root hk
  | step _ hc hm ih =>
    rcases drop_cases hc with ⟨_, h2⟩ | ⟨_, rfl⟩
    · exact .step ih h2 hm
    · simp [zeroCl] at hm
theorem Drp.rch {x : Hp} {D : List Bool} (P : Drp x D) {a : List Int} (ha : ∀ k : Nat, (k : Int) ∈ a → D[k]? ≠ some true) {k : Nat} (h : Rch x.cs a k) : D[k]? ≠ some true ∧ Rch (dropH x D).cs a k := by
  induction h with
  | root hk => exact ⟨ha _ hk, .root hk⟩
  | step _ hc hm ih =>
    refine ⟨fun e => ih.1 (P.back hc hm e), .step ih.2 (by rw [drop_stays ih.1]; exact hc) hm⟩
theorem Drp.reach {x : Hp} {D : List Bool} (P : Drp x D) {k : Nat} : Rch (dropH x D).cs (dropH x D).rt k ↔ Rch x.cs x.rt k := ⟨fun h => drop_rch_sub h, fun h => (P.rch P.rt h).2⟩
theorem Drp.valid {x : Hp} {D : List Bool} (P : Drp x D) (hv : validH x = true) : validH (dropH x D) = true := by
  obtain ⟨v1, v2, v3, v4⟩ := valid_iff.1 hv
  have key : ∀ n : Int, okRef x.cs n = true → (∀ k : Nat, n = k → D[k]? ≠ some true) → okRef (dropH x D).cs n = true := fun n ho hd => by
    rcases okRef_iff.1 ho with e | ⟨e, hu⟩
    · exact okRef_iff.2 (.inl e)
    · exact okRef_iff.2 (.inr ⟨e, drop_usedAt.2 ⟨hu, hd _ (by omega)⟩⟩)
  refine valid_iff.2 ⟨fun c hc => ?_, by rw [drop_len]; exact v2, v3, okRefs_iff.2 fun n hn => key n (okRefs_iff.1 v4 n hn) fun k e => P.rt k (e ▸ hn)⟩
  obtain ⟨k, hk⟩ := List.mem_iff_getElem?.1 hc
  rcases drop_cases hk with ⟨h1, h2⟩ | ⟨_, rfl⟩
  · obtain ⟨w1, w2, w3, w4⟩ := okCell_iff.1 (valid_cell hv h2)
    exact okCell_iff.2 ⟨w1, w2, w3, okRefs_iff.2 fun n hn => key n (okRefs_iff.1 w4 n hn) fun m e q => h1 (P.back h2 (e ▸ hn) q)⟩
  · simp [okCell, zeroCl, okRefs]
theorem Drp.sim {x : Hp} {D : List Bool} (P : Drp x D) (hv : validH x = true) : Sim x (dropH x D) (fun k y => k = y ∧ Rch x.cs x.rt k) := by
  refine ⟨fun k x y h1 h2 => by omega, fun k m x h1 h2 => by omega, ⟨rfl, fun i n m h1 h2 => ?_⟩, ?_⟩
  · have e : n = m := by
      rw [show (dropH x D).rt = x.rt from rfl, h1] at h2
      exact Option.some.inj h2
    subst e
    rcases okRef_iff.1 (valid_root hv h1) with e | ⟨e, _⟩
    · exact .inl ⟨e, e⟩
    · exact .inr ⟨n.toNat, n.toNat, by omega, by omega, rfl, .root (by rw [Int.toNat_of_nonneg e]; exact List.mem_of_getElem? h1)⟩
  · rintro k _ ⟨rfl, hr⟩
    obtain ⟨c, hc, _⟩ := usedAt_iff.1 (hr.live hv)
    refine ⟨c, c, hc, by rw [drop_stays (P.rch P.rt hr).1]; exact hc, rfl, rfl, fun i n m h1 h2 => ?_⟩
    have e : n = m := by
      rw [h1] at h2
      exact Option.some.inj h2
    subst e
    rcases okRef_iff.1 (valid_ref hv hc h1) with e | ⟨e, _⟩
    · exact .inl ⟨e, e⟩
    · exact .inr ⟨n.toNat, n.toNat, by omega, by omega, rfl, .step hr hc (by rw [Int.toNat_of_nonneg e]; exact List.mem_of_getElem? h1)⟩
theorem Drp.same {x : Hp} {D : List Bool} (P : Drp x D) (hv : validH x = true) : sameV (dropH x D) x = true := by
  rw [sameV_comm]
  exact sameV_iff.2 ⟨hv, P.valid hv, (P.sim hv).view hv (P.valid hv)⟩
theorem drop_count : ∀ (cs : List Cl) (D : List Bool), (∀ k : Nat, D[k]? = some true → usedAt cs k = true) → (dropL cs D).countP (·.u) + D.count true = cs.countP (·.u)
  | [], D, h => by
    have : D.count true = 0 := by
      rw [List.count_eq_zero]
      intro hm
      obtain ⟨k, hk⟩ := List.mem_iff_getElem?.1 hm
      have := usedAt_lt (h k hk)
      simp at this
    rw [this]
    cases D <;> rfl
  | c :: cs, [], h => by simp [dropL]
  | c :: cs, b :: D, h => by
    have ih := drop_count cs D fun k hk => by
      have := h (k + 1) (by simpa using hk)
      simpa [usedAt] using this
    cases b
    · simp only [dropL, Bool.false_eq_true, if_false, List.countP_cons]
      rw [List.count_cons_of_ne (by decide)]
      omega
    · have hu : c.u = true := by
        have := h 0 (by simp)
        simpa [usedAt] using this
      simp only [dropL, if_true, List.countP_cons, List.count_cons_self, hu, zeroCl, Bool.false_eq_true, if_false]
      omega
theorem drop_usedN {x : Hp} {D : List Bool} (h : ∀ k : Nat, D[k]? = some true → usedAt x.cs k = true) : usedN (dropH x D) + D.count true = usedN x := by
  rw [usedN_eq, usedN_eq]
  exact drop_count x.cs D h
/-! collecting -/
/-- one step: the dead cells of cell number k go -/
noncomputable def ccStep (x : Hp × Nat) (k : Nat) : Hp × Nat := if usedAt x.1.cs k = true then (dropH x.1 (deadL x.1 (k : Int)), x.2 + (deadL x.1 (k : Int)).count true) else x
noncomputable def ccTo (h : Hp) : Nat → Hp × Nat
  | 0 => (h, 0)
  | k + 1 => ccStep (ccTo h k) k
noncomputable def cyclesH (h : Hp) (l : List Int) : (Hp × List Int) × Int :=
  if okCt h l = true then (((ccTo h h.cs.length).1, countsL (ccTo h h.cs.length).1), ((ccTo h h.cs.length).2 : Int)) else ((zeroH, []), -1)
/-- what holds before cell number m is suspected -/
structure Cc (h x : Hp) (f m : Nat) : Prop where
  ok : validH x = true
  len : x.cs.length = h.cs.length
  same : sameV x h = true
  cnt : usedN x + f = usedN h
  led : ∀ k, k < m → usedAt x.cs k = true → ¬ Rch x.cs x.rt k → ∃ j, m ≤ j ∧ usedAt x.cs j = true ∧ Rch x.cs [(j : Int)] k
theorem sameV_refl {h : Hp} (hv : validH h = true) : sameV h h = true := sameV_iff.2 ⟨hv, hv, rfl⟩
theorem Cc.start {h : Hp} (hv : validH h = true) : Cc h h 0 0 := ⟨hv, rfl, sameV_refl hv, rfl, fun k hk => by omega⟩
theorem Cc.step {h x : Hp} {f m : Nat} (C : Cc h x f m) : Cc h (ccStep (x, f) m).1 (ccStep (x, f) m).2 (m + 1) := by
  unfold ccStep
  by_cases hu : usedAt x.cs m = true
  · rw [if_pos hu]
    have P := dead_drp C.ok m
    have hv' := P.valid C.ok
    refine ⟨hv', by rw [drop_len]; exact C.len, sameV_trans (P.same C.ok) C.same, ?_, fun k hk hku hkr => ?_⟩
    · have h1 := drop_usedN (x := x) (D := deadL x (m : Int)) fun k hk => dead_used C.ok hu hk
      have h2 := C.cnt
      simp only
      omega
    · simp only at hku hkr ⊢
      rw [P.reach] at hkr
      obtain ⟨hku, hkd⟩ := drop_usedAt.1 hku
      -- a cell outside of the set that leads to a spared one
      have far : ∀ j, usedAt x.cs j = true → Rch x.cs [(j : Int)] k → ¬ Rch x.cs [(m : Int)] j → ∃ j, m + 1 ≤ j ∧ usedAt (dropH x (deadL x (m : Int))).cs j = true ∧ Rch (dropH x (deadL x (m : Int))).cs [(j : Int)] k := by
        intro j hj hjk hjm
        have fin : ∀ i, m ≤ i → usedAt x.cs i = true → Rch x.cs [(i : Int)] k → ¬ Rch x.cs [(m : Int)] i → ∃ j, m + 1 ≤ j ∧ usedAt (dropH x (deadL x (m : Int))).cs j = true ∧ Rch (dropH x (deadL x (m : Int))).cs [(j : Int)] k := by
          intro i hi hiu hik him
          have hid : (deadL x (m : Int))[i]? ≠ some true := fun e => him (dead_iff.1 e).2.1
          have hne : i ≠ m := fun e => him (e ▸ Rch.self _ _)
          refine ⟨i, by omega, drop_usedAt.2 ⟨hiu, hid⟩, (P.rch (fun y hy => ?_) hik).2⟩
          rw [List.mem_singleton] at hy
          obtain rfl : y = i := by omega
          exact hid
        rcases Nat.lt_or_ge j m with h1 | h1
        · obtain ⟨i, hi, hiu, hij⟩ := C.led j h1 hj (fun q => hkr (Rch.then q hjk))
          exact fin i hi hiu (Rch.then hij hjk) fun q => hjm (Rch.then q hij)
        · exact fin j h1 hj hjk hjm
      have hkl := usedAt_lt hku
      by_cases hf : Rch x.cs [(m : Int)] k
      · obtain ⟨j, h1, h2, h3⟩ := spared C.ok hf hkl hkd hkr
        exact far j h1 h2 h3
      · have hkm : k < m := by
          have : k ≠ m := fun e => hf (e ▸ Rch.self _ _)
          omega
        obtain ⟨j, h1, h2, h3⟩ := C.led k hkm hku hkr
        exact far j h2 h3 fun q => hf (Rch.then q h3)
  · rw [if_neg hu]
    refine ⟨C.ok, C.len, C.same, C.cnt, fun k hk hku hkr => ?_⟩
    have hne : ∀ j, usedAt x.cs j = true → j ≠ m := fun j hj e => hu (e ▸ hj)
    have := hne k hku
    obtain ⟨j, h1, h2, h3⟩ := C.led k (by omega) hku hkr
    have := hne j h2
    exact ⟨j, by omega, h2, h3⟩
theorem cc_to {h : Hp} (hv : validH h = true) : ∀ m, Cc h (ccTo h m).1 (ccTo h m).2 m
  | 0 => .start hv
  | m + 1 => (cc_to hv m).step
/-- at the end nothing has leaked -/
theorem Cc.fin {h x : Hp} {f : Nat} (C : Cc h x f h.cs.length) {k : Nat} (hu : usedAt x.cs k = true) : Rch x.cs x.rt k := by
  refine Classical.byContradiction fun q => ?_
  have hk := usedAt_lt hu
  rw [C.len] at hk
  obtain ⟨j, h1, h2, _⟩ := C.led k hk hu q
  have := usedAt_lt h2
  rw [C.len] at this
  omega
theorem leak_none {x : Hp} (h : ∀ k, usedAt x.cs k = true → Rch x.cs x.rt k) : leakL x = [] := by
  apply List.eq_nil_iff_forall_not_mem.2
  intro n hn
  obtain ⟨k, _, h1, h2⟩ := mem_leak.1 hn
  exact h2 (h k h1)
theorem order_same {a b : Hp} (h : sameV a b = true) : (orderH a).length = (orderH b).length := by
  obtain ⟨ha, hb, he⟩ := sameV_iff.1 h
  exact ((sim_of_view ha hb he).order ha hb).1
theorem usedN_parts {h : Hp} (hv : validH h = true) : usedN h = (orderH h).length + (leakL h).length := by
  have h1 := used_parts hv _ (Nat.le_refl _)
  rw [live_order hv, leakTo_all] at h1
  exact h1
/-- P2: exactly what can be reached is left, a program sees the same, and what had leaked was freed -/
theorem cycles_right {h : Hp} {l : List Int} (hc : okCt h l = true) : okCt (cyclesH h l).1.1 (cyclesH h l).1.2 = true ∧ (usedH (cyclesH h l).1.1).1 = (usedH (cyclesH h l).1.1).2 ∧ (cyclesH h l).2 = ((leakL h).length : Int) ∧ 0 ≤ (cyclesH h l).2 ∧ sameV (cyclesH h l).1.1 h = true := by
  have hv := (okCt_iff.1 hc).1
  have C := cc_to hv h.cs.length
  have h1 := leak_none fun k hk => C.fin hk
  have h2 := usedN_parts C.ok
  have h3 := usedN_parts hv
  have h4 := order_same C.same
  have h5 := C.cnt
  have h6 := live_order C.ok
  rw [h1] at h2
  simp only [List.length_nil, Nat.add_zero] at h2
  rw [cyclesH, if_pos hc]
  refine ⟨okCt_iff.2 ⟨C.ok, rfl⟩, ?_, ?_, by simp only; omega, C.same⟩
  · rw [usedH, if_pos C.ok]
    simp only
    rw [show usedTo (ccTo h h.cs.length).1.cs (ccTo h h.cs.length).1.cs.length = usedN (ccTo h h.cs.length).1 from rfl, h6, h2]
  · simp only
    omega
/-- P121: with counts and cycles as many cells are used as can be reached without freeing -/
theorem cycles_complete {l : List Cm} (hl : okCms l = true) : (usedH (cyclesH (runCt l).1 (runCt l).2).1.1).1 = (usedH (runH l)).2 := by
  obtain ⟨h1, h2, _⟩ := run_same hl
  obtain ⟨h3, h4, _, _, h5⟩ := cycles_right h1
  have hs := sameV_trans h5 h2
  obtain ⟨ha, hb, _⟩ := sameV_iff.1 hs
  rw [h4, usedH, usedH, if_pos ha, if_pos hb]
  simp only
  rw [live_order ha, live_order hb, order_same hs]
end Hps
end Go.Proofs.YtiojoailjiojjaaDoor

namespace Go.Proofs.YtiojoailjiojjaaDoor
namespace Hps
/-- a cell refers to another one -/
def Edge (cs : List Cl) (x y : Nat) : Prop := ∃ c, cs[x]? = some c ∧ (y : Int) ∈ c.r
theorem Edge.rch {cs : List Cl} {x y : Nat} (h : Edge cs x y) : Rch cs [(x : Int)] y := by
  obtain ⟨c, h1, h2⟩ := h
  exact .step (Rch.self cs x) h1 h2
/-- a walk: how many cells were met, when, those that wait, and the components -/
structure Tw where
  met : Nat
  t : List Int
  o : List Int
  f : List Nat
def Vis (S : Tw) (k : Nat) : Prop := ∃ y, S.t[k]? = some y ∧ y ≠ 0
structure TwOk (cs : List Cl) (S : Tw) : Prop where
  len : S.t.length = cs.length
  cnt : S.met + S.t.count 0 = cs.length
  le : cs.length ≤ 40
  few : S.f.length + S.o.length ≤ S.met
  rng : ∀ (k : Nat) (x : Int), S.t[k]? = some x → 0 ≤ x ∧ (x ≤ S.met ∨ x = 41)
  opn : ∀ x ∈ S.o, ∃ (k : Nat) (y : Int), x = k ∧ S.t[k]? = some y ∧ 1 ≤ y ∧ y ≤ S.met
  opn' : ∀ (k : Nat) (y : Int), S.t[k]? = some y → 1 ≤ y → y ≤ S.met → (k : Int) ∈ S.o
  nd : S.o.Nodup
  fnd : ∀ k : Nat, S.t[k]? = some 41 ↔ ∃ w ∈ S.f, w.testBit k = true
  clo : ∀ a b : Nat, S.t[a]? = some 41 → Edge cs a b → S.t[b]? = some 41
  str : ∀ w ∈ S.f, ∀ a b : Nat, w.testBit a = true → w.testBit b = true → Rch cs [(a : Int)] b
  top : S.f.Pairwise fun w w' => ∀ a b : Nat, w.testBit a = true → (a = b ∨ Edge cs a b) → w'.testBit b = false
theorem TwOk.met_le {cs : List Cl} {S : Tw} (h : TwOk cs S) : S.met ≤ 40 := by have := h.cnt; have := h.le; omega
/-- what a walk that waits for other cells has found of a cell's references -/
def Seen (S S' : Tw) (n : Int) (x : Nat) : Prop := Vis S' x ∧ ((x : Int) ∈ S.o → ∀ q, S.t[x]? = some q → n ≤ q)
/-- what a visit of cell number v does -/
structure TwPost (cs : List Cl) (S : Tw) (v : Nat) (n : Int) (S' : Tw) : Prop where
  ok : TwOk cs S'
  met : S.met ≤ S'.met
  keep : ∀ (k : Nat) (y : Int), S.t[k]? = some y → y ≠ 0 → S'.t[k]? = some y
  late : ∀ (k : Nat) (y : Int), S'.t[k]? = some y → y ≠ 0 → S.t[k]? = some 0 → (S.met : Int) < y ∧ Rch cs [(v : Int)] k
  vis : Vis S' v
  self : ∀ y, S.t[v]? = some y → y ≠ 0 → n ≤ y
  rch : (S.met : Int) < n ∨ ∃ z : Nat, S.t[z]? = some n ∧ 1 ≤ n ∧ Rch cs [(v : Int)] z
  opn : ∃ tl : List Int, S'.o = S.o ++ tl ∧ ∀ y : Nat, (y : Int) ∈ tl → (∀ x, Edge cs y x → Seen S S' n x) ∧ ∃ x : Nat, (x : Int) ∈ S.o ∧ Rch cs [(y : Int)] x
/-- what holds within a visit of cell number v: some of its references are visited -/
structure TwIn (cs : List Cl) (S : Tw) (v : Nat) (R : List Int) (n : Int) (S' : Tw) : Prop where
  pre : TwOk cs S
  ok : TwOk cs S'
  met : S.met + 1 ≤ S'.met
  keep : ∀ (k : Nat) (y : Int), S.t[k]? = some y → y ≠ 0 → S'.t[k]? = some y
  late : ∀ (k : Nat) (y : Int), S'.t[k]? = some y → y ≠ 0 → S.t[k]? = some 0 → (S.met : Int) < y ∧ Rch cs [(v : Int)] k
  tv : S'.t[v]? = some ((S.met : Int) + 1)
  t0 : S.t[v]? = some 0
  lev : n ≤ (S.met : Int) + 1
  rch : n = (S.met : Int) + 1 ∨ ∃ z : Nat, S.t[z]? = some n ∧ 1 ≤ n ∧ Rch cs [(v : Int)] z
  done : ∀ x : Nat, (x : Int) ∈ R → Seen S S' n x
  opn : ∃ tl : List Int, S'.o = S.o ++ (v : Int) :: tl ∧ ∀ y : Nat, (y : Int) ∈ tl → (∀ x, Edge cs y x → Seen S S' n x) ∧ ∃ x : Nat, ((x : Int) ∈ S.o ∨ x = v) ∧ Rch cs [(y : Int)] x
/-- a cell that was met before -/
theorem TwPost.seen {cs : List Cl} {S : Tw} {v : Nat} {y : Int} (h : TwOk cs S) (hy : S.t[v]? = some y) (h0 : y ≠ 0) : TwPost cs S v y S := by
  refine ⟨h, Nat.le_refl _, fun k z h1 _ => h1, fun k z h1 h2 h3 => ?_, ⟨y, hy, h0⟩, fun z h1 _ => ?_, ?_, [], by simp, fun z hz => by simp at hz⟩
  · rw [h1] at h3
    exact absurd (Option.some.inj h3) h2
  · rw [hy] at h1
    have := Option.some.inj h1
    omega
  · obtain ⟨h1, h2 | h2⟩ := h.rng v y hy
    · exact .inr ⟨v, hy, by omega, Rch.self cs v⟩
    · have := h.met_le
      exact .inl (by omega)
theorem count_set0 {l : List Int} {v : Nat} {y : Int} (h : l[v]? = some 0) (hy : y ≠ 0) : (l.set v y).count 0 + 1 = l.count 0 := by
  induction l generalizing v with
  | nil => simp at h
  | cons a l ih =>
    cases v with
    | zero =>
      obtain rfl : a = 0 := by simpa using h
      simp [hy]
    | succ v =>
      have := ih (v := v) (by simpa using h)
      simp only [List.set_cons_succ, List.count_cons]
      omega
/-- a cell is met -/
theorem TwIn.enter {cs : List Cl} {S : Tw} {v : Nat} (h : TwOk cs S) (hv : S.t[v]? = some 0) : TwIn cs S v [] ((S.met : Int) + 1) ⟨S.met + 1, S.t.set v ((S.met : Int) + 1), S.o ++ [(v : Int)], S.f⟩ := by
  have hlt := (List.getElem?_eq_some_iff.1 hv).1
  have hc := count_set0 (y := (S.met : Int) + 1) hv (by omega)
  have hm := h.cnt
  have hle := h.le
  have get : ∀ (k : Nat) (y : Int), (S.t.set v ((S.met : Int) + 1))[k]? = some y ↔ (k = v ∧ y = (S.met : Int) + 1) ∨ (k ≠ v ∧ S.t[k]? = some y) := by
    intro k y
    rw [List.getElem?_set]
    by_cases e : v = k
    · subst e
      simp [hlt, eq_comm]
    · rw [if_neg e]
      simp [show ¬ k = v from fun q => e q.symm]
  have h41 : ∀ k : Nat, (S.t.set v ((S.met : Int) + 1))[k]? = some 41 ↔ S.t[k]? = some 41 := by
    intro k
    rw [get]
    constructor
    · rintro (⟨_, h2⟩ | ⟨_, h2⟩)
      · omega
      · exact h2
    · intro h2
      refine .inr ⟨?_, h2⟩
      rintro rfl
      rw [hv] at h2
      simp at h2
  have hvo : (v : Int) ∉ S.o := by
    intro q
    obtain ⟨k, y, h1, h2, h3, h4⟩ := h.opn _ q
    obtain rfl : v = k := by omega
    rw [hv] at h2
    have := Option.some.inj h2
    omega
  refine ⟨h, ⟨?_, ?_, hle, ?_, ?_, ?_, ?_, ?_, ?_, ?_, h.str, h.top⟩, Nat.le_refl _, ?_, ?_, (get v _).2 (.inl ⟨rfl, rfl⟩), hv, Int.le_refl _, .inl rfl, fun x hx => by simp at hx, [], rfl, fun y hy => by simp at hy⟩
  · simpa using h.len
  · simp only
    omega
  · have := h.few
    simp only [List.length_append, List.length_singleton]
    omega
  · intro k x hx
    rcases (get k x).1 hx with ⟨_, h2⟩ | ⟨_, h2⟩
    · simp only
      omega
    · have := h.rng k x h2
      simp only
      omega
  · intro x hx
    simp only [List.mem_append, List.mem_singleton] at hx
    rcases hx with h1 | h1
    · obtain ⟨k, y, h2, h3, h4, h5⟩ := h.opn x h1
      refine ⟨k, y, h2, (get k y).2 (.inr ⟨?_, h3⟩), h4, by simp only; omega⟩
      rintro rfl
      exact hvo (h2 ▸ h1)
    · exact ⟨v, (S.met : Int) + 1, h1, (get v _).2 (.inl ⟨rfl, rfl⟩), by omega, by simp⟩
  · intro k y hy h1 h2
    rcases (get k y).1 hy with ⟨h3, _⟩ | ⟨h3, h4⟩
    · simp [h3]
    · have := h.rng k y h4
      have h5 := h.opn' k y h4 h1 (by simp only at h2; omega)
      simp [h5]
  · rw [List.nodup_append]
    refine ⟨h.nd, by simp, fun a ha b hb => ?_⟩
    rw [List.mem_singleton] at hb
    rintro rfl
    exact hvo (hb ▸ ha)
  · intro k
    exact (h41 k).trans (h.fnd k)
  · intro a b ha hab
    exact (h41 b).2 (h.clo a b ((h41 a).1 ha) hab)
  · intro k y hy h0
    refine (get k y).2 (.inr ⟨?_, hy⟩)
    rintro rfl
    rw [hv] at hy
    exact h0 (Option.some.inj hy).symm
  · intro k y hy h0 hk
    rcases (get k y).1 hy with ⟨h3, h4⟩ | ⟨h3, h4⟩
    · subst h3
      exact ⟨by omega, Rch.self cs k⟩
    · rw [h4] at hk
      exact absurd (Option.some.inj hk) h0
theorem TwIn.skip {cs : List Cl} {S S' : Tw} {v : Nat} {R : List Int} {n : Int} (h : TwIn cs S v R n S') : TwIn cs S v (R ++ [-1]) n S' :=
  have key : ∀ x : Nat, (x : Int) ∈ R ++ [-1] → Seen S S' n x := fun x hx => by
    rw [List.mem_append, List.mem_singleton] at hx
    rcases hx with h1 | h1
    · exact h.done x h1
    · omega
  { h with done := key }
theorem Vis.keep {S S' : Tw} {x : Nat} (h : Vis S x) (hk : ∀ (k : Nat) (y : Int), S.t[k]? = some y → y ≠ 0 → S'.t[k]? = some y) : Vis S' x := by
  obtain ⟨y, h1, h2⟩ := h
  exact ⟨y, hk x y h1 h2, h2⟩
/-- one reference more is visited -/
theorem TwIn.step {cs : List Cl} {S S1 S2 : Tw} {v c : Nat} {R : List Int} {n m : Int} (h : TwIn cs S v R n S1) (p : TwPost cs S1 c m S2) (he : Edge cs v c) : TwIn cs S v (R ++ [(c : Int)]) (min n m) S2 := by
  obtain ⟨tl1, ho1, ht1⟩ := h.opn
  obtain ⟨tl2, ho2, ht2⟩ := p.opn
  have old : ∀ (x : Nat) (q : Int), (x : Int) ∈ S.o → S.t[x]? = some q → (x : Int) ∈ S1.o ∧ S1.t[x]? = some q := by
    intro x q hx hq
    refine ⟨by rw [ho1]; simp [hx], h.keep x q hq ?_⟩
    obtain ⟨k, y, h1, h2, h3, _⟩ := h.pre.opn _ hx
    obtain rfl : x = k := by omega
    rw [hq] at h2
    have := Option.some.inj h2
    omega
  refine ⟨h.pre, p.ok, Nat.le_trans h.met p.met, fun k y h1 h2 => p.keep k y (h.keep k y h1 h2) h2, ?_, p.keep _ _ h.tv (by omega), h.t0, by have := h.lev; omega, ?_, ?_, tl1 ++ tl2, ?_, ?_⟩
  · intro k y h1 h2 h3
    by_cases hk : Vis S1 k
    · obtain ⟨z, h4, h5⟩ := hk
      have h6 := p.keep k z h4 h5
      rw [h1] at h6
      have h7 := Option.some.inj h6
      subst h7
      exact h.late k y h4 h5 h3
    · have h4 : S1.t[k]? = some 0 := by
        have hl := (List.getElem?_eq_some_iff.1 h3).1
        rw [h.pre.len, ← h.ok.len] at hl
        rw [List.getElem?_eq_getElem hl]
        by_cases q : S1.t[k] = 0
        · rw [q]
        · exact absurd ⟨S1.t[k], List.getElem?_eq_getElem hl, q⟩ hk
      obtain ⟨h5, h6⟩ := p.late k y h1 h2 h4
      have := h.met
      exact ⟨by omega, Rch.then he.rch h6⟩
  · rcases Int.le_total n m with hnm | hnm
    · rw [show min n m = n by omega]
      exact h.rch
    · rw [show min n m = m by omega]
      have hlev := h.lev
      have hmet := h.met
      rcases p.rch with h1 | ⟨z, h1, h2, h3⟩
      · left; omega
      · by_cases hm : m = (S.met : Int) + 1
        · exact .inl hm
        · right
          refine ⟨z, ?_, h2, Rch.then he.rch h3⟩
          have hl := (List.getElem?_eq_some_iff.1 h1).1
          rw [h.ok.len, ← h.pre.len] at hl
          rw [List.getElem?_eq_getElem hl]
          by_cases q : S.t[z] = 0
          · have := (h.late z m h1 (by omega) (by rw [List.getElem?_eq_getElem hl, q])).1
            omega
          · have := h.keep z _ (List.getElem?_eq_getElem hl) q
            rw [h1] at this
            exact this.symm
  · intro x hx
    rw [List.mem_append, List.mem_singleton] at hx
    rcases hx with h1 | h1
    · obtain ⟨h2, h3⟩ := h.done x h1
      exact ⟨h2.keep p.keep, fun h4 q hq => by have := h3 h4 q hq; omega⟩
    · obtain rfl : x = c := by omega
      refine ⟨p.vis, fun h4 q hq => ?_⟩
      have h5 := (old x q h4 hq).2
      have := p.self q h5 (by
        obtain ⟨k, y, e1, e2, e3, _⟩ := h.pre.opn _ h4
        obtain rfl : x = k := by omega
        rw [hq] at e2
        have := Option.some.inj e2
        omega)
      omega
  · rw [ho2, ho1, List.append_assoc, List.cons_append]
  · intro y hy
    rw [List.mem_append] at hy
    rcases hy with h1 | h1
    · obtain ⟨h2, h3⟩ := ht1 y h1
      refine ⟨fun x hx => ?_, h3⟩
      obtain ⟨h4, h5⟩ := h2 x hx
      exact ⟨h4.keep p.keep, fun h6 q hq => by have := h5 h6 q hq; omega⟩
    · obtain ⟨h2, x, h3, h4⟩ := ht2 y h1
      refine ⟨fun x hx => ?_, ?_⟩
      · obtain ⟨h5, h6⟩ := h2 x hx
        exact ⟨h5, fun h7 q hq => by have := h6 (old x q h7 hq).1 q (old x q h7 hq).2; omega⟩
      · rw [ho1, List.mem_append, List.mem_cons] at h3
        rcases h3 with h3 | h3 | h3
        · exact ⟨x, .inl h3, h4⟩
        · exact ⟨x, .inr (by omega), h4⟩
        · obtain ⟨_, z, h5, h6⟩ := ht1 x h3
          exact ⟨z, h5, Rch.then h4 h6⟩
/-- a way leads back before the cell: it waits -/
theorem TwIn.out {cs : List Cl} {S S' : Tw} {v : Nat} {c : Cl} {n : Int} (h : TwIn cs S v c.r n S') (hc : cs[v]? = some c) (hn : n ≠ (S.met : Int) + 1) : TwPost cs S v n S' := by
  obtain ⟨tl, ho, ht⟩ := h.opn
  have hlev := h.lev
  obtain ⟨z, z1, z2, z3⟩ := h.rch.resolve_left hn
  have hz := h.pre.opn' z n z1 z2 (by omega)
  refine ⟨h.ok, by have := h.met; omega, h.keep, h.late, ⟨_, h.tv, by omega⟩, fun y hy h0 => ?_, .inr ⟨z, z1, z2, z3⟩, (v : Int) :: tl, ho, fun y hy => ?_⟩
  · rw [h.t0] at hy
    exact absurd (Option.some.inj hy).symm h0
  · rw [List.mem_cons] at hy
    rcases hy with h1 | h1
    · obtain rfl : y = v := by omega
      refine ⟨fun x hx => ?_, z, hz, z3⟩
      obtain ⟨c', h2, h3⟩ := hx
      rw [hc] at h2
      have := Option.some.inj h2
      subst this
      exact h.done x h3
    · obtain ⟨h2, x, h3, h4⟩ := ht y h1
      refine ⟨h2, ?_⟩
      rcases h3 with h3 | h3
      · exact ⟨x, h3, h4⟩
      · subst h3
        exact ⟨z, hz, Rch.then h4 z3⟩
/-- times of cells whose component is found, and the component as a word of bits -/
def shutT (t : List Int) (l : List Int) : List Int := l.foldl (fun t x => t.set x.toNat 41) t
def shutW (V : Nat) (l : List Int) : Nat := l.foldl (fun w x => w ||| 2 ^ x.toNat) V
theorem shutT_snoc (t l : List Int) (x : Int) : shutT t (l ++ [x]) = (shutT t l).set x.toNat 41 := by simp [shutT, List.foldl_append]
theorem shutW_snoc (V : Nat) (l : List Int) (x : Int) : shutW V (l ++ [x]) = shutW V l ||| 2 ^ x.toNat := by simp [shutW, List.foldl_append]
theorem shutT_len (l : List Int) : ∀ t : List Int, (shutT t l).length = t.length := by
  induction l with
  | nil => intro t; rfl
  | cons x l ih =>
    intro t
    show (shutT (t.set x.toNat 41) l).length = _
    rw [ih, List.length_set]
theorem shutT_at (l : List Int) : ∀ (t : List Int), (∀ x ∈ l, 0 ≤ x) → ∀ k : Nat, (shutT t l)[k]? = if (k : Int) ∈ l then t[k]?.map (fun _ => 41) else t[k]? := by
  induction l with
  | nil => intro t _ k; simp [shutT]
  | cons x l ih =>
    intro t hx k
    show (shutT (t.set x.toNat 41) l)[k]? = _
    rw [ih _ (fun y hy => hx y (by simp [hy])) k, List.getElem?_set]
    have h0 := hx x (by simp)
    by_cases e : x.toNat = k
    · have e2 : (k : Int) = x := by omega
      rw [if_pos e, e]
      by_cases q : k < t.length
      · simp [e2, q]
      · simp [e2, q]
    · have e2 : ¬ (k : Int) = x := by omega
      rw [if_neg e]
      simp [e2]
theorem shutW_at (l : List Int) : ∀ (V : Nat), (∀ x ∈ l, 0 ≤ x) → ∀ k : Nat, (shutW V l).testBit k = (V.testBit k || decide ((k : Int) ∈ l)) := by
  induction l with
  | nil => intro V _ k; simp [shutW]
  | cons x l ih =>
    intro V hx k
    show (shutW (V ||| 2 ^ x.toNat) l).testBit k = _
    rw [ih _ (fun y hy => hx y (by simp [hy])) k, Nat.testBit_or, Nat.testBit_two_pow]
    have h0 := hx x (by simp)
    by_cases e : x.toNat = k
    · have e2 : (k : Int) = x := by omega
      simp [e, e2]
    · have e2 : ¬ (k : Int) = x := by omega
      simp [e, e2]
theorem count_shut (l : List Int) : ∀ (t : List Int), (∀ x ∈ l, ∃ y : Int, t[x.toNat]? = some y ∧ y ≠ 0) → (shutT t l).count 0 = t.count 0 := by
  induction l with
  | nil => intro t _; rfl
  | cons x l ih =>
    intro t hx
    show (shutT (t.set x.toNat 41) l).count 0 = _
    obtain ⟨y, h1, h2⟩ := hx x (by simp)
    have key : ∀ (t : List Int) (k : Nat) (y : Int), t[k]? = some y → y ≠ 0 → (t.set k 41).count 0 = t.count 0 := by
      intro t
      induction t with
      | nil => intro k y h1; simp at h1
      | cons a t ih =>
        intro k y h1 h2
        cases k with
        | zero =>
          have : a = y := by simpa using h1
          subst this
          simp [h2]
        | succ k =>
          have := ih k y (by simpa using h1) h2
          simp only [List.set_cons_succ, List.count_cons]
          omega
    rw [ih _ fun z hz => ?_, key t _ y h1 h2]
    obtain ⟨q, h3, h4⟩ := hx z (by simp [hz])
    rw [List.getElem?_set]
    by_cases e : x.toNat = z.toNat
    · rw [if_pos e, if_pos (by rw [e]; exact (List.getElem?_eq_some_iff.1 h3).1)]
      exact ⟨41, rfl, by omega⟩
    · rw [if_neg e]
      exact ⟨q, h3, h4⟩
/-- no way leads back before the cell: its component is found -/
theorem TwIn.shut {cs : List Cl} {S S' : Tw} {v : Nat} {c : Cl} (h : TwIn cs S v c.r ((S.met : Int) + 1) S') (hc : cs[v]? = some c) {tl : List Int} (ho : S'.o = S.o ++ (v : Int) :: tl) :
    TwPost cs S v ((S.met : Int) + 1) ⟨S'.met, shutT S'.t ((v : Int) :: tl), S.o, S'.f ++ [shutW 0 ((v : Int) :: tl)]⟩ := by
  obtain ⟨tl', ho', ht⟩ := h.opn
  have e := List.append_cancel_left (ho'.symm.trans ho)
  injection e with _ e
  subst e
  clear ho'
  have hml := h.ok.met_le
  have hmet := h.met
  -- those that are put into the component
  have hpos : ∀ x ∈ (v : Int) :: tl', ∃ (k : Nat) (y : Int), x = k ∧ S'.t[k]? = some y ∧ 1 ≤ y ∧ y ≤ S'.met ∧ x ∉ S.o := by
    intro x hx
    obtain ⟨k, y, h1, h2, h3, h4⟩ := h.ok.opn x (by rw [ho, List.mem_append]; exact .inr hx)
    refine ⟨k, y, h1, h2, h3, h4, fun q => ?_⟩
    have hn := h.ok.nd
    rw [ho, List.nodup_append] at hn
    exact hn.2.2 x q x hx rfl
  have hnn : ∀ x ∈ (v : Int) :: tl', 0 ≤ x := fun x hx => by
    obtain ⟨k, _, h1, _⟩ := hpos x hx
    omega
  have hT : ∀ k : Nat, (shutT S'.t ((v : Int) :: tl'))[k]? = if (k : Int) ∈ (v : Int) :: tl' then S'.t[k]?.map (fun _ => 41) else S'.t[k]? := shutT_at _ _ hnn
  have hW : ∀ k : Nat, (shutW 0 ((v : Int) :: tl')).testBit k = true ↔ (k : Int) ∈ (v : Int) :: tl' := fun k => by rw [shutW_at _ _ hnn]; simp
  have hin : ∀ k : Nat, (k : Int) ∈ (v : Int) :: tl' → (shutT S'.t ((v : Int) :: tl'))[k]? = some 41 := fun k hk => by
    obtain ⟨j, y, h1, h2, _⟩ := hpos _ hk
    obtain rfl : k = j := by omega
    rw [hT, if_pos hk, h2]
    rfl
  have hout : ∀ k : Nat, (k : Int) ∉ (v : Int) :: tl' → (shutT S'.t ((v : Int) :: tl'))[k]? = S'.t[k]? := fun k hk => by rw [hT, if_neg hk]
  have h41 : ∀ k : Nat, (shutT S'.t ((v : Int) :: tl'))[k]? = some 41 ↔ (k : Int) ∈ (v : Int) :: tl' ∨ S'.t[k]? = some 41 := by
    intro k
    by_cases q : (k : Int) ∈ (v : Int) :: tl'
    · exact ⟨fun _ => .inl q, fun _ => hin k q⟩
    · rw [hout k q]
      exact ⟨.inr, fun q2 => q2.resolve_left q⟩
  have hno41 : ∀ k : Nat, (k : Int) ∈ (v : Int) :: tl' → S'.t[k]? ≠ some 41 := fun k hk e => by
    obtain ⟨j, y, h1, h2, h3, h4, _⟩ := hpos _ hk
    obtain rfl : k = j := by omega
    rw [h2] at e
    have := Option.some.inj e
    omega
  -- they were not met before
  have hnew : ∀ k : Nat, (k : Int) ∈ (v : Int) :: tl' → S.t[k]? = some 0 := by
    intro k hk
    obtain ⟨j, y, h1, h2, h3, h4, h5⟩ := hpos _ hk
    obtain rfl : k = j := by omega
    have hl := (List.getElem?_eq_some_iff.1 h2).1
    rw [h.ok.len, ← h.pre.len] at hl
    rw [List.getElem?_eq_getElem hl]
    by_cases q : S.t[k] = 0
    · rw [q]
    · exfalso
      have h6 := h.keep k _ (List.getElem?_eq_getElem hl) q
      rw [h2] at h6
      have h7 := Option.some.inj h6
      have h8 := h.pre.rng k _ (List.getElem?_eq_getElem hl)
      rw [← h7] at h8
      have h9 := h.pre.opn' k y (by rw [List.getElem?_eq_getElem hl, ← h7]) h3 (by omega)
      exact h5 h9
  have hfrom : ∀ k : Nat, (k : Int) ∈ (v : Int) :: tl' → Rch cs [(v : Int)] k := by
    intro k hk
    obtain ⟨j, y, h1, h2, h3, _⟩ := hpos _ hk
    obtain rfl : k = j := by omega
    exact (h.late k y h2 (by omega) (hnew k hk)).2
  -- where their references lead
  have hedge : ∀ a b : Nat, (a : Int) ∈ (v : Int) :: tl' → Edge cs a b → (b : Int) ∈ (v : Int) :: tl' ∨ S'.t[b]? = some 41 := by
    intro a b ha hab
    have hs : Seen S S' ((S.met : Int) + 1) b := by
      rw [List.mem_cons] at ha
      rcases ha with h1 | h1
      · obtain rfl : a = v := by omega
        obtain ⟨c', h2, h3⟩ := hab
        rw [hc] at h2
        have := Option.some.inj h2
        subst this
        exact h.done b h3
      · exact (ht a h1).1 b hab
    obtain ⟨⟨y, h1, h2⟩, h3⟩ := hs
    rcases h.ok.rng b y h1 with ⟨h4, h5 | h5⟩
    · left
      have h6 := h.ok.opn' b y h1 (by omega) h5
      rw [ho, List.mem_append] at h6
      refine h6.resolve_left fun q => ?_
      obtain ⟨k, z, e1, e2, e3, e4⟩ := h.pre.opn _ q
      obtain rfl : b = k := by omega
      have := h3 q z e2
      omega
    · exact .inr (h5 ▸ h1)
  have hreach : ∀ a b : Nat, (a : Int) ∈ (v : Int) :: tl' → Rch cs [(a : Int)] b → (b : Int) ∈ (v : Int) :: tl' ∨ S'.t[b]? = some 41 := by
    intro a b ha hab
    induction hab with
    | root hk =>
      rw [List.mem_singleton] at hk
      left
      rw [hk]
      exact ha
    | @step k m cl _ h1 h2 ih =>
      rcases ih with q | q
      · exact hedge k m q ⟨cl, h1, h2⟩
      · exact .inr (h.ok.clo k m q ⟨cl, h1, h2⟩)
  have hback : ∀ a : Nat, (a : Int) ∈ (v : Int) :: tl' → Rch cs [(a : Int)] v := by
    intro a ha
    have ha' := ha
    rw [List.mem_cons] at ha
    rcases ha with h1 | h1
    · obtain rfl : a = v := by omega
      exact Rch.self cs a
    · obtain ⟨_, x, h2, h3⟩ := ht a h1
      rcases h2 with h2 | h2
      · exfalso
        rcases hreach a x ha' h3 with q | q
        · obtain ⟨_, _, _, _, _, _, q2⟩ := hpos _ q
          exact q2 h2
        · obtain ⟨k, y, e1, e2, e3, e4⟩ := h.pre.opn _ h2
          obtain rfl : x = k := by omega
          have := h.keep x y e2 (by omega)
          rw [q] at this
          have := Option.some.inj this
          omega
      · exact h2 ▸ h3
  refine ⟨⟨?_, ?_, h.ok.le, ?_, ?_, ?_, ?_, h.pre.nd, ?_, ?_, ?_, ?_⟩, by simp only; omega, ?_, ?_, ⟨41, hin v (by simp), by omega⟩, ?_, .inl (by omega), [], by simp, fun y hy => by simp at hy⟩
  · rw [shutT_len]
    exact h.ok.len
  · rw [count_shut _ _ fun x hx => ?_]
    · exact h.ok.cnt
    · obtain ⟨k, y, h1, h2, h3, _⟩ := hpos x hx
      exact ⟨y, by rw [h1]; simpa using h2, by omega⟩
  · have := h.ok.few
    rw [ho] at this
    simp only [List.length_append, List.length_cons, List.length_nil] at this ⊢
    omega
  · intro k x hx
    by_cases q : (k : Int) ∈ (v : Int) :: tl'
    · have := hin k q
      rw [hx] at this
      have := Option.some.inj this
      omega
    · exact h.ok.rng k x (by rw [← hout k q]; exact hx)
  · intro x hx
    obtain ⟨k, y, h1, h2, h3, h4⟩ := h.pre.opn x hx
    refine ⟨k, y, h1, ?_, h3, by simp only; omega⟩
    rw [hout k fun q => by obtain ⟨_, _, _, _, _, _, q2⟩ := hpos _ q; exact q2 (h1 ▸ hx)]
    exact h.keep k y h2 (by omega)
  · intro k y hy h1 h2
    simp only at h2
    by_cases q : (k : Int) ∈ (v : Int) :: tl'
    · have := hin k q
      rw [hy] at this
      have := Option.some.inj this
      omega
    · have h3 := h.ok.opn' k y (by rw [← hout k q]; exact hy) h1 h2
      rw [ho, List.mem_append] at h3
      exact h3.resolve_right q
  · intro k
    rw [h41, h.ok.fnd]
    simp only [List.mem_append, List.mem_singleton]
    constructor
    · rintro (q | ⟨w, q1, q2⟩)
      · exact ⟨_, .inr rfl, (hW k).2 q⟩
      · exact ⟨w, .inl q1, q2⟩
    · rintro ⟨w, q1 | q1, q2⟩
      · exact .inr ⟨w, q1, q2⟩
      · subst q1
        exact .inl ((hW k).1 q2)
  · intro a b ha hab
    rw [h41] at ha ⊢
    rcases ha with q | q
    · exact hedge a b q hab
    · exact .inr (h.ok.clo a b q hab)
  · intro w hw a b ha hb
    simp only [List.mem_append, List.mem_singleton] at hw
    rcases hw with q | q
    · exact h.ok.str w q a b ha hb
    · subst q
      exact Rch.then (hback a ((hW a).1 ha)) (hfrom b ((hW b).1 hb))
  · rw [List.pairwise_append]
    refine ⟨h.ok.top, by simp, fun w hw w' hw' a b ha hab => ?_⟩
    rw [List.mem_singleton] at hw'
    subst hw'
    have h1 := (h.ok.fnd a).2 ⟨w, hw, ha⟩
    have h2 : S'.t[b]? = some 41 := by
      rcases hab with q | q
      · exact q ▸ h1
      · exact h.ok.clo a b h1 q
    cases q : (shutW 0 ((v : Int) :: tl')).testBit b
    · rfl
    · exact absurd h2 (hno41 b ((hW b).1 q))
  · intro k y hy h0
    rw [hout k fun q => ?_]
    · exact h.keep k y hy h0
    · have := hnew k q
      rw [hy] at this
      exact h0 (Option.some.inj this)
  · intro k y hy h0 hk
    by_cases q : (k : Int) ∈ (v : Int) :: tl'
    · have h1 := hin k q
      rw [hy] at h1
      have h1 := Option.some.inj h1
      have := h.pre.met_le
      exact ⟨by omega, hfrom k q⟩
    · exact h.late k y (by rw [← hout k q]; exact hy) h0 hk
  · intro y hy h0
    rw [h.t0] at hy
    exact absurd (Option.some.inj hy).symm h0
/-! the walk from one cell -/
def Tw.zero (n : Nat) : Tw := ⟨0, List.replicate n 0, [], []⟩
theorem TwOk.zero {cs : List Cl} (hl : cs.length ≤ 40) : TwOk cs (.zero cs.length) := by
  have get : ∀ (k : Nat) (x : Int), (List.replicate cs.length (0 : Int))[k]? = some x → x = 0 := fun k x hx => by
    rw [List.getElem?_replicate] at hx
    split at hx
    · exact (Option.some.inj hx).symm
    · cases hx
  refine ⟨by simp [Tw.zero], by simp [Tw.zero], hl, by simp [Tw.zero], fun k x hx => ?_, fun x hx => by simp [Tw.zero] at hx, fun k y hy h1 _ => ?_, by simp [Tw.zero], fun k => ?_, fun a b ha _ => ?_, fun w hw => by simp [Tw.zero] at hw, by simp [Tw.zero]⟩
  · have := get k x hx
    omega
  · have := get k y hy
    omega
  · constructor
    · intro hk
      have := get k _ hk
      omega
    · rintro ⟨w, hw, _⟩
      simp [Tw.zero] at hw
  · have := get a _ ha
    omega
/-- the components of all to which a cell leads: together they are that, each leads to itself, and none leads to one that was found behind it -/
structure Comps (cs : List Cl) (v : Nat) (f : List Nat) : Prop where
  len : f.length ≤ 40
  all : ∀ k : Nat, (∃ w ∈ f, w.testBit k = true) ↔ Rch cs [(v : Int)] k
  str : ∀ w ∈ f, ∀ a b : Nat, w.testBit a = true → w.testBit b = true → Rch cs [(a : Int)] b
  top : f.Pairwise fun w w' => ∀ a b : Nat, w.testBit a = true → (a = b ∨ Edge cs a b) → w'.testBit b = false
theorem TwPost.comps {cs : List Cl} {v : Nat} {n : Int} {S' : Tw} (p : TwPost cs (.zero cs.length) v n S') : Comps cs v S'.f := by
  obtain ⟨tl, ho, ht⟩ := p.opn
  have ho' : S'.o = tl := by rw [ho]; simp [Tw.zero]
  have hnil : S'.o = [] := by
    rw [ho']
    apply List.eq_nil_iff_forall_not_mem.2
    intro x hx
    obtain ⟨k, y, h1, _⟩ := p.ok.opn x (ho' ▸ hx)
    obtain ⟨_, z, h2, _⟩ := ht k (h1 ▸ hx)
    simp [Tw.zero] at h2
  have h41 : ∀ k, Vis S' k → S'.t[k]? = some 41 := by
    rintro k ⟨y, h1, h2⟩
    obtain ⟨h3, h4 | h4⟩ := p.ok.rng k y h1
    · have := p.ok.opn' k y h1 (by omega) h4
      rw [hnil] at this
      simp at this
    · exact h4 ▸ h1
  refine ⟨by have := p.ok.few; have := p.ok.met_le; omega, fun k => ?_, p.ok.str, p.ok.top⟩
  rw [← p.ok.fnd]
  constructor
  · intro hk
    refine (p.late k 41 hk (by omega) ?_).2
    have hl := (List.getElem?_eq_some_iff.1 hk).1
    rw [p.ok.len] at hl
    simp [Tw.zero, hl]
  · intro hr
    refine Rch.inside (S := fun k => S'.t[k]? = some 41) (fun j hj => ?_) (fun a b c ha hc hb => p.ok.clo a b ha ⟨c, hc, hb⟩) hr
    rw [List.mem_singleton] at hj
    obtain rfl : j = v := by omega
    exact h41 j p.vis
theorem Comps.lt {cs : List Cl} {v : Nat} {f : List Nat} (C : Comps cs v f) (hv : ∀ k, Rch cs [(v : Int)] k → k < cs.length) (hl : cs.length ≤ 40) {w : Nat} (hw : w ∈ f) : w < 2 ^ 40 := by
  apply Nat.lt_pow_two_of_testBit
  intro i hi
  cases q : w.testBit i
  · rfl
  · have := hv i ((C.all i).1 ⟨w, hw, q⟩)
    omega
end Hps
end Go.Proofs.YtiojoailjiojjaaDoor

namespace Go.Proofs.YtiojoailjiojjaaDoor
open Go.RowKit
set_option maxRecDepth 100000
namespace Hps
theorem outW_eq {h : Hp} {V : Nat} {s : List Bool} (hb : ∀ i, V.testBit i = decide (s[i]? = some true)) : ∀ i, outW h V i = outTo h s i
  | 0 => rfl
  | i + 1 => by
    rw [outW, outTo, outW_eq hb i, hb i]
    by_cases q : s[i]? = some true
    · rw [if_pos q, if_pos (decide_eq_true q)]
    · rw [if_neg q, if_neg (by rw [decide_eq_false q]; decide)]
      cases h.cs[i]? <;> rfl
end Hps
end Go.Proofs.YtiojoailjiojjaaDoor

namespace Go.Proofs.YtiojoailjiojjaaDoor
namespace Hps
theorem mem_numsB {V : Nat} {x : Int} : x ∈ numsB V ↔ ∃ k : Nat, x = k ∧ k < 64 ∧ V.testBit k = true := by
  unfold numsB
  simp only [List.mem_map, List.mem_filter, List.mem_range]
  constructor
  · rintro ⟨k, ⟨h1, h2⟩, rfl⟩
    exact ⟨k, rfl, h1, h2⟩
  · rintro ⟨k, rfl, h1, h2⟩
    exact ⟨k, ⟨h1, h2⟩, rfl⟩
/-- the references of the cells of a list -/
def refsB (cs : List Cl) (l : List Int) : List Int := (l.map fun x => match cs[x.toNat]? with | some c => c.r | none => []).flatten
theorem refsB_snoc {cs : List Cl} {l : List Int} {k : Nat} {c : Cl} (hc : cs[k]? = some c) : refsB cs (l ++ [(k : Int)]) = refsB cs l ++ c.r := by
  simp [refsB, hc]
theorem mem_refsB {cs : List Cl} {V : Nat} (hV : ∀ i, V.testBit i = true → i < 64) {b : Nat} : (b : Int) ∈ refsB cs (numsB V) ↔ ∃ a, V.testBit a = true ∧ Edge cs a b := by
  unfold refsB
  simp only [List.mem_flatten, List.mem_map]
  constructor
  · rintro ⟨l, ⟨x, hx, rfl⟩, hb⟩
    obtain ⟨a, rfl, _, ha⟩ := mem_numsB.1 hx
    rw [Int.toNat_natCast] at hb
    cases e : cs[a]? with
    | none => rw [e] at hb; simp at hb
    | some c => rw [e] at hb; exact ⟨a, ha, c, e, hb⟩
  · rintro ⟨a, ha, c, hc, hb⟩
    exact ⟨c.r, ⟨(a : Int), mem_numsB.2 ⟨a, rfl, hV a ha, ha⟩, by rw [Int.toNat_natCast, hc]⟩, hb⟩
theorem refsB_len {cs : List Cl} (h3 : ∀ c ∈ cs, c.r.length ≤ 3) : ∀ l : List Int, (refsB cs l).length ≤ 3 * l.length
  | [] => by simp [refsB]
  | x :: l => by
    have ih := refsB_len h3 l
    have e : refsB cs (x :: l) = (match cs[x.toNat]? with | some c => c.r | none => []) ++ refsB cs l := by simp [refsB]
    rw [e, List.length_append, List.length_cons]
    cases q : cs[x.toNat]? with
    | none => simp; omega
    | some c =>
      have := h3 c (List.mem_of_getElem? q)
      simp only
      omega
/-- a cell of the set is among the numbers -/
def hasL (V : Nat) (L : List Int) : Bool := (numsB V).any fun x => decide (x ∈ L)
theorem hasL_iff {V : Nat} (hV : ∀ i, V.testBit i = true → i < 64) {L : List Int} : hasL V L = true ↔ ∃ k : Nat, V.testBit k = true ∧ (k : Int) ∈ L := by
  unfold hasL
  rw [List.any_eq_true]
  constructor
  · rintro ⟨x, hx, hd⟩
    obtain ⟨k, rfl, _, hk⟩ := mem_numsB.1 hx
    exact ⟨k, hk, by simpa using hd⟩
  · rintro ⟨k, hk, hd⟩
    exact ⟨(k : Int), mem_numsB.2 ⟨k, rfl, hV k hk, hk⟩, by simpa using hd⟩
/-- what holds when the components P are taken: L are the numbers to which something that is not dead leads, and D is the set of the dead cells -/
structure DeadSt (h : Hp) (n : Nat) (P : List Nat) (L : List Int) (D : Nat) : Prop where
  sub : ∀ x ∈ outOf h (reachL h.cs [(n : Int)]), x ∈ L
  alv : ∀ k : Nat, (k : Int) ∈ L → Rch h.cs [(n : Int)] k → Alive h n k
  kep : ∀ w ∈ P, ∀ a b : Nat, w.testBit a = true → Alive h n a → Edge h.cs a b → (b : Int) ∈ L
  ded : ∀ k : Nat, D.testBit k = true ↔ ∃ w ∈ P, w.testBit k = true ∧ ¬ Alive h n k
theorem alive_from {h : Hp} {n k : Nat} (ha : Alive h n k) : Rch h.cs [(n : Int)] k := by
  unfold Alive at ha
  induction ha with
  | @root k hk =>
    obtain ⟨j, h1, _, h3, _⟩ := mem_outside.1 hk
    obtain rfl : k = j := by omega
    exact (reachL_some.1 h3).2
  | step _ hc hm ih => exact .step ih hc hm
theorem DeadSt.start {h : Hp} {n : Nat} (hlt : ∀ k, Rch h.cs [(n : Int)] k → k < h.cs.length) : DeadSt h n [] (outOf h (reachL h.cs [(n : Int)])) 0 := by
  refine ⟨fun x hx => hx, fun k hk hr => .root (mem_outside.2 ⟨k, rfl, hlt k hr, reachL_some.2 ⟨hlt k hr, hr⟩, hk⟩), fun w hw => by simp at hw, fun k => by simp⟩
theorem DeadSt.some_ {h : Hp} {n : Nat} {f P Q : List Nat} {L : List Int} {D w : Nat} (C : Comps h.cs n f) (hf : f.reverse = P ++ w :: Q) (S : DeadSt h n P L D) {a : Nat} (ha : Alive h n a) (hw : w.testBit a = true) : ∃ k : Nat, w.testBit k = true ∧ (k : Int) ∈ L := by
  unfold Alive at ha
  induction ha with
  | root hk =>
    obtain ⟨j, h1, _, _, h4⟩ := mem_outside.1 hk
    exact ⟨_, hw, S.sub _ (by rw [h1]; exact h4)⟩
  | @step a' a c h1 h2 h3 ih =>
    by_cases q : w.testBit a' = true
    · exact ih q
    · have hin := (C.all a').2 (alive_from h1)
      obtain ⟨w', hw', hb⟩ := hin
      rw [← List.mem_reverse, hf, List.mem_append, List.mem_cons] at hw'
      rcases hw' with h4 | h4 | h4
      · exact ⟨a, hw, S.kep w' h4 a' a hb h1 ⟨c, h2, h3⟩⟩
      · exact absurd (h4 ▸ hb) q
      · have hp := List.pairwise_reverse.2 C.top
        rw [hf, List.pairwise_append] at hp
        have := (List.pairwise_cons.1 hp.2.1).1 w' h4 a' a hb (.inr ⟨c, h2, h3⟩)
        rw [hw] at this
        cases this
theorem DeadSt.dead {h : Hp} {n : Nat} {f P Q : List Nat} {L : List Int} {D w : Nat} (C : Comps h.cs n f) (hf : f.reverse = P ++ w :: Q) (S : DeadSt h n P L D) (hno : ¬ ∃ k : Nat, w.testBit k = true ∧ (k : Int) ∈ L) : DeadSt h n (P ++ [w]) L (D ||| w) := by
  have hna : ∀ a : Nat, w.testBit a = true → ¬ Alive h n a := fun a hw ha => hno (S.some_ C hf ha hw)
  refine ⟨S.sub, S.alv, fun w' hw' a b h1 h2 h3 => ?_, fun k => ?_⟩
  · rw [List.mem_append, List.mem_singleton] at hw'
    rcases hw' with h4 | h4
    · exact S.kep w' h4 a b h1 h2 h3
    · exact absurd h2 (hna a (h4 ▸ h1))
  · rw [Nat.testBit_or, Bool.or_eq_true, S.ded]
    simp only [List.mem_append, List.mem_singleton]
    constructor
    · rintro (⟨w', h1, h2⟩ | h1)
      · exact ⟨w', .inl h1, h2⟩
      · exact ⟨w, .inr rfl, h1, hna k h1⟩
    · rintro ⟨w', h1 | h1, h2⟩
      · exact .inl ⟨w', h1, h2⟩
      · exact .inr (h1 ▸ h2.1)
theorem DeadSt.alive {h : Hp} {n : Nat} {f P Q : List Nat} {L : List Int} {D w : Nat} (C : Comps h.cs n f) (hf : f.reverse = P ++ w :: Q) (S : DeadSt h n P L D) (hw64 : ∀ i, w.testBit i = true → i < 64) (hso : ∃ k : Nat, w.testBit k = true ∧ (k : Int) ∈ L) : DeadSt h n (P ++ [w]) (L ++ refsB h.cs (numsB w)) D := by
  have hwf : w ∈ f := by rw [← List.mem_reverse, hf]; simp
  have hal : ∀ a : Nat, w.testBit a = true → Alive h n a := by
    obtain ⟨k, h1, h2⟩ := hso
    intro a ha
    exact Rch.then (S.alv k h2 ((C.all k).1 ⟨w, hwf, h1⟩)) (C.str w hwf k a h1 ha)
  refine ⟨fun x hx => List.mem_append.2 (.inl (S.sub x hx)), fun k hk hr => ?_, fun w' hw' a b h1 h2 h3 => ?_, fun k => ?_⟩
  · rw [List.mem_append, mem_refsB hw64] at hk
    rcases hk with hk | ⟨a, h1, c, h2, h3⟩
    · exact S.alv k hk hr
    · exact .step (hal a h1) h2 h3
  · rw [List.mem_append, List.mem_singleton] at hw'
    rw [List.mem_append, mem_refsB hw64]
    rcases hw' with h4 | h4
    · exact .inl (S.kep w' h4 a b h1 h2 h3)
    · exact .inr ⟨a, h4 ▸ h1, h3⟩
  · rw [S.ded]
    simp only [List.mem_append, List.mem_singleton]
    constructor
    · rintro ⟨w', h1, h2⟩
      exact ⟨w', .inl h1, h2⟩
    · rintro ⟨w', h1 | h1, h2, h3⟩
      · exact ⟨w', h1, h2, h3⟩
      · exact absurd (hal k (h1 ▸ h2)) h3
theorem DeadSt.fin {h : Hp} {n : Nat} {f : List Nat} {L : List Int} {D : Nat} (C : Comps h.cs n f) (S : DeadSt h n f.reverse L D) (hlt : ∀ k, Rch h.cs [(n : Int)] k → k < h.cs.length) : D = Bm.wordN (deadL h (n : Int)) true := by
  apply Nat.eq_of_testBit_eq
  intro k
  rw [Bm.wordN_bit, Bool.eq_iff_iff, S.ded, decide_eq_true_eq, dead_iff]
  constructor
  · rintro ⟨w, h1, h2, h3⟩
    have := (C.all k).1 ⟨w, List.mem_reverse.1 h1, h2⟩
    exact ⟨hlt k this, this, h3⟩
  · rintro ⟨_, h2, h3⟩
    obtain ⟨w, h4, h5⟩ := (C.all k).2 h2
    exact ⟨w, List.mem_reverse.2 h4, h5, h3⟩
end Hps
end Go.Proofs.YtiojoailjiojjaaDoor

namespace Go.Proofs.YtiojoailjiojjaaDoor
open Go.RowKit
/-- the slice value '.slice A n _' reads as the sets xs, and lies below block B -/
def US (w : World) (B : Nat) (A : Option Addr) (n : Nat) (xs : List Int) : Prop :=
  xs.length = n ∧ (0 < n → ∃ g o, A = some ⟨g, o, none⟩ ∧ g < B ∧ ∀ (k : Nat) (b : Int), xs[k]? = some b → w.cell? ⟨g, o + k, none⟩ = some (.int .u64 b))
section
variable {w w' : World} {B B' n : Nat} {A : Option Addr} {xs : List Int}
theorem US.keep (h : US w B A n xs) (hk : ∀ p : Addr, p.block < B → w'.cell? p = w.cell? p) : US w' B A n xs :=
  ⟨h.1, fun hn => by
    obtain ⟨g, o, e, hb, hc⟩ := h.2 hn
    exact ⟨g, o, e, hb, fun k x hx => (hk _ hb).trans (hc k x hx)⟩⟩
theorem US.more (h : US w B A n xs) (hB : B ≤ B') : US w B' A n xs :=
  ⟨h.1, fun hn => by
    obtain ⟨g, o, e, hb, hc⟩ := h.2 hn
    exact ⟨g, o, e, by omega, hc⟩⟩
theorem US.below (h : US w B A n xs) (hb : Below B w w') : US w' B A n xs := h.keep fun _ hp => hb.cell hp
theorem US.up {w w' : World} {n : Nat} {A : Option Addr} {xs : List Int} (h : US w w.heap.size A n xs) (hb : Below w.heap.size w w') : US w' w'.heap.size A n xs := (h.below hb).more hb.size
theorem US.at_ {k : Nat} (h : US w B A n xs) (hk : k < n) : ∃ g o b, A = some ⟨g, o, none⟩ ∧ g < B ∧ xs[k]? = some b ∧ w.cell? ⟨g, o + k, none⟩ = some (.int .u64 b) := by
  obtain ⟨g, o, e, hb, hc⟩ := h.2 (by omega)
  have hl : k < xs.length := by have := h.1; omega
  have hx := List.getElem?_eq_getElem hl
  exact ⟨g, o, _, e, hb, hx, hc k _ hx⟩
end
/-- the value v owns the sets xs, in a row from block 'base' on -/
def OwnU (w : World) (base : Nat) (v : Value) (xs : List Int) : Prop := w.ownsRow base 72 1 v xs.length (xs.map (.int .u64))
theorem OwnU.form {w : World} {base : Nat} {v : Value} {xs : List Int} (h : OwnU w base v xs) : ∃ A c, v = .slice A xs.length c ∧ (0 < xs.length → ∃ g, A = some ⟨g, 0, none⟩ ∧ base ≤ g ∧ g < w.heap.size) := by
  rcases h.2 with ⟨rfl, h0⟩ | ⟨g, cap, cur, rfl, hb, hh, _⟩
  · exact ⟨none, 0, by rw [h0], fun h => by omega⟩
  · exact ⟨some ⟨g, 0, none⟩, cap, rfl, fun _ => ⟨g, rfl, hb, (Array.getElem?_eq_some_iff.1 hh).1⟩⟩
theorem OwnU.reads {w : World} {base n c : Nat} {A : Option Addr} {xs : List Int} (h : OwnU w base (.slice A n c) xs) : US w w.heap.size A n xs := by
  rcases h.2 with ⟨e, h0⟩ | ⟨g, cap, cur, e, hb, hh, _⟩
  · injection e with e1 e2 e3
    subst e2
    have : xs = [] := List.eq_nil_of_length_eq_zero h0
    subst this
    exact ⟨rfl, fun h => by omega⟩
  · injection e with e1 e2 e3
    subst e1 e2 e3
    refine ⟨rfl, fun hn => ⟨g, 0, rfl, (Array.getElem?_eq_some_iff.1 hh).1, fun k x hx => ?_⟩⟩
    have hk : k < xs.length := (List.getElem?_eq_some_iff.1 hx).1
    have c1 := World.ownsRow.cellAt h k (by omega)
    rw [Nat.zero_add]
    refine c1.trans ?_
    rw [List.getElem?_map, hx]
    rfl
theorem OwnU.below {w w' : World} {base B : Nat} {v : Value} {xs : List Int} (h : OwnU w base v xs) (hb : Below B w w') (hB : w.heap.size ≤ B) : OwnU w' base v xs := by
  refine ⟨h.1, ?_⟩
  rcases h.2 with h0 | ⟨g, cap, cur, e, hb', hh, hr⟩
  · exact .inl h0
  · exact .inr ⟨g, cap, cur, e, hb', (hb.block g (Nat.lt_of_lt_of_le (Array.getElem?_eq_some_iff.1 hh).1 hB)).trans hh, hr⟩
theorem OwnU.base {w : World} {base base' : Nat} {v : Value} {xs : List Int} (h : OwnU w base v xs) (hb : base' ≤ base) : OwnU w base' v xs := by
  refine ⟨h.1, ?_⟩
  rcases h.2 with h0 | ⟨g, cap, cur, e, hb', hh, hr⟩
  · exact .inl h0
  · exact .inr ⟨g, cap, cur, e, by omega, hh, hr⟩
theorem OwnU.far {w w' : World} {base : Nat} {v : Value} {xs : List Int} {row : Option Nat} (h : OwnU w base v xs) (hg : w.grownBy w' row) (hne : v.ownBlock = none ∨ v.ownBlock ≠ row) : OwnU w' base v xs := World.ownsRow.kept h hg hne
theorem OwnU.cast {w : World} {base : Nat} {v : Value} {xs ys : List Int} (e : xs = ys) (h : OwnU w base v xs) : OwnU w base v ys := e ▸ h
theorem OwnU.cap {w : World} {base n c : Nat} {A : Option Addr} {xs : List Int} (h : OwnU w base (.slice A n c) xs) : n = xs.length ∧ n ≤ c := by
  rcases h.2 with ⟨e, h0⟩ | ⟨g, cap, cur, e, _, _, hc, _⟩
  · injection e with e1 e2 e3
    omega
  · injection e with e1 e2 e3
    omega
theorem own_oneU (w : World) (b : Int) (base : Nat) (hb : base ≤ w.heap.size) : OwnU (w.alloc (.cells #[.int .u64 b] 72)) base (.slice (some ⟨w.heap.size, 0, none⟩) 1 1) [b] :=
  World.ownsRow_lit (base := base) (e := 72) (size := 1) w #[.int .u64 b] 1 hb (by unfold maxLen; omega) rfl
/-- one word of an owned row is written -/
theorem OwnU.put {w : World} {base g c j : Nat} {xs : List Int} (h : OwnU w base (.slice (some ⟨g, 0, none⟩) xs.length c) xs) (b : Int) :
    OwnU (w.setCell ⟨g, j, none⟩ (.int .u64 b)) base (.slice (some ⟨g, 0, none⟩) xs.length c) (xs.set j b) := by
  have := (World.ownsRow.stored h j (.int .u64 b)).1
  unfold OwnU
  rw [List.length_set, List.map_set]
  exact this
theorem info_set : (Tryd.prog.info? 72).map (fun i => (i.zero, i.size, i.bytes)) = some (some (.int .u64 0), 1, 8) := by kernel_rfl
theorem run_appendU (w : World) (base : Nat) (v : Value) (xs : List Int) (hown : OwnU w base v xs) (A : Option Addr) (m c B : Nat) (ys : List Int) (hr : US w B A m ys) (hn : xs.length + m ≤ 1099511627776) (hbase : base ≤ w.heap.size) (ty : TypeId) :
    ∃ v' w', (Builtin.append_ #[117, 117] ty #[v, .slice A m c]).run Tryd.prog w = .ok v' w' ∧ OwnU w' base v' (xs ++ ys) ∧ w.grownBy w' v.ownBlock ∧ (v'.ownBlock = v.ownBlock ∨ v'.ownBlock = some w.heap.size) := by
  obtain ⟨i0, hi0, hz0, hz1, hz2⟩ := info_parts info_set
  have hm := hr.1
  rcases A with _ | ad
  · have h0 : m = 0 := by
      rcases Nat.eq_zero_or_pos m with h0 | h0
      · exact h0
      · obtain ⟨g, o, e, _⟩ := hr.2 h0
        cases e
    subst h0
    have : ys = [] := List.eq_nil_of_length_eq_zero hm
    subst this
    refine ⟨v, w, ?_, by simpa using hown, World.grownBy.refl _ _, .inl rfl⟩
    rcases hown.2 with ⟨rfl, _⟩ | ⟨g, cap, cur, rfl, _, _, hnc, _⟩
    · simp [Builtin.append_, run_underlying Tryd.underlying117, sizeOf, typeInfo, hi0, Builtin.lenOf, Builtin.firstCells]
    · simp [Builtin.append_, run_underlying Tryd.underlying117, sizeOf, typeInfo, hi0, Builtin.lenOf, Builtin.firstCells, hnc, storeCells]
  · have hcells : ∀ j u, (ys.map (Value.int .u64))[j]? = some u → w.cell? (ad.add j) = some u := by
      intro j u hj
      rcases Nat.eq_zero_or_pos m with h0 | h0
      · subst h0
        have : ys = [] := List.eq_nil_of_length_eq_zero hm
        subst this
        simp at hj
      · obtain ⟨g, o, e, _, hc⟩ := hr.2 h0
        replace e := Option.some.inj e
        subst e
        rw [add_lit]
        rw [List.getElem?_map] at hj
        cases hy : ys[j]? with
        | none => rw [hy] at hj; cases hj
        | some b =>
          rw [hy] at hj
          replace hj := Option.some.inj hj
          subst hj
          exact hc j b hy
    obtain ⟨v', w', hrun, h2, h3, _, h5⟩ := run_append_own_at (P := Tryd.prog) w base 117 ty 72 i0 _ 1 8 Tryd.underlying117 hi0 hz0 hz1 hz2 rfl (by omega) v xs.length (xs.map (.int .u64)) hown ad m c (ys.map (.int .u64))
      (by rw [List.length_map, hm]; omega) hcells (by intro u hu; obtain ⟨b, _, rfl⟩ := List.mem_map.1 hu; rfl) (by unfold maxLen; omega) (by omega) hbase
    refine ⟨v', w', hrun, ?_, h3, h5⟩
    unfold OwnU
    rw [List.map_append, List.length_append, hm]
    exact h2
theorem wpList_appendU {w : World} {ops : Array Oper} {rest : List Oper} {o : Oper} {a : Act} {Q : Exit → Act → World → Prop} (hgd : o.guard = none) (s x : Operand)
    (ho : o.op = .call { callee := .builtin .append, args := #[s, x], argTypes := #[117, 117] })
    (base : Nat) (v : Value) (xs : List Int) (hs : a.eval s = v) (hown : OwnU w base v xs) (A : Option Addr) (m c B : Nat) (ys : List Int) (hx : a.eval x = .slice A m c) (hr : US w B A m ys)
    (hn : xs.length + m ≤ 1099511627776) (hbase : base ≤ w.heap.size)
    (h : ∀ v' w', OwnU w' base v' (xs ++ ys) → w.grownBy w' v.ownBlock → (v'.ownBlock = v.ownBlock ∨ v'.ownBlock = some w.heap.size) → wpList Tryd.prog ops Q rest (a.put o.dst v') w') : wpList Tryd.prog ops Q (o :: rest) a w :=
  wpList_plain hgd fun _ hK => by
    obtain ⟨v', w', hrun, h2, h3, h4⟩ := run_appendU w base v xs hown A m c B ys hr hn hbase o.type
    unfold Oper.wp execOp
    simp only [ho, resolve, invoke, builtin, Sem.run_bind, Sem.run_pure, Result.andThen_ok, List.map_toArray, List.map_cons, List.map_nil, hs, hx, hrun]
    exact hK _ _ (h v' w' h2 h3 h4)
theorem OwnU.put' {w : World} {base g c j n : Nat} {xs : List Int} (h : OwnU w base (.slice (some ⟨g, 0, none⟩) n c) xs) (hn : xs.length = n) (b : Int) :
    OwnU (w.setCell ⟨g, j, none⟩ (.int .u64 b)) base (.slice (some ⟨g, 0, none⟩) n c) (xs.set j b) := by
  subst hn
  exact h.put b
theorem OwnU.frozen {w : World} {base g c n : Nat} {xs : List Int} (h : OwnU w base (.slice (some ⟨g, 0, none⟩) n c) xs) (hn : xs.length = n) (i : Nat) : w.frozen? ⟨g, i, none⟩ = false := by
  subst hn
  exact World.ownsRow.frozenAt h i
end Go.Proofs.YtiojoailjiojjaaDoor

namespace Go.Proofs.YtiojoailjiojjaaDoor
open Go.RowKit
set_option maxRecDepth 100000
theorem rows_type {w : World} {b1 b2 s1 s2 n1 n2 : Nat} {e1 e2 : TypeId} {v1 v2 : Value} {xs ys : List Value} (h : w.ownsRow b1 e1 s1 v1 n1 xs) (h' : w.ownsRow b2 e2 s2 v2 n2 ys) (hne : e1 ≠ e2) : v1.ownBlock = none ∨ v1.ownBlock ≠ v2.ownBlock := by
  rcases h.2 with ⟨rfl, _⟩ | ⟨g, cap, cur, rfl, _, hh, _⟩
  · exact .inl rfl
  · right
    intro e
    rcases h'.2 with ⟨rfl, _⟩ | ⟨g', cap', cur', rfl, _, hh', _⟩
    · cases e
    · obtain rfl : g = g' := Option.some.inj e
      rw [hh] at hh'
      injection hh' with hh'
      injection hh' with _ h2
      exact hne h2
/-- components as numbers -/
def natsI (f : List Nat) : List Int := f.map fun (k : Nat) => (k : Int)
theorem natsI_snoc (f : List Nat) (w : Nat) : natsI f ++ [(w : Int)] = natsI (f ++ [w]) := by simp [natsI]
theorem natsI_len (f : List Nat) : (natsI f).length = f.length := by simp [natsI]
/-- a walk in the box b: its times in block g, all from block B on -/
structure WkSt (w : World) (B b g : Nat) (vc : Value) (n : Nat) (ov fv : Value) (S : Hps.Tw) : Prop where
  t : OwnI w B (.slice (some ⟨g, 0, none⟩) n n) S.t
  o : OwnI w B ov S.o
  f : OwnU w B fv (natsI S.f)
  sep : ov.ownBlock ≠ some g
  box : Rw w b 148 #[vc, .int .i64 S.met, .slice (some ⟨g, 0, none⟩) n n, ov, fv]
  lo : B ≤ b
  len : S.t.length = n
section
variable {w w' : World} {B b g n : Nat} {vc ov fv : Value} {S : Hps.Tw}
theorem WkSt.ne (W : WkSt w B b g vc n ov fv S) : b ≠ g ∧ some b ≠ ov.ownBlock ∧ some b ≠ fv.ownBlock := by
  refine ⟨fun e => ?_, row_type W.o W.box (by decide), row_type W.f W.box (by decide)⟩
  have h1 : some b ≠ some g := row_type W.t W.box (by decide)
  exact h1 (by rw [e])
theorem WkSt.up (W : WkSt w B b g vc n ov fv S) (h : Below w.heap.size w w') : WkSt w' B b g vc n ov fv S :=
  ⟨W.t.below h (Nat.le_refl _), W.o.below h (Nat.le_refl _), W.f.below h (Nat.le_refl _), W.sep, W.box.keep h W.box.lt, W.lo, W.len⟩
theorem WkSt.t_at (W : WkSt w B b g vc n ov fv S) {k : Nat} {x : Int} (h : S.t[k]? = some x) : w.cell? ⟨g, k, none⟩ = some (.int .i64 x) := by
  have hk : k < n := by have := (List.getElem?_eq_some_iff.1 h).1; have := W.len; omega
  obtain ⟨g', o', y, e1, _, hy, c1⟩ := W.t.reads.at_ hk
  injection e1 with e1
  injection e1 with e2 e3
  subst e2 e3
  rw [Nat.zero_add] at c1
  rw [h] at hy
  rw [c1, ← Option.some.inj hy]
theorem WkSt.met (W : WkSt w B b g vc n ov fv S) (m : Nat) : WkSt (w.setCell ⟨b, 1, none⟩ (.int .i64 m)) B b g vc n ov fv ⟨m, S.t, S.o, S.f⟩ := by
  obtain ⟨h1, h2, h3⟩ := W.ne
  have hp := put_any w b 1 (.int .i64 m)
  exact ⟨W.t.far hp (.inr fun e => h1 (Option.some.inj e).symm), W.o.far hp (.inr h2.symm), W.f.far hp (.inr h3.symm), W.sep, W.box.put 1 _, W.lo, W.len⟩
theorem WkSt.time (W : WkSt w B b g vc n ov fv S) (k : Nat) (x : Int) : WkSt (w.setCell ⟨g, k, none⟩ (.int .i64 x)) B b g vc n ov fv ⟨S.met, S.t.set k x, S.o, S.f⟩ := by
  have hp := put_any w g k (.int .i64 x)
  have h4 := rows_type W.f W.t (by decide)
  exact ⟨W.t.put' W.len x, W.o.far hp (.inr W.sep), W.f.far hp h4, W.sep, W.box.other W.ne.1 _, W.lo, by simpa using W.len⟩
/-- another slice of numbers goes into the box -/
theorem WkSt.seto {ov' : Value} {l : List Int} (W : WkSt w B b g vc n ov fv S) (ho : OwnI w B ov' l) (hs : ov'.ownBlock ≠ some g) : WkSt (w.setCell ⟨b, 3, none⟩ ov') B b g vc n ov' fv ⟨S.met, S.t, l, S.f⟩ := by
  obtain ⟨h1, h2, h3⟩ := W.ne
  have h4 : some b ≠ ov'.ownBlock := row_type ho W.box (by decide)
  have hp := put_any w b 3 ov'
  exact ⟨W.t.far hp (.inr fun e => h1 (Option.some.inj e).symm), ho.far hp (.inr h4.symm), W.f.far hp (.inr h3.symm), hs, W.box.put 3 _, W.lo, W.len⟩
/-- what an append to the numbers leaves as it was -/
theorem WkSt.grow (W : WkSt w B b g vc n ov fv S) {ov' : Value} {l : List Int} (ho : OwnI w' B ov' l) (hg : w.grownBy w' ov.ownBlock) (hq : ov'.ownBlock = ov.ownBlock ∨ ov'.ownBlock = some w.heap.size) : WkSt (w'.setCell ⟨b, 3, none⟩ ov') B b g vc n ov' fv ⟨S.met, S.t, l, S.f⟩ ∧ w'.frozen? ⟨b, 3, none⟩ = false ∧ w'.cell? ⟨b, 3, none⟩ = some ov := by
  obtain ⟨h1, h2, h3⟩ := W.ne
  have bx := W.box.far hg h2
  have ht : OwnI w' B (.slice (some ⟨g, 0, none⟩) n n) S.t := W.t.far hg (.inr fun e => W.sep e.symm)
  have hf : OwnU w' B fv (natsI S.f) := W.f.far hg (rows_type W.f W.o (by decide))
  have h4 : some b ≠ ov'.ownBlock := row_type ho bx (by decide)
  have hp := put_any w' b 3 ov'
  refine ⟨⟨ht.far hp (.inr fun e => h1 (Option.some.inj e).symm), ho.far hp (.inr h4.symm), hf.far hp (.inr h3.symm), ?_, bx.put 3 _, W.lo, W.len⟩, bx.frozen 3, bx.cell 3⟩
  rcases hq with e | e
  · rw [e]; exact W.sep
  · rw [e]
    intro e2
    have := (World.ownsRow.lt W.t g rfl).2
    have := Option.some.inj e2
    omega
theorem WkSt.growf (W : WkSt w B b g vc n ov fv S) {fv' : Value} {l : List Nat} (ho : OwnU w' B fv' (natsI l)) (hg : w.grownBy w' fv.ownBlock) : WkSt (w'.setCell ⟨b, 4, none⟩ fv') B b g vc n ov fv' ⟨S.met, S.t, S.o, l⟩ ∧ w'.frozen? ⟨b, 4, none⟩ = false ∧ w'.cell? ⟨b, 4, none⟩ = some fv := by
  obtain ⟨h1, h2, h3⟩ := W.ne
  have bx := W.box.far hg h3
  have ht : OwnI w' B (.slice (some ⟨g, 0, none⟩) n n) S.t := W.t.far hg (rows_type W.t W.f (by decide))
  have hov : OwnI w' B ov S.o := W.o.far hg (rows_type W.o W.f (by decide))
  have h4 : some b ≠ fv'.ownBlock := row_type ho bx (by decide)
  have hp := put_any w' b 4 fv'
  exact ⟨⟨ht.far hp (.inr fun e => h1 (Option.some.inj e).symm), hov.far hp (.inr h2.symm), ho.far hp (.inr h4.symm), W.sep, bx.put 4 _, W.lo, W.len⟩, bx.frozen 4, bx.cell 4⟩
end
namespace Hps
theorem shutW_lt {l : List Int} {n : Nat} (h : ∀ x ∈ l, ∃ k : Nat, x = k ∧ k < n) (hn : n ≤ 40) : shutW 0 l < 18446744073709551616 := by
  refine Nat.lt_trans (Nat.lt_pow_two_of_testBit (n := 40) _ fun i hi => ?_) (by decide)
  rw [shutW_at _ _ fun x hx => by obtain ⟨k, h1, _⟩ := h x hx; omega]
  have : (i : Int) ∉ l := fun hm => by
    obtain ⟨k, h1, h2⟩ := h _ hm
    omega
  simp [this]
end Hps
theorem index_any (A : Option Addr) (n c : Nat) (x : Int) (pre tl : List Int) (w : World) (h : IS w w.heap.size A n (pre ++ x :: tl)) (hx : x ∉ pre) (_hn : n ≤ 1099511627776) :
    Calls Tryd.prog 153 #[.slice A n c, .int .i64 x] w fun e w' => e = .returned (.int .i64 pre.length) ∧ w = w' := by
  have hl := h.1
  rw [List.length_append, List.length_cons] at hl
  have HX := Lib.hid hx
  clear hx
  go_enter Tryd.func153, Tryd.ntmps153
  go_wp2_with fail
  go_loopw [8] (fun i wr => ∃ k : Nat, k ≤ pre.length ∧ i = .int .i64 k ∧ wr = w) (fun i _ => n - (intOf i).toNat)
  case atStart => exact ⟨0, Nat.zero_le _, rfl, rfl⟩
  case round =>
    obtain ⟨k, hk, rfl, rfl⟩ := hrel
    obtain ⟨g, o, y, rfl, hg, hy, c1⟩ := h.at_ (k := k) (by omega)
    have hlt' : (k : Int) < n := by omega
    rcases Nat.lt_or_ge k pre.length with h1 | h1
    · have hne : (x == y) = false := by
        rw [beq_eq_false_iff_ne]
        rintro rfl
        rw [List.getElem?_append_left h1] at hy
        exact HX.out (List.mem_of_getElem? hy)
      clear hy
      go_wp2_with fail
      go_roundw
      case rel => exact ⟨k + 1, by omega, by go_num, trivial⟩
      case measure => simp [intOf]; omega
    · have hkp : k = pre.length := by omega
      have hxy : y = x := by
        rw [List.getElem?_append_right h1, hkp, Nat.sub_self] at hy
        exact (Option.some.inj hy).symm
      subst hxy
      have HK := Lib.hid hkp
      clear hy hkp
      go_wp2_with fail
      go_ret
      exact ⟨by rw [HK.out]; rfl, rfl⟩
set_option maxHeartbeats 2000000 in
theorem findComponent_any (B b g n : Nat) (vc ov fv : Value) (S : Hps.Tw) (v : Nat) (pre tl : List Int) (w : World) (W : WkSt w B b g vc n ov fv S) (ho : S.o = pre ++ (v : Int) :: tl) (hpre : (v : Int) ∉ pre)
    (hall : ∀ x ∈ (v : Int) :: tl, ∃ k : Nat, x = k ∧ k < n) (hn : n ≤ 40) (hol : S.o.length ≤ 40) (hfl : S.f.length ≤ 40) (hB : B ≤ w.heap.size) :
    Calls Tryd.prog 139 #[.pointer (some ⟨b, 0, none⟩), .int .i64 v] w fun e w' => e = .returned (.tuple #[]) ∧
      ∃ ov' fv', WkSt w' B b g vc n ov' fv' ⟨S.met, Hps.shutT S.t ((v : Int) :: tl), pre, S.f ++ [Hps.shutW 0 ((v : Int) :: tl)]⟩ ∧ Below B w w' := by
  obtain ⟨L, hL⟩ : ∃ L, (v : Int) :: tl = L := ⟨_, rfl⟩
  have HO := Lib.hid ho
  have HOW := W.o
  rw [ho] at HOW
  obtain ⟨A, c, rfl, hA⟩ := HOW.form
  obtain ⟨p, hp⟩ : ∃ p, pre.length = p := ⟨_, rfl⟩
  obtain ⟨q, hq⟩ : ∃ q, L.length = q := ⟨_, rfl⟩
  have hlen : (pre ++ (v : Int) :: tl).length = p + q := by rw [hL, List.length_append, hp, hq]
  have hq1 : 1 ≤ q := by rw [← hq, ← hL]; simp
  rw [hlen] at W HOW hA
  obtain ⟨go, rfl, hgB, hgl⟩ := hA (by omega)
  have hcap := HOW.cap.2
  rw [hL] at hall ⊢
  have hpq : p + q ≤ 40 := by rw [← hlen, ← ho]; exact hol
  have HALL := Lib.hid hall
  have hrd := HOW.reads
  have x3 : w.cell? ⟨b, 3, none⟩ = some (.slice (some ⟨go, 0, none⟩) (p + q : Nat) c) := W.box.cell 3
  have HTL : Hid (∀ (k : Nat) (x : Int), L[k]? = some x → (pre ++ (v : Int) :: tl)[p + k]? = some x) := Lib.hid fun k x hk => by
    rw [hL, List.getElem?_append_right (by omega), ← hk]
    congr 1
    omega
  have hpc : (p : Int) ≤ (p + q : Nat) := by omega
  have hsub : ((p + q : Nat) : Int) - p = q := by omega
  clear hall
  go_enter Tryd.func139, Tryd.ntmps139
  go_wp2_with fail
  refine (index_any _ _ _ (v : Int) pre tl w hrd hpre (by omega)).mono ?_
  rw [hp]
  rintro e w1 ⟨rfl, rfl⟩
  go_wp2_with fail
  go_loopw [5, 21] (fun cv i wr => ∃ k : Nat, k ≤ q ∧ i = .int .i64 k ∧ cv = .int .u64 (Hps.shutW 0 (L.take k) : Nat) ∧ WkSt wr B b g vc n (.slice (some ⟨go, 0, none⟩) (p + q) c) fv ⟨S.met, Hps.shutT S.t (L.take k), S.o, S.f⟩ ∧ Below B w wr) (fun _ i _ => q - (intOf i).toNat)
  case atStart => exact ⟨0, Nat.zero_le _, rfl, rfl, W, Below.refl _ _⟩
  case round =>
    clear W HOW hrd x3 hA
    obtain ⟨k, hk, rfl, rfl, W, bb⟩ := hrel
    have HOW := W.o
    rw [HO.out] at HOW
    have x3 : wr.cell? ⟨b, 3, none⟩ = some (.slice (some ⟨go, 0, none⟩) (p + q : Nat) c) := W.box.cell 3
    have x2 : wr.cell? ⟨b, 2, none⟩ = some (.slice (some ⟨g, 0, none⟩) n n) := W.box.cell 2
    have f3 : wr.frozen? ⟨b, 3, none⟩ = false := W.box.frozen 3
    by_cases hlt : k < q
    · have hxk := List.getElem?_eq_getElem (show k < L.length by omega)
      obtain ⟨kk, hkk, hkn⟩ := HALL.out _ (List.mem_of_getElem? hxk)
      rw [hkk] at hxk
      have hxo := HTL.out k _ hxk
      obtain ⟨g', o', y, e1, _, hy, c1⟩ := HOW.reads.at_ (k := p + k) (by omega)
      injection e1 with e1
      injection e1 with e2 e3
      subst e2 e3
      rw [Nat.zero_add] at c1
      rw [hxo] at hy
      obtain rfl := Option.some.inj hy
      obtain ⟨g', o', y2, e1, _, _, c2⟩ := W.t.reads.at_ (k := kk) hkn
      injection e1 with e1
      injection e1 with e2 e3
      subst e2 e3
      rw [Nat.zero_add] at c2
      have fz : wr.frozen? ⟨g, kk, none⟩ = false := W.t.frozen W.len kk
      have hV := Hps.shutW_lt (l := L.take k) (fun x hx => HALL.out x (List.mem_of_mem_take hx)) hn
      have HT := Lib.hid (take_snocI hxk)
      have hlt' : (k : Int) < q := by omega
      have hkn' : (kk : Int) < n := by omega
      have hkneg : ¬ ((kk : Int) < 0) := by omega
      obtain ⟨p1, p2, p3⟩ := Hps.pow_in (k := kk) (by omega)
      have hor := Hps.or_in (V := Hps.shutW 0 (L.take k)) (k := kk) hV (by omega)
      have SW := Lib.hid (show Hps.shutW 0 (L.take (k + 1)) = Hps.shutW 0 (L.take k) ||| 2 ^ kk by rw [HT.out, Hps.shutW_snoc]; rfl)
      have SS := Lib.hid (show WkSt (wr.setCell ⟨g, kk, none⟩ (.int .i64 41)) B b g vc n (.slice (some ⟨go, 0, none⟩) (p + q) c) fv ⟨S.met, Hps.shutT S.t (L.take (k + 1)), S.o, S.f⟩ by
        have := W.time kk 41
        rw [HT.out, Hps.shutT_snoc]
        exact this)
      have bn := bb.setCell (p := ⟨g, kk, none⟩) (World.ownsRow.lt W.t g rfl).1 (.int .i64 41)
      obtain ⟨V, hVV⟩ : ∃ V, Hps.shutW 0 (L.take k) = V := ⟨_, rfl⟩
      rw [hVV] at hor SW
      have HVV := Lib.hid hVV
      rw [HVV.out]
      clear hxk hkk hxo hVV hV W HOW
      go_wp2_with fail
      go_roundw
      case rel => exact ⟨k + 1, by omega, by go_num, by rw [SW.out], SS.out, bn⟩
      case measure => simp [intOf]; omega
    · obtain rfl : k = q := by omega
      rw [List.take_of_length_le (by omega)] at W ⊢
      have oc := OwnI.cast (show (pre ++ (v : Int) :: tl).take p = pre by rw [← hp]; simp) (HOW.cut (k := p) (by omega))
      have W2 := W.seto oc W.sep
      have b2 := bb.setCell (p := ⟨b, 3, none⟩) W.lo (.slice (some ⟨go, 0, none⟩) p c)
      have hV := Hps.shutW_lt (l := L) HALL.out hn
      obtain ⟨V, hVV⟩ : ∃ V, Hps.shutW 0 L = V := ⟨_, rfl⟩
      rw [hVV] at hV ⊢
      obtain ⟨w2, hw2⟩ : ∃ w2, wr.setCell ⟨b, 3, none⟩ (.slice (some ⟨go, 0, none⟩) p c) = w2 := ⟨_, rfl⟩
      rw [hw2] at W2 b2
      have x4 : w2.cell? ⟨b, 4, none⟩ = some fv := W2.box.cell 4
      have SA := W2.up ((Below.refl w2.heap.size w2).alloc (Nat.le_refl _) (.cells #[.int .u64 V] 72))
      have rr : US (w2.alloc (.cells #[.int .u64 V] 72)) (w2.alloc (.cells #[.int .u64 V] 72)).heap.size (some ⟨w2.heap.size, 0, none⟩) 1 [(V : Int)] := (own_oneU w2 V 0 (Nat.zero_le _)).reads
      have sz2 := b2.size
      have hsz : B ≤ (w2.alloc (.cells #[.int .u64 V] 72)).heap.size := by simp; omega
      have bna := b2.alloc (by omega) (.cells #[.int .u64 V] 72)
      have hpc2 : (p : Int) ≤ c := by omega
      have hfl2 : (natsI S.f).length + 1 ≤ 1099511627776 := by rw [natsI_len]; omega
      clear HOW W oc
      go_wp2_with (at_builtin; refine wpList_appendU rfl (.tmp 49) (.tmp 51) rfl B _ (natsI S.f) rfl SA.f (some ⟨w2.heap.size, 0, none⟩) 1 1 _ [(V : Int)] rfl rr hfl2 hsz ?_; intro v5 w5 o5 g5 _s5; rw [natsI_snoc] at o5; obtain ⟨S5, f5, z5⟩ := SA.growf o5 g5; have bn5 := (bna.grown g5 hsz (fun k hk => (World.ownsRow.lt SA.f k hk).1)).setCell (p := ⟨b, 4, none⟩) SA.lo v5; obtain ⟨A5, c5, e5, _⟩ := o5.form; generalize (natsI (S.f ++ [V])).length = l5 at e5; clear o5 g5; subst e5)
      exact bodyPost_end (results_none rfl _ _ _) rfl ⟨rfl, ⟨_, _, S5⟩, bn5⟩
end Go.Proofs.YtiojoailjiojjaaDoor

namespace Go.Proofs.YtiojoailjiojjaaDoor
open Go.RowKit
set_option maxRecDepth 100000
/-- a visit returns a time and leaves a walk behind that is as it must be -/
def VisitGave (w0 : World) (B b g n c : Nat) (A : Option Addr) (cs : List Cl) (S : Hps.Tw) (v : Nat) (e : Ending) (w' : World) : Prop :=
  ∃ (m : Int) (ov' fv' : Value) (S' : Hps.Tw), e = .returned (.int .i64 m) ∧ Hps.TwPost cs S v m S' ∧ WkSt w' B b g (.slice A n c) n ov' fv' S' ∧ Below B w0 w'
/-- a cell that was met before -/
theorem visit_seen (w0 : World) (B b g n c : Nat) (A : Option Addr) (cs : List Cl) (v : Nat) (w : World) (ov fv : Value) (S : Hps.Tw) (y : Int) (hy : S.t[v]? = some y) (h0 : y ≠ 0) (ok : Hps.TwOk cs S) (W : WkSt w B b g (.slice A n c) n ov fv S) (bb : Below B w0 w) :
    Calls Tryd.prog 122 #[.pointer (some ⟨b, 0, none⟩), .int .i64 v] w (VisitGave w0 B b g n c A cs S v) := by
  have c1 := W.t_at hy
  have x2 : w.cell? ⟨b, 2, none⟩ = some (.slice (some ⟨g, 0, none⟩) n n) := W.box.cell 2
  have hv' : (v : Int) < n := by have := (List.getElem?_eq_some_iff.1 hy).1; have := W.len; omega
  have P := Lib.hid (Hps.TwPost.seen ok hy h0)
  have hy0 : y > 0 := by have := (ok.rng v y hy).1; omega
  clear hy ok
  go_enter Tryd.func122, Tryd.ntmps122
  go_wp2_with fail
  go_ret
  exact ⟨y, ov, fv, S, rfl, P.out, W, bb⟩
set_option maxHeartbeats 4000000 in
theorem visit_any (w0 : World) (B b g n c : Nat) (A : Option Addr) (cs : List Cl) (hcs : CS w0 B A n cs) (hrf : ∀ cl ∈ cs, Hps.okRefs cs cl.r = true) (h3 : ∀ cl ∈ cs, cl.r.length ≤ 3) (hn : n ≤ 40) (hB : B ≤ w0.heap.size) (fuel : Nat) :
    ∀ (v : Nat) (w : World) (ov fv : Value) (S : Hps.Tw), S.t.count 0 ≤ fuel → v < n → Hps.TwOk cs S → WkSt w B b g (.slice A n c) n ov fv S → Below B w0 w →
    Calls Tryd.prog 122 #[.pointer (some ⟨b, 0, none⟩), .int .i64 v] w (VisitGave w0 B b g n c A cs S v) := by
  have hlc := hcs.1
  have HRF := Lib.hid hrf
  have HC3 := Lib.hid h3
  clear hrf h3
  induction fuel with
  | zero =>
    intro v w ov fv S hz hv ok W bb
    have hl := List.getElem?_eq_getElem (show v < S.t.length by have := W.len; omega)
    refine visit_seen w0 B b g n c A cs v w ov fv S _ hl (fun e => ?_) ok W bb
    rw [e] at hl
    have h1 := List.count_pos_iff.2 (List.mem_of_getElem? hl)
    omega
  | succ fuel ih =>
    intro v w ov fv S hz hv ok W bb
    obtain ⟨g', o', y, e1, _, hy, c1⟩ := W.t.reads.at_ hv
    injection e1 with e1
    injection e1 with e2 e3
    subst e2 e3
    rw [Nat.zero_add] at c1
    have x2 : w.cell? ⟨b, 2, none⟩ = some (.slice (some ⟨g, 0, none⟩) n n) := W.box.cell 2
    have hv' : (v : Int) < n := by omega
    have OK := Lib.hid ok
    by_cases h0 : y = 0
    · subst h0
      have IN := Lib.hid (Hps.TwIn.enter ok hy)
      have hmet : S.met < 40 := by
        have h1 := (IN.out.ok).cnt
        have h2 := ok.le
        simp only at h1
        omega
      have hcnt : (S.t.set v ((S.met : Int) + 1)).count 0 ≤ fuel := by
        have := Hps.count_set0 (y := (S.met : Int) + 1) hy (by omega)
        omega
      have x1 : w.cell? ⟨b, 1, none⟩ = some (.int .i64 S.met) := W.box.cell 1
      have f1 : w.frozen? ⟨b, 1, none⟩ = false := W.box.frozen 1
      have W1 := W.met (S.met + 1)
      have b1 := bb.setCell (p := ⟨b, 1, none⟩) W.lo (.int .i64 ((S.met + 1 : Nat) : Int))
      have hu : IntKind.i64.wrap ((S.met : Int) + 1) = (S.met : Int) + 1 := IntWalk.i64_in _ (by omega)
      rw [show ((S.met + 1 : Nat) : Int) = (S.met : Int) + 1 by omega] at b1 W1
      obtain ⟨w1, hw1⟩ : ∃ w1, w.setCell ⟨b, 1, none⟩ (.int .i64 ((S.met : Int) + 1)) = w1 := ⟨_, rfl⟩
      rw [hw1] at b1 W1
      have y1 : w1.cell? ⟨b, 1, none⟩ = some (.int .i64 ((S.met : Int) + 1)) := by have := W1.box.cell 1; rw [this]; simp
      have y2 : w1.cell? ⟨b, 2, none⟩ = some (.slice (some ⟨g, 0, none⟩) n n) := W1.box.cell 2
      have d1 : w1.cell? ⟨g, v, none⟩ = some (.int .i64 0) := by
        obtain ⟨g', o', y, e1, _, hy2, c1⟩ := W1.t.reads.at_ hv
        injection e1 with e1
        injection e1 with e2 e3
        subst e2 e3
        rw [Nat.zero_add] at c1
        rw [hy] at hy2
        rw [c1, ← Option.some.inj hy2]
      have fz : w1.frozen? ⟨g, v, none⟩ = false := W1.t.frozen W1.len v
      clear ok hy
      go_enter Tryd.func122, Tryd.ntmps122
      have hmlt := OK.out.le
      obtain ⟨gc, oc, cl, A', q, cc, e1, hgc, hcl, _, _, d3, hmc, hi⟩ := hcs.at_ hv
      subst e1
      have HCL := Lib.hid hcl
      have hq3 : q ≤ 3 := by have := HC3.out cl (List.mem_of_getElem? hcl); have := hi.1; omega
      have HOK := Lib.hid (HRF.out cl (List.mem_of_getElem? hcl))
      have hql := hi.1
      clear hcl
      have W2 := (W1.time v ((S.met : Int) + 1)).up (Below.refl _ _).drew
      have b2 := (b1.setCell (p := ⟨g, v, none⟩) (World.ownsRow.lt W1.t g rfl).1 (.int .i64 ((S.met : Int) + 1))).drew
      go_wp2_with fail
      go_region
      obtain ⟨w2, hw2⟩ : ∃ w2, (w1.setCell ⟨g, v, none⟩ (.int .i64 ((S.met : Int) + 1))).drew = w2 := ⟨_, rfl⟩
      rw [hw2] at W2 b2 ⊢
      clear hw2 W1 W y1 y2 d1 fz x1 x2 f1 c1 hu b1 hw1
      have z3 : w2.cell? ⟨b, 3, none⟩ = some ov := W2.box.cell 3
      have SA := W2.up ((Below.refl w2.heap.size w2).alloc (Nat.le_refl _) (.cells #[.int .i64 v] 3))
      have rr : IS (w2.alloc (.cells #[.int .i64 v] 3)) (w2.alloc (.cells #[.int .i64 v] 3)).heap.size (some ⟨w2.heap.size, 0, none⟩) 1 [(v : Int)] := (own_oneI w2 v 0 (Nat.zero_le _)).reads
      have sz2 := b2.size
      have hsz : B ≤ (w2.alloc (.cells #[.int .i64 v] 3)).heap.size := by simp; omega
      have bna := b2.alloc (by omega) (.cells #[.int .i64 v] 3)
      have hol : S.o.length + 1 ≤ 1099511627776 := by have := OK.out.few; omega
      go_wp2_with (at_builtin; refine wpList_appendI rfl (.tmp 44) (.tmp 46) rfl B _ S.o rfl SA.o (some ⟨w2.heap.size, 0, none⟩) 1 1 _ [(v : Int)] rfl rr hol hsz ?_; intro v5 w5 o5 g5 s5; obtain ⟨S5, f5, z5⟩ := SA.grow o5 g5 s5; have bn5 := (bna.grown g5 hsz (fun k hk => (World.ownsRow.lt SA.o k hk).1)).setCell (p := ⟨b, 3, none⟩) SA.lo v5; obtain ⟨A5, c5, e5, _⟩ := o5.form; generalize (S.o ++ [(v : Int)]).length = l5 at e5; clear o5 g5 s5; subst e5; have q0 : (w5.setCell ⟨b, 3, none⟩ (.slice A5 l5 c5)).cell? ⟨b, 0, none⟩ = some (.slice (some ⟨gc, oc, none⟩) n c) := S5.box.cell 0; have q2 : (w5.setCell ⟨b, 3, none⟩ (.slice A5 l5 c5)).cell? ⟨b, 2, none⟩ = some (.slice (some ⟨g, 0, none⟩) n n) := S5.box.cell 2; have q4 : (w5.setCell ⟨b, 3, none⟩ (.slice A5 l5 c5)).cell? ⟨g, v, none⟩ = some (.int .i64 ((S.met : Int) + 1)) := S5.t_at IN.out.tv; have q5 := (bn5.cell (p := ⟨gc, oc + v * 3 + 2, none⟩) hgc).trans d3)
      go_loopw [5, 66] (fun lv i wr => ∃ (k : Nat) (m : Int) (ov fv : Value) (S1 : Hps.Tw), k ≤ q ∧ i = .int .i64 k ∧ lv = .int .i64 m ∧ Hid (Hps.TwIn cs S v (cl.r.take k) m S1) ∧ WkSt wr B b g (.slice (some ⟨gc, oc, none⟩) n c) n ov fv S1 ∧ Below B w0 wr) (fun _ i _ => q - (intOf i).toNat)
      case atStart => exact ⟨0, (S.met : Int) + 1, _, _, _, Nat.zero_le _, rfl, rfl, IN, S5, bn5⟩
      case round =>
        clear S5 q0 q2 q4 q5 bn5 z3 z5 f5 IN SA rr sz2 hsz bna W2 b2
        obtain ⟨k, m, ov, fv, S1, hk, rfl, rfl, IN, W, bb⟩ := hrel
        by_cases hlt : k < q
        · obtain ⟨gr, or, x, e2, hgr, hx, d0⟩ := (hi.below bb).at_ hlt
          subst e2
          have hlt' : (k : Int) < q := by omega
          have HT := Lib.hid (take_snocI hx)
          have hox := Hps.okRefs_at HOK.out hx
          by_cases hm1 : x = -1
          · subst hm1
            have IN2 := Lib.hid IN.out.skip
            rw [← HT.out] at IN2
            clear hx hox
            go_wp2_with fail
            go_roundw
            case rel => exact ⟨k + 1, m, ov, fv, S1, by omega, by go_num, rfl, IN2, W, bb⟩
            case measure => simp [intOf]; omega
          · have hne : (x != -1) = true := by rw [bne_iff_ne]; exact hm1
            have hx0 : 0 ≤ x := by have := Hps.okRef_lo hox; omega
            obtain ⟨y, rfl, hy, _⟩ := Hps.okRef_nat hox hx0
            rw [hlc] at hy
            have HE := Lib.hid (show Hps.Edge cs v y from ⟨cl, HCL.out, List.mem_of_getElem? hx⟩)
            have hfl : S1.t.count 0 ≤ fuel := by
              have e1 := IN.out.ok.cnt
              have e2 := OK.out.cnt
              have e3 := IN.out.met
              omega
            have HC := Lib.hid (ih y wr ov fv S1 hfl hy IN.out.ok W bb)
            clear hx hox hm1
            go_wp2_with fail
            refine HC.out.mono ?_
            rintro e w3 ⟨m2, ov2, fv2, S2, rfl, P, W2, bb2⟩
            have IN2 := Lib.hid (IN.out.step P HE.out)
            rw [← HT.out] at IN2
            clear HC P W bb
            go_wp2_with fail
            go_roundw
            case rel => exact ⟨k + 1, _, ov2, fv2, S2, by omega, by go_num, rfl, by rw [show min m m2 = if m2 < m then m2 else m by split <;> omega] at IN2; exact IN2, W2, bb2⟩
            case measure => simp [intOf]; omega
        · obtain rfl : k = q := by omega
          rw [List.take_of_length_le (by omega)] at IN
          have q2 : wr.cell? ⟨b, 2, none⟩ = some (.slice (some ⟨g, 0, none⟩) n n) := W.box.cell 2
          have q4 := W.t_at IN.out.tv
          by_cases hm : m = (S.met : Int) + 1
          · subst hm
            obtain ⟨tl, ho, -⟩ := IN.out.opn
            have hnd := IN.out.ok.nd
            rw [ho, List.nodup_append] at hnd
            have hpre : (v : Int) ∉ S.o := fun hx => hnd.2.2 _ hx _ (by simp) rfl
            have hall : ∀ x ∈ (v : Int) :: tl, ∃ k : Nat, x = k ∧ k < n := fun x hx => by
              obtain ⟨j, y, h1, h2, _⟩ := IN.out.ok.opn x (by rw [ho, List.mem_append]; exact .inr hx)
              have := (List.getElem?_eq_some_iff.1 h2).1
              have := W.len
              exact ⟨j, h1, by omega⟩
            have hfw := IN.out.ok.few
            have hml := IN.out.ok.met_le
            have P := Lib.hid (IN.out.shut HCL.out ho)
            have HF := Lib.hid (findComponent_any B b g n _ ov fv S1 v S.o tl wr W ho hpre hall hn (by omega) (by omega) (by have := bb.size; omega))
            clear ho hnd hpre hall W IN HCL
            go_wp2_with fail
            refine HF.out.mono ?_
            rintro e w6 ⟨rfl, ov6, fv6, W6, b6⟩
            have bb6 := bb.trans b6
            go_wp2_with fail
            go_ret
            exact ⟨_, _, _, _, rfl, P.out, W6, bb6⟩
          · have hne : (m == (S.met : Int) + 1) = false := by rw [beq_eq_false_iff_ne]; exact hm
            have P := Lib.hid (IN.out.out HCL.out hm)
            clear IN hm
            go_wp2_with fail
            go_ret
            exact ⟨_, _, _, _, rfl, P.out, W, bb⟩
    · exact visit_seen w0 B b g n c A cs v w ov fv S y hy h0 ok W bb
end Go.Proofs.YtiojoailjiojjaaDoor

namespace Go.Proofs.YtiojoailjiojjaaDoor
open Go.RowKit
set_option maxRecDepth 100000
/-- the first k and the last k elements are turned round -/
def RevTo (xs ys : List Int) (k : Nat) : Prop := ys.length = xs.length ∧ ∀ i, i < xs.length → ys[i]? = if i < k ∨ xs.length ≤ i + k then xs[xs.length - 1 - i]? else xs[i]?
theorem RevTo.zero (xs : List Int) : RevTo xs xs 0 := ⟨rfl, fun i hi => by rw [if_neg (by omega)]⟩
theorem RevTo.fin {xs ys : List Int} {k : Nat} (h : RevTo xs ys k) (hk : xs.length ≤ 2 * k + 1) : ys = xs.reverse := by
  apply List.ext_getElem?
  intro i
  rcases Nat.lt_or_ge i xs.length with hi | hi
  · rw [h.2 i hi, List.getElem?_reverse hi]
    split
    · rfl
    · next hn => rw [show xs.length - 1 - i = i by omega]
  · rw [List.getElem?_eq_none (by rw [h.1]; exact hi), List.getElem?_eq_none (by simpa using hi)]
theorem RevTo.step {xs ys : List Int} {k : Nat} {x y : Int} (h : RevTo xs ys k) (hk : 2 * k + 1 < xs.length) (hx : ys[k]? = some x) (hy : ys[xs.length - 1 - k]? = some y) : RevTo xs ((ys.set k y).set (xs.length - 1 - k) x) (k + 1) := by
  refine ⟨by simp [h.1], fun i hi => ?_⟩
  have hl := h.1
  have h1 := h.2 k (by omega)
  have h2 := h.2 (xs.length - 1 - k) (by omega)
  rw [if_neg (by omega), hx] at h1
  rw [if_neg (by omega), hy] at h2
  rw [List.getElem?_set, List.getElem?_set, List.length_set]
  by_cases e : xs.length - 1 - k = i
  · rw [if_pos e, if_pos (by omega), if_pos (by omega), ← e, show xs.length - 1 - (xs.length - 1 - k) = k by omega, h1]
  · rw [if_neg e]
    by_cases e2 : k = i
    · rw [if_pos e2, if_pos (by omega), if_pos (by omega), ← e2, h2]
    · rw [if_neg e2, h.2 i hi]
      by_cases q : i < k ∨ xs.length ≤ i + k
      · rw [if_pos q, if_pos (by omega)]
      · rw [if_neg q, if_neg (by omega)]
set_option maxHeartbeats 4000000 in
set_option maxRecDepth 2000000 in
theorem reverse_any (B n c : Nat) (A : Option Addr) (xs : List Int) (w : World) (ho : OwnU w B (.slice A n c) xs) (hn : n ≤ 1099511627776) :
    Calls Tryd.prog 123 #[.slice A n c] w fun e w' => e = .returned (.tuple #[]) ∧ OwnU w' B (.slice A n c) xs.reverse ∧ Below B w w' ∧ World.grownBy w w' (Value.slice A n c).ownBlock := by
  have HL := Lib.hid ho.cap.1
  have HX := Lib.hid (RevTo.zero xs)
  have hG := World.grownBy.refl w (Value.slice A n c).ownBlock
  go_enter Tryd.func123, Tryd.ntmps123
  go_wp2_with fail
  go_loopw [2, 3] (fun i j wr => ∃ (k : Nat) (ys : List Int), i = .int .i64 k ∧ j = .int .i64 ((n : Int) - 1 - k) ∧ k ≤ n ∧ OwnU wr B (.slice A n c) ys ∧ Hid (RevTo xs ys k) ∧ Below B w wr ∧ World.grownBy w wr (Value.slice A n c).ownBlock) (fun i _ _ => n - (intOf i).toNat)
  case atStart => exact ⟨0, xs, rfl, by rw [Int.natCast_zero, Int.sub_zero], Nat.zero_le _, ho, HX, Below.refl _ _, hG⟩
  case round =>
    clear ho HX hG
    obtain ⟨k, ys, rfl, rfl, hkn, ho, HX, bb, hG⟩ := hrel
    have HYL := Lib.hid HX.out.1
    by_cases hlt : 2 * k + 1 < n
    · have hlt' : (k : Int) < (n : Int) - 1 - k := by omega
      obtain ⟨p, hp⟩ : ∃ p, n - 1 - k = p := ⟨_, rfl⟩
      have hpe : (n : Int) - 1 - k = p := by omega
      have hyn : ys.length = n := by rw [HYL.out, ← HL.out]
      obtain ⟨A', c', e', hA⟩ := ho.form
      injection e' with e1 e2 e3
      subst e1 e3
      obtain ⟨g, rfl, hBg, hgl⟩ := hA (by omega)
      obtain ⟨g', o', x, e1, _, hx, c1⟩ := ho.reads.at_ (k := k) (by omega)
      injection e1 with e1
      injection e1 with e2 e3
      subst e2 e3
      obtain ⟨g', o', y, e1, _, hy, c2⟩ := ho.reads.at_ (k := p) (by omega)
      injection e1 with e1
      injection e1 with e2 e3
      subst e2 e3
      rw [Nat.zero_add] at c1 c2
      have hxp : xs.length - 1 - k = p := by rw [← HL.out]; exact hp
      have HN := Lib.hid (HX.out.step (by rw [← HL.out]; exact hlt) hx (by rw [hxp]; exact hy))
      rw [hxp] at HN
      have f1 : wr.frozen? ⟨g, k, none⟩ = false := ho.frozen hyn k
      have o1 := ho.put' (j := k) hyn y
      have f2 : (wr.setCell ⟨g, k, none⟩ (.int .u64 y)).frozen? ⟨g, p, none⟩ = false := o1.frozen (by simpa using hyn) p
      have o2 := o1.put' (j := p) (by simpa using hyn) x
      have bn := (bb.setCell (p := ⟨g, k, none⟩) hBg (.int .u64 y)).setCell (p := ⟨g, p, none⟩) hBg (.int .u64 x)
      have c3 : ∃ u, (wr.setCell ⟨g, k, none⟩ (.int .u64 y)).cell? ⟨g, p, none⟩ = some u := by
        obtain ⟨g', o', u, e1, _, _, c⟩ := o1.reads.at_ (k := p) (by omega)
        injection e1 with e1
        injection e1 with e2 e3
        subst e2 e3
        rw [Nat.zero_add] at c
        exact ⟨_, c⟩
      obtain ⟨u, c3⟩ := c3
      have hkn' : (k : Int) < n := by omega
      have hpn' : (p : Int) < n := by omega
      have gn := only_put (only_put hG k (.int .u64 y)) p (.int .u64 x)
      rw [hpe]
      have hw1 : IntKind.i64.wrap ((k : Int) + 1) = (k : Int) + 1 := IntWalk.i64_in _ (by omega)
      have hw2 : IntKind.i64.wrap ((p : Int) - 1) = (p : Int) - 1 := IntWalk.i64_in _ (by omega)
      rw [hpe] at hlt'
      clear hx hy hxp ho o1 hA hG
      go_wp2_with fail
      have HPE := Lib.hid hpe
      have HLT := Lib.hid hlt
      have od := o2.below (Below.refl _ _).drew (Nat.le_refl _)
      have gd := grown_below gn (Below.refl w.heap.size _).drew
      have bd := bn.drew
      clear hlt' hlt hp hpe e2 hkn hyn o2 gn bn
      go_region
      go_wp2
      have hp2 := HPE.out
      have hl2 := HLT.out
      go_roundw
      case rel => exact ⟨k + 1, _, by go_num, by rw [show (n : Int) - 1 - ((k + 1 : Nat) : Int) = (p : Int) - 1 by omega], by omega, od, HN, bd, gd⟩
      case measure => simp [intOf]; omega
    · have hlt' : ¬ (k : Int) < (n : Int) - 1 - k := by omega
      have hE := HX.out.fin (by rw [← HL.out]; omega)
      subst hE
      go_wp2_with fail
      exact bodyPost_end (results_none rfl _ _ _) rfl ⟨rfl, ho, bb, hG⟩
/-- components of the call's own, each ahead of those to which it leads -/
def CompsGave (cs : List Cl) (v : Nat) (w : World) (e : Ending) (w' : World) : Prop := ∃ (fv : Value) (f : List Nat), e = .returned fv ∧ Hps.Comps cs v f ∧ OwnU w' w.heap.size fv (natsI f.reverse) ∧ Below w.heap.size w w'
set_option maxHeartbeats 1000000 in
theorem componentsFrom_any (A : Option Addr) (n c v : Nat) (cs : List Cl) (w : World) (hcs : CS w w.heap.size A n cs) (hrf : ∀ cl ∈ cs, Hps.okRefs cs cl.r = true) (h3 : ∀ cl ∈ cs, cl.r.length ≤ 3) (hn : n ≤ 40) (hv : v < n) :
    Calls Tryd.prog 89 #[.slice A n c, .int .i64 v] w (CompsGave cs v w) := by
  have hlc := hcs.1
  have HRF := Lib.hid hrf
  have HC3 := Lib.hid h3
  have hmk := makeI w n (by omega)
  have o1 := own_madeI w n (by omega)
  have b1 : Below w.heap.size w (w.alloc (.cells (Array.replicate n (.int .i64 0)) 3)) := (Below.refl _ _).alloc (Nat.le_refl _) _
  have hsz : (w.alloc (.cells (Array.replicate n (.int .i64 0)) 3)).heap.size = w.heap.size + 1 := by simp
  obtain ⟨w1, hw1⟩ : ∃ w1, w.alloc (.cells (Array.replicate n (.int .i64 0)) 3) = w1 := ⟨_, rfl⟩
  rw [hw1] at hmk o1 b1 hsz
  have hbx := Rw.new w1 148 #[.slice A n c, .int .i64 0, .slice (some ⟨w.heap.size, 0, none⟩) n n, .slice none 0 0, .slice none 0 0]
  have b2 := b1.alloc b1.size (.cells #[.slice A n c, .int .i64 0, .slice (some ⟨w.heap.size, 0, none⟩) n n, .slice none 0 0, .slice none 0 0] 148)
  have o2 := World.ownsRow.alloc o1 (.cells #[.slice A n c, .int .i64 0, .slice (some ⟨w.heap.size, 0, none⟩) n n, .slice none 0 0, .slice none 0 0] 148)
  obtain ⟨w2, hw2⟩ : ∃ w2, w1.alloc (.cells #[.slice A n c, .int .i64 0, .slice (some ⟨w.heap.size, 0, none⟩) n n, .slice none 0 0, .slice none 0 0] 148) = w2 := ⟨_, rfl⟩
  rw [hw2] at hbx b2 o2
  rw [hsz] at hbx
  have W : WkSt w2 w.heap.size (w.heap.size + 1) w.heap.size (.slice A n c) n (.slice none 0 0) (.slice none 0 0) (.zero n) :=
    ⟨o2, World.ownsRow_nil _ _ _ _, World.ownsRow_nil _ _ _ _, (fun e => by cases e), hbx, (by omega), (by simp [Hps.Tw.zero])⟩
  have HV := Lib.hid (visit_any w w.heap.size (w.heap.size + 1) w.heap.size n c A cs hcs hrf h3 hn (Nat.le_refl _) n v w2 _ _ (.zero n) (by simp [Hps.Tw.zero]) hv (by rw [← hlc]; exact .zero (by omega)) W b2)
  have HW2 := Lib.hid hw2
  clear hw1 hrf h3 W o1 o2 hbx hw2
  go_enter Tryd.func89, Tryd.ntmps89
  go_wp2_with fail
  rw [HW2.out]
  refine HV.out.mono ?_
  rintro e w3 ⟨m, ov, fv, S, rfl, P, W, b3⟩
  have hC := Hps.TwPost.comps (n := m) (S' := S) (cs := cs) (v := v) (by rw [hlc]; exact P)
  obtain ⟨A5, c5, rfl, hA5⟩ := W.f.form
  have hlen := natsI_len S.f
  have hfl := hC.len
  obtain ⟨l5, hl5⟩ : ∃ l5, (natsI S.f).length = l5 := ⟨_, rfl⟩
  rw [hl5] at W hA5 hlen
  have x4 : w3.cell? ⟨w.heap.size + 1, 4, none⟩ = some (.slice A5 l5 c5) := W.box.cell 4
  have HR := Lib.hid (reverse_any w.heap.size l5 c5 A5 (natsI S.f) w3 W.f (by omega))
  have hne := W.ne.2.2
  have HB := Lib.hid W.box
  have hCC := Lib.hid hC
  have HE := Lib.hid (show (natsI S.f).reverse = natsI S.f.reverse by simp [natsI])
  clear hA5 hlen hfl hl5 P W hC HV
  go_wp2_with fail
  refine HR.out.mono ?_
  rintro e w4 ⟨rfl, o4, b4, g4⟩
  have x5 : w4.cell? ⟨w.heap.size + 1, 4, none⟩ = some (.slice A5 l5 c5) := (HB.out.far g4 hne).cell 4
  rw [HE.out] at o4
  have bb := b3.trans b4
  clear HR
  go_wp2_with fail
  go_ret
  exact ⟨_, S.f, rfl, hCC.out, o4, bb⟩
end Go.Proofs.YtiojoailjiojjaaDoor

namespace Go.Proofs.YtiojoailjiojjaaDoor
open Go.RowKit
set_option maxRecDepth 100000
set_option maxHeartbeats 1000000 in
theorem hasCounted_any (V n c : Nat) (A : Option Addr) (L : List Int) (w : World) (hT : TzT w) (hV : V < 18446744073709551616) (hbit : ∀ i, V.testBit i = true → i < n) (_hn : n ≤ 40) (h : IS w w.heap.size A n (Hps.cntN n L)) :
    Calls Tryd.prog 90 #[.int .u64 V, .slice A n c] w fun e w' => e = .returned (.bool (Hps.hasL V L)) ∧ Below w.heap.size w w' := by
  have HNB := Lib.hid (fun (x : Int) (hx : x ∈ Hps.numsB V) => Hps.mem_numsB.1 hx)
  have hnl := Hps.nums_len V
  obtain ⟨N, hN⟩ : ∃ N, Hps.numsB V = N := ⟨_, rfl⟩
  have HN := Lib.hid hN
  rw [hN] at HNB hnl
  have HB := Lib.hid hbit
  have HNV := Lib.hid (numbers_any V w hT hV)
  rw [hN] at HNV
  have HR := Lib.hid (show Hps.hasL V L = N.any fun x => decide (x ∈ L) by rw [← hN]; rfl)
  clear hN hbit
  go_enter Tryd.func90, Tryd.ntmps90
  go_wp2_with fail
  refine HNV.out.mono ?_
  rintro e w1 ⟨v1, rfl, o1, b1⟩
  obtain ⟨A1, c1, e1, _⟩ := o1.form
  subst e1
  obtain ⟨q, hq⟩ : ∃ q, N.length = q := ⟨_, rfl⟩
  have HQ := Lib.hid hq
  rw [hq] at o1 hnl
  have hr := o1.reads
  have h1 := h.below b1
  rw [hq]
  clear HNV hq o1
  go_wp2_with fail
  go_loopw [10] (fun i wr => ∃ k : Nat, k ≤ q ∧ i = .int .i64 k ∧ Hid (∀ (j : Nat) (x : Int), j < k → N[j]? = some x → x ∉ L) ∧ wr = w1) (fun i _ => q - (intOf i).toNat)
  case atStart => exact ⟨0, Nat.zero_le _, rfl, Lib.hid (fun j x hj => by omega), rfl⟩
  case round =>
    obtain ⟨k, hk, rfl, HP, rfl⟩ := hrel
    by_cases hlt : k < q
    · obtain ⟨g, o, x, rfl, hg, hx, d1⟩ := hr.at_ hlt
      obtain ⟨y, hy, _, hb⟩ := HNB.out x (List.mem_of_getElem? hx)
      subst hy
      have hyn := HB.out y hb
      obtain ⟨g', o', z, rfl, hg', hz, d2⟩ := h1.at_ (k := y) hyn
      rw [Hps.cntN_at _ hyn] at hz
      have hz := Option.some.inj hz
      have hlt' : (k : Int) < q := by omega
      have hyn' : (y : Int) < n := by omega
      have HX := Lib.hid hx
      by_cases hc : (y : Int) ∈ L
      · have hpos : z > 0 := by have := List.count_pos_iff.2 hc; omega
        have HR2 := Lib.hid (show Hps.hasL V L = true by rw [HR.out, List.any_eq_true]; exact ⟨_, List.mem_of_getElem? HX.out, by simpa using hc⟩)
        clear hx hz hc hb
        go_wp2_with fail
        go_ret
        exact ⟨by rw [HR2.out]; rfl, b1⟩
      · have hpos : ¬ z > 0 := by have := List.count_eq_zero.2 hc; omega
        have HP2 : Hid (∀ (j : Nat) (x : Int), j < k + 1 → N[j]? = some x → x ∉ L) := Lib.hid fun j x hj hx2 => by
          rcases Nat.lt_or_ge j k with h2 | h2
          · exact HP.out j x h2 hx2
          · obtain rfl : j = k := by omega
            rw [HX.out] at hx2
            rw [← Option.some.inj hx2]
            exact hc
        clear hx hz hc hb
        go_wp2_with fail
        go_roundw
        case rel => exact ⟨k + 1, by omega, by go_num, HP2, trivial⟩
        case measure => simp [intOf]; omega
    · obtain rfl : k = q := by omega
      have HR2 := Lib.hid (show Hps.hasL V L = false by
        rw [HR.out, List.any_eq_false]
        intro x hx
        obtain ⟨j, hj⟩ := List.mem_iff_getElem?.1 hx
        simpa using HP.out j x (by have := (List.getElem?_eq_some_iff.1 hj).1; rw [HQ.out] at this; exact this) hj)
      go_wp2_with fail
      go_ret
      exact ⟨by rw [HR2.out]; rfl, b1⟩
set_option maxHeartbeats 4000000 in
theorem deadSet_any (A R : Option Addr) (n c m d v : Nat) (h : Hp) (w : World) (hT : TzT w) (hs : HS w w.heap.size A n R m h) (hv : Hps.validH h = true) (hu : Hps.usedAt h.cs v = true) :
    Calls Tryd.prog 44 #[heapV A n c R m d, .int .i64 v] w fun e w' => e = .returned (.int .u64 (Bm.wordN (Hps.deadL h v) true : Nat)) ∧ Below w.heap.size w w' := by
  have hlc := hs.cells.1
  have hlr := hs.roots.1
  obtain ⟨s1, s2, s3⟩ := Hps.valid_small hv
  have hvn : v < n := by have := Hps.usedAt_lt hu; omega
  have b0 : Below w.heap.size w (w.alloc (.cells #[.slice A n c, .slice R m d] 26)) := (Below.refl _ _).alloc (Nat.le_refl _) _
  have hbx := Rw.new w 26 #[.slice A n c, .slice R m d]
  have r1 := hs.up b0
  obtain ⟨V, hVV⟩ : ∃ V, Hps.reachW ⟨h.cs, [(v : Int)]⟩ = V := ⟨_, rfl⟩
  have hVl : V < 18446744073709551616 := by rw [← hVV]; exact Hps.reachW_lt (by simp only; omega)
  have HG := Lib.hid ((Hps.OkG.valid hv).one hu)
  have HV := Lib.hid hv
  have HW := Lib.hid hVV
  have HLT : Hid (∀ k, Hps.Rch h.cs [(v : Int)] k → k < h.cs.length) := Lib.hid fun k hk => Hps.usedAt_lt (Hps.from_used hv hu hk)
  have HRF := Lib.hid (Hps.valid_refs hv)
  have HS3 := Lib.hid s3
  have HOUT := Lib.hid (show Hps.outW h V n = Hps.outOf h (Hps.reachL h.cs [(v : Int)]) by
    rw [Hps.outOf, ← hlc, ← hVV]
    exact Hps.outW_eq (fun i => by unfold Hps.reachW; rw [Bm.wordN_bit]) _)
  have HOL := Lib.hid (show (Hps.outW h V n).length ≤ 400000000 by
    have h1 := Hps.outW_len h V n (by omega)
    have h2 := Hps.refsTo_len (h := h) (fun cl hcl => by have := s3 cl hcl; omega) (k := n) (by omega)
    omega)
  obtain ⟨w1, hw1⟩ : ∃ w1, w.alloc (.cells #[.slice A n c, .slice R m d] 26) = w1 := ⟨_, rfl⟩
  rw [hw1] at b0 hbx r1
  have z0 : w1.cell? ⟨w.heap.size, 0, none⟩ = some (.slice A n c) := hbx.cell 0
  have z1 : w1.cell? ⟨w.heap.size, 1, none⟩ = some (.slice R m d) := hbx.cell 1
  have hwl := hbx.lt
  have hvn' : (v : Int) < n := by omega
  clear hv s3 hVV hu hs
  go_enter Tryd.func44, Tryd.ntmps44
  go_wp2_with fail
  refine wp_region_inv (by kernel_rfl) (by kernel_rfl) (fun L ac ww => ∃ t5 t11 t12 t13 t14 t15 t16 t17 : Value, ac = { tmps := #[heapV A n c R m d, .int .i64 v, .pointer (some ⟨w.heap.size, 0, none⟩), undef, .int .u64 0, t5, undef, undef, undef, undef, undef, t11, t12, t13, t14, t15, t16, t17, undef, undef, undef, undef, undef, undef, undef, undef, undef, undef, undef, undef, undef, undef, undef, undef, undef, undef, undef, undef, undef, undef, undef, undef, undef, undef, undef, undef, undef, undef, undef, undef, undef, undef], defers := [] } ∧ (Below w1.heap.size w1 ww) ∧ (L 0 = true → t11 = heapV A n c R m d) ∧ (L 1 = true → t12 = (.pointer (some ⟨w.heap.size, 0, none⟩))) ∧ (L 2 = true → t13 = .slice A n c) ∧ (L 3 = true → t14 = .int .i64 (v : Nat)) ∧ (L 4 = true → OwnI ww w1.heap.size t15 [(v : Int)]) ∧ (L 5 = true → t16 = .int .u64 (V : Nat)) ∧ (L 6 = true → OwnI ww w1.heap.size t17 (Hps.cntN n (Hps.outW h V n))) ∧ (L 7 = true → OwnI ww w1.heap.size t5 (Hps.cntN n (Hps.outW h V n)))) ?h0 ?hstep ?hdone
  case h0 => exact ⟨_, _, _, _, _, _, _, _, rfl, (Below.refl _ _).drew, (fun h => absurd h Bool.false_ne_true), (fun h => absurd h Bool.false_ne_true), (fun h => absurd h Bool.false_ne_true), (fun h => absurd h Bool.false_ne_true), (fun h => absurd h Bool.false_ne_true), (fun h => absurd h Bool.false_ne_true), (fun h => absurd h Bool.false_ne_true), (fun h => absurd h Bool.false_ne_true)⟩
  case hstep =>
    rintro L ac ww i o ho hL hd ⟨t5, t11, t12, t13, t14, t15, t16, t17, rfl, I0, f0, f1, f2, f3, f4, f5, f6, f7⟩
    have hi : i < 8 := (Array.getElem?_eq_some_iff.1 ho).1
    obtain rfl | rfl | rfl | rfl | rfl | rfl | rfl | rfl : i = 0 ∨ i = 1 ∨ i = 2 ∨ i = 3 ∨ i = 4 ∨ i = 5 ∨ i = 6 ∨ i = 7 := by omega
    · obtain rfl := Option.some.inj ho
      have y0 : ww.cell? ⟨w.heap.size, 0, none⟩ = some (.slice A n c) := (I0.cell (p := ⟨w.heap.size, 0, none⟩) hwl).trans z0
      have y1 : ww.cell? ⟨w.heap.size, 1, none⟩ = some (.slice R m d) := (I0.cell (p := ⟨w.heap.size, 1, none⟩) hwl).trans z1
      refine wpOp_step rfl (fun K' hK => ?_)
      go_simp
      refine hK _ _ ?_
      exact ⟨_, _, _, _, _, _, _, _, rfl, (I0), (fun _ => rfl), (kp f1), (kp f2), (kp f3), (kp f4), (kp f5), (kp f6), (kp f7)⟩
    · obtain rfl := Option.some.inj ho
      refine wpOp_step rfl (fun K' hK => ?_)
      go_simp
      refine hK _ _ ?_
      exact ⟨_, _, _, _, _, _, _, _, rfl, (I0), (kp f0), (fun _ => rfl), (kp f2), (kp f3), (kp f4), (kp f5), (kp f6), (kp f7)⟩
    · obtain rfl := Option.some.inj ho
      have g1 := f1 (hd ⟨1, .data⟩ (by simp) rfl)
      subst g1
      have y0 : ww.cell? ⟨w.heap.size, 0, none⟩ = some (.slice A n c) := (I0.cell (p := ⟨w.heap.size, 0, none⟩) hwl).trans z0
      have y1 : ww.cell? ⟨w.heap.size, 1, none⟩ = some (.slice R m d) := (I0.cell (p := ⟨w.heap.size, 1, none⟩) hwl).trans z1
      refine wpOp_step rfl (fun K' hK => ?_)
      go_simp
      refine hK _ _ ?_
      exact ⟨_, _, _, _, _, _, _, _, rfl, (I0), (kp f0), (kp f1), (fun _ => rfl), (kp f3), (kp f4), (kp f5), (kp f6), (kp f7)⟩
    · obtain rfl := Option.some.inj ho
      refine wpOp_step rfl (fun K' hK => ?_)
      go_simp
      refine hK _ _ ?_
      exact ⟨_, _, _, _, _, _, _, _, rfl, (I0), (kp f0), (kp f1), (kp f2), (fun _ => rfl), (kp f4), (kp f5), (kp f6), (kp f7)⟩
    · obtain rfl := Option.some.inj ho
      have g3 := f3 (hd ⟨3, .data⟩ (by simp) rfl)
      subst g3
      refine wpOp_step rfl (fun K' hK => ?_)
      go_simp
      refine hK _ _ ?_
      have o5 := own_oneI ww (v : Int) w1.heap.size I0.size
      exact ⟨_, _, _, _, _, _, _, _, rfl, (I0.alloc I0.size _), (kp f0), (kp f1), (kp f2), (kp f3), (fun _ => o5), (kp f5), (fun h => World.ownsRow.alloc (f6 (upd_ne h (by decide))) _), (fun h => World.ownsRow.alloc (f7 (upd_ne h (by decide))) _)⟩
    · obtain rfl := Option.some.inj ho
      have g2 := f2 (hd ⟨2, .data⟩ (by simp) rfl)
      have g4 := f4 (hd ⟨4, .data⟩ (by simp) rfl)
      subst g2
      obtain ⟨A5, c5, e5, _⟩ := g4.form
      subst e5
      refine wpOp_step rfl (fun K' hK => ?_)
      go_simp
      refine (ledTo_any A A5 n c 1 c5 ⟨h.cs, [(v : Int)]⟩ ww (r1.up I0).cells g4.reads HG.out).mono ?_
      rw [HW.out]
      rintro e w' ⟨rfl, b5⟩
      refine hK _ _ ?_
      exact ⟨_, _, _, _, _, _, _, _, rfl, (I0.trans (b5.mono I0.size)), (kp f0), (kp f1), (kp f2), (kp f3), (fun h => (f4 (upd_ne h (by decide))).below b5 (Nat.le_refl _)), (fun _ => rfl), (fun h => (f6 (upd_ne h (by decide))).below b5 (Nat.le_refl _)), (fun h => (f7 (upd_ne h (by decide))).below b5 (Nat.le_refl _))⟩
    · obtain rfl := Option.some.inj ho
      have g0 := f0 (hd ⟨0, .data⟩ (by simp) rfl)
      have g5 := f5 (hd ⟨5, .data⟩ (by simp) rfl)
      subst g0
      subst g5
      refine wpOp_step rfl (fun K' hK => ?_)
      go_simp
      refine (countsWithout_any A R n c m d V h ww (r1.up I0) HV.out hVl).mono ?_
      rintro e w' ⟨v5, rfl, o5, b5⟩
      refine hK _ _ ?_
      exact ⟨_, _, _, _, _, _, _, _, rfl, (I0.trans (b5.mono I0.size)), (kp f0), (kp f1), (kp f2), (kp f3), (fun h => (f4 (upd_ne h (by decide))).below b5 (Nat.le_refl _)), (kp f5), (fun _ => o5.base I0.size), (fun h => (f7 (upd_ne h (by decide))).below b5 (Nat.le_refl _))⟩
    · obtain rfl := Option.some.inj ho
      have g6 := f6 (hd ⟨6, .data⟩ (by simp) rfl)
      refine wpOp_step rfl (fun K' hK => ?_)
      go_simp
      refine hK _ _ ?_
      exact ⟨_, _, _, _, _, _, _, _, rfl, (I0), (kp f0), (kp f1), (kp f2), (kp f3), (kp f4), (kp f5), (kp f6), (fun _ => g6)⟩
  case hdone =>
    rintro L ac ww hall ⟨t5, t11, t12, t13, t14, t15, t16, t17, rfl, I0, f0, f1, f2, f3, f4, f5, f6, f7⟩
    have e0 := f0 (hall 0 (by decide))
    have e1 := f1 (hall 1 (by decide))
    have e2 := f2 (hall 2 (by decide))
    have e3 := f3 (hall 3 (by decide))
    have e4 := f4 (hall 4 (by decide))
    have e5 := f5 (hall 5 (by decide))
    have e6 := f6 (hall 6 (by decide))
    have e7 := f7 (hall 7 (by decide))
    clear f0 f1 f2 f3 f4 f5 f6 f7
    obtain ⟨A5, c5, e5, hA5⟩ := e7.form
    rw [Hps.cntN_len] at e5 hA5
    obtain ⟨g5, rfl, hg5, _⟩ := hA5 (by omega)
    subst e0 e1 e2 e3 e5
    have y0 := (I0.cell (p := ⟨w.heap.size, 0, none⟩) hwl).trans z0
    have HC := Lib.hid (componentsFrom_any A n c v h.cs ww (r1.up I0).cells HRF.out HS3.out (by omega) hvn)
    clear e4 e5 e6 hA5
    go_wp2_with fail
    refine HC.out.mono ?_
    rintro e w3 ⟨fv, f, rfl, C, oF, b3⟩
    have bb3 := I0.trans (b3.mono I0.size)
    have o3 := e7.below b3 (Nat.le_refl _)
    have oF3 := OwnU.base oF I0.size
    have HCC := Lib.hid C
    have hfl := C.len
    obtain ⟨q, hq⟩ : ∃ q, f.reverse.length = q := ⟨_, rfl⟩
    have hnl := natsI_len f.reverse
    rw [hq] at hnl
    have hq40 : q ≤ 40 := by rw [← hq, List.length_reverse]; exact hfl
    obtain ⟨A6, c6, e6, _⟩ := oF3.form
    rw [hnl] at e6
    subst e6
    have HQ := Lib.hid hq
    have HD := Lib.hid (Hps.DeadSt.start HLT.out)
    rw [← HOUT.out] at HD
    obtain ⟨B, hB⟩ : ∃ B, w1.heap.size = B := ⟨_, rfl⟩
    have C1 := r1.cells
    have hwB : w.heap.size ≤ B := by omega
    rw [hB] at bb3 o3 oF3 hg5 hwl C1
    clear e7 oF hq HC C y0 I0 b3
    go_wp2_with fail
    go_loopw [6, 23] (fun D i wr => ∃ (k DD : Nat) (L : List Int), k ≤ q ∧ i = .int .i64 k ∧ D = .int .u64 DD ∧ Hid (DD < 18446744073709551616) ∧ Hid (Hps.DeadSt h v (f.reverse.take k) L DD) ∧ Hid (L.length ≤ 400000000 + 1000 * k) ∧ OwnI wr B (.slice (some ⟨g5, 0, none⟩) n c5) (Hps.cntN n L) ∧ OwnU wr B (.slice A6 q c6) (natsI f.reverse) ∧ Below B w1 wr) (fun _ i _ => q - (intOf i).toNat)
    case atStart => exact ⟨0, 0, _, Nat.zero_le _, rfl, rfl, Lib.hid (by omega), HD, HOL, o3, oF3, bb3⟩
    case round =>
      clear HD o3 oF3 bb3
      obtain ⟨k, DD, L, hk, rfl, rfl, HDD, HD, HL, o3, oF3, bb⟩ := hrel
      by_cases hlt : k < q
      · have hgl5 := (World.ownsRow.lt o3 g5 rfl).2
        obtain ⟨g, o, x, rfl, hg, hx, d1⟩ := oF3.reads.at_ hlt
        have hkf : k < f.reverse.length := by rw [HQ.out]; exact hlt
        obtain ⟨W0, hW0⟩ : ∃ W0, f.reverse[k] = W0 := ⟨_, rfl⟩
        have hxW : x = (W0 : Int) := by
          rw [natsI, List.getElem?_map, List.getElem?_eq_getElem hkf, hW0] at hx
          exact (Option.some.inj hx).symm
        subst hxW
        have HSP := Lib.hid (show f.reverse = f.reverse.take k ++ W0 :: f.reverse.drop (k + 1) by
          rw [← hW0, List.getElem_cons_drop, List.take_append_drop])
        have HTK := Lib.hid (show f.reverse.take (k + 1) = f.reverse.take k ++ [W0] by rw [List.take_add_one, List.getElem?_eq_getElem hkf, hW0]; rfl)
        have hWf : W0 ∈ f := by rw [← List.mem_reverse, ← hW0]; exact List.getElem_mem hkf
        have hbit : ∀ i, W0.testBit i = true → i < n := fun i hi => by have := HLT.out i ((HCC.out.all i).1 ⟨W0, hWf, hi⟩); omega
        have hW64 : W0 < 18446744073709551616 := Nat.lt_trans (HCC.out.lt HLT.out (by omega) hWf) (by decide)
        have HBIT := Lib.hid hbit
        have hTr := hT.below (b0.trans (bb.mono hwB))
        have HH := Lib.hid (hasCounted_any W0 n c5 _ L wr hTr hW64 hbit (by omega) o3.reads)
        have hlt' : (k : Int) < q := by omega
        cases hh : Hps.hasL W0 L
        · have HN := Lib.hid (HD.out.dead HCC.out HSP.out (fun q => by rw [(Hps.hasL_iff (fun i hi => by have := HBIT.out i hi; omega)).2 q] at hh; cases hh))
          rw [← HTK.out] at HN
          have hor := u64_or_nat DD W0 HDD.out hW64
          have HO : Hid (DD ||| W0 < 18446744073709551616) := Lib.hid (Nat.or_lt_two_pow (n := 64) HDD.out hW64)
          have HHF := Lib.hid hh
          clear hx hkf hW0 hWf hbit hh
          go_wp2_with fail
          refine HH.out.mono ?_
          rw [HHF.out]
          rintro e w4 ⟨rfl, b4⟩
          have o4 := o3.below b4 (Nat.le_refl _)
          have oF4 := oF3.below b4 (Nat.le_refl _)
          have bb4 := bb.trans (b4.mono (by have := bb.size; omega))
          clear HH
          go_wp2_with fail
          go_roundw
          case rel => exact ⟨k + 1, DD ||| W0, L, by omega, by go_num, rfl, HO, HN, Lib.hid (by have := HL.out; omega), o4, oF4, bb4⟩
          case measure => simp [intOf]; omega
        · have HN := Lib.hid (HD.out.alive HCC.out HSP.out (fun i hi => by have := HBIT.out i hi; omega) ((Hps.hasL_iff (fun i hi => by have := HBIT.out i hi; omega)).1 hh))
          rw [← HTK.out] at HN
          have HNB := Lib.hid (fun (x : Int) (hx : x ∈ Hps.numsB W0) => Hps.mem_numsB.1 hx)
          have hnl := Hps.nums_len W0
          have HRL := Lib.hid (Hps.refsB_len HS3.out (Hps.numsB W0))
          obtain ⟨N, hN⟩ : ∃ N, Hps.numsB W0 = N := ⟨_, rfl⟩
          have HNE := Lib.hid hN
          rw [hN] at HN HNB hnl HRL
          have HRT : Hid (∀ j, (Hps.refsB h.cs (N.take j)).length ≤ 3 * 64) := Lib.hid fun j => by
            have h1 := Hps.refsB_len HS3.out (N.take j)
            have h2 : (N.take j).length ≤ N.length := by rw [List.length_take]; omega
            omega
          have HHF := Lib.hid hh
          clear hx hkf hW0 hWf hbit hh hN
          go_wp2_with fail
          refine HH.out.mono ?_
          rw [HHF.out]
          rintro e w4 ⟨rfl, b4⟩
          have o4 := o3.below b4 (Nat.le_refl _)
          have oF4 := oF3.below b4 (Nat.le_refl _)
          have bb4 := bb.trans (b4.mono (by have := bb.size; omega))
          have HNV := Lib.hid (numbers_any W0 w4 (hT.below (b0.trans (bb4.mono hwB))) hW64)
          rw [HNE.out] at HNV
          have hgl4 := b4.size
          clear HH
          go_wp2_with fail
          refine HNV.out.mono ?_
          rintro e w5 ⟨nv, rfl, on, b5⟩
          obtain ⟨A7, c7, e7, _⟩ := on.form
          subst e7
          obtain ⟨p, hp⟩ : ∃ p, N.length = p := ⟨_, rfl⟩
          have HP := Lib.hid hp
          rw [hp] at on hnl
          rw [hp]
          have hne7 : (Value.slice A7 p c7).ownBlock ≠ some g5 := fun e => by have := (World.ownsRow.lt on g5 e).1; omega
          have o5 := o4.below b5 (Nat.le_refl _)
          have oF5 := oF4.below b5 (Nat.le_refl _)
          have bb5 := bb4.trans (b5.mono (by have := bb4.size; omega))
          have on5 := on.base (show B ≤ w4.heap.size by have := bb4.size; omega)
          clear HNV hp on b4 b5 bb4 o4 oF4 o3 oF3
          go_wp2_with fail
          go_loopw [37] (fun i wr => ∃ j : Nat, j ≤ p ∧ i = .int .i64 j ∧ OwnI wr B (.slice (some ⟨g5, 0, none⟩) n c5) (Hps.cntN n (L ++ Hps.refsB h.cs (N.take j))) ∧ OwnI wr B (.slice A7 p c7) N ∧ OwnU wr B (.slice (some ⟨g, o, none⟩) q c6) (natsI f.reverse) ∧ Below B w1 wr) (fun i _ => p - (intOf i).toNat)
          case atStart => exact ⟨0, Nat.zero_le _, rfl, by rw [List.take_zero]; simpa [Hps.refsB] using o5, on5, oF5, bb5⟩
          case round =>
            clear o5 on5 oF5 bb5 bb
            obtain ⟨j, hj, rfl, o5, on5, oF5, bb⟩ := hrel
            by_cases hlj : j < p
            · obtain ⟨g7, o7, x, rfl, hg7, hx7, d7⟩ := on5.reads.at_ hlj
              obtain ⟨y, rfl, _, hyb⟩ := HNB.out x (List.mem_of_getElem? hx7)
              have hyn := HBIT.out y hyb
              obtain ⟨gc, oc, cl, A', m', cc, e1, hgc, hcl, _, _, e3, hmc, hi⟩ := C1.at_ hyn
              subst e1
              have e3' := (bb.cell (p := ⟨gc, oc + y * 3 + 2, none⟩) hgc).trans e3
              have x0 := (bb.cell (p := ⟨w.heap.size, 0, none⟩) hwl).trans z0
              have HSN := Lib.hid (show L ++ Hps.refsB h.cs (N.take (j + 1)) = L ++ Hps.refsB h.cs (N.take j) ++ cl.r by rw [take_snocI hx7, Hps.refsB_snoc hcl, List.append_assoc])
              have hm3 : m' ≤ 3 := by have := HS3.out cl (List.mem_of_getElem? hcl); have := hi.1; omega
              have hlen : (L ++ Hps.refsB h.cs (N.take j)).length ≤ 1000000000 := by
                have h1 := HL.out
                have h2 := HRT.out j
                rw [List.length_append]
                omega
              have HT := Lib.hid (countTargetsC_any g5 n c5 m' cc A' h.cs (L ++ Hps.refsB h.cs (N.take j)) cl.r wr B hlc o5 (hi.below bb) (HRF.out cl (List.mem_of_getElem? hcl)) (by omega) (by omega) hlen hg5 (by have := bb.size; omega))
              have hlj' : (j : Int) < p := by omega
              have hyn' : (y : Int) < n := by omega
              have HF7 := Lib.hid (rows_type oF5 o5 (by decide))
              clear hcl hlen hyb hx7 o5 e3
              go_wp2_with fail
              refine HT.out.mono ?_
              rintro e w8 ⟨rfl, o8, b8, g8⟩
              rw [← HSN.out] at o8
              have on8 := on5.far g8 (.inr hne7)
              have oF8 := oF5.far g8 HF7.out
              have bb8 := bb.trans b8
              clear HT
              go_wp2_with fail
              go_roundw
              case rel => exact ⟨j + 1, by omega, by go_num, o8, on8, oF8, bb8⟩
              case measure => simp [intOf]; omega
            · obtain rfl : j = p := by omega
              rw [List.take_of_length_le (by rw [HP.out]; omega)] at o5
              go_wp2_with fail
              go_roundw
              case rel => exact ⟨k + 1, DD, _, by omega, by go_num, rfl, HDD, HN, Lib.hid (by have := HL.out; have := HRL.out; rw [HP.out] at this; rw [List.length_append]; omega), o5, oF5, bb⟩
              case measure => simp [intOf]; omega
      · obtain rfl : k = q := by omega
        rw [List.take_of_length_le (by rw [HQ.out]; omega)] at HD
        have HE := Lib.hid (HD.out.fin HCC.out HLT.out)
        go_wp2_with fail
        go_ret
        exact ⟨by rw [← HE.out]; rfl, b0.trans (bb.mono hwB)⟩
end Go.Proofs.YtiojoailjiojjaaDoor

namespace Go.Proofs.YtiojoailjiojjaaDoor
open Go.RowKit
/-- a heap with counts of the call's own, and a number -/
def GaveCtI (w : World) (h : Hp) (l : List Int) (x : Int) (e : Ending) (w' : World) : Prop := ∃ vc vr vk, e = .returned (.tuple #[.agg #[vc, vr, vk], .int .i64 x]) ∧ OwnC w' w.heap.size vc vr vk h l ∧ Below w.heap.size w w'
namespace Hps
/-- cells without those of a list -/
def zapL (cs : List Cl) (l : List Int) : List Cl := l.foldl (fun cs x => cs.set x.toNat zeroCl) cs
theorem zapL_snoc (cs : List Cl) (l : List Int) (x : Int) : zapL cs (l ++ [x]) = (zapL cs l).set x.toNat zeroCl := by simp [zapL, List.foldl_append]
theorem zapL_len (l : List Int) : ∀ cs : List Cl, (zapL cs l).length = cs.length := by
  induction l with
  | nil => intro cs; rfl
  | cons x l ih =>
    intro cs
    show (zapL (cs.set x.toNat zeroCl) l).length = _
    rw [ih, List.length_set]
theorem zapL_at (l : List Int) : ∀ (cs : List Cl), (∀ x ∈ l, 0 ≤ x) → ∀ k : Nat, (zapL cs l)[k]? = if (k : Int) ∈ l then cs[k]?.map (fun _ => zeroCl) else cs[k]? := by
  induction l with
  | nil => intro cs _ k; simp [zapL]
  | cons x l ih =>
    intro cs hx k
    show (zapL (cs.set x.toNat zeroCl) l)[k]? = _
    rw [ih _ (fun y hy => hx y (by simp [hy])) k, List.getElem?_set]
    have h0 := hx x (by simp)
    by_cases e : x.toNat = k
    · have e2 : (k : Int) = x := by omega
      rw [if_pos e, e]
      by_cases q : k < cs.length
      · simp [e2, q]
      · simp [e2, q]
    · have e2 : ¬ (k : Int) = x := by omega
      rw [if_neg e]
      simp [e2]
theorem ccTo_free {h x : Hp} {k f : Nat} (hE : ccTo h k = (x, f)) (hu : usedAt x.cs k = false) : ccTo h (k + 1) = (x, f) := by
  rw [ccTo, hE, ccStep, if_neg (by rw [hu]; decide)]
theorem ccTo_used {h x : Hp} {k f : Nat} (hE : ccTo h k = (x, f)) (hu : usedAt x.cs k = true) : ccTo h (k + 1) = (dropH x (deadL x (k : Int)), f + (deadL x (k : Int)).count true) := by
  rw [ccTo, hE, ccStep, if_pos hu]
theorem usedN_le (h : Hp) : usedN h ≤ h.cs.length := by rw [usedN_eq]; exact List.countP_le_length
end Hps
end Go.Proofs.YtiojoailjiojjaaDoor

namespace Go.Proofs.YtiojoailjiojjaaDoor
open Go.RowKit
set_option maxRecDepth 100000
namespace Hps
theorem zap_drop {cs : List Cl} {D : List Bool} (hl : D.length = cs.length) (h64 : cs.length ≤ 64) : zapL cs (numsB (Bm.wordN D true)) = dropL cs D := by
  apply List.ext_getElem?
  intro k
  rw [zapL_at _ _ fun x hx => by obtain ⟨j, h1, _⟩ := mem_numsB.1 hx; omega]
  rcases Nat.lt_or_ge k cs.length with hk | hk
  · have hc := List.getElem?_eq_getElem hk
    rw [dropL_at _ _ _ _ hc, hc]
    by_cases q : D[k]? = some true
    · rw [if_pos q, if_pos (mem_numsB.2 ⟨k, rfl, by omega, by rw [Bm.wordN_bit]; exact decide_eq_true q⟩)]
      rfl
    · rw [if_neg q, if_neg]
      intro hm
      obtain ⟨j, h1, _, h3⟩ := mem_numsB.1 hm
      obtain rfl : k = j := by omega
      rw [Bm.wordN_bit] at h3
      exact q (of_decide_eq_true h3)
  · rw [List.getElem?_eq_none (show (dropL cs D).length ≤ k by rw [dropL_len]; exact hk), List.getElem?_eq_none hk]
    split <;> rfl
end Hps
set_option maxHeartbeats 4000000 in
theorem collectCycles_any (A R K : Option Addr) (n c m d p q : Nat) (h : Hp) (l : List Int) (w : World) (hT : TzT w) (hs : HS w w.heap.size A n R m h) (hk : IS w w.heap.size K p l) (hn : n ≤ 1099511627776) (hm : m ≤ 1099511627776) (hp : p ≤ 1099511627776) (hnc : n ≤ c) (hmd : m ≤ d) :
    Calls Tryd.prog 17 #[ctV A n c R m d K p q] w (GaveCtI w (Hps.cyclesH h l).1.1 (Hps.cyclesH h l).1.2 (Hps.cyclesH h l).2) := by
  have hlc := hs.cells.1
  have hlr := hs.roots.1
  have b2 : Below w.heap.size w ((w.alloc (.cells #[.slice A n c, .slice R m d, .slice K p q] 38)).alloc (.cells #[.slice none 0 0, .slice none 0 0, .slice none 0 0] 38)) := ((Below.refl w.heap.size w).alloc (Nat.le_refl _) _).alloc (by simp) _
  have q1 := (Rw.new w 38 #[.slice A n c, .slice R m d, .slice K p q]).alloc (.cells #[.slice none 0 0, .slice none 0 0, .slice none 0 0] 38)
  have q3 := Rw.new (w.alloc (.cells #[.slice A n c, .slice R m d, .slice K p q] 38)) 38 #[.slice none 0 0, .slice none 0 0, .slice none 0 0]
  simp only [World.size_alloc] at q3
  have hT2 := hT.below b2
  have s2 := hs.up b2
  have k2 := hk.up b2
  go_enter Tryd.func17, Tryd.ntmps17
  go_upto_region 1 with fail
  generalize ((w.alloc (.cells #[.slice A n c, .slice R m d, .slice K p q] 38)).alloc (.cells #[.slice none 0 0, .slice none 0 0, .slice none 0 0] 38)) = w2 at b2 q1 q3 hT2 s2 k2 ⊢
  have x0 : w2.cell? ⟨w.heap.size, 0, none⟩ = some (.slice A n c) := q1.cell 0
  have x1 : w2.cell? ⟨w.heap.size, 1, none⟩ = some (.slice R m d) := q1.cell 1
  have x2 : w2.cell? ⟨w.heap.size, 2, none⟩ = some (.slice K p q) := q1.cell 2
  go_wp2_with fail
  refine (countedValid_any _ _ _ _ _ _ _ _ _ h l _ s2 k2 hn hm hp hnc hmd).mono ?_
  clear k2
  obtain ⟨r, hok⟩ : ∃ r, Hps.okCt h l = r := ⟨_, rfl⟩
  rw [hok]
  rintro e w4 ⟨rfl, b4⟩
  replace q1 := q1.keep b4 q1.lt
  replace q3 := q3.keep b4 q3.lt
  replace hT2 := hT2.below b4
  replace s2 := s2.up b4
  replace b2 := b2.trans (b4.mono b2.size)
  clear x0 x1 x2 b4
  have x0 : w4.cell? ⟨w.heap.size, 0, none⟩ = some (.slice A n c) := q1.cell 0
  have x1 : w4.cell? ⟨w.heap.size, 1, none⟩ = some (.slice R m d) := q1.cell 1
  have x2 : w4.cell? ⟨w.heap.size, 2, none⟩ = some (.slice K p q) := q1.cell 2
  have hsz4 := q3.lt
  cases r
  · have HF := Lib.hid (show Hps.cyclesH h l = ((Hps.zeroH, []), -1) by rw [Hps.cyclesH, hok]; rfl)
    clear hok hT2 s2
    have r2 : (w4).frozen? ⟨w.heap.size + 1, 0, none⟩ = false := q3.frozen 0
    have r3 : (w4).frozen? ⟨w.heap.size + 1, 1, none⟩ = false := q3.frozen 1
    have r4 : (w4).frozen? ⟨w.heap.size + 1, 2, none⟩ = false := q3.frozen 2
    have r5 : (w4).cell? ⟨w.heap.size + 1, 0, none⟩ = some (.slice none 0 0) := q3.cell 0
    have r6 : (w4).cell? ⟨w.heap.size + 1, 1, none⟩ = some (.slice none 0 0) := q3.cell 1
    have r7 : (w4).cell? ⟨w.heap.size + 1, 2, none⟩ = some (.slice none 0 0) := q3.cell 2
    have q4 := ((q3.put 0 (.slice none 0 0)).put 1 (.slice none 0 0)).put 2 (.slice none 0 0)
    have r8 : ((((w4).setCell ⟨w.heap.size + 1, 0, none⟩ (.slice none 0 0)).setCell ⟨w.heap.size + 1, 1, none⟩ (.slice none 0 0)).setCell ⟨w.heap.size + 1, 2, none⟩ (.slice none 0 0)).cell? ⟨w.heap.size + 1, 0, none⟩ = some (.slice none 0 0) := q4.cell 0
    have r9 : ((((w4).setCell ⟨w.heap.size + 1, 0, none⟩ (.slice none 0 0)).setCell ⟨w.heap.size + 1, 1, none⟩ (.slice none 0 0)).setCell ⟨w.heap.size + 1, 2, none⟩ (.slice none 0 0)).cell? ⟨w.heap.size + 1, 1, none⟩ = some (.slice none 0 0) := q4.cell 1
    have r10 : ((((w4).setCell ⟨w.heap.size + 1, 0, none⟩ (.slice none 0 0)).setCell ⟨w.heap.size + 1, 1, none⟩ (.slice none 0 0)).setCell ⟨w.heap.size + 1, 2, none⟩ (.slice none 0 0)).cell? ⟨w.heap.size + 1, 2, none⟩ = some (.slice none 0 0) := q4.cell 2
    have D := Lib.hid (OwnC.out (w := w) (g := w.heap.size + 1) (own_zeroC w4 w4.heap.size (Nat.le_refl _)) (by omega) (b2) (by omega))
    clear q1 q3 q4 b2 x0 x1 x2
    go_wp2_with fail
    exact bodyPost_ret (v := .tuple #[.agg #[.slice none 0 0, .slice none 0 0, .slice none 0 0], .int .i64 (-1)]) (by simp [results, Tryd.results17, go_sem, *]) rfl ⟨_, _, _, by rw [HF.out], by rw [HF.out]; exact D.out.1, D.out.2⟩
  have HF := Lib.hid (show Hps.cyclesH h l = (((Hps.ccTo h n).1, Hps.countsL (Hps.ccTo h n).1), ((Hps.ccTo h n).2 : Int)) by rw [Hps.cyclesH, if_pos hok, hlc])
  have HV := Lib.hid (Hps.okCt_iff.1 hok).1
  have HCC : Hid (∀ k, Hps.Cc h (Hps.ccTo h k).1 (Hps.ccTo h k).2 k) := Lib.hid fun k => Hps.cc_to HV.out k
  have hn40 := (Hps.valid_small HV.out).1
  have h3 := (Hps.valid_small HV.out).2.2
  have hmr := (Hps.valid_small HV.out).2.1
  rw [hlc] at hn40
  have HUS := Lib.hid (show Hps.usedN h ≤ 40 by have := Hps.usedN_le h; omega)
  have q3b := Lib.hid q3
  clear hok
  go_wp2_with fail
  refine (cloneHeap_any _ _ _ _ _ _ h _ s2 (by omega) (by omega) (fun cl hcl => by have := h3 cl hcl; omega)).mono ?_
  rintro e w5 ⟨vc, vr, rfl, ow, b5⟩
  obtain ⟨A5, c5, R5, d5, rfl, rfl, -⟩ := ow.form
  rw [hlc, hlr] at ow ⊢
  obtain ⟨rvs, S0⟩ := BoxSt.of ow b5
  have B2K := Lib.hid b2
  clear q1 q3 x0 x1 x2 b5 ow s2 b2 h3
  go_upto_region 4 with fail
  generalize w5.alloc (.cells #[.slice A5 n c5, .slice R5 m d5] 26) = w6 at S0 ⊢
  generalize w5.heap.size = b at S0 ⊢
  clear w5
  have v0 : w6.cell? ⟨b, 0, none⟩ = some (.slice A5 n c5) := S0.box.cell 0
  go_wp2_with fail
  go_loopw [5, 20] (fun fr i wr => ∃ (k f : Nat) (x : Hp) (rvs : List Value), k ≤ n ∧ i = .int .i64 k ∧ fr = .int .i64 f ∧ Hid (Hps.ccTo h k = (x, f)) ∧ BoxSt w4 wr b (.slice A5 n c5) (.slice R5 m d5) rvs x) (fun _ i _ => n - (intOf i).toNat)
  case atStart => exact ⟨0, 0, h, rvs, Nat.zero_le _, rfl, rfl, Lib.hid rfl, S0⟩
  case round =>
    clear S0 rvs v0
    obtain ⟨k, f, x, rvs, hk, rfl, rfl, HE, S⟩ := hrel
    have HC := HCC.out k
    rw [HE.out] at HC
    have hxl := HC.len
    simp only at hxl
    have HXV := Lib.hid HC.ok
    have hfl : f ≤ 40 := by
      have h1 := HC.cnt
      have h2 := HUS.out
      simp only at h1
      omega
    have x0 : wr.cell? ⟨b, 0, none⟩ = some (.slice A5 n c5) := S.box.cell 0
    have x1 : wr.cell? ⟨b, 1, none⟩ = some (.slice R5 m d5) := S.box.cell 1
    have hbl := S.box.lt
    clear HC
    by_cases hlt : k < n
    · obtain ⟨cl, hcl⟩ : ∃ cl, x.cs[k]? = some cl := ⟨_, List.getElem?_eq_getElem (show k < x.cs.length by omega)⟩
      obtain ⟨gc, v, e4, hgc1, hgc2, -, -, y0, y1, y2, fz⟩ := S.own.cell_at hcl
      subst e4
      have hlt' : (k : Int) < n := by omega
      cases hu : cl.u
      · have HN := Lib.hid (Hps.ccTo_free HE.out (show Hps.usedAt x.cs k = false by rw [Hps.usedAt, hcl]; exact hu))
        rw [hu] at y0
        clear hcl hu y1 y2 fz
        go_wp2_with fail
        go_roundw
        case rel => exact ⟨k + 1, f, x, rvs, by omega, by go_num, rfl, HN, S⟩
        case measure => simp [intOf]; omega
      · have hua : Hps.usedAt x.cs k = true := Hps.usedAt_iff.2 ⟨cl, hcl, hu⟩
        have HN := Lib.hid (Hps.ccTo_used HE.out hua)
        have HD := Lib.hid (deadSet_any (some ⟨gc, 0, none⟩) R5 n c5 m d5 k x wr (hT2.below S.low) S.own.reads HXV.out hua)
        have hDl : (Hps.deadL x (k : Int)).length = n := by rw [Hps.deadL_len]; omega
        have HZ := Lib.hid (Hps.zap_drop (cs := x.cs) (D := Hps.deadL x (k : Int)) (by omega) (by omega))
        have HPC := Lib.hid (Hps.live_count (bs := Hps.deadL x (k : Int)) hDl (by omega))
        have hlv : Hps.liveTo (Hps.deadL x (k : Int)) n = (Hps.deadL x (k : Int)).count true := by rw [Hps.liveTo, List.take_of_length_le (by omega)]
        rw [hlv] at HPC
        have hf2 : f + (Hps.deadL x (k : Int)).count true ≤ 40 := by
          have h1 := (HCC.out (k + 1)).cnt
          rw [HN.out] at h1
          have h2 := HUS.out
          simp only at h1
          omega
        obtain ⟨V, hV⟩ : ∃ V, Bm.wordN (Hps.deadL x (k : Int)) true = V := ⟨_, rfl⟩
        have hVl : V < 18446744073709551616 := by rw [← hV]; exact Bm.wordN_lt _ _ (by omega)
        have HBIT : Hid (∀ i, V.testBit i = true → i < n) := Lib.hid fun i hi => by
          rw [← hV, Bm.wordN_bit, decide_eq_true_eq] at hi
          have := (List.getElem?_eq_some_iff.1 hi).1
          omega
        rw [hV] at HD HZ HPC
        obtain ⟨ct, hct⟩ : ∃ ct, (Hps.deadL x (k : Int)).count true = ct := ⟨_, rfl⟩
        rw [hct] at HN HPC hf2
        have hwr : IntKind.i64.wrap ((f : Int) + ct) = (f : Int) + ct := IntWalk.i64_in _ (by omega)
        rw [hu] at y0
        clear hcl hua hDl hlv hV hct hu y1 y2 fz
        go_wp2_with fail
        refine HD.out.mono ?_
        rintro e w7 ⟨rfl, b7⟩
        replace S := S.up b7
        have HM := Lib.hid (numbers_any V w7 (hT2.below S.low) hVl)
        have HNB := Lib.hid (fun (y : Int) (hy : y ∈ Hps.numsB V) => Hps.mem_numsB.1 hy)
        have hnl := Hps.nums_len V
        obtain ⟨N, hN⟩ : ∃ N, Hps.numsB V = N := ⟨_, rfl⟩
        rw [hN] at HM HNB hnl HZ
        have hgc7 := b7.size
        clear HD hN b7 x0 x1 y0
        go_wp2_with fail
        refine HM.out.mono ?_
        rintro e w8 ⟨nv, rfl, on, b8⟩
        obtain ⟨A7, c7, e7, _⟩ := on.form
        subst e7
        obtain ⟨pp, hpp⟩ : ∃ pp, N.length = pp := ⟨_, rfl⟩
        have HP := Lib.hid hpp
        rw [hpp] at on hnl
        rw [hpp]
        replace S := S.up b8
        have hne : (Value.slice A7 pp c7).ownBlock = none ∨ (Value.slice A7 pp c7).ownBlock ≠ some gc := .inr fun e => by have := (World.ownsRow.lt on gc e).1; omega
        have HNE := Lib.hid hne
        have HCT := Lib.hid (fun ww => count_any V ww hVl)
        rw [HPC.out] at HCT
        clear HM hpp b8 hne
        go_wp2_with fail
        go_loopw [36] (fun i wr => ∃ (j : Nat) (rvs : List Value), j ≤ pp ∧ i = .int .i64 j ∧ BoxSt w4 wr b (.slice (some ⟨gc, 0, none⟩) n c5) (.slice R5 m d5) rvs ⟨Hps.zapL x.cs (N.take j), x.rt⟩ ∧ OwnI wr w7.heap.size (.slice A7 pp c7) N) (fun i _ => pp - (intOf i).toNat)
        case atStart => exact ⟨0, rvs, Nat.zero_le _, rfl, S, on⟩
        case round =>
          clear S rvs on
          obtain ⟨j, rvs, hj, rfl, S, on⟩ := hrel
          have x0 : wr.cell? ⟨b, 0, none⟩ = some (.slice (some ⟨gc, 0, none⟩) n c5) := S.box.cell 0
          by_cases hlj : j < pp
          · obtain ⟨g7, o7, y, rfl, hg7, hy, d7⟩ := on.reads.at_ hlj
            obtain ⟨z, rfl, _, hzb⟩ := HNB.out y (List.mem_of_getElem? hy)
            have hzn := HBIT.out z hzb
            have hzl : (Hps.zapL x.cs (N.take j)).length = n := by rw [Hps.zapL_len]; omega
            obtain ⟨old, hold⟩ : ∃ old, (Hps.zapL x.cs (N.take j))[z]? = some old := ⟨_, List.getElem?_eq_getElem (show z < _ by rw [hzl]; exact hzn)⟩
            obtain ⟨g9, v, e9, _, _, -, -, y0, y1, y2, fz⟩ := S.own.cell_at hold
            injection e9 with e9
            injection e9 with e9
            subst e9
            have f0 := fz (z * 3)
            have f1 := fz (z * 3 + 1)
            have f2 := fz (z * 3 + 2)
            have SN := S.cell (cl := Hps.zeroCl) (rv := .slice none 0 0) hzl hold (World.ownsRow_nil _ _ _ _) (fun _ _ => .inl rfl) (.inl rfl)
            have HTS := Lib.hid (show Hps.zapL x.cs (N.take (j + 1)) = (Hps.zapL x.cs (N.take j)).set z Hps.zeroCl by rw [take_snocI hy, Hps.zapL_snoc]; rfl)
            rw [← HTS.out] at SN
            have SH := Lib.hid SN
            have on2 := Lib.hid (((on.far (put_any wr gc (z * 3) (.bool false)) HNE.out).far (put_any _ gc (z * 3 + 1) (.int .i64 0)) HNE.out).far (put_any _ gc (z * 3 + 2) (.slice none 0 0)) HNE.out)
            have hlj' : (j : Int) < pp := by omega
            have hzn' : (z : Int) < n := by omega
            clear hy hzb hold hzl S SN fz on
            go_wp2_with fail
            go_roundw
            case rel => exact ⟨j + 1, _, by omega, by go_num, SH.out, on2.out⟩
            case measure => simp [intOf]; omega
          · obtain rfl : j = pp := by omega
            rw [List.take_of_length_le (by rw [HP.out]; omega), HZ.out] at S
            have SH := Lib.hid S
            clear S
            go_wp2_with fail
            refine (HCT.out _).mono ?_
            rintro e w9 ⟨rfl, rfl⟩
            go_wp2_with fail
            go_roundw
            case rel => exact ⟨k + 1, f + ct, _, rvs, by omega, by go_num, by go_num, HN, SH.out⟩
            case measure => simp [intOf]; omega
    · obtain rfl : k = n := by omega
      rw [HE.out] at HF
      simp only at HF
      obtain ⟨w6, hw6e⟩ : ∃ w6, wr = w6 := ⟨_, rfl⟩
      subst hw6e
      have v0 := x0
      have v1 := x1
      have q3 := q3b.out.keep S.low hsz4
      have b6 := B2K.out.trans (S.low.mono B2K.out.size)
      have hrl := q3.lt
      have hw6 := b6.size
      have hcs : HS wr wr.heap.size A5 k R5 m x := S.own.reads
      have HCO := Lib.hid (show Hps.countsH x = Hps.countsL x by rw [Hps.countsH, HXV.out]; rfl)
      clear x0 x1 hlt
      go_upto_region 16 with fail
      obtain ⟨hcc5, hdd5⟩ : k ≤ c5 ∧ m ≤ d5 := by
        obtain ⟨_, _, _, _, e1, e2, h1, h2, -⟩ := S.own.form
        injection e1 with _ a1 a2
        injection e2 with _ a3 a4
        omega
      refine wp_region_inv (by kernel_rfl) (by kernel_rfl) (fun L ac ww => ∃ t3 t51 t52 t53 t54 t55 : Value, ac = { tmps := #[ctV A k c R m d K p q, Value.pointer (some { block := w.heap.size, off := 0 }), Value.pointer (some { block := w.heap.size + 1, off := 0 }), t3, Value.pointer (some { block := b, off := 0 }), Value.int IntKind.i64 ↑f, u6, u7, undef, u9, Value.agg #[Value.slice A k c, Value.slice R m d, Value.slice K p q], Value.bool true, Value.bool false, undef, Value.pointer (some { block := w.heap.size, off := 0 }), Value.agg #[Value.slice A k c, Value.slice R m d], Value.agg #[Value.slice A5 k c5, Value.slice R5 m d5], Value.pointer (some { block := b, off := 0 }), Value.slice A5 k c5, Value.int IntKind.i64 ↑k, Value.int IntKind.i64 ↑k, Value.bool false, u22, u23, u24, u25, u26, u27, u28, u29, u30, u31, u32, u33, u34, u35, u36, u37, u38, u39, u40, u41, u42, u43, u44, u45, u46, u47, u48, u49, u50, t51, t52, t53, t54, t55], defers := [] } ∧ (L 5 = false → Below wr.heap.size wr ww) ∧ (L 0 = true → t51 = .agg #[.slice A5 k c5, .slice R5 m d5]) ∧ (L 1 = true → t52 = .agg #[.slice A5 k c5, .slice R5 m d5]) ∧ (L 2 = true → ∃ K5 p5 q5, t53 = .slice K5 p5 q5 ∧ (L 5 = false → OwnI ww wr.heap.size t53 (Hps.countsL x))) ∧ (L 3 = true → t54 = .agg #[.slice A5 k c5, .slice R5 m d5, t53] ∧ L 2 = true) ∧ (L 4 = true → t55 = .int .i64 f) ∧ (L 5 = true → (∀ q, q < 4 → L q = true) ∧ ∃ wp K5 p5 q5, t53 = .slice K5 p5 q5 ∧ ww = ((((wp).setCell ⟨w.heap.size + 1, 0, none⟩ (.slice A5 k c5)).setCell ⟨w.heap.size + 1, 1, none⟩ (.slice R5 m d5)).setCell ⟨w.heap.size + 1, 2, none⟩ (t53)) ∧ Below wr.heap.size wr wp ∧ OwnI wp wr.heap.size t53 (Hps.countsL x)) ∧ (L 6 = true → t3 = .int .i64 f ∧ L 5 = true)) ?h0 ?hstep ?hdone
      case h0 => exact ⟨_, _, _, _, _, _, rfl, fun _ => (Below.refl _ _).drew, (fun h => absurd h Bool.false_ne_true), (fun h => absurd h Bool.false_ne_true), (fun h => absurd h Bool.false_ne_true), (fun h => absurd h Bool.false_ne_true), (fun h => absurd h Bool.false_ne_true), (fun h => absurd h Bool.false_ne_true), (fun h => absurd h Bool.false_ne_true)⟩
      case hstep =>
        rintro L ac ww i o ho hL hd ⟨t3, t51, t52, t53, t54, t55, rfl, I0, f0, f1, f2, f3, f4, f5, f6⟩
        have hi : i < 7 := (Array.getElem?_eq_some_iff.1 ho).1
        obtain rfl | rfl | rfl | rfl | rfl | rfl | rfl : i = 0 ∨ i = 1 ∨ i = 2 ∨ i = 3 ∨ i = 4 ∨ i = 5 ∨ i = 6 := by omega
        · obtain rfl := Option.some.inj ho
          have hL5 : L 5 = false := by
            cases e : L 5
            · rfl
            · exact absurd ((f5 e).1 0 (by decide)) (by rw [hL]; decide)
          have J := I0 hL5
          have z0 : ww.cell? ⟨b, 0, none⟩ = some (.slice A5 k c5) := (J.cell (p := ⟨b, 0, none⟩) hbl).trans v0
          have z1 : ww.cell? ⟨b, 1, none⟩ = some (.slice R5 m d5) := (J.cell (p := ⟨b, 1, none⟩) hbl).trans v1
          refine wpOp_step rfl (fun K' hK => ?_)
          go_simp
          refine hK _ _ ?_
          exact ⟨_, _, _, _, _, _, rfl, (fun _ => J), (fun _ => rfl), (kp f1), (fun h => by
            obtain ⟨K5, p5, q5, e8, r8⟩ := f2 (upd_ne h (by decide))
            exact ⟨K5, p5, q5, e8, fun h5 => r8 (by rw [upd_other (by decide)] at h5; exact h5)⟩), (fun h => ⟨(f3 (upd_ne h (by decide))).1, upd_mono (f3 (upd_ne h (by decide))).2⟩), (kp f4), (fun h => absurd hL5 (by rw [upd_ne h (by decide)]; decide)), (fun h => absurd (f6 (upd_ne h (by decide))).2 (by rw [hL5]; decide))⟩
        · obtain rfl := Option.some.inj ho
          have hL5 : L 5 = false := by
            cases e : L 5
            · rfl
            · exact absurd ((f5 e).1 1 (by decide)) (by rw [hL]; decide)
          have J := I0 hL5
          have z0 : ww.cell? ⟨b, 0, none⟩ = some (.slice A5 k c5) := (J.cell (p := ⟨b, 0, none⟩) hbl).trans v0
          have z1 : ww.cell? ⟨b, 1, none⟩ = some (.slice R5 m d5) := (J.cell (p := ⟨b, 1, none⟩) hbl).trans v1
          refine wpOp_step rfl (fun K' hK => ?_)
          go_simp
          refine hK _ _ ?_
          exact ⟨_, _, _, _, _, _, rfl, (fun _ => J), (kp f0), (fun _ => rfl), (fun h => by
            obtain ⟨K5, p5, q5, e8, r8⟩ := f2 (upd_ne h (by decide))
            exact ⟨K5, p5, q5, e8, fun h5 => r8 (by rw [upd_other (by decide)] at h5; exact h5)⟩), (fun h => ⟨(f3 (upd_ne h (by decide))).1, upd_mono (f3 (upd_ne h (by decide))).2⟩), (kp f4), (fun h => absurd hL5 (by rw [upd_ne h (by decide)]; decide)), (fun h => absurd (f6 (upd_ne h (by decide))).2 (by rw [hL5]; decide))⟩
        · obtain rfl := Option.some.inj ho
          have g1 := f1 (hd ⟨1, .data⟩ (by simp) rfl)
          subst g1
          have hL5 : L 5 = false := by
            cases e : L 5
            · rfl
            · exact absurd ((f5 e).1 2 (by decide)) (by rw [hL]; decide)
          have J := I0 hL5
          refine wpOp_step rfl (fun K' hK => ?_)
          go_simp
          refine (refCounts_any A5 R5 k c5 m d5 x ww (hcs.up J) (by omega) (by omega) hcc5 hdd5).mono ?_
          rw [HCO.out]
          rintro e w' ⟨v1, rfl, o1, b5⟩
          obtain ⟨K5, q5, e8, -⟩ := o1.form
          refine hK _ _ ?_
          exact ⟨_, _, _, _, _, _, rfl, (fun _ => J.trans (b5.mono J.size)), (kp f0), (kp f1), (fun _ => ⟨K5, _, q5, e8, fun _ => o1.base J.size⟩), (fun h => absurd (f3 (upd_ne h (by decide))).2 (by rw [hL]; decide)), (kp f4), (fun h => absurd hL5 (by rw [upd_ne h (by decide)]; decide)), (fun h => absurd (f6 (upd_ne h (by decide))).2 (by rw [hL5]; decide))⟩
        · obtain rfl := Option.some.inj ho
          have g0 := f0 (hd ⟨0, .data⟩ (by simp) rfl)
          have g2 := f2 (hd ⟨2, .data⟩ (by simp) rfl)
          subst g0
          have hL5 : L 5 = false := by
            cases e : L 5
            · rfl
            · exact absurd ((f5 e).1 3 (by decide)) (by rw [hL]; decide)
          have J := I0 hL5
          have l3 := Lib.hid (hd ⟨2, .data⟩ (by simp) rfl)
          obtain ⟨K5, p5, q5, e8, r8⟩ := g2
          subst e8
          refine wpOp_step rfl (fun K' hK => ?_)
          go_simp
          refine hK _ _ ?_
          exact ⟨_, _, _, _, _, _, rfl, (fun _ => J), (kp f0), (kp f1), (fun _ => ⟨K5, p5, q5, rfl, fun h7 => r8 (by rw [upd_other (by decide)] at h7; exact h7)⟩), (fun _ => ⟨rfl, upd_mono l3.out⟩), (kp f4), (fun h => absurd hL5 (by rw [upd_ne h (by decide)]; decide)), (fun h => absurd (f6 (upd_ne h (by decide))).2 (by rw [hL5]; decide))⟩
        · obtain rfl := Option.some.inj ho
          refine wpOp_step rfl (fun K' hK => ?_)
          go_simp
          refine hK _ _ ?_
          exact ⟨_, _, _, _, _, _, rfl, (fun h => I0 (by rw [upd_other (by decide)] at h; exact h)), (kp f0), (kp f1), (fun h => by
            obtain ⟨K5, p5, q5, e8, r8⟩ := f2 (upd_ne h (by decide))
            exact ⟨K5, p5, q5, e8, fun h5 => r8 (by rw [upd_other (by decide)] at h5; exact h5)⟩), (fun h => ⟨(f3 (upd_ne h (by decide))).1, upd_mono (f3 (upd_ne h (by decide))).2⟩), (fun _ => rfl), (fun h => by
            obtain ⟨a1, a2⟩ := f5 (upd_ne h (by decide))
            exact ⟨fun q hq => upd_mono (a1 q hq), a2⟩), (fun h => ⟨(f6 (upd_ne h (by decide))).1, upd_mono (f6 (upd_ne h (by decide))).2⟩)⟩
        · obtain rfl := Option.some.inj ho
          have g3 := f3 (hd ⟨3, .data⟩ (by simp) rfl)
          have lq : Hid (∀ q, q < 4 → L q = true) := Lib.hid (by
            intro q hq
            obtain rfl | rfl | rfl | rfl : q = 0 ∨ q = 1 ∨ q = 2 ∨ q = 3 := by omega
            · exact hd ⟨0, .phase⟩ (by simp) rfl
            · exact hd ⟨1, .phase⟩ (by simp) rfl
            · exact hd ⟨2, .phase⟩ (by simp) rfl
            · exact hd ⟨3, .phase⟩ (by simp) rfl)
          have J := I0 hL
          obtain ⟨e9, -⟩ := g3
          subst e9
          obtain ⟨K5, p5, q5, e8, r8⟩ := f2 (lq.out 2 (by decide))
          subst e8
          have o8 := r8 hL
          have P := q3.keep J hrl
          have zf0 : ww.frozen? ⟨w.heap.size + 1, 0, none⟩ = false := P.frozen 0
          have zf1 : ww.frozen? ⟨w.heap.size + 1, 1, none⟩ = false := P.frozen 1
          have zf2 : ww.frozen? ⟨w.heap.size + 1, 2, none⟩ = false := P.frozen 2
          have zc0 : ww.cell? ⟨w.heap.size + 1, 0, none⟩ = some (.slice none 0 0) := P.cell 0
          have zc1 : ww.cell? ⟨w.heap.size + 1, 1, none⟩ = some (.slice none 0 0) := P.cell 1
          have zc2 : ww.cell? ⟨w.heap.size + 1, 2, none⟩ = some (.slice none 0 0) := P.cell 2
          refine wpOp_step rfl (fun K' hK => ?_)
          go_simp
          refine hK _ _ ?_
          exact ⟨_, _, _, _, _, _, rfl, (fun h => absurd h (by rw [upd_self]; decide)), (kp f0), (kp f1), (fun _ => ⟨K5, p5, q5, rfl, fun h => absurd h (by rw [upd_self]; decide)⟩), (fun _ => ⟨rfl, upd_mono (lq.out 2 (by decide))⟩), (kp f4), (fun _ => ⟨fun q hq => upd_mono (lq.out q hq), ww, K5, p5, q5, rfl, rfl, J, o8⟩), (fun h => absurd (f6 (upd_ne h (by decide))).2 (by rw [hL]; decide))⟩
        · obtain rfl := Option.some.inj ho
          have g4 := f4 (hd ⟨4, .data⟩ (by simp) rfl)
          subst g4
          have l5 := Lib.hid (hd ⟨5, .chain⟩ (by simp) rfl)
          refine wpOp_step rfl (fun K' hK => ?_)
          go_simp
          refine hK _ _ ?_
          exact ⟨_, _, _, _, _, _, rfl, (fun h => absurd l5.out (by rw [upd_other (by decide)] at h; rw [h]; decide)), (kp f0), (kp f1), (fun h => by
            obtain ⟨K5, p5, q5, e8, r8⟩ := f2 (upd_ne h (by decide))
            exact ⟨K5, p5, q5, e8, fun h5 => absurd l5.out (by rw [upd_other (by decide)] at h5; rw [h5]; decide)⟩), (fun h => ⟨(f3 (upd_ne h (by decide))).1, upd_mono (f3 (upd_ne h (by decide))).2⟩), (kp f4), (fun h => by
            obtain ⟨a1, a2⟩ := f5 (upd_ne h (by decide))
            exact ⟨fun q hq => upd_mono (a1 q hq), a2⟩), (fun _ => ⟨rfl, upd_mono l5.out⟩)⟩
      case hdone =>
        rintro L ac ww hall ⟨t3, t51, t52, t53, t54, t55, rfl, I0, f0, f1, f2, f3, f4, f5, f6⟩
        have e0 := f0 (hall 0 (by decide))
        have e1 := f1 (hall 1 (by decide))
        have e2 := f2 (hall 2 (by decide))
        have e3 := f3 (hall 3 (by decide))
        have e4 := f4 (hall 4 (by decide))
        have e5 := f5 (hall 5 (by decide))
        have e6 := f6 (hall 6 (by decide))
        clear f0 f1 f2 f3 f4 f5 f6
        obtain ⟨-, wp, K5, p5, q5, rfl, rfl, r1, r9⟩ := e5
        obtain ⟨rfl, -⟩ := e6
        have hlo6 := S.low.size
        have OC := OwnC.of S.ownH r1 r9 hlo6
        have P := q3.keep r1 hrl
        have bP := b6.trans (r1.mono hw6)
        have P4 := ((P.put 0 (.slice A5 k c5)).put 1 (.slice R5 m d5)).put 2 (.slice K5 p5 q5)
        have s8 : ((((wp).setCell ⟨w.heap.size + 1, 0, none⟩ (.slice A5 k c5)).setCell ⟨w.heap.size + 1, 1, none⟩ (.slice R5 m d5)).setCell ⟨w.heap.size + 1, 2, none⟩ (.slice K5 p5 q5)).cell? ⟨w.heap.size + 1, 0, none⟩ = some (.slice A5 k c5) := P4.cell 0
        have s9 : ((((wp).setCell ⟨w.heap.size + 1, 0, none⟩ (.slice A5 k c5)).setCell ⟨w.heap.size + 1, 1, none⟩ (.slice R5 m d5)).setCell ⟨w.heap.size + 1, 2, none⟩ (.slice K5 p5 q5)).cell? ⟨w.heap.size + 1, 1, none⟩ = some (.slice R5 m d5) := P4.cell 1
        have s10 : ((((wp).setCell ⟨w.heap.size + 1, 0, none⟩ (.slice A5 k c5)).setCell ⟨w.heap.size + 1, 1, none⟩ (.slice R5 m d5)).setCell ⟨w.heap.size + 1, 2, none⟩ (.slice K5 p5 q5)).cell? ⟨w.heap.size + 1, 2, none⟩ = some (.slice K5 p5 q5) := P4.cell 2
        have D := Lib.hid (OwnC.out (w := w) (g := w.heap.size + 1) OC (by omega) bP (by omega))
        clear I0 e0 e1 e2 e3 e4 hall r1 r9 P P4 OC bP S q3 b6 v0 v1
        go_wp2_with fail
        exact bodyPost_ret (v := .tuple #[.agg #[.slice A5 k c5, .slice R5 m d5, .slice K5 p5 q5], .int .i64 f]) (by simp [results, Tryd.results17, go_sem, *]) rfl ⟨_, _, _, by rw [HF.out], by rw [HF.out]; exact D.out.1, D.out.2⟩
end Go.Proofs.YtiojoailjiojjaaDoor

namespace Go.Proofs.YtiojoailjiojjaaDoor
open Go.RowKit
set_option maxRecDepth 100000
set_option maxHeartbeats 8000000 in
theorem countsCompleteLaw_walk (A0 : Option Addr) (n0 c0 : Nat) (w : World) (hby : Bytes w w.heap.size A0 n0) (hc0 : n0 ≤ c0) (hn0 : n0 ≤ 9223372036854775807) (hT : TzT w) :
    Calls Tryd.prog 5 #[.slice A0 n0 c0] w fun e w' => e = .returned (.bool true) ∧ Below w.heap.size w w' := by
  by_cases hs : n0 ≤ 1048576
  case neg =>
    have hs' : (1048576 : Int) < (n0 : Int) := by omega
    go_enter Tryd.func5, Tryd.ntmps5
    go_wp2
    go_ret
    exact ⟨rfl, Below.refl _ _⟩
  have hs' : decide ((1048576 : Int) < (n0 : Int)) = false := by simp; omega
  go_enter Tryd.func5, Tryd.ntmps5
  go_wp2_with fail
  refine (drawRunCounted_any _ _ _ _ hby hc0 hn0).mono ?_
  rintro e w1 ⟨Al, nl, cl, l, rfl, hcl, hl41, om, -, b1⟩
  have ms := om.reads
  have hT1 := hT.below b1
  obtain ⟨h, eh⟩ : ∃ h, (Hps.runCt l).1 = h := ⟨_, rfl⟩
  obtain ⟨ct, ect⟩ : ∃ ct, (Hps.runCt l).2 = ct := ⟨_, rfl⟩
  obtain ⟨hw, ehw⟩ : ∃ hw, Hps.runH l = hw := ⟨_, rfl⟩
  have EH := Lib.hid eh
  have ECT := Lib.hid ect
  have EHW := Lib.hid ehw
  have CASES := Lib.hid (Hps.runCt_cases l)
  have HT40 := Hps.runH_tiny l
  rw [ehw] at HT40
  rw [show Hps.runCt l = (h, ct) by rw [← eh, ← ect], ehw] at CASES
  simp only at CASES
  obtain ⟨n, hnx⟩ : ∃ n, h.cs.length = n := ⟨_, rfl⟩
  obtain ⟨m, hmx⟩ : ∃ m, h.rt.length = m := ⟨_, rfl⟩
  obtain ⟨p, hpx⟩ : ∃ p, ct.length = p := ⟨_, rfl⟩
  have HNX := Lib.hid hnx
  have HMX := Lib.hid hmx
  have HPX := Lib.hid hpx
  have HXS := Lib.hid (show n ≤ 41 ∧ m ≤ 4 ∧ p ≤ 41 ∧ ∀ x ∈ h.cs, x.r.length ≤ 1000000 by
    rcases CASES.out with ⟨_, e⟩ | ⟨_, e, _⟩
    · injection e with e1 e2
      subst e1 e2
      exact ⟨by rw [← hnx]; decide, by rw [← hmx]; decide, by rw [← hpx]; decide, fun x hx => by simp [Hps.zeroH] at hx⟩
    · obtain ⟨hv, hl⟩ := Hps.okCt_iff.1 e
      obtain ⟨a, b, c3, _⟩ := Hps.valid_iff.1 hv
      have := Hps.counts_len h
      rw [← hl] at this
      exact ⟨by omega, by omega, by omega, fun x hx => by have := (Hps.okCell_iff.1 (a x hx)).2.2.1; omega⟩)
  obtain ⟨hn41, hm4, hp41, -⟩ := HXS.out
  clear eh ect ehw hnx hmx hpx om hby
  go_wp2_with fail
  refine (runCounted_any _ _ _ l _ hT1 ms (by omega) hcl).mono ?_
  rw [EH.out, ECT.out]
  rintro e w2 ⟨vc, vr, vk, rfl, ⟨rvs, own⟩, b2⟩
  obtain ⟨A, c, R, d, K, q, rfl, rfl, rfl⟩ := own.slices
  have hcx := own.heap.caps
  have hcx1 := hcx.2.2.1
  have hcx2 := hcx.2.2.2
  have rx := own.heap.reads
  have kx := own.cnts.reads
  rw [HNX.out] at rx hcx1 ⊢
  rw [HMX.out] at rx hcx2 ⊢
  rw [HPX.out] at kx ⊢
  have bB : Below w2.heap.size w2 (w2.alloc (.cells #[.slice A n c, .slice R m d, .slice K p q] 38)) := (Below.refl _ _).alloc (Nat.le_refl _) _
  have qx := Rw.new w2 38 #[.slice A n c, .slice R m d, .slice K p q]
  replace rx := rx.up bB
  replace kx := kx.up bB
  replace ms := (ms.up b2).up bB
  have hT3 := (hT1.below b2).below bB
  have bb := (b1.trans (b2.mono b1.size)).trans (bB.mono (b1.trans (b2.mono b1.size)).size)
  clear own hcx bB b1 b2 hT1
  go_upto_region 5 with fail
  generalize w2.alloc (.cells #[.slice A n c, .slice R m d, .slice K p q] 38) = w3 at qx rx kx ms hT3 bb ⊢
  generalize w2.heap.size = g4 at qx ⊢
  have hql := qx.lt
  have x0 : w3.cell? ⟨g4, 0, none⟩ = some (.slice A n c) := qx.cell 0
  have x1 : w3.cell? ⟨g4, 1, none⟩ = some (.slice R m d) := qx.cell 1
  have x2 : w3.cell? ⟨g4, 2, none⟩ = some (.slice K p q) := qx.cell 2
  refine wp_region_inv (by kernel_rfl) (by kernel_rfl) (fun L ac ww => ∃ t18 t19 t20 t21 t22 : Value, ac = { tmps := #[Value.slice A0 n0 c0, undef, Value.bool false, Value.slice Al nl cl, Value.pointer (some { block := g4, off := 0 }), undef, undef, undef, undef, undef, undef, Value.slice A0 n0 c0, Value.int IntKind.i64 ↑n0, Value.bool false, Value.slice A0 n0 c0, Value.slice Al nl cl, Value.slice Al nl cl, Value.agg #[Value.slice A n c, Value.slice R m d, Value.slice K p q], t18, t19, t20, t21, t22, undef, undef, undef, undef, undef, undef, undef, undef, undef, undef, undef, undef, undef, undef, undef, undef, undef, undef, undef, undef, undef, undef, undef, undef], defers := [] } ∧ (Below w3.heap.size w3 ww) ∧ (L 0 = true → t18 = ctV A n c R m d K p q) ∧ (L 1 = true → t19 = .slice Al nl cl) ∧ (L 2 = true → ∃ (A5 R5 K5 : Option Addr) (c5 d5 q5 : Nat), t20 = ctV A5 n c5 R5 m d5 K5 p q5 ∧ HS ww ww.heap.size A5 n R5 m h ∧ IS ww ww.heap.size K5 p ct) ∧ (L 3 = true → t21 = .bool true) ∧ (L 4 = true → t22 = .bool false)) ?h0 ?hstep ?hdone
  case h0 => exact ⟨_, _, _, _, _, rfl, (Below.refl _ _).drew, (fun h => absurd h Bool.false_ne_true), (fun h => absurd h Bool.false_ne_true), (fun h => absurd h Bool.false_ne_true), (fun h => absurd h Bool.false_ne_true), (fun h => absurd h Bool.false_ne_true)⟩
  case hstep =>
    rintro L ac ww i o ho hL hd ⟨t18, t19, t20, t21, t22, rfl, I0, f0, f1, f2, f3, f4⟩
    have hi : i < 5 := (Array.getElem?_eq_some_iff.1 ho).1
    obtain rfl | rfl | rfl | rfl | rfl : i = 0 ∨ i = 1 ∨ i = 2 ∨ i = 3 ∨ i = 4 := by omega
    · obtain rfl := Option.some.inj ho
      have y0 : ww.cell? ⟨g4, 0, none⟩ = some (.slice A n c) := (I0.cell (p := ⟨g4, 0, none⟩) hql).trans x0
      have y1 : ww.cell? ⟨g4, 1, none⟩ = some (.slice R m d) := (I0.cell (p := ⟨g4, 1, none⟩) hql).trans x1
      have y2 : ww.cell? ⟨g4, 2, none⟩ = some (.slice K p q) := (I0.cell (p := ⟨g4, 2, none⟩) hql).trans x2
      refine wpOp_step rfl (fun K' hK => ?_)
      go_simp
      refine hK _ _ ?_
      exact ⟨_, _, _, _, _, rfl, (I0), (fun _ => rfl), (kp f1), (kp f2), (kp f3), (kp f4)⟩
    · obtain rfl := Option.some.inj ho
      refine wpOp_step rfl (fun K' hK => ?_)
      go_simp
      refine hK _ _ ?_
      exact ⟨_, _, _, _, _, rfl, (I0), (kp f0), (fun _ => rfl), (kp f2), (kp f3), (kp f4)⟩
    · obtain rfl := Option.some.inj ho
      have g1 := f1 (hd ⟨1, .data⟩ (by simp) rfl)
      subst g1
      refine wpOp_step rfl (fun K' hK => ?_)
      go_simp
      refine (mRunCounted_any _ _ _ l ww (ms.up I0) (by omega)).mono ?_
      rw [EH.out, ECT.out]
      rintro e w' ⟨vc, vr, vk, rfl, ⟨rv, ow⟩, b5⟩
      obtain ⟨A5, c5, R5, d5, K5, q5, rfl, rfl, rfl⟩ := ow.slices
      have hr9 := ow.heap.reads
      have hk9 := ow.cnts.reads
      rw [HNX.out, HMX.out] at hr9
      rw [HPX.out] at hk9
      rw [HNX.out, HMX.out, HPX.out]
      refine hK _ _ ?_
      exact ⟨_, _, _, _, _, rfl, (I0.trans (b5.mono I0.size)), (kp f0), (kp f1), (fun _ => ⟨A5, R5, K5, c5, d5, q5, rfl, hr9, hk9⟩), (kp f3), (kp f4)⟩
    · obtain rfl := Option.some.inj ho
      have g0 := f0 (hd ⟨0, .data⟩ (by simp) rfl)
      have g2 := f2 (hd ⟨2, .data⟩ (by simp) rfl)
      subst g0
      obtain ⟨A5, R5, K5, c5, d5, q5, rfl, hr9, hk9⟩ := g2
      refine wpOp_step rfl (fun K' hK => ?_)
      go_simp
      refine (sameCounted_same _ _ _ _ _ _ _ _ _ _ _ _ _ _ _ h ct ww (rx.up I0) (kx.up I0) hr9 hk9 (by omega) (by omega) (by omega) HXS.out.2.2.2).mono ?_
      rintro e w' ⟨rfl, b5⟩
      refine hK _ _ ?_
      exact ⟨_, _, _, _, _, rfl, (I0.trans (b5.mono I0.size)), (kp f0), (kp f1), (fun _ => ⟨A5, R5, K5, c5, d5, q5, rfl, hr9.up b5, hk9.up b5⟩), (fun _ => rfl), (kp f4)⟩
    · obtain rfl := Option.some.inj ho
      have g3 := f3 (hd ⟨3, .data⟩ (by simp) rfl)
      subst g3
      refine wpOp_step rfl (fun K' hK => ?_)
      go_simp
      refine hK _ _ ?_
      exact ⟨_, _, _, _, _, rfl, (I0), (kp f0), (kp f1), (kp f2), (kp f3), (fun _ => rfl)⟩
  case hdone =>
    rintro L ac ww hall ⟨t18, t19, t20, t21, t22, rfl, I0, f0, f1, f2, f3, f4⟩
    have e0 := f0 (hall 0 (by decide))
    have e1 := f1 (hall 1 (by decide))
    have e2 := f2 (hall 2 (by decide))
    have e3 := f3 (hall 3 (by decide))
    have e4 := f4 (hall 4 (by decide))
    clear f0 f1 f2 f3 f4
    subst e3 e4
    replace qx := qx.keep I0 qx.lt
    replace rx := rx.up I0
    replace kx := kx.up I0
    replace ms := ms.up I0
    replace hT3 := hT3.below I0
    replace bb := bb.trans (I0.mono bb.size)
    clear e0 e1 e2 x0 x1 x2 hql hall I0
    generalize ww = w4 at *
    have x0 : w4.cell? ⟨g4, 0, none⟩ = some (.slice A n c) := qx.cell 0
    have x1 : w4.cell? ⟨g4, 1, none⟩ = some (.slice R m d) := qx.cell 1
    have x2 : w4.cell? ⟨g4, 2, none⟩ = some (.slice K p q) := qx.cell 2
    obtain ⟨v, hv⟩ : ∃ v, Hps.okCms l = v := ⟨_, rfl⟩
    have HV := Lib.hid hv
    rw [hv] at CASES
    clear hv
    go_wp2_with fail
    refine (mCommandsValid_any _ _ _ l _ ms (by omega)).mono ?_
    rw [HV.out]
    rintro e w5 ⟨rfl, b5⟩
    replace qx := qx.keep b5 qx.lt
    replace rx := rx.up b5
    replace kx := kx.up b5
    replace ms := ms.up b5
    replace hT3 := hT3.below b5
    replace bb := bb.trans (b5.mono bb.size)
    clear x0 x1 x2 b5
    have x0 : w5.cell? ⟨g4, 0, none⟩ = some (.slice A n c) := qx.cell 0
    have x1 : w5.cell? ⟨g4, 1, none⟩ = some (.slice R m d) := qx.cell 1
    have x2 : w5.cell? ⟨g4, 2, none⟩ = some (.slice K p q) := qx.cell 2
    cases v
    · have hm0 : m = 0 := by
        rcases CASES.out with ⟨_, e⟩ | ⟨e, _⟩
        · injection e with e1 e2
          have := HMX.out
          rw [e1] at this
          exact this.symm
        · cases e
      have hm0' : ((m : Int) == 0) = true := by simp [hm0]
      clear hm0
      go_wp2_with fail
      refine (alive_any _).mono ?_
      rintro e w6 ⟨rfl, b6⟩
      go_wp2_with fail
      go_ret
      exact ⟨rfl, bb.trans (b6.mono bb.size)⟩
    have HC := Lib.hid (show Hps.okCt h ct = true ∧ Hps.okCms l = true by
      rcases CASES.out with ⟨e, _⟩ | ⟨_, e⟩
      · cases e
      · exact ⟨e.1, HV.out⟩)
    have HCR := Hps.cycles_right HC.out.1
    have HCC := Hps.cycles_complete HC.out.2
    rw [EH.out, ECT.out, EHW.out] at HCC
    obtain ⟨X, hX⟩ : ∃ X, (Hps.cyclesH h ct).1.1 = X := ⟨_, rfl⟩
    obtain ⟨XL, hXL⟩ : ∃ XL, (Hps.cyclesH h ct).1.2 = XL := ⟨_, rfl⟩
    obtain ⟨XN, hXN⟩ : ∃ XN, (Hps.cyclesH h ct).2 = XN := ⟨_, rfl⟩
    have HX := Lib.hid hX
    have HXL := Lib.hid hXL
    have HXN := Lib.hid hXN
    rw [hX] at HCC
    rw [hX, hXL] at HCR
    have hxv := Hps.valid_small (Hps.okCt_iff.1 HCR.1).1
    have hx40 := hxv.1
    have hx4 : X.rt.length ≤ 4 := by have := hxv.2.1; omega
    have HCE := Lib.hid HCC
    clear hX hXL hXN HCR HCC hxv
    go_wp2_with fail
    refine (collectCycles_any _ _ _ _ _ _ _ _ _ h ct _ hT3 rx kx (by omega) (by omega) (by omega) hcx1 hcx2).mono ?_
    rw [HX.out, HXL.out, HXN.out]
    rintro e w6 ⟨vc, vr, vk, rfl, ⟨rvs, own⟩, b6⟩
    obtain ⟨A8, c8, R8, d8, K8, q8, rfl, rfl, rfl⟩ := own.slices
    have hcx8 := own.heap.caps
    have hcx81 := hcx8.2.2.1
    have hcx82 := hcx8.2.2.2
    have r8 := own.heap.reads
    generalize hn8 : X.cs.length = n8 at *
    generalize hm8 : X.rt.length = m8 at *
    generalize hp8 : XL.length = p8 at *
    replace ms := ms.up b6
    replace bb := bb.trans (b6.mono bb.size)
    have bB : Below w6.heap.size w6 (w6.alloc (.cells #[.slice A8 n8 c8, .slice R8 m8 d8, .slice K8 p8 q8] 38)) := (Below.refl _ _).alloc (Nat.le_refl _) _
    have qx8 := Rw.new w6 38 #[.slice A8 n8 c8, .slice R8 m8 d8, .slice K8 p8 q8]
    replace r8 := r8.up bB
    replace ms := ms.up bB
    replace bb := bb.trans (bB.mono bb.size)
    clear own hcx8 bB b6 x0 x1 x2 qx rx kx hT3
    go_upto_region 10 with fail
    generalize w6.alloc (.cells #[.slice A8 n8 c8, .slice R8 m8 d8, .slice K8 p8 q8] 38) = w7 at qx8 r8 ms bb ⊢
    generalize w6.heap.size = g8 at qx8 ⊢
    have x0 : w7.cell? ⟨g8, 0, none⟩ = some (.slice A8 n8 c8) := qx8.cell 0
    have x1 : w7.cell? ⟨g8, 1, none⟩ = some (.slice R8 m8 d8) := qx8.cell 1
    obtain ⟨U, hU⟩ : ∃ U, (Hps.usedH X).1 = U := ⟨_, rfl⟩
    obtain ⟨U2, hU2⟩ : ∃ U2, (Hps.usedH X).2 = U2 := ⟨_, rfl⟩
    obtain ⟨L1, hL1⟩ : ∃ L1, (Hps.usedH hw).1 = L1 := ⟨_, rfl⟩
    obtain ⟨L2, hL2⟩ : ∃ L2, (Hps.usedH hw).2 = L2 := ⟨_, rfl⟩
    have HU := Lib.hid hU
    have HU2 := Lib.hid hU2
    have HL1 := Lib.hid hL1
    have HL2 := Lib.hid hL2
    have HEQ := HCE.out
    rw [hU, hL2] at HEQ
    have heq : (U == L2) = true := by rw [beq_iff_eq]; exact HEQ
    obtain ⟨hnw40, hmw4⟩ := HT40
    clear hU hU2 hL1 hL2 HEQ
    go_wp2_with fail
    refine (usedCells_any _ _ _ _ _ _ X _ r8 (by omega) (by omega) hcx81 hcx82).mono ?_
    rw [HU.out, HU2.out]
    rintro e w8 ⟨rfl, b8⟩
    replace ms := ms.up b8
    replace bb := bb.trans (b8.mono bb.size)
    clear x0 x1 b8 r8 qx8
    go_wp2_with fail
    refine (runHeap_any _ _ _ l _ ms (by omega) hcl).mono ?_
    rw [EHW.out]
    rintro e w9 ⟨vc, vr, rfl, ⟨rv, ow⟩, b9⟩
    obtain ⟨A5, c5, R5, d5, rfl, rfl, hc5, hd5, -⟩ := ow.form
    have hr9 := ow.reads
    replace bb := bb.trans (b9.mono bb.size)
    clear ow b9
    go_wp2_with fail
    refine (usedCells_any _ _ _ _ _ _ hw _ hr9 (by omega) (by omega) hc5 hd5).mono ?_
    rw [HL1.out, HL2.out]
    rintro e w10 ⟨rfl, b10⟩
    go_wp2_with fail
    go_ret
    exact ⟨rfl, bb.trans (b10.mono bb.size)⟩
end Go.Proofs.YtiojoailjiojjaaDoor

namespace Go.Proofs.YtiojoailjiojjaaDoor
open Go.ChangeShapes Go.WideShapes Go.ChangeAt Go.RowKit Go.Deep
theorem own : ownKnob Tryd.prog.godebug = none := by kernel_rfl
theorem laidOut : laidOutB Tryd.prog = true := by kernel_rfl
section
variable {H : Type} {enc : TypeId × Value → H} {P : Program} {W W' : World}
/-- all arguments read as they did -/
theorem stay_all (hl : laidOutB P = true) (hb : Below W.heap.size W W') : ∀ {ts : List TypeId} {vs : List Value} {ds : List (DataW H)} {p : List MemPlace},
    (∀ t ∈ ts, P.readableRec t = true ∧ t < P.types.size) → DataW.TrodAll enc P W 0 (fun _ => true) true ts vs ds p → (∀ x ∈ p, x.block < W.heap.size) →
    DataW.TrodAll enc P W' 0 (fun b => decide (b < W.heap.size)) true ts vs ds p
  | [], _, _, _, _, h, _ => by
    obtain ⟨rfl, rfl, rfl⟩ := trodAll_nil h
    exact trodAll_mk0
  | t :: ts, _, _, _, hts, h, hlt => by
    obtain ⟨v, vs, d, ds, p, q, rfl, rfl, rfl, h0, hr⟩ := trodAll_cons h
    have ht := hts t (by simp)
    exact trodAll_cons_mk (Below.trod hl ht.1 ht.2 h0 hb (fun x hx => hlt x (by simp [hx])))
      (stay_all hl hb (fun t' h' => hts t' (by simp [h'])) hr (fun x hx => hlt x (by simp [hx])))
/-- a law that returned true and left old memory alone has met its row -/
theorem law_post {f : Func} {s : ChangeSpec} {args : Array Value} {ds gs : List (DataW H)} {before : List MemPlace} {tb : TypeId}
    (hl : laidOutB P = true) (hts : ∀ t ∈ f.params.toList, P.readableRec t = true ∧ t < P.types.size) (hrt : f.resultTypes = #[tb]) (htb : P.underlying tb = some .bool)
    (hvars : s.vars = []) (hfn : s.fn H ds = { results := [.lit (.bool true)], args := ds })
    (hW : DataW.Whole enc P f.params.toList s.vars false W args.toList ds gs before) (hb : Below W.heap.size W W') :
    s.post enc P f false true false false W args (.bool true) W' := by
  have hW' := hW
  obtain ⟨p, q, hA, hV, rfl, hfz, hnd⟩ := hW
  rw [hvars] at hV
  obtain ⟨rfl, rfl⟩ := trodVars_none hV
  have hlt : ∀ x ∈ p, x.block < W.heap.size := fun x hx => by simpa using hW'.lt x (by simp [hx])
  refine ⟨ds, [], p ++ [], [], p, [], hW', ?_, ?_, ?_, ?_, fun h => by cases h⟩
  · rw [List.append_nil, hfn, hrt]
    exact trodAll_mk1 (shut_bool htb true)
  · rw [List.append_nil, hfn]
    exact stay_all hl hb hts hA hlt
  · rw [List.append_nil, hfn, hvars]
    rfl
  · exact hb.frame _
/-- an address at which a cell lies has no spot -/
theorem addr_of_cell {w : World} {a : Addr} {v : Value} (h : w.cell? a = some v) : a = ⟨a.block, a.off, none⟩ := by
  obtain ⟨b, o, sp⟩ := a
  cases sp with
  | none => rfl
  | some s =>
    unfold World.cell? at h
    simp only [] at h
    split at h <;> simp at h
theorem add_none (b o n : Nat) : (⟨b, o, none⟩ : Addr).add n = ⟨b, o + n, none⟩ := by
  unfold Addr.add
  split
  · next h => subst h; rfl
  · rfl
end
end Go.Proofs.YtiojoailjiojjaaDoor

namespace Go.Proofs.YtiojoailjiojjaaDoor
open Go.ChangeShapes Go.WideShapes Go.ChangeAt Go.RowKit Go.Deep
section
variable {H : Type} {enc : TypeId × Value → H} {P : Program} {W W' : World}
/-- a slice of bytes that came in -/
theorem open_bytes {t e : TypeId} {r : Reach} {b0 : Nat} {v : Value} {d : DataW H} {ps : List MemPlace} (ht : P.underlying t = some (.slice e)) (he : P.underlying e = some (.int .u8)) (ce : P.cellsOf e = 1)
    (hval : Value.okWide P W r b0 t v) (h : DataW.Trod enc P W 0 (fun _ => true) true t v d ps) (hlt : ∀ x ∈ ps, x.block < W.heap.size) :
    ∃ (A : Option Addr) (n c : Nat), v = .slice A n c ∧ n ≤ c ∧ n ≤ 9223372036854775807 ∧ Bytes W W.heap.size A n := by
  obtain ⟨A, n, c, rfl⟩ := okWide_slice ht hval
  obtain ⟨fuel, hf⟩ := h
  rcases open_ints ht he ce hf with ⟨h0, _⟩ | ⟨a, len, cap, zs, hcs, hb, hl, hm, hz, hx, hi, hwf⟩
  · simp [Value.cells] at h0
    obtain ⟨rfl, rfl, rfl⟩ := h0
    exact ⟨none, 0, 0, rfl, by omega, by omega, fun h => absurd h (by omega)⟩
  · simp [Value.cells] at hcs
    obtain ⟨rfl, rfl, rfl⟩ := hcs
    simp only [if_true] at hz
    refine ⟨some a, n, c, rfl, hl, by unfold maxLen at hm; omega, fun hn => ?_⟩
    have h0 := hi 0 (by omega)
    simp [Addr.add] at h0
    have ha := addr_of_cell h0
    have hblt : a.block < W.heap.size := by
      apply hlt (.cell a.block a.off)
      have hps := congrArg Prod.snd hx
      simp only [] at hps
      rw [hps, hz, ha]
      simp [MemPlace.row]
      omega
    refine ⟨a.block, a.off, by rw [← ha], hblt, fun i hin => ?_⟩
    have hc := hi i (by omega)
    have hmem : zs.getD i 0 ∈ zs := by
      rw [List.getD_eq_getElem?_getD, List.getElem?_eq_getElem (by omega)]
      exact List.getElem_mem _
    have hw := hwf _ hmem
    have hr : 0 ≤ zs.getD i 0 ∧ zs.getD i 0 ≤ 255 := by simpa [Lit.wf, IntKind.min, IntKind.max, IntKind.signed, IntKind.bits] using hw
    rw [ha, add_none] at hc
    exact ⟨_, hr.1, hr.2, hc⟩
end
end Go.Proofs.YtiojoailjiojjaaDoor

namespace Go.Proofs.YtiojoailjiojjaaDoor
open Go.ChangeShapes Go.WideShapes Go.ChangeAt Go.RowKit Go.Deep
theorem var_ltU {P : Program} {W : World} {n : String} {g : Nat} {cs : Array Value} (hg : P.globalNamed n = some g) (h : W.var? P n = some cs) : g < W.heap.size := by
  unfold World.var? at h
  simp only [hg, Option.bind_some] at h
  split at h
  · next h2 => exact (Array.getElem?_eq_some_iff.1 h2).1
  · cases h
theorem gTz : Tryd.prog.globalNamed "math/bits.deBruijn64tab" = some 0 := by kernel_rfl
theorem tab_cast : ∀ i : Nat, i < 64 → ([0, 1, 56, 2, 57, 49, 28, 3, 61, 58, 42, 50, 38, 29, 17, 4, 62, 47, 59, 36, 45, 43, 51, 22, 53, 39, 33, 30, 24, 18, 12, 5, 63, 55, 48, 27, 60, 41, 37, 16, 46, 35, 44, 21, 52, 32, 23, 11, 54, 26, 40, 15, 34, 20, 31, 10, 25, 14, 19, 9, 13, 8, 7, 6] : List Int).getD i 0 = (Lib.deBruijn64tab.getD i 0 : Nat) := by decide +kernel
theorem tzT_of_laid {W : World} (h : laidMetH Tryd.prog [("math/bits.deBruijn64tab", Rows.laid_math_bits_deBruijn64tab)] W) : TzT W := by
  rw [MakeChecks.laidMetH_plain _ _ _ (by kernel_rfl)] at h
  have hT : Lib.TabIs Tryd.prog W "math/bits.deBruijn64tab" .u8 [0, 1, 56, 2, 57, 49, 28, 3, 61, 58, 42, 50, 38, 29, 17, 4, 62, 47, 59, 36, 45, 43, 51, 22, 53, 39, 33, 30, 24, 18, 12, 5, 63, 55, 48, 27, 60, 41, 37, 16, 46, 35, 44, 21, 52, 32, 23, 11, 54, 26, 40, 15, 34, 20, 31, 10, 25, 14, 19, 9, 13, 8, 7, 6] :=
    Lib.tabIs_of_head (k := .u8) (zs := [0, 1, 56, 2, 57, 49, 28, 3, 61, 58, 42, 50, 38, 29, 17, 4, 62, 47, 59, 36, 45, 43, 51, 22, 53, 39, 33, 30, 24, 18, 12, 5, 63, 55, 48, 27, 60, 41, 37, 16, 46, 35, 44, 21, 52, 32, 23, 11, 54, 26, 40, 15, 34, 20, 31, 10, 25, 14, 19, 9, 13, 8, 7, 6]) (rest := []) (n := 64) (t := 151) (e := 5) gTz (by kernel_rfl) Tryd.underlying151 Tryd.underlying5 (by kernel_rfl) (by kernel_rfl) h
  exact ⟨var_ltU gTz hT, fun i hi => by
    rw [← tab_cast i hi]
    exact hT.cell gTz i (by simpa using hi)⟩
/-- the door's own heap meets the condition -/
theorem door_tz (os : Os) (args : Array Value) : laidMetH Tryd.prog [("math/bits.deBruijn64tab", Rows.laid_math_bits_deBruijn64tab)] ((World.doorLaid Tryd.prog 14 os).forCall (fun _ _ => 0) ⟨#[], args, []⟩).memory :=
  laidMetH_of_parts3 (fuel := 8) (laidMet_of_run' 8 (by kernel_rfl) (by kernel_rfl)) (by kernel_rfl) (by kernel_rfl)
end Go.Proofs.YtiojoailjiojjaaDoor

