/- What the program's CommandValid, CommandsValid, CommandPossible, StepHeap and RunHeap return: for every argument. No conditions. -/
import Derived.Test.YtmjejcfifkbkoaaMk
import Derived.Test.YtmjejcfifkbkoaaHz
import Derived.Test.YtmjejcfifkbkoaaKg
namespace Go.Proofs.Ytmjejcfifkbkoaa
open Go.RowKit
set_option maxRecDepth 100000

set_option maxHeartbeats 4000000 in
theorem runHeap_any (A : Option Addr) (n c : Nat) (l : List Cm) (w : World) (h : MS w w.heap.size A n l) (hn : n ≤ 1099511627776) (hc : n ≤ c) :
    Calls Try.prog 15 #[.slice A n c] w (GaveH w (Hps.runH l)) := by
  have b1 : Below w.heap.size w (w.alloc (.cells #[.slice none 0 0, .slice none 0 0] 28)) := (Below.refl _ _).alloc (Nat.le_refl _) _
  have m1 := h.up b1
  have q3 := Rw.new w 28 #[.slice none 0 0, .slice none 0 0]
  go_enter Try.func15, Try.ntmps15
  go_wp2_with fail
  refine (commandsValid_any _ _ _ l _ m1 hn hc).mono ?_
  rintro e w1 ⟨rfl, b2⟩
  replace q3 := q3.keep b2 q3.lt
  replace b1 := b1.trans (b2.mono b1.size)
  clear m1 b2
  cases hv : Hps.okCms l
  · have HF := Lib.hid (show Hps.runH l = Hps.zeroH by rw [Hps.runH, if_neg (by rw [hv]; simp)])
    have r2 : w1.frozen? ⟨w.heap.size, 0, none⟩ = false := q3.frozen 0
    have r3 : w1.frozen? ⟨w.heap.size, 1, none⟩ = false := q3.frozen 1
    have r4 : w1.cell? ⟨w.heap.size, 0, none⟩ = some (.slice none 0 0) := q3.cell 0
    have r5 : w1.cell? ⟨w.heap.size, 1, none⟩ = some (.slice none 0 0) := q3.cell 1
    have r6 : ((w1.setCell ⟨w.heap.size, 0, none⟩ (.slice none 0 0)).setCell ⟨w.heap.size, 1, none⟩ (.slice none 0 0)).cell? ⟨w.heap.size, 0, none⟩ = some (.slice none 0 0) := ((q3.put 0 (.slice none 0 0)).put 1 (.slice none 0 0)).cell 0
    have r7 : ((w1.setCell ⟨w.heap.size, 0, none⟩ (.slice none 0 0)).setCell ⟨w.heap.size, 1, none⟩ (.slice none 0 0)).cell? ⟨w.heap.size, 1, none⟩ = some (.slice none 0 0) := ((q3.put 0 (.slice none 0 0)).put 1 (.slice none 0 0)).cell 1
    have D := Lib.hid ((own_zeroH w1 w1.heap.size (Nat.le_refl _)).out q3.lt b1 (Nat.le_refl _))
    clear q3 b1 hv
    go_wp2_with fail
    exact bodyPost_ret (v := .agg #[.slice none 0 0, .slice none 0 0]) (by simp [results, Try.results15, go_sem, *]) rfl ⟨_, _, rfl, by rw [HF.out]; exact D.out.1, D.out.2⟩
  have HF := Lib.hid (show Hps.runH l = Hps.runFrom Hps.emptyH l by rw [Hps.runH, if_pos hv])
  have HV := Lib.hid ((Hps.okCms_iff.1 hv).1)
  clear hv
  go_wp2_with fail
  refine (emptyHeap_any _).mono ?_
  rintro e w2 ⟨vc, vr, rfl, ⟨rvs, own⟩, b2⟩
  have hsz : w.heap.size + 1 ≤ w1.heap.size := q3.lt
  replace q3 := q3.keep b2 q3.lt
  have hsz2 := b2.size
  have hq := Rw.new w2 28 #[vc, vr]
  have S0 : RunSt w (w2.alloc (.cells #[vc, vr] 28)) w2.heap.size vc vr Hps.emptyH :=
    ⟨⟨rvs, (OwnHx.base (base' := w.heap.size + 1) own hsz).below ((Below.refl w2.heap.size w2).alloc (Nat.le_refl _) _) (Nat.le_refl _), own.apart_new (Nat.le_refl _)⟩, hq, q3.alloc _, (b1.trans (b2.mono b1.size)).alloc (by omega) _, by omega⟩
  obtain ⟨Ac, cc, Rc, dc, rfl, rfl, -⟩ := own.form
  clear hq own q3 b2
  go_upto_region 4 with fail
  generalize w2.alloc (.cells #[.slice Ac Hps.emptyH.cs.length cc, .slice Rc Hps.emptyH.rt.length dc] 28) = w3 at S0 ⊢
  generalize w2.heap.size = b at S0 ⊢
  clear hsz hsz2 w2 b1 w1
  go_wp2_with fail
  go_loopw [13] (fun i wr => ∃ (k : Nat) (A1 : Option Addr) (c1 : Nat) (R1 : Option Addr) (d1 : Nat) (hh : Hp), k ≤ n ∧ i = .int .i64 k ∧ hh = Hps.runFrom Hps.emptyH (l.take k) ∧ Hps.validH hh = true ∧ hh.cs.length ≤ c1 ∧ hh.rt.length ≤ d1 ∧ RunSt w wr b (.slice A1 hh.cs.length c1) (.slice R1 hh.rt.length d1) hh) (fun i _ => n - (intOf i).toNat)
  case atStart =>
    obtain ⟨rvs0, own0, _⟩ := S0.own
    obtain ⟨A', c', R', d', e1, e2, hc', hd', _⟩ := own0.form
    injection e1 with _ _ e1
    injection e2 with _ _ e2
    subst e1 e2
    exact ⟨0, Ac, cc, Rc, dc, Hps.emptyH, by omega, rfl, by simp [Hps.runFrom], Hps.empty_valid, hc', hd', S0⟩
  case round =>
    clear S0
    obtain ⟨k, A1, c1, R1, d1, hh, hk, rfl, hhe, hhv, hc1, hd1, S⟩ := hrel
    have hlo := S.lo
    have hml := h.1
    by_cases hlt : k < n
    · obtain ⟨g, o, x, rfl, hg, hx, c0, c1', c2, c3⟩ := (h.below S.bel).at_ hlt
      have hlt' : (k : Int) < n := by omega
      obtain ⟨h2, hh2⟩ : ∃ h2, (Hps.stepH hh x).1 = h2 := ⟨_, rfl⟩
      obtain ⟨ok, hok⟩ : ∃ ok, (Hps.stepH hh x).2 = ok := ⟨_, rfl⟩
      have HX := Lib.hid hx
      have HNX := Lib.hid (show h2 = Hps.runFrom Hps.emptyH (l.take (k + 1)) by
        rw [List.take_add_one, HX.out, Option.toList, Hps.runFrom_snoc, ← hhe]
        exact hh2.symm)
      have HVX := Lib.hid (show Hps.validH h2 = true by rw [← hh2]; exact Hps.stepH_valid hhv (HV.out x (List.mem_of_getElem? HX.out)))
      have hn40 := (Hps.valid_iff.1 hhv).2.1
      have hm4 := (Hps.valid_iff.1 hhv).2.2.1
      have BC : Below wr.heap.size wr (wr.alloc (.cells #[.int .i64 x.op, .int .i64 x.a, .int .i64 x.b, .int .i64 x.c] 36)) := (Below.refl _ _).alloc (Nat.le_refl _) _
      have QC := Rw.new wr 36 #[.int .i64 x.op, .int .i64 x.a, .int .i64 x.b, .int .i64 x.c]
      have CALL := Lib.hid (fun (ww : World) (hB : Below wr.heap.size wr ww) => by
        obtain ⟨rvs, own, _⟩ := S.own
        have hs := (own.below hB (Nat.le_refl _)).reads
        have := stepHeap_any A1 R1 hh.cs.length c1 hh.rt.length d1 hh x ww hs (by omega) (by omega) hc1 hd1
        rw [hh2, hok] at this
        exact this)
      have SS := Lib.hid S
      have hbx := S.box.lt
      have hbel := S.bel.size
      have q0 := S.box.keep BC hbx
      clear S hx hhe hhv hh2 hok hn40 hm4 hml hc1 hd1
      go_upto_region 7 with fail
      generalize wr.alloc (.cells #[.int .i64 x.op, .int .i64 x.a, .int .i64 x.b, .int .i64 x.c] 36) = w4 at BC QC q0 ⊢
      generalize wr.heap.size = q5 at QC ⊢
      have x0 : w4.cell? ⟨b, 0, none⟩ = some (.slice A1 hh.cs.length c1) := q0.cell 0
      have x1 : w4.cell? ⟨b, 1, none⟩ = some (.slice R1 hh.rt.length d1) := q0.cell 1
      have y0 : w4.cell? ⟨q5, 0, none⟩ = some (.int .i64 x.op) := QC.cell 0
      have y1 : w4.cell? ⟨q5, 1, none⟩ = some (.int .i64 x.a) := QC.cell 1
      have y2 : w4.cell? ⟨q5, 2, none⟩ = some (.int .i64 x.b) := QC.cell 2
      have y3 : w4.cell? ⟨q5, 3, none⟩ = some (.int .i64 x.c) := QC.cell 3
      have q0k := Lib.hid q0
      have BK := Lib.hid BC
      clear c0 c1' c2 c3 QC q0
      go_wp2_with fail
      refine (CALL.out _ BK.out).mono ?_
      rintro e w5 ⟨v1, v2, rfl, oh, b5⟩
      obtain ⟨Ax, cx, Rx, dx, rfl, rfl, hr⟩ := oh.form
      have q6 := q0k.out.keep b5 q0k.out.lt
      have B6 := BK.out.trans (b5.mono BK.out.size)
      obtain ⟨nn, hnn⟩ : ∃ nn, h2.cs.length = nn := ⟨_, rfl⟩
      obtain ⟨mm, hmm⟩ : ∃ mm, h2.rt.length = mm := ⟨_, rfl⟩
      have NX := SS.out.next B6 (oh.base BK.out.size)
      obtain ⟨rvs2, own2⟩ := oh
      obtain ⟨A', c', R', d', e1, e2, hc', hd', _⟩ := own2.form
      injection e1 with ea _ e1
      injection e2 with eb _ e2
      subst ea eb e1 e2
      have HC' := Lib.hid hc'
      have HD' := Lib.hid hd'
      have z2 : w5.frozen? ⟨b, 0, none⟩ = false := q6.frozen 0
      have z3 : w5.frozen? ⟨b, 1, none⟩ = false := q6.frozen 1
      have z4 : w5.cell? ⟨b, 0, none⟩ = some (.slice A1 hh.cs.length c1) := q6.cell 0
      have z5 : w5.cell? ⟨b, 1, none⟩ = some (.slice R1 hh.rt.length d1) := q6.cell 1
      clear hnn hmm x0 x1 y0 y1 y2 y3 q6 hc' hd' own2 hr b5 B6 BC
      go_wp2_with fail
      go_roundw
      case rel => exact ⟨k + 1, Ax, cx, Rx, dx, h2, by omega, by go_num, HNX.out, HVX.out, HC'.out, HD'.out, NX⟩
      case measure => simp [intOf]; omega
    · obtain rfl : k = n := by omega
      have x0 : wr.cell? ⟨b, 0, none⟩ = some (.slice A1 hh.cs.length c1) := S.box.cell 0
      have x1 : wr.cell? ⟨b, 1, none⟩ = some (.slice R1 hh.rt.length d1) := S.box.cell 1
      have HE := Lib.hid (show Hps.runH l = hh by rw [HF.out, hhe, List.take_of_length_le (by omega)])
      have r2 : wr.frozen? ⟨w.heap.size, 0, none⟩ = false := S.res.frozen 0
      have r3 : wr.frozen? ⟨w.heap.size, 1, none⟩ = false := S.res.frozen 1
      have r4 : wr.cell? ⟨w.heap.size, 0, none⟩ = some (.slice none 0 0) := S.res.cell 0
      have r5 : wr.cell? ⟨w.heap.size, 1, none⟩ = some (.slice none 0 0) := S.res.cell 1
      obtain ⟨nn, hnn⟩ : ∃ nn, hh.cs.length = nn := ⟨_, rfl⟩
      obtain ⟨mm, hmm⟩ : ∃ mm, hh.rt.length = mm := ⟨_, rfl⟩
      rw [hnn, hmm] at S
      rw [hnn] at x0
      rw [hmm] at x1
      have r6 : ((wr.setCell ⟨w.heap.size, 0, none⟩ (.slice A1 nn c1)).setCell ⟨w.heap.size, 1, none⟩ (.slice R1 mm d1)).cell? ⟨w.heap.size, 0, none⟩ = some (.slice A1 nn c1) := ((S.res.put 0 (.slice A1 nn c1)).put 1 (.slice R1 mm d1)).cell 0
      have r7 : ((wr.setCell ⟨w.heap.size, 0, none⟩ (.slice A1 nn c1)).setCell ⟨w.heap.size, 1, none⟩ (.slice R1 mm d1)).cell? ⟨w.heap.size, 1, none⟩ = some (.slice R1 mm d1) := ((S.res.put 0 (.slice A1 nn c1)).put 1 (.slice R1 mm d1)).cell 1
      have D := Lib.hid (by
        obtain ⟨rvs, own, _⟩ := S.own
        exact OwnH.out (w := w) (g := w.heap.size) ⟨rvs, own⟩ (by omega) S.bel (Nat.le_refl _))
      clear S hhe hhv hnn hmm hml hc1 hd1
      go_wp2_with fail
      exact bodyPost_ret (v := .agg #[.slice A1 nn c1, .slice R1 mm d1]) (by simp [results, Try.results15, go_sem, *]) rfl ⟨_, _, rfl, by rw [HE.out]; exact D.out.1, D.out.2⟩
end Go.Proofs.Ytmjejcfifkbkoaa
