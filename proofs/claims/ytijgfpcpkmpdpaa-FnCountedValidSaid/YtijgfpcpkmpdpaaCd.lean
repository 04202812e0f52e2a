/- What the model's l10Free returns: for every valid heap. No conditions. -/
import Derived.Test.YtijgfpcpkmpdpaaCb
import Derived.Test.YtijgfpcpkmpdpaaGf
import Derived.Deep.CutBlock
namespace Go.Proofs.Ytijgfpcpkmpdpaa
open Go.RowKit
set_option maxRecDepth 100000

namespace Hps
theorem idleTo_yes {h : Hp} {k : Nat} (hu : usedAt h.cs k = true) (hm : (k : Int) ∉ refsOf h) : idleTo h (k + 1) = k := by rw [idleTo, if_pos ⟨hu, hm⟩]
theorem idleTo_no {h : Hp} {k : Nat} (hn : usedAt h.cs k = false ∨ (k : Int) ∈ refsOf h) : idleTo h (k + 1) = idleTo h k := by
  rw [idleTo, if_neg]
  rintro ⟨a, b⟩
  rcases hn with e | e
  · rw [a] at e; cases e
  · exact b e
theorem usedAt_of2 {cs : List Cl} {k : Nat} {c : Cl} (hc : cs[k]? = some c) : usedAt cs k = c.u := by rw [usedAt, hc]
theorem count_iff {h : Hp} {k : Nat} {y : Int} (hk : k < h.cs.length) (hy : (countsL h)[k]? = some y) : y = 0 ↔ (k : Int) ∉ refsOf h := by
  rw [counts_at hk] at hy
  obtain rfl := Option.some.inj hy
  rw [← counts_pos]
  omega
theorem counts_len (h : Hp) : (countsL h).length = h.cs.length := by simp [countsL]
end Hps
open Classical in
/-- how many cells of a row that lies at A are used -/
noncomputable def usedW (w : World) (A : Option Addr) (n : Nat) : Nat := (List.range n).countP fun k => decide (∃ g o, A = some ⟨g, o, none⟩ ∧ w.cell? ⟨g, o + k * 3, none⟩ = some (.bool true))
open Classical in
theorem usedW_eq {w : World} {B n : Nat} {A : Option Addr} {h : Hp} (hc : CS w B A n h.cs) : usedW w A n = Hps.usedN h := by
  have hl : h.cs.length = n := hc.1
  have hp : ∀ m, m ≤ n → ((List.range m).countP fun k => decide (∃ g o, A = some ⟨g, o, none⟩ ∧ w.cell? ⟨g, o + k * 3, none⟩ = some (.bool true))) = (h.cs.take m).countP (·.u) := by
    intro m
    induction m with
    | zero => intro _; simp
    | succ m ih =>
      intro hm
      obtain ⟨g, o, cl, A', m', cc, e1, hg, hcl, d1, _⟩ := hc.at_ (k := m) (by omega)
      rw [List.range_succ, List.countP_append, ih (by omega), List.take_add_one, hcl, Option.toList_some, List.countP_append]
      congr 1
      have hd : (∃ g o, A = some ⟨g, o, none⟩ ∧ w.cell? ⟨g, o + m * 3, none⟩ = some (.bool true)) ↔ cl.u = true := by
        constructor
        · rintro ⟨g', o', e2, e3⟩
          rw [e1] at e2
          injection e2 with e2
          injection e2 with e4 e5
          subst e4; subst e5
          rw [d1] at e3
          injection e3 with e3
          injection e3
        · intro e
          exact ⟨g, o, e1, by rw [d1, e]⟩
      cases hu : cl.u
      · simp [hd, hu]
      · simp [hd, hu]
  have := hp n (Nat.le_refl _)
  rw [List.take_of_length_le (by omega)] at this
  rw [Hps.usedN_eq, usedW]
  exact this

set_option maxHeartbeats 4000000 in
theorem l10Free_any (A R : Option Addr) (n c m d : Nat) (h : Hp) (w : World) (hs : HS w w.heap.size A n R m h) (hv : Hps.validH h = true) :
    Calls Try.prog 125 #[heapV A n c R m d] w (GaveCt w (Hps.freeH h) (Hps.countsL (Hps.freeH h))) := by
  have hlc := hs.cells.1
  have hlr := hs.roots.1
  obtain ⟨V1, V2, V3, V4⟩ := Hps.valid_iff.1 hv
  have hn40 : n ≤ 40 := by omega
  have HM := Lib.hid (show m = 4 by omega)
  have h3 : ∀ cl ∈ h.cs, cl.r.length ≤ 1000000 := fun cl hcl => by have := (Hps.okCell_iff.1 (V1 cl hcl)).2.2.1; omega
  clear V1 V2 V3 V4
  have b2 : Below w.heap.size w ((w.alloc (.cells #[.slice A n c, .slice R m d] 26)).alloc (.cells #[.slice none 0 0, .slice none 0 0, .slice none 0 0] 50)) := ((Below.refl w.heap.size w).alloc (Nat.le_refl _) _).alloc (by simp) _
  have s2 := hs.up b2
  have q2 := Rw.new (w.alloc (.cells #[.slice A n c, .slice R m d] 26)) 50 #[.slice none 0 0, .slice none 0 0, .slice none 0 0]
  simp only [World.size_alloc] at q2
  have q1 := (Rw.new w 26 #[.slice A n c, .slice R m d]).alloc (.cells #[.slice none 0 0, .slice none 0 0, .slice none 0 0] 50)
  have hz : ((w.alloc (.cells #[.slice A n c, .slice R m d] 26)).alloc (.cells #[.slice none 0 0, .slice none 0 0, .slice none 0 0] 50)).heap.size = w.heap.size + 1 + 1 := by simp
  go_enter Try.func125, Try.ntmps125
  go_upto_region 1 with fail
  generalize (w.alloc (.cells #[.slice A n c, .slice R m d] 26)).alloc (.cells #[.slice none 0 0, .slice none 0 0, .slice none 0 0] 50) = w0 at b2 s2 q1 q2 hz ⊢
  have HZ := Lib.hid hz
  clear hz
  have y0 : w0.cell? ⟨w.heap.size, 0, none⟩ = some (.slice A n c) := q1.cell 0
  have y1 : w0.cell? ⟨w.heap.size, 1, none⟩ = some (.slice R m d) := q1.cell 1
  go_wp2_with fail
  clear y0 y1 q1
  refine (l7Copy_any _ _ _ _ _ _ h _ s2 (by omega) (by have := HM.out; omega) h3).mono ?_
  rintro e w1 ⟨vc, vr, rfl, oh, b1⟩
  obtain ⟨rvs, S0⟩ := BoxSt.of oh b1
  obtain ⟨Ac, cc, Rc, dc, rfl, rfl, -⟩ := oh.form
  rw [hlc, hlr] at S0 ⊢
  have HV := Lib.hid hv
  have HN := Lib.hid hn40
  clear oh b1 s2 h3 hv hn40
  go_upto_block 0 with fail
  generalize w1.alloc (.cells #[.slice Ac n cc, .slice Rc m dc] 26) = w3 at S0 ⊢
  generalize w1.heap.size = b at S0 ⊢
  clear w1
  have HLC := Lib.hid hlc
  have HLR := Lib.hid hlr
  clear hlc hlr
  go_wp2_with fail
  go_loopw [5] (fun i wr => ∃ (x : Hp) (rvs : List Value), BoxSt w0 wr b (.slice Ac n cc) (.slice Rc m dc) rvs x ∧ Hid (Hps.Frees h x) ∧ Hid (Hps.validH x = true)) (fun _ wr => usedW wr Ac n)
  case atStart => exact ⟨h, rvs, S0, Lib.hid (Hps.Frees.refl h), HV⟩
  case round =>
    clear S0 rvs
    obtain ⟨x, rvs, S, F, HX⟩ := hrel
    have bw := b2.trans (S.low.mono b2.size)
    have hxl : x.cs.length = n := S.own.reads.cells.1
    have x0 : wr.cell? ⟨b, 0, none⟩ = some (.slice Ac n cc) := S.box.cell 0
    have x1 : wr.cell? ⟨b, 1, none⟩ = some (.slice Rc m dc) := S.box.cell 1
    obtain ⟨X1, X2, X3, X4⟩ := Hps.valid_iff.1 HX.out
    have HX1 := Lib.hid X1
    clear X1 X2 X3
    go_wp2_with fail
    refine (l7Counts_any _ _ _ _ _ _ x _ S.own.reads (by have := HN.out; omega) (by have := HM.out; omega) X4 (fun cl hcl => (Hps.okCell_iff.1 (HX1.out cl hcl)).2.2.2) (fun cl hcl => by have := (Hps.okCell_iff.1 (HX1.out cl hcl)).2.2.1; omega)).mono ?_
    rintro e w2 ⟨v2, rfl, o2, bk⟩
    have S2 := S.up bk
    obtain ⟨A2, c2, rfl, -⟩ := o2.form
    have HO := Lib.hid (OwnC.of ⟨rvs, S.own⟩ bk o2 S.low.size)
    have HCI := Lib.hid (fun (k : Nat) (y : Int) (hk : k < x.cs.length) (hy : (Hps.countsL x)[k]? = some y) => Hps.count_iff hk hy)
    have hyl := Hps.counts_len x
    rw [hxl] at hyl
    have HU := Lib.hid (show usedW wr Ac n = Hps.usedN x from usedW_eq S.own.reads.cells)
    have R2 := o2.reads
    obtain ⟨ys, hys⟩ : ∃ ys, Hps.countsL x = ys := ⟨_, rfl⟩
    have HYS := Lib.hid hys
    rw [hys] at R2 hyl HO HCI ⊢
    rw [hyl] at HO R2 ⊢
    have HXL := Lib.hid hxl
    clear hys x0 x1 X4 S o2 hxl hyl bw
    go_wp2_with fail
    go_loopw [5, 6] (fun i kk ww => ∃ k : Nat, k ≤ n ∧ kk = .int .i64 k ∧ i = .int .i64 (Hps.idleTo x k) ∧ ww = w2) (fun _ kk _ => n - (intOf kk).toNat)
    case atStart => exact ⟨0, Nat.zero_le _, rfl, rfl, rfl⟩
    case round =>
      obtain ⟨k, hk, rfl, rfl, rfl⟩ := hrel
      have x0 : wr.cell? ⟨b, 0, none⟩ = some (.slice Ac n cc) := S2.box.cell 0
      by_cases hlt : k < n
      · have hlt' : (k : Int) < n := by omega
        have hk40 : k < 40 := by have := HN.out; omega
        obtain ⟨g, o, cl, A', m', c3, e1, hg, hcl, d1, _, _, _, _⟩ := S2.own.reads.cells.at_ hlt
        subst e1
        obtain ⟨g2, o2, y, e2, hg2, hy, d2⟩ := R2.at_ hlt
        subst e2
        have hu := Hps.usedAt_of2 hcl
        have hci := HCI.out k y (by rw [HXL.out]; exact hlt) hy
        clear hcl hy
        cases hcu : cl.u <;> rw [hcu] at d1 hu
        · have HI := Lib.hid (Hps.idleTo_no (h := x) (k := k) (.inl hu))
          clear hu hci hcu
          go_wp2_with fail
          go_roundw
          case rel => exact ⟨k + 1, by omega, by go_num, by rw [HI.out], trivial⟩
          case measure => simp [intOf]; omega
        · by_cases hy0 : y = 0
          · subst hy0
            have HI := Lib.hid (Hps.idleTo_yes (h := x) (k := k) hu (hci.1 rfl))
            clear hu hci hcu
            go_wp2_with fail
            go_roundw
            case rel => exact ⟨k + 1, by omega, by go_num, by rw [HI.out], trivial⟩
            case measure => simp [intOf]; omega
          · have HI := Lib.hid (Hps.idleTo_no (h := x) (k := k) (.inr (Classical.not_not.1 fun q => hy0 (hci.2 q))))
            have hne : (y == 0) = false := by rw [beq_eq_false_iff_ne]; exact hy0
            clear hu hci hcu
            go_wp2_with fail
            go_roundw
            case rel => exact ⟨k + 1, by omega, by go_num, by rw [HI.out], trivial⟩
            case measure => simp [intOf]; omega
      · obtain rfl : k = n := by omega
        rcases Hps.idleTo_cases x k with ⟨hi, hd⟩ | ⟨j, hi, hj, hju, hjn⟩
        · have x1 : wr.cell? ⟨b, 1, none⟩ = some (.slice Rc m dc) := S2.box.cell 1
          have HE := Lib.hid (F.out.fin HV.out (fun j hj => hd j (by have := Hps.usedAt_lt hj; have := HXL.out; omega) hj))
          have q3 := q2.keep S2.low (by have := HZ.out; omega)
          have hsz := HZ.out
          have D := Lib.hid (OwnC.out (w := w) (g := w.heap.size + 1) HO.out (by omega) (b2.trans (S2.low.mono b2.size)) (by omega))
          have r2 : wr.frozen? ⟨w.heap.size + 1, 0, none⟩ = false := q3.frozen 0
          have r3 : wr.frozen? ⟨w.heap.size + 1, 1, none⟩ = false := q3.frozen 1
          have r4 : wr.frozen? ⟨w.heap.size + 1, 2, none⟩ = false := q3.frozen 2
          have r5 : wr.cell? ⟨w.heap.size + 1, 0, none⟩ = some (.slice none 0 0) := q3.cell 0
          have r6 : wr.cell? ⟨w.heap.size + 1, 1, none⟩ = some (.slice none 0 0) := q3.cell 1
          have r7 : wr.cell? ⟨w.heap.size + 1, 2, none⟩ = some (.slice none 0 0) := q3.cell 2
          have q4 := ((q3.put 0 (.slice Ac k cc)).put 1 (.slice Rc m dc)).put 2 (.slice A2 k c2)
          have r8 : (((wr.setCell ⟨w.heap.size + 1, 0, none⟩ (.slice Ac k cc)).setCell ⟨w.heap.size + 1, 1, none⟩ (.slice Rc m dc)).setCell ⟨w.heap.size + 1, 2, none⟩ (.slice A2 k c2)).cell? ⟨w.heap.size + 1, 0, none⟩ = some (.slice Ac k cc) := q4.cell 0
          have r9 : (((wr.setCell ⟨w.heap.size + 1, 0, none⟩ (.slice Ac k cc)).setCell ⟨w.heap.size + 1, 1, none⟩ (.slice Rc m dc)).setCell ⟨w.heap.size + 1, 2, none⟩ (.slice A2 k c2)).cell? ⟨w.heap.size + 1, 1, none⟩ = some (.slice Rc m dc) := q4.cell 1
          have r10 : (((wr.setCell ⟨w.heap.size + 1, 0, none⟩ (.slice Ac k cc)).setCell ⟨w.heap.size + 1, 1, none⟩ (.slice Rc m dc)).setCell ⟨w.heap.size + 1, 2, none⟩ (.slice A2 k c2)).cell? ⟨w.heap.size + 1, 2, none⟩ = some (.slice A2 k c2) := q4.cell 2
          rw [hi]
          clear hi hd S2 hsz q3 q4 q2 b2 bk R2
          go_wp2_with fail
          exact bodyPost_ret (v := .agg #[.slice Ac k cc, .slice Rc m dc, .slice A2 k c2]) (by simp [results, Try.results125, go_sem, *]) rfl ⟨_, _, _, rfl, by rw [← HE.out, HYS.out]; exact D.out.1, D.out.2⟩
        · rw [hi]
          have hjx : j < x.cs.length := by have := HXL.out; omega
          have hneg : ¬ ((j : Int) < 0) := by omega
          obtain ⟨old, hold⟩ : ∃ old, x.cs[j]? = some old := ⟨_, List.getElem?_eq_getElem hjx⟩
          obtain ⟨gc, v, e4, hgc1, hgc2, -, -, y0, y1, y2, fz⟩ := S2.own.cell_at hold
          subst e4
          have f0 := fz (j * 3)
          have f1 := fz (j * 3 + 1)
          have f2 := fz (j * 3 + 2)
          have SN := S2.cell (cl := Hps.freeCl) (rv := .slice none 0 0) HXL.out hold (World.ownsRow_nil _ _ _ _) (fun _ _ => .inl rfl) (.inl rfl)
          have HF := Lib.hid (F.out.free hjx hjn)
          have HVN := Lib.hid (Hps.freeK_valid HX.out hjn)
          have HMs := Lib.hid (usedW_eq SN.own.reads.cells)
          have HLT := Lib.hid (Hps.usedN_free hju)
          have SH := Lib.hid SN
          have hj' : (j : Int) < k := by omega
          clear hi hold S2 SN fz hju hjn hjx HO HCI R2
          go_wp2_with fail
          go_roundw
          case rel => exact ⟨_, _, SH.out, HF, HVN⟩
          case measure =>
            have h1 := HMs.out
            have h2 := HLT.out
            have h3 := HU.out
            refine Nat.lt_of_lt_of_eq (m := Hps.usedN x) ?_ h3.symm
            refine Nat.lt_of_le_of_lt (Nat.le_of_eq h1) ?_
            change Hps.usedN (Hps.freeK x j) < _
            omega
end Go.Proofs.Ytijgfpcpkmpdpaa
