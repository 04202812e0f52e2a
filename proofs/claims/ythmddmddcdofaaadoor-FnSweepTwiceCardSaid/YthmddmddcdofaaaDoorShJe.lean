/- What the claim DSweepTwice stands on, part 5 of 5: texts of one seat put together, with what the claim needs of them. No conditions. -/
import Derived.Test.YthmddmddcdofaaaDoorShJd
namespace Go.Proofs.YthmddmddcdofaaaDoor
open Go.RowKit
set_option maxRecDepth 100000
namespace Hps
theorem zap_drop {cs : List Cl} {D : List Bool} (hl : D.length = cs.length) (h64 : cs.length ≤ 64) : zapL cs (numsB (Bm.wordN D true)) = dropL cs D := by
  apply List.ext_getElem?
  intro k
  rw [zapL_at _ _ fun x hx => by obtain ⟨j, h1, _⟩ := mem_numsB.1 hx; omega]
  rcases Nat.lt_or_ge k cs.length with hk | hk
  · have hc := List.getElem?_eq_getElem hk
    rw [dropL_at _ _ _ _ hc, hc]
    by_cases q : D[k]? = some true
    · rw [if_pos q, if_pos (mem_numsB.2 ⟨k, rfl, by omega, by rw [Bm.wordN_bit]; exact decide_eq_true q⟩)]
      rfl
    · rw [if_neg q, if_neg]
      intro hm
      obtain ⟨j, h1, _, h3⟩ := mem_numsB.1 hm
      obtain rfl : k = j := by omega
      rw [Bm.wordN_bit] at h3
      exact q (of_decide_eq_true h3)
  · rw [List.getElem?_eq_none (show (dropL cs D).length ≤ k by rw [dropL_len]; exact hk), List.getElem?_eq_none hk]
    split <;> rfl
end Hps
set_option maxHeartbeats 4000000 in
theorem collectCycles_any (A R K : Option Addr) (n c m d p q : Nat) (h : Hp) (l : List Int) (w : World) (hT : TzT w) (hs : HS w w.heap.size A n R m h) (hk : IS w w.heap.size K p l) (hn : n ≤ 1099511627776) (hm : m ≤ 1099511627776) (hp : p ≤ 1099511627776) (hnc : n ≤ c) (hmd : m ≤ d) :
    Calls Tryd.prog 39 #[ctV A n c R m d K p q] w (GaveCtI w (Hps.cyclesH h l).1.1 (Hps.cyclesH h l).1.2 (Hps.cyclesH h l).2) := by
  have hlc := hs.cells.1
  have hlr := hs.roots.1
  have b2 : Below w.heap.size w ((w.alloc (.cells #[.slice A n c, .slice R m d, .slice K p q] 55)).alloc (.cells #[.slice none 0 0, .slice none 0 0, .slice none 0 0] 55)) := ((Below.refl w.heap.size w).alloc (Nat.le_refl _) _).alloc (by simp) _
  have q1 := (Rw.new w 55 #[.slice A n c, .slice R m d, .slice K p q]).alloc (.cells #[.slice none 0 0, .slice none 0 0, .slice none 0 0] 55)
  have q3 := Rw.new (w.alloc (.cells #[.slice A n c, .slice R m d, .slice K p q] 55)) 55 #[.slice none 0 0, .slice none 0 0, .slice none 0 0]
  simp only [World.size_alloc] at q3
  have hT2 := hT.below b2
  have s2 := hs.up b2
  have k2 := hk.up b2
  go_enter Tryd.func39, Tryd.ntmps39
  go_upto_region 1 with fail
  generalize ((w.alloc (.cells #[.slice A n c, .slice R m d, .slice K p q] 55)).alloc (.cells #[.slice none 0 0, .slice none 0 0, .slice none 0 0] 55)) = w2 at b2 q1 q3 hT2 s2 k2 ⊢
  have x0 : w2.cell? ⟨w.heap.size, 0, none⟩ = some (.slice A n c) := q1.cell 0
  have x1 : w2.cell? ⟨w.heap.size, 1, none⟩ = some (.slice R m d) := q1.cell 1
  have x2 : w2.cell? ⟨w.heap.size, 2, none⟩ = some (.slice K p q) := q1.cell 2
  go_wp2_with fail
  refine (countedValid_any _ _ _ _ _ _ _ _ _ h l _ s2 k2 hn hm hp hnc hmd).mono ?_
  clear k2
  obtain ⟨r, hok⟩ : ∃ r, Hps.okCt h l = r := ⟨_, rfl⟩
  rw [hok]
  rintro e w4 ⟨rfl, b4⟩
  replace q1 := q1.keep b4 q1.lt
  replace q3 := q3.keep b4 q3.lt
  replace hT2 := hT2.below b4
  replace s2 := s2.up b4
  replace b2 := b2.trans (b4.mono b2.size)
  clear x0 x1 x2 b4
  have x0 : w4.cell? ⟨w.heap.size, 0, none⟩ = some (.slice A n c) := q1.cell 0
  have x1 : w4.cell? ⟨w.heap.size, 1, none⟩ = some (.slice R m d) := q1.cell 1
  have x2 : w4.cell? ⟨w.heap.size, 2, none⟩ = some (.slice K p q) := q1.cell 2
  have hsz4 := q3.lt
  cases r
  · have HF := Lib.hid (show Hps.cyclesH h l = ((Hps.zeroH, []), -1) by rw [Hps.cyclesH, hok]; rfl)
    clear hok hT2 s2
    have r2 : (w4).frozen? ⟨w.heap.size + 1, 0, none⟩ = false := q3.frozen 0
    have r3 : (w4).frozen? ⟨w.heap.size + 1, 1, none⟩ = false := q3.frozen 1
    have r4 : (w4).frozen? ⟨w.heap.size + 1, 2, none⟩ = false := q3.frozen 2
    have r5 : (w4).cell? ⟨w.heap.size + 1, 0, none⟩ = some (.slice none 0 0) := q3.cell 0
    have r6 : (w4).cell? ⟨w.heap.size + 1, 1, none⟩ = some (.slice none 0 0) := q3.cell 1
    have r7 : (w4).cell? ⟨w.heap.size + 1, 2, none⟩ = some (.slice none 0 0) := q3.cell 2
    have q4 := ((q3.put 0 (.slice none 0 0)).put 1 (.slice none 0 0)).put 2 (.slice none 0 0)
    have r8 : ((((w4).setCell ⟨w.heap.size + 1, 0, none⟩ (.slice none 0 0)).setCell ⟨w.heap.size + 1, 1, none⟩ (.slice none 0 0)).setCell ⟨w.heap.size + 1, 2, none⟩ (.slice none 0 0)).cell? ⟨w.heap.size + 1, 0, none⟩ = some (.slice none 0 0) := q4.cell 0
    have r9 : ((((w4).setCell ⟨w.heap.size + 1, 0, none⟩ (.slice none 0 0)).setCell ⟨w.heap.size + 1, 1, none⟩ (.slice none 0 0)).setCell ⟨w.heap.size + 1, 2, none⟩ (.slice none 0 0)).cell? ⟨w.heap.size + 1, 1, none⟩ = some (.slice none 0 0) := q4.cell 1
    have r10 : ((((w4).setCell ⟨w.heap.size + 1, 0, none⟩ (.slice none 0 0)).setCell ⟨w.heap.size + 1, 1, none⟩ (.slice none 0 0)).setCell ⟨w.heap.size + 1, 2, none⟩ (.slice none 0 0)).cell? ⟨w.heap.size + 1, 2, none⟩ = some (.slice none 0 0) := q4.cell 2
    have D := Lib.hid (OwnC.out (w := w) (g := w.heap.size + 1) (own_zeroC w4 w4.heap.size (Nat.le_refl _)) (by omega) (b2) (by omega))
    clear q1 q3 q4 b2 x0 x1 x2
    go_wp2_with fail
    exact bodyPost_ret (v := .tuple #[.agg #[.slice none 0 0, .slice none 0 0, .slice none 0 0], .int .i64 (-1)]) (by simp [results, Tryd.results39, go_sem, *]) rfl ⟨_, _, _, by rw [HF.out], by rw [HF.out]; exact D.out.1, D.out.2⟩
  have HF := Lib.hid (show Hps.cyclesH h l = (((Hps.ccTo h n).1, Hps.countsL (Hps.ccTo h n).1), ((Hps.ccTo h n).2 : Int)) by rw [Hps.cyclesH, if_pos hok, hlc])
  have HV := Lib.hid (Hps.okCt_iff.1 hok).1
  have HCC : Hid (∀ k, Hps.Cc h (Hps.ccTo h k).1 (Hps.ccTo h k).2 k) := Lib.hid fun k => Hps.cc_to HV.out k
  have hn40 := (Hps.valid_small HV.out).1
  have h3 := (Hps.valid_small HV.out).2.2
  have hmr := (Hps.valid_small HV.out).2.1
  rw [hlc] at hn40
  have HUS := Lib.hid (show Hps.usedN h ≤ 40 by have := Hps.usedN_le h; omega)
  have q3b := Lib.hid q3
  clear hok
  go_wp2_with fail
  refine (cloneHeap_any _ _ _ _ _ _ h _ s2 (by omega) (by omega) (fun cl hcl => by have := h3 cl hcl; omega)).mono ?_
  rintro e w5 ⟨vc, vr, rfl, ow, b5⟩
  obtain ⟨A5, c5, R5, d5, rfl, rfl, -⟩ := ow.form
  rw [hlc, hlr] at ow ⊢
  obtain ⟨rvs, S0⟩ := BoxSt.of ow b5
  have B2K := Lib.hid b2
  clear q1 q3 x0 x1 x2 b5 ow s2 b2 h3
  go_upto_region 4 with fail
  generalize w5.alloc (.cells #[.slice A5 n c5, .slice R5 m d5] 26) = w6 at S0 ⊢
  generalize w5.heap.size = b at S0 ⊢
  clear w5
  have v0 : w6.cell? ⟨b, 0, none⟩ = some (.slice A5 n c5) := S0.box.cell 0
  go_wp2_with fail
  go_loopw [5, 18] (fun fr i wr => ∃ (k f : Nat) (x : Hp) (rvs : List Value), k ≤ n ∧ i = .int .i64 k ∧ fr = .int .i64 f ∧ Hid (Hps.ccTo h k = (x, f)) ∧ BoxSt w4 wr b (.slice A5 n c5) (.slice R5 m d5) rvs x) (fun _ i _ => n - (intOf i).toNat)
  case atStart => exact ⟨0, 0, h, rvs, Nat.zero_le _, rfl, rfl, Lib.hid rfl, S0⟩
  case round =>
    clear S0 rvs v0
    obtain ⟨k, f, x, rvs, hk, rfl, rfl, HE, S⟩ := hrel
    have HC := HCC.out k
    rw [HE.out] at HC
    have hxl := HC.len
    simp only at hxl
    have HXV := Lib.hid HC.ok
    have hfl : f ≤ 40 := by
      have h1 := HC.cnt
      have h2 := HUS.out
      simp only at h1
      omega
    have x0 : wr.cell? ⟨b, 0, none⟩ = some (.slice A5 n c5) := S.box.cell 0
    have x1 : wr.cell? ⟨b, 1, none⟩ = some (.slice R5 m d5) := S.box.cell 1
    have hbl := S.box.lt
    clear HC
    by_cases hlt : k < n
    · obtain ⟨cl, hcl⟩ : ∃ cl, x.cs[k]? = some cl := ⟨_, List.getElem?_eq_getElem (show k < x.cs.length by omega)⟩
      obtain ⟨gc, v, e4, hgc1, hgc2, -, -, y0, y1, y2, fz⟩ := S.own.cell_at hcl
      subst e4
      have hlt' : (k : Int) < n := by omega
      cases hu : cl.u
      · have HN := Lib.hid (Hps.ccTo_free HE.out (show Hps.usedAt x.cs k = false by rw [Hps.usedAt, hcl]; exact hu))
        rw [hu] at y0
        clear hcl hu y1 y2 fz
        go_wp2_with fail
        go_roundw
        case rel => exact ⟨k + 1, f, x, rvs, by omega, by go_num, rfl, HN, S⟩
        case measure => simp [intOf]; omega
      · have hua : Hps.usedAt x.cs k = true := Hps.usedAt_iff.2 ⟨cl, hcl, hu⟩
        have HN := Lib.hid (Hps.ccTo_used HE.out hua)
        have HD := Lib.hid (deadSet_any (some ⟨gc, 0, none⟩) R5 n c5 m d5 k x wr (hT2.below S.low) S.own.reads HXV.out hua)
        have hDl : (Hps.deadL x (k : Int)).length = n := by rw [Hps.deadL_len]; omega
        have HZ := Lib.hid (Hps.zap_drop (cs := x.cs) (D := Hps.deadL x (k : Int)) (by omega) (by omega))
        have HPC := Lib.hid (Hps.live_count (bs := Hps.deadL x (k : Int)) hDl (by omega))
        have hlv : Hps.liveTo (Hps.deadL x (k : Int)) n = (Hps.deadL x (k : Int)).count true := by rw [Hps.liveTo, List.take_of_length_le (by omega)]
        rw [hlv] at HPC
        have hf2 : f + (Hps.deadL x (k : Int)).count true ≤ 40 := by
          have h1 := (HCC.out (k + 1)).cnt
          rw [HN.out] at h1
          have h2 := HUS.out
          simp only at h1
          omega
        obtain ⟨V, hV⟩ : ∃ V, Bm.wordN (Hps.deadL x (k : Int)) true = V := ⟨_, rfl⟩
        have hVl : V < 18446744073709551616 := by rw [← hV]; exact Bm.wordN_lt _ _ (by omega)
        have HBIT : Hid (∀ i, V.testBit i = true → i < n) := Lib.hid fun i hi => by
          rw [← hV, Bm.wordN_bit, decide_eq_true_eq] at hi
          have := (List.getElem?_eq_some_iff.1 hi).1
          omega
        rw [hV] at HD HZ HPC
        obtain ⟨ct, hct⟩ : ∃ ct, (Hps.deadL x (k : Int)).count true = ct := ⟨_, rfl⟩
        rw [hct] at HN HPC hf2
        have hwr : IntKind.i64.wrap ((f : Int) + ct) = (f : Int) + ct := IntWalk.i64_in _ (by omega)
        rw [hu] at y0
        clear hcl hua hDl hlv hV hct hu y1 y2 fz
        go_wp2_with fail
        refine HD.out.mono ?_
        rintro e w7 ⟨rfl, b7⟩
        replace S := S.up b7
        have HCT := Lib.hid (fun ww => count_any V ww hVl)
        rw [HPC.out] at HCT
        have HFC := Lib.hid (freeCells_any _ none w4 w7 b _ _ rvs x V (hT2.below S.low) S.toX hVl (fun i hi => by have := HBIT.out i hi; omega))
        rw [HZ.out] at HFC
        clear HD b7 x0 x1 y0 S
        go_wp2_with fail
        refine HFC.out.mono ?_
        rintro e w8 ⟨⟨ev, rfl⟩, rv8, B8⟩
        have SH := Lib.hid B8.toSt
        clear HFC B8
        go_wp2_with fail
        refine (HCT.out _).mono ?_
        rintro e w9 ⟨rfl, rfl⟩
        go_wp2_with fail
        go_roundw
        case rel => exact ⟨k + 1, f + ct, _, rv8, by omega, by go_num, by go_num, HN, SH.out⟩
        case measure => simp [intOf]; omega
    · obtain rfl : k = n := by omega
      rw [HE.out] at HF
      simp only at HF
      obtain ⟨w6, hw6e⟩ : ∃ w6, wr = w6 := ⟨_, rfl⟩
      subst hw6e
      have v0 := x0
      have v1 := x1
      have q3 := q3b.out.keep S.low hsz4
      have b6 := B2K.out.trans (S.low.mono B2K.out.size)
      have hrl := q3.lt
      have hw6 := b6.size
      have hcs : HS wr wr.heap.size A5 k R5 m x := S.own.reads
      have HCO := Lib.hid (show Hps.countsH x = Hps.countsL x by rw [Hps.countsH, HXV.out]; rfl)
      clear x0 x1 hlt
      go_upto_region 12 with fail
      obtain ⟨hcc5, hdd5⟩ : k ≤ c5 ∧ m ≤ d5 := by
        obtain ⟨_, _, _, _, e1, e2, h1, h2, -⟩ := S.own.form
        injection e1 with _ a1 a2
        injection e2 with _ a3 a4
        omega
      refine wp_region_inv (by kernel_rfl) (by kernel_rfl) (fun L ac ww => ∃ t3 t38 t39 t40 t41 t42 : Value, ac = { tmps := #[ctV A k c R m d K p q, Value.pointer (some { block := w.heap.size, off := 0 }), Value.pointer (some { block := w.heap.size + 1, off := 0 }), t3, Value.pointer (some { block := b, off := 0 }), Value.int IntKind.i64 ↑f, u6, u7, Value.agg #[Value.slice A k c, Value.slice R m d, Value.slice K p q], Value.bool true, Value.bool false, undef, Value.pointer (some { block := w.heap.size, off := 0 }), Value.agg #[Value.slice A k c, Value.slice R m d], Value.agg #[Value.slice A5 k c5, Value.slice R5 m d5], Value.pointer (some { block := b, off := 0 }), Value.slice A5 k c5, Value.int IntKind.i64 ↑k, Value.int IntKind.i64 ↑k, Value.bool false, u20, u21, u22, u23, u24, u25, u26, u27, u28, u29, u30, u31, u32, u33, u34, u35, u36, u37, t38, t39, t40, t41, t42], defers := [] } ∧ (L 5 = false → Below wr.heap.size wr ww) ∧ (L 0 = true → t38 = .agg #[.slice A5 k c5, .slice R5 m d5]) ∧ (L 1 = true → t39 = .agg #[.slice A5 k c5, .slice R5 m d5]) ∧ (L 2 = true → ∃ K5 p5 q5, t40 = .slice K5 p5 q5 ∧ (L 5 = false → OwnI ww wr.heap.size t40 (Hps.countsL x))) ∧ (L 3 = true → t41 = .agg #[.slice A5 k c5, .slice R5 m d5, t40] ∧ L 2 = true) ∧ (L 4 = true → t42 = .int .i64 f) ∧ (L 5 = true → (∀ q, q < 4 → L q = true) ∧ ∃ wp K5 p5 q5, t40 = .slice K5 p5 q5 ∧ ww = ((((wp).setCell ⟨w.heap.size + 1, 0, none⟩ (.slice A5 k c5)).setCell ⟨w.heap.size + 1, 1, none⟩ (.slice R5 m d5)).setCell ⟨w.heap.size + 1, 2, none⟩ (t40)) ∧ Below wr.heap.size wr wp ∧ OwnI wp wr.heap.size t40 (Hps.countsL x)) ∧ (L 6 = true → t3 = .int .i64 f ∧ L 5 = true)) ?h0 ?hstep ?hdone
      case h0 => exact ⟨_, _, _, _, _, _, rfl, fun _ => (Below.refl _ _).drew, (fun h => absurd h Bool.false_ne_true), (fun h => absurd h Bool.false_ne_true), (fun h => absurd h Bool.false_ne_true), (fun h => absurd h Bool.false_ne_true), (fun h => absurd h Bool.false_ne_true), (fun h => absurd h Bool.false_ne_true), (fun h => absurd h Bool.false_ne_true)⟩
      case hstep =>
        rintro L ac ww i o ho hL hd ⟨t3, t38, t39, t40, t41, t42, rfl, I0, f0, f1, f2, f3, f4, f5, f6⟩
        have hi : i < 7 := (Array.getElem?_eq_some_iff.1 ho).1
        obtain rfl | rfl | rfl | rfl | rfl | rfl | rfl : i = 0 ∨ i = 1 ∨ i = 2 ∨ i = 3 ∨ i = 4 ∨ i = 5 ∨ i = 6 := by omega
        · obtain rfl := Option.some.inj ho
          have hL5 : L 5 = false := by
            cases e : L 5
            · rfl
            · exact absurd ((f5 e).1 0 (by decide)) (by rw [hL]; decide)
          have J := I0 hL5
          have z0 : ww.cell? ⟨b, 0, none⟩ = some (.slice A5 k c5) := (J.cell (p := ⟨b, 0, none⟩) hbl).trans v0
          have z1 : ww.cell? ⟨b, 1, none⟩ = some (.slice R5 m d5) := (J.cell (p := ⟨b, 1, none⟩) hbl).trans v1
          refine wpOp_step rfl (fun K' hK => ?_)
          go_simp
          refine hK _ _ ?_
          exact ⟨_, _, _, _, _, _, rfl, (fun _ => J), (fun _ => rfl), (kp f1), (fun h => by
            obtain ⟨K5, p5, q5, e8, r8⟩ := f2 (upd_ne h (by decide))
            exact ⟨K5, p5, q5, e8, fun h5 => r8 (by rw [upd_other (by decide)] at h5; exact h5)⟩), (fun h => ⟨(f3 (upd_ne h (by decide))).1, upd_mono (f3 (upd_ne h (by decide))).2⟩), (kp f4), (fun h => absurd hL5 (by rw [upd_ne h (by decide)]; decide)), (fun h => absurd (f6 (upd_ne h (by decide))).2 (by rw [hL5]; decide))⟩
        · obtain rfl := Option.some.inj ho
          have hL5 : L 5 = false := by
            cases e : L 5
            · rfl
            · exact absurd ((f5 e).1 1 (by decide)) (by rw [hL]; decide)
          have J := I0 hL5
          have z0 : ww.cell? ⟨b, 0, none⟩ = some (.slice A5 k c5) := (J.cell (p := ⟨b, 0, none⟩) hbl).trans v0
          have z1 : ww.cell? ⟨b, 1, none⟩ = some (.slice R5 m d5) := (J.cell (p := ⟨b, 1, none⟩) hbl).trans v1
          refine wpOp_step rfl (fun K' hK => ?_)
          go_simp
          refine hK _ _ ?_
          exact ⟨_, _, _, _, _, _, rfl, (fun _ => J), (kp f0), (fun _ => rfl), (fun h => by
            obtain ⟨K5, p5, q5, e8, r8⟩ := f2 (upd_ne h (by decide))
            exact ⟨K5, p5, q5, e8, fun h5 => r8 (by rw [upd_other (by decide)] at h5; exact h5)⟩), (fun h => ⟨(f3 (upd_ne h (by decide))).1, upd_mono (f3 (upd_ne h (by decide))).2⟩), (kp f4), (fun h => absurd hL5 (by rw [upd_ne h (by decide)]; decide)), (fun h => absurd (f6 (upd_ne h (by decide))).2 (by rw [hL5]; decide))⟩
        · obtain rfl := Option.some.inj ho
          have g1 := f1 (hd ⟨1, .data⟩ (by simp) rfl)
          subst g1
          have hL5 : L 5 = false := by
            cases e : L 5
            · rfl
            · exact absurd ((f5 e).1 2 (by decide)) (by rw [hL]; decide)
          have J := I0 hL5
          refine wpOp_step rfl (fun K' hK => ?_)
          go_simp
          refine (refCounts_any A5 R5 k c5 m d5 x ww (hcs.up J) (by omega) (by omega) hcc5 hdd5).mono ?_
          rw [HCO.out]
          rintro e w' ⟨v1, rfl, o1, b5⟩
          obtain ⟨K5, q5, e8, -⟩ := o1.form
          refine hK _ _ ?_
          exact ⟨_, _, _, _, _, _, rfl, (fun _ => J.trans (b5.mono J.size)), (kp f0), (kp f1), (fun _ => ⟨K5, _, q5, e8, fun _ => o1.base J.size⟩), (fun h => absurd (f3 (upd_ne h (by decide))).2 (by rw [hL]; decide)), (kp f4), (fun h => absurd hL5 (by rw [upd_ne h (by decide)]; decide)), (fun h => absurd (f6 (upd_ne h (by decide))).2 (by rw [hL5]; decide))⟩
        · obtain rfl := Option.some.inj ho
          have g0 := f0 (hd ⟨0, .data⟩ (by simp) rfl)
          have g2 := f2 (hd ⟨2, .data⟩ (by simp) rfl)
          subst g0
          have hL5 : L 5 = false := by
            cases e : L 5
            · rfl
            · exact absurd ((f5 e).1 3 (by decide)) (by rw [hL]; decide)
          have J := I0 hL5
          have l3 := Lib.hid (hd ⟨2, .data⟩ (by simp) rfl)
          obtain ⟨K5, p5, q5, e8, r8⟩ := g2
          subst e8
          refine wpOp_step rfl (fun K' hK => ?_)
          go_simp
          refine hK _ _ ?_
          exact ⟨_, _, _, _, _, _, rfl, (fun _ => J), (kp f0), (kp f1), (fun _ => ⟨K5, p5, q5, rfl, fun h7 => r8 (by rw [upd_other (by decide)] at h7; exact h7)⟩), (fun _ => ⟨rfl, upd_mono l3.out⟩), (kp f4), (fun h => absurd hL5 (by rw [upd_ne h (by decide)]; decide)), (fun h => absurd (f6 (upd_ne h (by decide))).2 (by rw [hL5]; decide))⟩
        · obtain rfl := Option.some.inj ho
          refine wpOp_step rfl (fun K' hK => ?_)
          go_simp
          refine hK _ _ ?_
          exact ⟨_, _, _, _, _, _, rfl, (fun h => I0 (by rw [upd_other (by decide)] at h; exact h)), (kp f0), (kp f1), (fun h => by
            obtain ⟨K5, p5, q5, e8, r8⟩ := f2 (upd_ne h (by decide))
            exact ⟨K5, p5, q5, e8, fun h5 => r8 (by rw [upd_other (by decide)] at h5; exact h5)⟩), (fun h => ⟨(f3 (upd_ne h (by decide))).1, upd_mono (f3 (upd_ne h (by decide))).2⟩), (fun _ => rfl), (fun h => by
            obtain ⟨a1, a2⟩ := f5 (upd_ne h (by decide))
            exact ⟨fun q hq => upd_mono (a1 q hq), a2⟩), (fun h => ⟨(f6 (upd_ne h (by decide))).1, upd_mono (f6 (upd_ne h (by decide))).2⟩)⟩
        · obtain rfl := Option.some.inj ho
          have g3 := f3 (hd ⟨3, .data⟩ (by simp) rfl)
          have lq : Hid (∀ q, q < 4 → L q = true) := Lib.hid (by
            intro q hq
            obtain rfl | rfl | rfl | rfl : q = 0 ∨ q = 1 ∨ q = 2 ∨ q = 3 := by omega
            · exact hd ⟨0, .phase⟩ (by simp) rfl
            · exact hd ⟨1, .phase⟩ (by simp) rfl
            · exact hd ⟨2, .phase⟩ (by simp) rfl
            · exact hd ⟨3, .phase⟩ (by simp) rfl)
          have J := I0 hL
          obtain ⟨e9, -⟩ := g3
          subst e9
          obtain ⟨K5, p5, q5, e8, r8⟩ := f2 (lq.out 2 (by decide))
          subst e8
          have o8 := r8 hL
          have P := q3.keep J hrl
          have zf0 : ww.frozen? ⟨w.heap.size + 1, 0, none⟩ = false := P.frozen 0
          have zf1 : ww.frozen? ⟨w.heap.size + 1, 1, none⟩ = false := P.frozen 1
          have zf2 : ww.frozen? ⟨w.heap.size + 1, 2, none⟩ = false := P.frozen 2
          have zc0 : ww.cell? ⟨w.heap.size + 1, 0, none⟩ = some (.slice none 0 0) := P.cell 0
          have zc1 : ww.cell? ⟨w.heap.size + 1, 1, none⟩ = some (.slice none 0 0) := P.cell 1
          have zc2 : ww.cell? ⟨w.heap.size + 1, 2, none⟩ = some (.slice none 0 0) := P.cell 2
          refine wpOp_step rfl (fun K' hK => ?_)
          go_simp
          refine hK _ _ ?_
          exact ⟨_, _, _, _, _, _, rfl, (fun h => absurd h (by rw [upd_self]; decide)), (kp f0), (kp f1), (fun _ => ⟨K5, p5, q5, rfl, fun h => absurd h (by rw [upd_self]; decide)⟩), (fun _ => ⟨rfl, upd_mono (lq.out 2 (by decide))⟩), (kp f4), (fun _ => ⟨fun q hq => upd_mono (lq.out q hq), ww, K5, p5, q5, rfl, rfl, J, o8⟩), (fun h => absurd (f6 (upd_ne h (by decide))).2 (by rw [hL]; decide))⟩
        · obtain rfl := Option.some.inj ho
          have g4 := f4 (hd ⟨4, .data⟩ (by simp) rfl)
          subst g4
          have l5 := Lib.hid (hd ⟨5, .chain⟩ (by simp) rfl)
          refine wpOp_step rfl (fun K' hK => ?_)
          go_simp
          refine hK _ _ ?_
          exact ⟨_, _, _, _, _, _, rfl, (fun h => absurd l5.out (by rw [upd_other (by decide)] at h; rw [h]; decide)), (kp f0), (kp f1), (fun h => by
            obtain ⟨K5, p5, q5, e8, r8⟩ := f2 (upd_ne h (by decide))
            exact ⟨K5, p5, q5, e8, fun h5 => absurd l5.out (by rw [upd_other (by decide)] at h5; rw [h5]; decide)⟩), (fun h => ⟨(f3 (upd_ne h (by decide))).1, upd_mono (f3 (upd_ne h (by decide))).2⟩), (kp f4), (fun h => by
            obtain ⟨a1, a2⟩ := f5 (upd_ne h (by decide))
            exact ⟨fun q hq => upd_mono (a1 q hq), a2⟩), (fun _ => ⟨rfl, upd_mono l5.out⟩)⟩
      case hdone =>
        rintro L ac ww hall ⟨t3, t38, t39, t40, t41, t42, rfl, I0, f0, f1, f2, f3, f4, f5, f6⟩
        have e0 := f0 (hall 0 (by decide))
        have e1 := f1 (hall 1 (by decide))
        have e2 := f2 (hall 2 (by decide))
        have e3 := f3 (hall 3 (by decide))
        have e4 := f4 (hall 4 (by decide))
        have e5 := f5 (hall 5 (by decide))
        have e6 := f6 (hall 6 (by decide))
        clear f0 f1 f2 f3 f4 f5 f6
        obtain ⟨-, wp, K5, p5, q5, rfl, rfl, r1, r9⟩ := e5
        obtain ⟨rfl, -⟩ := e6
        have hlo6 := S.low.size
        have OC := OwnC.of S.ownH r1 r9 hlo6
        have P := q3.keep r1 hrl
        have bP := b6.trans (r1.mono hw6)
        have P4 := ((P.put 0 (.slice A5 k c5)).put 1 (.slice R5 m d5)).put 2 (.slice K5 p5 q5)
        have s8 : ((((wp).setCell ⟨w.heap.size + 1, 0, none⟩ (.slice A5 k c5)).setCell ⟨w.heap.size + 1, 1, none⟩ (.slice R5 m d5)).setCell ⟨w.heap.size + 1, 2, none⟩ (.slice K5 p5 q5)).cell? ⟨w.heap.size + 1, 0, none⟩ = some (.slice A5 k c5) := P4.cell 0
        have s9 : ((((wp).setCell ⟨w.heap.size + 1, 0, none⟩ (.slice A5 k c5)).setCell ⟨w.heap.size + 1, 1, none⟩ (.slice R5 m d5)).setCell ⟨w.heap.size + 1, 2, none⟩ (.slice K5 p5 q5)).cell? ⟨w.heap.size + 1, 1, none⟩ = some (.slice R5 m d5) := P4.cell 1
        have s10 : ((((wp).setCell ⟨w.heap.size + 1, 0, none⟩ (.slice A5 k c5)).setCell ⟨w.heap.size + 1, 1, none⟩ (.slice R5 m d5)).setCell ⟨w.heap.size + 1, 2, none⟩ (.slice K5 p5 q5)).cell? ⟨w.heap.size + 1, 2, none⟩ = some (.slice K5 p5 q5) := P4.cell 2
        have D := Lib.hid (OwnC.out (w := w) (g := w.heap.size + 1) OC (by omega) bP (by omega))
        clear I0 e0 e1 e2 e3 e4 hall r1 r9 P P4 OC bP S q3 b6 v0 v1
        go_wp2_with fail
        exact bodyPost_ret (v := .tuple #[.agg #[.slice A5 k c5, .slice R5 m d5, .slice K5 p5 q5], .int .i64 f]) (by simp [results, Tryd.results39, go_sem, *]) rfl ⟨_, _, _, by rw [HF.out], by rw [HF.out]; exact D.out.1, D.out.2⟩
end Go.Proofs.YthmddmddcdofaaaDoor

namespace Go.Proofs.YthmddmddcdofaaaDoor
open Go.RowKit
set_option maxRecDepth 100000
set_option maxHeartbeats 8000000 in
theorem sweepTwiceLaw_walk (A0 : Option Addr) (n0 c0 : Nat) (w : World) (hby : Bytes w w.heap.size A0 n0) (hc0 : n0 ≤ c0) (hn0 : n0 ≤ 9223372036854775807) (hT : TzT w) :
    Calls Tryd.prog 8 #[.slice A0 n0 c0] w fun e w' => e = .returned (.bool true) ∧ Below w.heap.size w w' := by
  by_cases hs : n0 ≤ 1048576
  case neg =>
    have hs' : (1048576 : Int) < (n0 : Int) := by omega
    go_enter Tryd.func8, Tryd.ntmps8
    go_wp2
    go_ret
    exact ⟨rfl, Below.refl _ _⟩
  have hs' : decide ((1048576 : Int) < (n0 : Int)) = false := by simp; omega
  go_enter Tryd.func8, Tryd.ntmps8
  go_wp2_with fail
  refine (drawCollectSweep_any _ _ _ _ hby hc0 hn0).mono ?_
  rintro e w1 ⟨A, nn, c, R, m, d, h, rfl, hnc, hmd, hsr, hsm, b1⟩
  have hlc := hsr.cells.1
  have hlr := hsr.roots.1
  have hn41 : nn ≤ 41 := by have := hsm.1; omega
  have hm4 : m ≤ 4 := by have := hsm.2.1; omega
  have bA : Below w1.heap.size w1 (w1.alloc (.cells #[.slice A nn c, .slice R m d] 26)) := (Below.refl _ _).alloc (Nat.le_refl _) _
  have bx := Rw.new w1 26 #[.slice A nn c, .slice R m d]
  replace hsr := hsr.up bA
  have bb := b1.trans (bA.mono b1.size)
  have hT2 := hT.below bb
  have HLC := Lib.hid hlc
  clear bA b1 hsm hlc hlr hby
  go_upto_region 4 with fail
  generalize w1.alloc (.cells #[.slice A nn c, .slice R m d] 26) = w2 at bx hsr bb hT2 ⊢
  generalize w1.heap.size = b at bx ⊢
  have T := Hps.collect_few h
  obtain ⟨X, hX⟩ : ∃ X, (Hps.collectH h).1 = X := ⟨_, rfl⟩
  obtain ⟨y, hy⟩ : ∃ y, (Hps.collectH h).2 = y := ⟨_, rfl⟩
  rw [hX] at T
  obtain ⟨nx, hnx⟩ : ∃ nx, X.cs.length = nx := ⟨_, rfl⟩
  obtain ⟨mx, hmx⟩ : ∃ mx, X.rt.length = mx := ⟨_, rfl⟩
  have hx41 : nx ≤ 40 := by have := T.1; omega
  have hx4 : mx ≤ 4 := by have := T.2.1; omega
  have HTT := Lib.hid T
  have HX := Lib.hid hX
  have HY := Lib.hid hy
  have E0 := Lib.hid hnx
  have E4 := Lib.hid hmx
  clear T hX hy hnx hmx
  have x0 : w2.cell? ⟨b, 0, none⟩ = some (.slice A nn c) := bx.cell 0
  have x1 : w2.cell? ⟨b, 1, none⟩ = some (.slice R m d) := bx.cell 1
  go_wp2_with fail
  refine (collectSweep_any _ _ _ _ _ _ h _ hT2 hsr (by omega) (by omega) hnc hmd).mono ?_
  rw [HX.out, HY.out]
  rintro e w3 ⟨vc0, vr0, rfl, ⟨rvs0, own0⟩, b3⟩
  obtain ⟨A1, c1, R1, d1, rfl, rfl, hc1, hd1, -⟩ := own0.form
  rw [E0.out] at hc1
  rw [E4.out] at hd1
  rw [E0.out, E4.out] at own0 ⊢
  have bA : Below w3.heap.size w3 (w3.alloc (.cells #[.slice A1 nx c1, .slice R1 mx d1] 26)) := (Below.refl _ _).alloc (Nat.le_refl _) _
  have o1 := (own0.below bA (Nat.le_refl _)).reads
  have z1 := Rw.new w3 26 #[.slice A1 nx c1, .slice R1 mx d1]
  replace bx := (bx.keep b3 bx.lt).alloc (.cells #[.slice A1 nx c1, .slice R1 mx d1] 26)
  replace hsr := (hsr.up b3).up bA
  replace hT2 := (hT2.below b3).below bA
  replace bb := (bb.trans (b3.mono bb.size)).trans (bA.mono (bb.trans (b3.mono bb.size)).size)
  clear own0 b3 bA x0 x1
  go_upto_region 5 with fail
  generalize w3.alloc (.cells #[.slice A1 nx c1, .slice R1 mx d1] 26) = w4 at o1 z1 bx hsr bb hT2 ⊢
  obtain ⟨s3, hs3⟩ : ∃ s3, w3.heap.size = s3 := ⟨_, rfl⟩
  rw [hs3] at z1 ⊢
  clear hs3
  have x0 : w4.cell? ⟨b, 0, none⟩ = some (.slice A nn c) := bx.cell 0
  have x1 : w4.cell? ⟨b, 1, none⟩ = some (.slice R m d) := bx.cell 1
  go_wp2_with fail
  refine (mCollectSweep_any _ _ _ _ _ _ h _ hsr (by omega) (by omega)).mono ?_
  rw [HX.out, HY.out]
  rintro e w5 ⟨vc0, vr0, rfl, ⟨rvs0, own0⟩, b3⟩
  obtain ⟨A2, c2, R2, d2, rfl, rfl, -⟩ := own0.form
  rw [E0.out, E4.out] at own0 ⊢
  have bA : Below w5.heap.size w5 (w5.alloc (.cells #[.slice A2 nx c2, .slice R2 mx d2] 26)) := (Below.refl _ _).alloc (Nat.le_refl _) _
  have o2 := (own0.below bA (Nat.le_refl _)).reads
  have z2 := Rw.new w5 26 #[.slice A2 nx c2, .slice R2 mx d2]
  replace bx := (bx.keep b3 bx.lt).alloc (.cells #[.slice A2 nx c2, .slice R2 mx d2] 26)
  replace z1 := (z1.keep b3 z1.lt).alloc (.cells #[.slice A2 nx c2, .slice R2 mx d2] 26)
  replace o1 := (o1.up b3).up bA
  replace hsr := (hsr.up b3).up bA
  replace hT2 := (hT2.below b3).below bA
  replace bb := (bb.trans (b3.mono bb.size)).trans (bA.mono (bb.trans (b3.mono bb.size)).size)
  clear own0 b3 bA x0 x1
  go_upto_region 6 with fail
  generalize w5.alloc (.cells #[.slice A2 nx c2, .slice R2 mx d2] 26) = w6 at o1 o2 z1 z2 bx hsr bb hT2 ⊢
  generalize w5.heap.size = s5 at z2 ⊢
  have y0 : w6.cell? ⟨s3, 0, none⟩ = some (.slice A1 nx c1) := z1.cell 0
  have y1 : w6.cell? ⟨s3, 1, none⟩ = some (.slice R1 mx d1) := z1.cell 1
  have y2 : w6.cell? ⟨s5, 0, none⟩ = some (.slice A2 nx c2) := z2.cell 0
  have y3 : w6.cell? ⟨s5, 1, none⟩ = some (.slice R2 mx d2) := z2.cell 1
  have hyy : (y != y) = false := by simp
  go_wp2_with fail
  refine (sameHeap_same _ _ _ _ _ _ _ _ _ _ X _ o1 o2 (by omega) (by omega) (fun cl hcl => by have := HTT.out.2.2 cl hcl; omega)).mono ?_
  rintro e w7 ⟨rfl, b6⟩
  replace bx := bx.keep b6 bx.lt
  replace z1 := z1.keep b6 z1.lt
  replace hsr := hsr.up b6
  replace hT2 := hT2.below b6
  replace o1 := o1.up b6
  replace bb := bb.trans (b6.mono bb.size)
  clear y0 y1 y2 y3 o2 z2 b6
  cases hv : Hps.validH h
  · obtain rfl : y = -1 := by rw [← HY.out, Hps.collect_no hv]
    clear hv
    go_wp2_with fail
    refine (alive_any _).mono ?_
    rintro e w8 ⟨rfl, b7⟩
    have bb7 := bb.trans (b7.mono bb.size)
    go_wp2_with fail
    go_ret
    exact ⟨rfl, bb7⟩
  have hXe : X = Hps.sweptH h := by rw [← HX.out, Hps.collect_eq hv]
  have hye : y = ((Hps.leakL h).length : Int) := by rw [← HY.out, Hps.collect_eq hv]
  have hy0 : ¬ y < 0 := by rw [hye]; exact Int.not_lt.2 (Int.natCast_nonneg _)
  have hvX := Hps.swept_valid hv
  have htw := Hps.swept_twice hv
  have hcy := Hps.swept_cycles hv
  rw [← hXe] at hvX htw hcy
  obtain ⟨ct, hct⟩ : ∃ ct, Hps.countsL X = ct := ⟨_, rfl⟩
  rw [hct] at hcy
  have HTW := Lib.hid htw
  have HCY := Lib.hid hcy
  have HCT := Lib.hid (show Hps.countsH X = ct by rw [Hps.countsH, if_pos hvX]; exact hct)
  have HCN := Lib.hid (show ct.length = nx by rw [← hct, Hps.countsL_eq, Hps.cntN_len, E0.out])
  clear hXe hye hvX htw hcy hct hv hsr bx hyy
  have y0 : w7.cell? ⟨s3, 0, none⟩ = some (.slice A1 nx c1) := z1.cell 0
  have y1 : w7.cell? ⟨s3, 1, none⟩ = some (.slice R1 mx d1) := z1.cell 1
  go_wp2_with fail
  refine (collectSweep_any _ _ _ _ _ _ X _ hT2 o1 (by omega) (by omega) hc1 hd1).mono ?_
  rw [HTW.out]
  rintro e w8 ⟨vc0, vr0, rfl, ⟨rvs0, own0⟩, b3⟩
  obtain ⟨A3, c3, R3, d3, rfl, rfl, -⟩ := own0.form
  rw [E0.out, E4.out] at own0 ⊢
  have bA : Below w8.heap.size w8 (w8.alloc (.cells #[.slice A3 nx c3, .slice R3 mx d3] 26)) := (Below.refl _ _).alloc (Nat.le_refl _) _
  have o3 := (own0.below bA (Nat.le_refl _)).reads
  have z3 := Rw.new w8 26 #[.slice A3 nx c3, .slice R3 mx d3]
  replace z1 := (z1.keep b3 z1.lt).alloc (.cells #[.slice A3 nx c3, .slice R3 mx d3] 26)
  replace o1 := (o1.up b3).up bA
  replace hT2 := (hT2.below b3).below bA
  replace bb := (bb.trans (b3.mono bb.size)).trans (bA.mono (bb.trans (b3.mono bb.size)).size)
  clear own0 b3 bA y0 y1
  go_upto_region 11 with fail
  generalize w8.alloc (.cells #[.slice A3 nx c3, .slice R3 mx d3] 26) = w9 at o1 o3 z1 z3 bb hT2 ⊢
  generalize w8.heap.size = s8 at z3 ⊢
  have y0 : w9.cell? ⟨s3, 0, none⟩ = some (.slice A1 nx c1) := z1.cell 0
  have y1 : w9.cell? ⟨s3, 1, none⟩ = some (.slice R1 mx d1) := z1.cell 1
  have hzl := z1.lt
  refine wp_region_inv (by kernel_rfl) (by kernel_rfl) (fun L ac ww => ∃ t10 t11 t44 t45 t46 t47 t48 t49 t50 t51 : Value, ac = { tmps := #[Value.slice A0 n0 c0, undef, Value.bool false, Value.pointer (some { block := b, off := 0 }), Value.pointer (some { block := s3, off := 0 }), Value.int IntKind.i64 y, Value.pointer (some { block := s5, off := 0 }), Value.int IntKind.i64 y, Value.pointer (some { block := s8, off := 0 }), Value.int IntKind.i64 0, t10, t11, Value.slice A0 n0 c0, Value.int IntKind.i64 ↑n0, Value.bool false, Value.slice A0 n0 c0, heapV A nn c R m d, Value.tuple #[Value.agg #[Value.slice A1 nx c1, Value.slice R1 mx d1], Value.int IntKind.i64 y], Value.agg #[Value.slice A nn c, Value.slice R m d], Value.tuple #[Value.agg #[Value.slice A1 nx c1, Value.slice R1 mx d1], Value.int IntKind.i64 y], Value.agg #[Value.slice A1 nx c1, Value.slice R1 mx d1], Value.int IntKind.i64 y, Value.tuple #[Value.agg #[Value.slice A2 nx c2, Value.slice R2 mx d2], Value.int IntKind.i64 y], Value.agg #[Value.slice A nn c, Value.slice R m d], Value.tuple #[Value.agg #[Value.slice A2 nx c2, Value.slice R2 mx d2], Value.int IntKind.i64 y], Value.agg #[Value.slice A2 nx c2, Value.slice R2 mx d2], Value.int IntKind.i64 y, Value.agg #[Value.slice A1 nx c1, Value.slice R1 mx d1], Value.agg #[Value.slice A2 nx c2, Value.slice R2 mx d2], Value.bool true, Value.bool false, Value.bool false, Value.int IntKind.i64 y, Value.int IntKind.i64 y, Value.bool false, Value.bool false, Value.int IntKind.i64 y, Value.bool (decide (y < 0)), undef, Value.tuple #[Value.agg #[Value.slice A3 nx c3, Value.slice R3 mx d3], Value.int IntKind.i64 0], Value.agg #[Value.slice A1 nx c1, Value.slice R1 mx d1], Value.tuple #[Value.agg #[Value.slice A3 nx c3, Value.slice R3 mx d3], Value.int IntKind.i64 0], Value.agg #[Value.slice A3 nx c3, Value.slice R3 mx d3], Value.int IntKind.i64 0, t44, t45, t46, t47, t48, t49, t50, t51, undef, undef, undef, undef, undef, undef, undef, undef, undef, undef, undef, undef, undef, undef, undef, undef, undef], defers := [] } ∧ (Below w9.heap.size w9 ww) ∧ (L 9 = true → L 8 = true) ∧ (L 5 = true → L 4 = true) ∧ (L 6 = true → L 4 = true) ∧ (L 9 = true → L 4 = true) ∧ (L 0 = true → t45 = .agg #[.slice A1 nx c1, .slice R1 mx d1]) ∧ (L 1 = true → t46 = .agg #[.slice A1 nx c1, .slice R1 mx d1]) ∧ (L 2 = true → ∃ (K5 : Option Addr) (q5 : Nat), t47 = .slice K5 nx q5 ∧ (L 9 = false → IS ww ww.heap.size K5 nx ct)) ∧ (L 3 = true → ∃ (K5 : Option Addr) (q5 : Nat), t48 = .agg #[.slice A1 nx c1, .slice R1 mx d1, .slice K5 nx q5] ∧ (L 9 = false → IS ww ww.heap.size K5 nx ct)) ∧ (L 4 = true → ∃ (A5 : Option Addr) (n5 c5 : Nat) (R5 : Option Addr) (m5 d5 : Nat) (K5 : Option Addr) (p5 q5 : Nat), t49 = .tuple #[.agg #[.slice A5 n5 c5, .slice R5 m5 d5, .slice K5 p5 q5], .int .i64 0] ∧ OwnFC ww w9.heap.size t10 (L 8) (.slice A5 n5 c5) (.slice R5 m5 d5) (.slice K5 p5 q5) X ct) ∧ (L 5 = true → ∃ (A5 : Option Addr) (n5 c5 : Nat) (R5 : Option Addr) (m5 d5 : Nat) (K5 : Option Addr) (p5 q5 : Nat), t49 = .tuple #[.agg #[.slice A5 n5 c5, .slice R5 m5 d5, .slice K5 p5 q5], .int .i64 0] ∧ t44 = .tuple #[.agg #[.slice A5 n5 c5, .slice R5 m5 d5, .slice K5 p5 q5], .int .i64 0]) ∧ (L 6 = true → ∃ (A5 : Option Addr) (n5 c5 : Nat) (R5 : Option Addr) (m5 d5 : Nat) (K5 : Option Addr) (p5 q5 : Nat), t49 = .tuple #[.agg #[.slice A5 n5 c5, .slice R5 m5 d5, .slice K5 p5 q5], .int .i64 0] ∧ t50 = .agg #[.slice A5 n5 c5, .slice R5 m5 d5, .slice K5 p5 q5]) ∧ (L 7 = true → t51 = .int .i64 0) ∧ (L 8 = true → ∃ (g5 : Nat) (z0 z1 z2 : Value), t10 = .pointer (some ⟨g5, 0, none⟩) ∧ w9.heap.size ≤ g5 ∧ Rw ww g5 55 #[z0, z1, z2]) ∧ (L 9 = true → ∃ (g5 : Nat) (A5 : Option Addr) (n5 c5 : Nat) (R5 : Option Addr) (m5 d5 : Nat) (K5 : Option Addr) (p5 q5 : Nat), t10 = .pointer (some ⟨g5, 0, none⟩) ∧ w9.heap.size ≤ g5 ∧ Rw ww g5 55 #[.slice A5 n5 c5, .slice R5 m5 d5, .slice K5 p5 q5] ∧ OwnC ww w9.heap.size (.slice A5 n5 c5) (.slice R5 m5 d5) (.slice K5 p5 q5) X ct) ∧ (L 10 = true → t11 = .int .i64 0)) ?h0 ?hstep ?hdone
  case h0 => exact ⟨_, _, _, _, _, _, _, _, _, _, rfl, (Below.refl _ _).drew, fun h => absurd h Bool.false_ne_true, fun h => absurd h Bool.false_ne_true, fun h => absurd h Bool.false_ne_true, fun h => absurd h Bool.false_ne_true, (fun h => absurd h Bool.false_ne_true), (fun h => absurd h Bool.false_ne_true), (fun h => absurd h Bool.false_ne_true), (fun h => absurd h Bool.false_ne_true), (fun h => absurd h Bool.false_ne_true), (fun h => absurd h Bool.false_ne_true), (fun h => absurd h Bool.false_ne_true), (fun h => absurd h Bool.false_ne_true), (fun h => absurd h Bool.false_ne_true), (fun h => absurd h Bool.false_ne_true), (fun h => absurd h Bool.false_ne_true)⟩
  case hstep =>
    rintro L ac ww i o ho hL hd ⟨t10, t11, t44, t45, t46, t47, t48, t49, t50, t51, rfl, I0, I1, I2, I3, I4, f0, f1, f2, f3, f4, f5, f6, f7, f8, f9, f10⟩
    have hi : i < 11 := (Array.getElem?_eq_some_iff.1 ho).1
    obtain rfl | rfl | rfl | rfl | rfl | rfl | rfl | rfl | rfl | rfl | rfl : i = 0 ∨ i = 1 ∨ i = 2 ∨ i = 3 ∨ i = 4 ∨ i = 5 ∨ i = 6 ∨ i = 7 ∨ i = 8 ∨ i = 9 ∨ i = 10 := by omega
    · obtain rfl := Option.some.inj ho
      have v0 : ww.cell? ⟨s3, 0, none⟩ = some (.slice A1 nx c1) := (I0.cell (p := ⟨s3, 0, none⟩) hzl).trans y0
      have v1 : ww.cell? ⟨s3, 1, none⟩ = some (.slice R1 mx d1) := (I0.cell (p := ⟨s3, 1, none⟩) hzl).trans y1
      refine wpOp_step rfl (fun K' hK => ?_)
      go_simp
      refine hK _ _ ?_
      exact ⟨_, _, _, _, _, _, _, _, _, _, rfl, (I0), (fun h => by rw [upd_other (by decide)]; exact I1 (upd_ne h (by decide))), (fun h => upd_mono (I2 (upd_ne h (by decide)))), (fun h => upd_mono (I3 (upd_ne h (by decide)))), (fun h => upd_mono (I4 (upd_ne h (by decide)))), (fun _ => rfl), (kp f1), (fun h => by
        obtain ⟨K9, q9, e, hi⟩ := f2 (upd_ne h (by decide))
        exact ⟨K9, q9, e, fun h9 => hi ((upd_other (by decide)).symm.trans h9)⟩), (fun h => by
        obtain ⟨K9, q9, e, hi⟩ := f3 (upd_ne h (by decide))
        exact ⟨K9, q9, e, fun h9 => hi ((upd_other (by decide)).symm.trans h9)⟩), (fun h => by
        obtain ⟨A5, n5, c5, R5, m5, d5, K5, p5, q5, e, oo⟩ := f4 (upd_ne h (by decide))
        exact ⟨A5, n5, c5, R5, m5, d5, K5, p5, q5, e, oo.eq (upd_other (by decide))⟩), (kp f5), (kp f6), (kp f7), (kp f8), (kp f9), (kp f10)⟩
    · obtain rfl := Option.some.inj ho
      have v0 : ww.cell? ⟨s3, 0, none⟩ = some (.slice A1 nx c1) := (I0.cell (p := ⟨s3, 0, none⟩) hzl).trans y0
      have v1 : ww.cell? ⟨s3, 1, none⟩ = some (.slice R1 mx d1) := (I0.cell (p := ⟨s3, 1, none⟩) hzl).trans y1
      refine wpOp_step rfl (fun K' hK => ?_)
      go_simp
      refine hK _ _ ?_
      exact ⟨_, _, _, _, _, _, _, _, _, _, rfl, (I0), (fun h => by rw [upd_other (by decide)]; exact I1 (upd_ne h (by decide))), (fun h => upd_mono (I2 (upd_ne h (by decide)))), (fun h => upd_mono (I3 (upd_ne h (by decide)))), (fun h => upd_mono (I4 (upd_ne h (by decide)))), (kp f0), (fun _ => rfl), (fun h => by
        obtain ⟨K9, q9, e, hi⟩ := f2 (upd_ne h (by decide))
        exact ⟨K9, q9, e, fun h9 => hi ((upd_other (by decide)).symm.trans h9)⟩), (fun h => by
        obtain ⟨K9, q9, e, hi⟩ := f3 (upd_ne h (by decide))
        exact ⟨K9, q9, e, fun h9 => hi ((upd_other (by decide)).symm.trans h9)⟩), (fun h => by
        obtain ⟨A5, n5, c5, R5, m5, d5, K5, p5, q5, e, oo⟩ := f4 (upd_ne h (by decide))
        exact ⟨A5, n5, c5, R5, m5, d5, K5, p5, q5, e, oo.eq (upd_other (by decide))⟩), (kp f5), (kp f6), (kp f7), (kp f8), (kp f9), (kp f10)⟩
    · obtain rfl := Option.some.inj ho
      have g1 := f1 (hd ⟨1, .data⟩ (by simp) rfl)
      subst g1
      refine wpOp_step rfl (fun K' hK => ?_)
      go_simp
      refine (refCounts_any _ _ _ _ _ _ X ww (o1.up I0) (by omega) (by omega) hc1 hd1).mono ?_
      rw [HCT.out]
      rintro e w' ⟨v5, rfl, ok5, b5⟩
      obtain ⟨K5, q5, rfl, -⟩ := ok5.form
      rw [HCN.out] at ok5 ⊢
      refine hK _ _ ?_
      exact ⟨_, _, _, _, _, _, _, _, _, _, rfl, (I0.trans (b5.mono I0.size)), (fun h => by rw [upd_other (by decide)]; exact I1 (upd_ne h (by decide))), (fun h => upd_mono (I2 (upd_ne h (by decide)))), (fun h => upd_mono (I3 (upd_ne h (by decide)))), (fun h => upd_mono (I4 (upd_ne h (by decide)))), (kp f0), (kp f1), (fun _ => ⟨K5, q5, rfl, fun _ => ok5.reads⟩), (fun h => by
        obtain ⟨K9, q9, e, hi⟩ := f3 (upd_ne h (by decide))
        exact ⟨K9, q9, e, fun h9 => (hi ((upd_other (by decide)).symm.trans h9)).up b5⟩), (fun h => by
        obtain ⟨A5, n5, c5, R5, m5, d5, K5, p5, q5, e, oo⟩ := f4 (upd_ne h (by decide))
        exact ⟨A5, n5, c5, R5, m5, d5, K5, p5, q5, e, (oo.below b5).eq (upd_other (by decide))⟩), (kp f5), (kp f6), (kp f7), (fun h => by
        obtain ⟨g5, z0, z1, z2, e, hg5, hz⟩ := f8 (upd_ne h (by decide))
        exact ⟨g5, z0, z1, z2, e, hg5, hz.keep b5 hz.lt⟩), (fun h => by
        obtain ⟨g5, A5, n5, c5, R5, m5, d5, K5, p5, q5, e, hg5, hz, oo⟩ := f9 (upd_ne h (by decide))
        exact ⟨g5, A5, n5, c5, R5, m5, d5, K5, p5, q5, e, hg5, hz.keep b5 hz.lt, oo.below b5 (Nat.le_refl _)⟩), (kp f10)⟩
    · obtain rfl := Option.some.inj ho
      have g0 := f0 (hd ⟨0, .data⟩ (by simp) rfl)
      have g2 := f2 (hd ⟨2, .data⟩ (by simp) rfl)
      subst g0
      obtain ⟨K5, q5, rfl, hi2⟩ := g2
      refine wpOp_step rfl (fun K' hK => ?_)
      go_simp
      refine hK _ _ ?_
      exact ⟨_, _, _, _, _, _, _, _, _, _, rfl, (I0), (fun h => by rw [upd_other (by decide)]; exact I1 (upd_ne h (by decide))), (fun h => upd_mono (I2 (upd_ne h (by decide)))), (fun h => upd_mono (I3 (upd_ne h (by decide)))), (fun h => upd_mono (I4 (upd_ne h (by decide)))), (kp f0), (kp f1), (fun h => by
        obtain ⟨K9, q9, e, hi⟩ := f2 (upd_ne h (by decide))
        exact ⟨K9, q9, e, fun h9 => hi ((upd_other (by decide)).symm.trans h9)⟩), (fun _ => ⟨K5, q5, rfl, fun h9 => hi2 ((upd_other (by decide)).symm.trans h9)⟩), (fun h => by
        obtain ⟨A5, n5, c5, R5, m5, d5, K5, p5, q5, e, oo⟩ := f4 (upd_ne h (by decide))
        exact ⟨A5, n5, c5, R5, m5, d5, K5, p5, q5, e, oo.eq (upd_other (by decide))⟩), (kp f5), (kp f6), (kp f7), (kp f8), (kp f9), (kp f10)⟩
    · obtain rfl := Option.some.inj ho
      have g3 := f3 (hd ⟨3, .data⟩ (by simp) rfl)
      obtain ⟨K6, q6, rfl, hi3⟩ := g3
      have h9 : L 9 = false := by
        cases e : L 9
        · rfl
        · exact absurd (I4 e) (by rw [hL]; decide)
      have hi := hi3 h9
      have hsz := I0.size
      refine wpOp_step rfl (fun K' hK => ?_)
      go_simp
      refine (collectCycles_any A1 R1 K6 nx c1 mx d1 nx q6 X ct ww (hT2.below I0) (o1.up I0) hi (by omega) (by omega) (by omega) hc1 hd1).mono ?_
      rw [HCY.out]
      rintro e w' ⟨vc, vr, vk, rfl, ow, b5⟩
      obtain ⟨A5, n5, c5, R5, m5, d5, K5, p5, q5, rfl, rfl, rfl⟩ := ow.slices
      refine hK _ _ ?_
      exact ⟨_, _, _, _, _, _, _, _, _, _, rfl, (I0.trans (b5.mono I0.size)), (fun h => by rw [upd_other (by decide)]; exact I1 (upd_ne h (by decide))), (fun h => upd_mono (I2 (upd_ne h (by decide)))), (fun h => upd_mono (I3 (upd_ne h (by decide)))), (fun h => upd_mono (I4 (upd_ne h (by decide)))), (kp f0), (kp f1), (fun h => by
        obtain ⟨K9, q9, e, hi⟩ := f2 (upd_ne h (by decide))
        exact ⟨K9, q9, e, fun h9 => (hi ((upd_other (by decide)).symm.trans h9)).up b5⟩), (fun h => by
        obtain ⟨K9, q9, e, hi⟩ := f3 (upd_ne h (by decide))
        exact ⟨K9, q9, e, fun h9 => (hi ((upd_other (by decide)).symm.trans h9)).up b5⟩), (fun _ => ⟨A5, n5, c5, R5, m5, d5, K5, p5, q5, rfl, OwnFC.baseC hsz ow (fun g5 hl e => by
        obtain ⟨g6, z0, z1, z2, e', hg5, hz⟩ := f8 (by rw [upd_other (by decide)] at hl; exact hl)
        rw [e'] at e
        injection e with e
        injection e with e
        injection e with e
        rw [← e]
        exact hz.lt)⟩), (fun h => absurd (I2 (upd_ne h (by decide))) (by rw [hL]; simp)), (fun h => absurd (I3 (upd_ne h (by decide))) (by rw [hL]; simp)), (kp f7), (fun h => by
        obtain ⟨g5, z0, z1, z2, e, hg5, hz⟩ := f8 (upd_ne h (by decide))
        exact ⟨g5, z0, z1, z2, e, hg5, hz.keep b5 hz.lt⟩), (fun h => by
        obtain ⟨g5, A5, n5, c5, R5, m5, d5, K5, p5, q5, e, hg5, hz, oo⟩ := f9 (upd_ne h (by decide))
        exact ⟨g5, A5, n5, c5, R5, m5, d5, K5, p5, q5, e, hg5, hz.keep b5 hz.lt, oo.below b5 (Nat.le_refl _)⟩), (kp f10)⟩
    · obtain rfl := Option.some.inj ho
      have g4 := f4 (hd ⟨4, .data⟩ (by simp) rfl)
      obtain ⟨A5, n5, c5, R5, m5, d5, K5, p5, q5, rfl, o5⟩ := g4
      refine wpOp_step rfl (fun K' hK => ?_)
      go_simp
      refine hK _ _ ?_
      exact ⟨_, _, _, _, _, _, _, _, _, _, rfl, (I0), (fun h => by rw [upd_other (by decide)]; exact I1 (upd_ne h (by decide))), (fun _ => upd_mono (hd ⟨4, .data⟩ (by simp) rfl)), (fun h => upd_mono (I3 (upd_ne h (by decide)))), (fun h => upd_mono (I4 (upd_ne h (by decide)))), (kp f0), (kp f1), (fun h => by
        obtain ⟨K9, q9, e, hi⟩ := f2 (upd_ne h (by decide))
        exact ⟨K9, q9, e, fun h9 => hi ((upd_other (by decide)).symm.trans h9)⟩), (fun h => by
        obtain ⟨K9, q9, e, hi⟩ := f3 (upd_ne h (by decide))
        exact ⟨K9, q9, e, fun h9 => hi ((upd_other (by decide)).symm.trans h9)⟩), (fun h => by
        obtain ⟨A5, n5, c5, R5, m5, d5, K5, p5, q5, e, oo⟩ := f4 (upd_ne h (by decide))
        exact ⟨A5, n5, c5, R5, m5, d5, K5, p5, q5, e, oo.eq (upd_other (by decide))⟩), (fun _ => ⟨_, _, _, _, _, _, _, _, _, rfl, rfl⟩), (kp f6), (kp f7), (kp f8), (kp f9), (kp f10)⟩
    · obtain rfl := Option.some.inj ho
      have g5 := f5 (hd ⟨5, .data⟩ (by simp) rfl)
      obtain ⟨A5, n5, c5, R5, m5, d5, K5, p5, q5, rfl, rfl⟩ := g5
      refine wpOp_step rfl (fun K' hK => ?_)
      go_simp
      refine hK _ _ ?_
      exact ⟨_, _, _, _, _, _, _, _, _, _, rfl, (I0), (fun h => by rw [upd_other (by decide)]; exact I1 (upd_ne h (by decide))), (fun h => upd_mono (I2 (upd_ne h (by decide)))), (fun _ => upd_mono (I2 (hd ⟨5, .data⟩ (by simp) rfl))), (fun h => upd_mono (I4 (upd_ne h (by decide)))), (kp f0), (kp f1), (fun h => by
        obtain ⟨K9, q9, e, hi⟩ := f2 (upd_ne h (by decide))
        exact ⟨K9, q9, e, fun h9 => hi ((upd_other (by decide)).symm.trans h9)⟩), (fun h => by
        obtain ⟨K9, q9, e, hi⟩ := f3 (upd_ne h (by decide))
        exact ⟨K9, q9, e, fun h9 => hi ((upd_other (by decide)).symm.trans h9)⟩), (fun h => by
        obtain ⟨A5, n5, c5, R5, m5, d5, K5, p5, q5, e, oo⟩ := f4 (upd_ne h (by decide))
        exact ⟨A5, n5, c5, R5, m5, d5, K5, p5, q5, e, oo.eq (upd_other (by decide))⟩), (kp f5), (fun _ => ⟨_, _, _, _, _, _, _, _, _, rfl, rfl⟩), (kp f7), (kp f8), (kp f9), (kp f10)⟩
    · obtain rfl := Option.some.inj ho
      have g5 := f5 (hd ⟨5, .data⟩ (by simp) rfl)
      obtain ⟨A5, n5, c5, R5, m5, d5, K5, p5, q5, rfl, rfl⟩ := g5
      refine wpOp_step rfl (fun K' hK => ?_)
      go_simp
      refine hK _ _ ?_
      exact ⟨_, _, _, _, _, _, _, _, _, _, rfl, (I0), (fun h => by rw [upd_other (by decide)]; exact I1 (upd_ne h (by decide))), (fun h => upd_mono (I2 (upd_ne h (by decide)))), (fun h => upd_mono (I3 (upd_ne h (by decide)))), (fun h => upd_mono (I4 (upd_ne h (by decide)))), (kp f0), (kp f1), (fun h => by
        obtain ⟨K9, q9, e, hi⟩ := f2 (upd_ne h (by decide))
        exact ⟨K9, q9, e, fun h9 => hi ((upd_other (by decide)).symm.trans h9)⟩), (fun h => by
        obtain ⟨K9, q9, e, hi⟩ := f3 (upd_ne h (by decide))
        exact ⟨K9, q9, e, fun h9 => hi ((upd_other (by decide)).symm.trans h9)⟩), (fun h => by
        obtain ⟨A5, n5, c5, R5, m5, d5, K5, p5, q5, e, oo⟩ := f4 (upd_ne h (by decide))
        exact ⟨A5, n5, c5, R5, m5, d5, K5, p5, q5, e, oo.eq (upd_other (by decide))⟩), (kp f5), (kp f6), (fun _ => rfl), (kp f8), (kp f9), (kp f10)⟩
    · obtain rfl := Option.some.inj ho
      refine wpOp_step rfl (fun K' hK => ?_)
      go_simp
      refine hK _ _ ?_
      exact ⟨_, _, _, _, _, _, _, _, _, _, rfl, (I0.alloc I0.size _), (fun _ => upd_self), (fun h => upd_mono (I2 (upd_ne h (by decide)))), (fun h => upd_mono (I3 (upd_ne h (by decide)))), (fun h => upd_mono (I4 (upd_ne h (by decide)))), (kp f0), (kp f1), (fun h => by
        obtain ⟨K9, q9, e, hi⟩ := f2 (upd_ne h (by decide))
        exact ⟨K9, q9, e, fun h9 => (hi ((upd_other (by decide)).symm.trans h9)).up ((Below.refl _ _).alloc (Nat.le_refl _) _)⟩), (fun h => by
        obtain ⟨K9, q9, e, hi⟩ := f3 (upd_ne h (by decide))
        exact ⟨K9, q9, e, fun h9 => (hi ((upd_other (by decide)).symm.trans h9)).up ((Below.refl _ _).alloc (Nat.le_refl _) _)⟩), (fun h => by
        obtain ⟨A5, n5, c5, R5, m5, d5, K5, p5, q5, e, oo⟩ := f4 (upd_ne h (by decide))
        exact ⟨A5, n5, c5, R5, m5, d5, K5, p5, q5, e, oo.alloc _⟩), (kp f5), (kp f6), (kp f7), (fun _ => ⟨ww.heap.size, _, _, _, rfl, I0.size, Rw.new _ _ _⟩), (fun h => absurd (I1 (upd_ne h (by decide))) (by rw [hL]; simp)), (kp f10)⟩
    · obtain rfl := Option.some.inj ho
      have g6 := f6 (hd ⟨6, .data⟩ (by simp) rfl)
      have g8 := f8 (hd ⟨8, .data⟩ (by simp) rfl)
      have g4 := f4 (hd ⟨4, .chain⟩ (by simp) rfl)
      have hL9 := hd ⟨8, .data⟩ (by simp) rfl
      have hL4 := hd ⟨4, .chain⟩ (by simp) rfl
      obtain ⟨q8, z0, z1, z2, rfl, hq5, hz⟩ := g8
      obtain ⟨A5, n5, c5, R5, m5, d5, K5, p5, q5, rfl, rfl⟩ := g6
      obtain ⟨A6, n6, c6, R6, m6, d6, K6, p6, q6, e6, oo⟩ := g4
      injection e6 with e6
      simp at e6
      obtain ⟨⟨rfl, rfl, rfl⟩, ⟨rfl, rfl, rfl⟩, rfl, rfl, rfl⟩ := e6
      have u0 := hz.cell 0
      have u1 := hz.cell 1
      have u2 := hz.cell 2
      have u3 := hz.frozen 0
      have u4 := hz.frozen 1
      have u5 := hz.frozen 2
      simp at u0 u1 u2
      refine wpOp_step rfl (fun K' hK => ?_)
      go_simp
      refine hK _ _ ?_
      exact ⟨_, _, _, _, _, _, _, _, _, _, rfl, (((I0.setCell (p := ⟨q8, 0, none⟩) hq5 _).setCell (p := ⟨q8, 1, none⟩) hq5 _).setCell (p := ⟨q8, 2, none⟩) hq5 _), (fun _ => by rw [upd_other (by decide)]; exact hL9), (fun h => upd_mono (I2 (upd_ne h (by decide)))), (fun h => upd_mono (I3 (upd_ne h (by decide)))), (fun _ => upd_mono hL4), (kp f0), (kp f1), (fun h => by
        obtain ⟨K9, q9, e, hi⟩ := f2 (upd_ne h (by decide))
        exact ⟨K9, q9, e, fun h9 => absurd (upd_self.symm.trans h9) (by decide)⟩), (fun h => by
        obtain ⟨K9, q9, e, hi⟩ := f3 (upd_ne h (by decide))
        exact ⟨K9, q9, e, fun h9 => absurd (upd_self.symm.trans h9) (by decide)⟩), (fun h => ⟨_, _, _, _, _, _, _, _, _, rfl, (oo.put hL9 _ _ _).eq (upd_other (by decide))⟩), (kp f5), (kp f6), (kp f7), (fun h => ⟨_, _, _, _, rfl, hq5, ((hz.put 0 _).put 1 _).put 2 _⟩), (fun _ => ⟨_, _, _, _, _, _, _, _, _, _, rfl, hq5, ((hz.put 0 _).put 1 _).put 2 _, (oo.put hL9 _ _ _).own⟩), (kp f10)⟩
    · obtain rfl := Option.some.inj ho
      have g7 := f7 (hd ⟨7, .data⟩ (by simp) rfl)
      subst g7
      refine wpOp_step rfl (fun K' hK => ?_)
      go_simp
      refine hK _ _ ?_
      exact ⟨_, _, _, _, _, _, _, _, _, _, rfl, (I0), (fun h => by rw [upd_other (by decide)]; exact I1 (upd_ne h (by decide))), (fun h => upd_mono (I2 (upd_ne h (by decide)))), (fun h => upd_mono (I3 (upd_ne h (by decide)))), (fun h => upd_mono (I4 (upd_ne h (by decide)))), (kp f0), (kp f1), (fun h => by
        obtain ⟨K9, q9, e, hi⟩ := f2 (upd_ne h (by decide))
        exact ⟨K9, q9, e, fun h9 => hi ((upd_other (by decide)).symm.trans h9)⟩), (fun h => by
        obtain ⟨K9, q9, e, hi⟩ := f3 (upd_ne h (by decide))
        exact ⟨K9, q9, e, fun h9 => hi ((upd_other (by decide)).symm.trans h9)⟩), (fun h => by
        obtain ⟨A5, n5, c5, R5, m5, d5, K5, p5, q5, e, oo⟩ := f4 (upd_ne h (by decide))
        exact ⟨A5, n5, c5, R5, m5, d5, K5, p5, q5, e, oo.eq (upd_other (by decide))⟩), (kp f5), (kp f6), (kp f7), (kp f8), (kp f9), (fun _ => rfl)⟩
  case hdone =>
    rintro L ac ww hall ⟨t10, t11, t44, t45, t46, t47, t48, t49, t50, t51, rfl, I0, I1, I2, I3, I4, f0, f1, f2, f3, f4, f5, f6, f7, f8, f9, f10⟩
    have e0 := f0 (hall 0 (by decide))
    have e1 := f1 (hall 1 (by decide))
    have e2 := f2 (hall 2 (by decide))
    have e3 := f3 (hall 3 (by decide))
    have e4 := f4 (hall 4 (by decide))
    have e5 := f5 (hall 5 (by decide))
    have e6 := f6 (hall 6 (by decide))
    have e7 := f7 (hall 7 (by decide))
    have e8 := f8 (hall 8 (by decide))
    have e9 := f9 (hall 9 (by decide))
    have e10 := f10 (hall 10 (by decide))
    clear f0 f1 f2 f3 f4 f5 f6 f7 f8 f9 f10
    subst e10
    obtain ⟨g5, A5, n5, c5, R5, m5, d5, K5, p5, q5, rfl, hg5, hz, oo⟩ := e9
    obtain ⟨Ax, cx, Rx, dx, ex1, ex2, _⟩ := oo.heap.form
    obtain ⟨rvs5, ox5⟩ := oo.heap
    have o5 := ox5.reads
    have en : n5 = nx := by
      rw [E0.out] at ex1
      injection ex1 with _ e _
    have em : m5 = mx := by
      rw [E4.out] at ex2
      injection ex2 with _ e _
    clear ex1 ex2
    subst en em
    replace z1 := z1.keep I0 z1.lt
    replace z3 := z3.keep I0 z3.lt
    replace o1 := o1.up I0
    replace o3 := o3.up I0
    replace bb := bb.trans (I0.mono bb.size)
    clear e0 e1 e2 e3 e4 e5 e6 e7 e8 I0 I1 I2 I3 I4 oo ox5 hall y0 y1 hT2 HTW HCY HCT HCN hg5 hzl
    have y0 : ww.cell? ⟨s3, 0, none⟩ = some (.slice A1 n5 c1) := z1.cell 0
    have y1 : ww.cell? ⟨s3, 1, none⟩ = some (.slice R1 m5 d1) := z1.cell 1
    have y2 : ww.cell? ⟨s8, 0, none⟩ = some (.slice A3 n5 c3) := z3.cell 0
    have y3 : ww.cell? ⟨s8, 1, none⟩ = some (.slice R3 m5 d3) := z3.cell 1
    have HRL := Lib.hid (fun cl (hcl : cl ∈ X.cs) => show cl.r.length ≤ 1000000 by have := HTT.out.2.2 cl hcl; omega)
    go_upto_region 12 with fail
    go_wp2_with fail
    refine (sameHeap_same _ _ _ _ _ _ _ _ _ _ X _ o3 o1 (by omega) (by omega) HRL.out).mono ?_
    rintro e w12 ⟨rfl, b6⟩
    replace z1 := z1.keep b6 z1.lt
    replace hz := hz.keep b6 hz.lt
    replace o1 := o1.up b6
    replace o5 := o5.up b6
    replace bb := bb.trans (b6.mono bb.size)
    clear y0 y1 y2 y3 o3 z3 b6
    have y0 : w12.cell? ⟨s3, 0, none⟩ = some (.slice A1 n5 c1) := z1.cell 0
    have y1 : w12.cell? ⟨s3, 1, none⟩ = some (.slice R1 m5 d1) := z1.cell 1
    have y2 : w12.cell? ⟨g5, 0, none⟩ = some (.slice A5 n5 c5) := hz.cell 0
    have y3 : w12.cell? ⟨g5, 1, none⟩ = some (.slice R5 m5 d5) := hz.cell 1
    go_wp2_with fail
    refine (sameHeap_same _ _ _ _ _ _ _ _ _ _ X _ o5 o1 (by omega) (by omega) HRL.out).mono ?_
    rintro e w13 ⟨rfl, b6⟩
    replace bb := bb.trans (b6.mono bb.size)
    clear y0 y1 y2 y3 o1 o5 z1 hz b6
    go_wp2_with fail
    go_ret
    exact ⟨rfl, bb⟩
end Go.Proofs.YthmddmddcdofaaaDoor

namespace Go.Proofs.YthmddmddcdofaaaDoor
open Go.ChangeShapes Go.WideShapes Go.ChangeAt Go.RowKit Go.Deep
theorem own : ownKnob Tryd.prog.godebug = none := by kernel_rfl
theorem laidOut : laidOutB Tryd.prog = true := by kernel_rfl
section
variable {H : Type} {enc : TypeId × Value → H} {P : Program} {W W' : World}
/-- all arguments read as they did -/
theorem stay_all (hl : laidOutB P = true) (hb : Below W.heap.size W W') : ∀ {ts : List TypeId} {vs : List Value} {ds : List (DataW H)} {p : List MemPlace},
    (∀ t ∈ ts, P.readableRec t = true ∧ t < P.types.size) → DataW.TrodAll enc P W 0 (fun _ => true) true ts vs ds p → (∀ x ∈ p, x.block < W.heap.size) →
    DataW.TrodAll enc P W' 0 (fun b => decide (b < W.heap.size)) true ts vs ds p
  | [], _, _, _, _, h, _ => by
    obtain ⟨rfl, rfl, rfl⟩ := trodAll_nil h
    exact trodAll_mk0
  | t :: ts, _, _, _, hts, h, hlt => by
    obtain ⟨v, vs, d, ds, p, q, rfl, rfl, rfl, h0, hr⟩ := trodAll_cons h
    have ht := hts t (by simp)
    exact trodAll_cons_mk (Below.trod hl ht.1 ht.2 h0 hb (fun x hx => hlt x (by simp [hx])))
      (stay_all hl hb (fun t' h' => hts t' (by simp [h'])) hr (fun x hx => hlt x (by simp [hx])))
/-- a law that returned true and left old memory alone has met its row -/
theorem law_post {f : Func} {s : ChangeSpec} {args : Array Value} {ds gs : List (DataW H)} {before : List MemPlace} {tb : TypeId}
    (hl : laidOutB P = true) (hts : ∀ t ∈ f.params.toList, P.readableRec t = true ∧ t < P.types.size) (hrt : f.resultTypes = #[tb]) (htb : P.underlying tb = some .bool)
    (hvars : s.vars = []) (hfn : s.fn H ds = { results := [.lit (.bool true)], args := ds })
    (hW : DataW.Whole enc P f.params.toList s.vars false W args.toList ds gs before) (hb : Below W.heap.size W W') :
    s.post enc P f false true false false W args (.bool true) W' := by
  have hW' := hW
  obtain ⟨p, q, hA, hV, rfl, hfz, hnd⟩ := hW
  rw [hvars] at hV
  obtain ⟨rfl, rfl⟩ := trodVars_none hV
  have hlt : ∀ x ∈ p, x.block < W.heap.size := fun x hx => by simpa using hW'.lt x (by simp [hx])
  refine ⟨ds, [], p ++ [], [], p, [], hW', ?_, ?_, ?_, ?_, fun h => by cases h⟩
  · rw [List.append_nil, hfn, hrt]
    exact trodAll_mk1 (shut_bool htb true)
  · rw [List.append_nil, hfn]
    exact stay_all hl hb hts hA hlt
  · rw [List.append_nil, hfn, hvars]
    rfl
  · exact hb.frame _
/-- an address at which a cell lies has no spot -/
theorem addr_of_cell {w : World} {a : Addr} {v : Value} (h : w.cell? a = some v) : a = ⟨a.block, a.off, none⟩ := by
  obtain ⟨b, o, sp⟩ := a
  cases sp with
  | none => rfl
  | some s =>
    unfold World.cell? at h
    simp only [] at h
    split at h <;> simp at h
theorem add_none (b o n : Nat) : (⟨b, o, none⟩ : Addr).add n = ⟨b, o + n, none⟩ := by
  unfold Addr.add
  split
  · next h => subst h; rfl
  · rfl
end
end Go.Proofs.YthmddmddcdofaaaDoor

namespace Go.Proofs.YthmddmddcdofaaaDoor
open Go.ChangeShapes Go.WideShapes Go.ChangeAt Go.RowKit Go.Deep
section
variable {H : Type} {enc : TypeId × Value → H} {P : Program} {W W' : World}
/-- a slice of bytes that came in -/
theorem open_bytes {t e : TypeId} {r : Reach} {b0 : Nat} {v : Value} {d : DataW H} {ps : List MemPlace} (ht : P.underlying t = some (.slice e)) (he : P.underlying e = some (.int .u8)) (ce : P.cellsOf e = 1)
    (hval : Value.okWide P W r b0 t v) (h : DataW.Trod enc P W 0 (fun _ => true) true t v d ps) (hlt : ∀ x ∈ ps, x.block < W.heap.size) :
    ∃ (A : Option Addr) (n c : Nat), v = .slice A n c ∧ n ≤ c ∧ n ≤ 9223372036854775807 ∧ Bytes W W.heap.size A n := by
  obtain ⟨A, n, c, rfl⟩ := okWide_slice ht hval
  obtain ⟨fuel, hf⟩ := h
  rcases open_ints ht he ce hf with ⟨h0, _⟩ | ⟨a, len, cap, zs, hcs, hb, hl, hm, hz, hx, hi, hwf⟩
  · simp [Value.cells] at h0
    obtain ⟨rfl, rfl, rfl⟩ := h0
    exact ⟨none, 0, 0, rfl, by omega, by omega, fun h => absurd h (by omega)⟩
  · simp [Value.cells] at hcs
    obtain ⟨rfl, rfl, rfl⟩ := hcs
    simp only [if_true] at hz
    refine ⟨some a, n, c, rfl, hl, by unfold maxLen at hm; omega, fun hn => ?_⟩
    have h0 := hi 0 (by omega)
    simp [Addr.add] at h0
    have ha := addr_of_cell h0
    have hblt : a.block < W.heap.size := by
      apply hlt (.cell a.block a.off)
      have hps := congrArg Prod.snd hx
      simp only [] at hps
      rw [hps, hz, ha]
      simp [MemPlace.row]
      omega
    refine ⟨a.block, a.off, by rw [← ha], hblt, fun i hin => ?_⟩
    have hc := hi i (by omega)
    have hmem : zs.getD i 0 ∈ zs := by
      rw [List.getD_eq_getElem?_getD, List.getElem?_eq_getElem (by omega)]
      exact List.getElem_mem _
    have hw := hwf _ hmem
    have hr : 0 ≤ zs.getD i 0 ∧ zs.getD i 0 ≤ 255 := by simpa [Lit.wf, IntKind.min, IntKind.max, IntKind.signed, IntKind.bits] using hw
    rw [ha, add_none] at hc
    exact ⟨_, hr.1, hr.2, hc⟩
end
end Go.Proofs.YthmddmddcdofaaaDoor

namespace Go.Proofs.YthmddmddcdofaaaDoor
open Go.ChangeShapes Go.WideShapes Go.ChangeAt Go.RowKit Go.Deep
theorem var_ltU {P : Program} {W : World} {n : String} {g : Nat} {cs : Array Value} (hg : P.globalNamed n = some g) (h : W.var? P n = some cs) : g < W.heap.size := by
  unfold World.var? at h
  simp only [hg, Option.bind_some] at h
  split at h
  · next h2 => exact (Array.getElem?_eq_some_iff.1 h2).1
  · cases h
theorem gTz : Tryd.prog.globalNamed "math/bits.deBruijn64tab" = some 0 := by kernel_rfl
theorem tab_cast : ∀ i : Nat, i < 64 → ([0, 1, 56, 2, 57, 49, 28, 3, 61, 58, 42, 50, 38, 29, 17, 4, 62, 47, 59, 36, 45, 43, 51, 22, 53, 39, 33, 30, 24, 18, 12, 5, 63, 55, 48, 27, 60, 41, 37, 16, 46, 35, 44, 21, 52, 32, 23, 11, 54, 26, 40, 15, 34, 20, 31, 10, 25, 14, 19, 9, 13, 8, 7, 6] : List Int).getD i 0 = (Lib.deBruijn64tab.getD i 0 : Nat) := by decide +kernel
theorem tzT_of_laid {W : World} (h : laidMetH Tryd.prog [("math/bits.deBruijn64tab", Rows.laid_math_bits_deBruijn64tab)] W) : TzT W := by
  rw [MakeChecks.laidMetH_plain _ _ _ (by kernel_rfl)] at h
  have hT : Lib.TabIs Tryd.prog W "math/bits.deBruijn64tab" .u8 [0, 1, 56, 2, 57, 49, 28, 3, 61, 58, 42, 50, 38, 29, 17, 4, 62, 47, 59, 36, 45, 43, 51, 22, 53, 39, 33, 30, 24, 18, 12, 5, 63, 55, 48, 27, 60, 41, 37, 16, 46, 35, 44, 21, 52, 32, 23, 11, 54, 26, 40, 15, 34, 20, 31, 10, 25, 14, 19, 9, 13, 8, 7, 6] :=
    Lib.tabIs_of_head (k := .u8) (zs := [0, 1, 56, 2, 57, 49, 28, 3, 61, 58, 42, 50, 38, 29, 17, 4, 62, 47, 59, 36, 45, 43, 51, 22, 53, 39, 33, 30, 24, 18, 12, 5, 63, 55, 48, 27, 60, 41, 37, 16, 46, 35, 44, 21, 52, 32, 23, 11, 54, 26, 40, 15, 34, 20, 31, 10, 25, 14, 19, 9, 13, 8, 7, 6]) (rest := []) (n := 64) (t := 169) (e := 5) gTz (by kernel_rfl) Tryd.underlying169 Tryd.underlying5 (by kernel_rfl) (by kernel_rfl) h
  exact ⟨var_ltU gTz hT, fun i hi => by
    rw [← tab_cast i hi]
    exact hT.cell gTz i (by simpa using hi)⟩
/-- the door's own heap meets the condition -/
theorem door_tz (os : Os) (args : Array Value) : laidMetH Tryd.prog [("math/bits.deBruijn64tab", Rows.laid_math_bits_deBruijn64tab)] ((World.doorLaid Tryd.prog 14 os).forCall (fun _ _ => 0) ⟨#[], args, []⟩).memory :=
  laidMetH_of_parts3 (fuel := 8) (laidMet_of_run' 8 (by kernel_rfl) (by kernel_rfl)) (by kernel_rfl) (by kernel_rfl)
end Go.Proofs.YthmddmddcdofaaaDoor

