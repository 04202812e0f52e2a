/- What the model's SweepCells and CollectSweep return: for every heap and all marks. No conditions. -/
import Derived.Test.YtkdoolilggkjpaaKh
import Derived.Test.YtkdoolilggkjpaaHf
namespace Go.Proofs.Ytkdoolilggkjpaa
open Go.RowKit
set_option maxRecDepth 100000

/-- a heap of the call's own, and a number -/
def GaveHN (w : World) (h : Hp) (k : Int) (e : Ending) (w' : World) : Prop := ∃ vc vr, e = .returned (.tuple #[.agg #[vc, vr], .int .i64 k]) ∧ OwnH w' w.heap.size vc vr h ∧ Below w.heap.size w w'
namespace Hps
theorem sweepH_no {h : Hp} {bs : List Bool} (e : validH h = false ∨ bs.length ≠ h.cs.length) : sweepH h bs = (zeroH, -1) := by
  unfold sweepH
  rcases e with e | e <;> simp [e]
theorem sweepH_bad {h : Hp} {bs : List Bool} (h1 : validH h = true) (h2 : bs.length = h.cs.length) (h3 : validH (dropH h (bs.map (!·))) = false) : sweepH h bs = (zeroH, -1) := by simp [sweepH, h1, h2, h3]
theorem sweepH_ok {h : Hp} {bs : List Bool} (h1 : validH h = true) (h2 : bs.length = h.cs.length) (h3 : validH (dropH h (bs.map (!·))) = true) : sweepH h bs = (dropH h (bs.map (!·)), (freedTo h.cs bs h.cs.length : Int)) := by simp [sweepH, h1, h2, h3]
theorem freedTo_kept {cs : List Cl} {bs : List Bool} {k : Nat} (h : bs[k]? = some true) : freedTo cs bs (k + 1) = freedTo cs bs k := by simp [freedTo, h]
theorem freedTo_free {cs : List Cl} {bs : List Bool} {k : Nat} {c : Cl} (h : bs[k]? = some false) (hc : cs[k]? = some c) : freedTo cs bs (k + 1) = freedTo cs bs k + (if c.u = true then 1 else 0) := by
  have : usedAt cs k = c.u := by simp [usedAt, hc]
  simp [freedTo, h, this]
theorem not_succ {bs : List Bool} {k : Nat} {b : Bool} (h : bs[k]? = some b) : (bs.take (k + 1)).map (!·) = (bs.take k).map (!·) ++ [!b] := by
  rw [List.take_add_one, h]
  simp
end Hps

set_option maxHeartbeats 4000000 in
theorem mSweepCells_any (A R D : Option Addr) (n c m d q e : Nat) (h : Hp) (bs : List Bool) (w : World) (hs : HS w w.heap.size A n R m h) (ho : OS w w.heap.size D q bs) (hn : n ≤ 1099511627776) (hm : m ≤ 1099511627776) (hq : q ≤ 1099511627776) :
    Calls Try.prog 78 #[heapV A n c R m d, .slice D q e] w (GaveHN w (Hps.sweepH h bs).1 (Hps.sweepH h bs).2) := by
  have hlc := hs.cells.1
  have hlr := hs.roots.1
  have hlb := ho.1
  have b2 : Below w.heap.size w ((w.alloc (.cells #[.slice A n c, .slice R m d] 26)).alloc (.cells #[.slice none 0 0, .slice none 0 0] 26)) := ((Below.refl w.heap.size w).alloc (Nat.le_refl _) _).alloc (by simp) _
  have s2 := hs.up b2
  have q3 := Rw.new (w.alloc (.cells #[.slice A n c, .slice R m d] 26)) 26 #[.slice none 0 0, .slice none 0 0]
  simp only [World.size_alloc] at q3
  have q1 := (Rw.new w 26 #[.slice A n c, .slice R m d]).alloc (.cells #[.slice none 0 0, .slice none 0 0] 26)
  go_enter Try.func78, Try.ntmps78
  go_wp2_with fail
  refine (mHeapValid_any _ _ _ _ _ _ h _ s2 hn hm).mono ?_
  rintro e w1 ⟨rfl, b1⟩
  replace q1 := q1.keep b1 q1.lt
  replace q3 := q3.keep b1 q3.lt
  replace b2 := b2.trans (b1.mono b2.size)
  have hG : w.heap.size + 1 < w1.heap.size := q3.lt
  clear b1 s2
  cases hv : Hps.validH h
  · have HF := Lib.hid (Hps.sweepH_no (bs := bs) (.inl hv))
    have r2 : (w1).frozen? ⟨w.heap.size + 1, 0, none⟩ = false := q3.frozen 0
    have r3 : (w1).frozen? ⟨w.heap.size + 1, 1, none⟩ = false := q3.frozen 1
    have r4 : (w1).cell? ⟨w.heap.size + 1, 0, none⟩ = some (.slice none 0 0) := q3.cell 0
    have r5 : (w1).cell? ⟨w.heap.size + 1, 1, none⟩ = some (.slice none 0 0) := q3.cell 1
    have r6 : (((w1).setCell ⟨w.heap.size + 1, 0, none⟩ (.slice none 0 0)).setCell ⟨w.heap.size + 1, 1, none⟩ (.slice none 0 0)).cell? ⟨w.heap.size + 1, 0, none⟩ = some (.slice none 0 0) := ((q3.put 0 (.slice none 0 0)).put 1 (.slice none 0 0)).cell 0
    have r7 : (((w1).setCell ⟨w.heap.size + 1, 0, none⟩ (.slice none 0 0)).setCell ⟨w.heap.size + 1, 1, none⟩ (.slice none 0 0)).cell? ⟨w.heap.size + 1, 1, none⟩ = some (.slice none 0 0) := ((q3.put 0 (.slice none 0 0)).put 1 (.slice none 0 0)).cell 1
    have D := Lib.hid ((own_zeroH (w1) (w1).heap.size (Nat.le_refl _)).out (w := w) (g := w.heap.size + 1) q3.lt b2 (by omega))
    clear q1 q3 b2 hv
    go_wp2_with fail
    exact bodyPost_ret (v := .tuple #[.agg #[.slice none 0 0, .slice none 0 0], .int .i64 (-1)]) (by simp [results, Try.results78, go_sem, *]) rfl ⟨_, _, by rw [HF.out], by rw [HF.out]; exact D.out.1, D.out.2⟩
  have x0 : w1.cell? ⟨w.heap.size, 0, none⟩ = some (.slice A n c) := q1.cell 0
  have x1 : w1.cell? ⟨w.heap.size, 1, none⟩ = some (.slice R m d) := q1.cell 1
  by_cases hqn : q = n
  case neg =>
    have HF := Lib.hid (Hps.sweepH_no (h := h) (bs := bs) (.inr (by rw [hlb, hlc]; exact hqn)))
    have hne : ((q : Int) != n) = true := by rw [bne_iff_ne]; omega
    have r2 : (w1).frozen? ⟨w.heap.size + 1, 0, none⟩ = false := q3.frozen 0
    have r3 : (w1).frozen? ⟨w.heap.size + 1, 1, none⟩ = false := q3.frozen 1
    have r4 : (w1).cell? ⟨w.heap.size + 1, 0, none⟩ = some (.slice none 0 0) := q3.cell 0
    have r5 : (w1).cell? ⟨w.heap.size + 1, 1, none⟩ = some (.slice none 0 0) := q3.cell 1
    have r6 : (((w1).setCell ⟨w.heap.size + 1, 0, none⟩ (.slice none 0 0)).setCell ⟨w.heap.size + 1, 1, none⟩ (.slice none 0 0)).cell? ⟨w.heap.size + 1, 0, none⟩ = some (.slice none 0 0) := ((q3.put 0 (.slice none 0 0)).put 1 (.slice none 0 0)).cell 0
    have r7 : (((w1).setCell ⟨w.heap.size + 1, 0, none⟩ (.slice none 0 0)).setCell ⟨w.heap.size + 1, 1, none⟩ (.slice none 0 0)).cell? ⟨w.heap.size + 1, 1, none⟩ = some (.slice none 0 0) := ((q3.put 0 (.slice none 0 0)).put 1 (.slice none 0 0)).cell 1
    have D := Lib.hid ((own_zeroH (w1) (w1).heap.size (Nat.le_refl _)).out (w := w) (g := w.heap.size + 1) q3.lt b2 (by omega))
    clear q1 q3 b2 hv hqn
    go_wp2_with fail
    exact bodyPost_ret (v := .tuple #[.agg #[.slice none 0 0, .slice none 0 0], .int .i64 (-1)]) (by simp [results, Try.results78, go_sem, *]) rfl ⟨_, _, by rw [HF.out], by rw [HF.out]; exact D.out.1, D.out.2⟩
  subst hqn
  have hn40 : q ≤ 40 := by rw [← hlc]; exact (Hps.valid_iff.1 hv).2.1
  have hm4 : m = 4 := by rw [← hlr]; exact (Hps.valid_iff.1 hv).2.2.1
  have H3 := Lib.hid (fun cl (hcl : cl ∈ h.cs) => show cl.r.length ≤ 1000000 by have := (Hps.okCell_iff.1 ((Hps.valid_iff.1 hv).1 cl hcl)).2.2.1; omega)
  have HLB := Lib.hid (show bs.length = h.cs.length by rw [hlb, hlc])
  have HLC := Lib.hid hlc
  have HB := Lib.hid hlb
  have HV := Lib.hid hv
  have HM := Lib.hid hm4
  have o0 := own_noneO w1 w1.heap.size (Nat.le_refl _)
  have e0 : Below w1.heap.size w1 (w1.alloc (.cells #[] 4)) := (Below.refl _ _).alloc (Nat.le_refl _) _
  clear hlb hlc hlr hv hm4
  go_wp2_with fail
  go_loopw [6, 7, 8] (fun v f i wr => ∃ k : Nat, k ≤ q ∧ i = .int .i64 k ∧ f = .int .i64 (Hps.freedTo h.cs bs k) ∧ OwnO wr w1.heap.size v ((bs.take k).map (!·)) ∧ Below w1.heap.size w1 wr) (fun _ _ i _ => q - (intOf i).toNat)
  case atStart => exact ⟨0, by omega, rfl, rfl, by rw [List.take_zero]; exact o0, e0⟩
  case round =>
    clear o0 e0
    obtain ⟨k, hk, rfl, rfl, ow, bb⟩ := hrel
    have bw := b2.trans (bb.mono b2.size)
    have x0' : wr.cell? ⟨w.heap.size, 0, none⟩ = some (.slice A q c) := (q1.keep bb q1.lt).cell 0
    have x1' : wr.cell? ⟨w.heap.size, 1, none⟩ = some (.slice R m d) := (q1.keep bb q1.lt).cell 1
    obtain ⟨Av, cv, e1, -⟩ := ow.form
    have hlen : ((bs.take k).map (!·)).length = k := by rw [List.length_map, List.length_take, HB.out]; omega
    rw [hlen] at e1
    subst e1
    have hfl := Hps.freedTo_le h.cs bs k
    by_cases hlt : k < q
    · obtain ⟨g, o, bl, rfl, hg, hbl, c1⟩ := (ho.below bw).at_ hlt
      obtain ⟨g2, o2, cl, A', m', cc, rfl, hg2, hcl, d1, d2, d3, -, -⟩ := (hs.cells.below bw).at_ hlt
      have hlt' : (k : Int) < q := by omega
      have HN := Lib.hid (Hps.not_succ hbl)
      have ow2 := World.ownsRow.alloc ow (.cells #[.bool (!bl)] 4)
      have rr : OS (wr.alloc (.cells #[.bool (!bl)] 4)) (wr.alloc (.cells #[.bool (!bl)] 4)).heap.size (some ⟨wr.heap.size, 0, none⟩) 1 [!bl] := (own_oneO wr (!bl) 0 (Nat.zero_le _)).reads
      have bsz := bb.size
      have WB := Lib.hid (fun (w5 : World) (g5 : (wr.alloc (.cells #[.bool (!bl)] 4)).grownBy w5 (Value.slice Av k cv).ownBlock) => show Below w1.heap.size w1 w5 from (bb.alloc bb.size _).grown g5 (by simp; omega) (fun kk hk => (World.ownsRow.lt ow kk hk).1))
      have hgw := Nat.lt_of_lt_of_le hg (b2.size)
      have hgw2 := Nat.lt_of_lt_of_le hg2 (b2.size)
      have hq1 := q1.lt
      cases bl
      · have HFR := Lib.hid (Hps.freedTo_free hbl hcl)
        have y1 : w1.cell? ⟨g, o + k, none⟩ = some (.bool false) := (bb.cell (p := ⟨g, o + k, none⟩) hgw).symm.trans c1
        have y2 : w1.cell? ⟨g2, o2 + k * 3, none⟩ = some (.bool cl.u) := (bb.cell (p := ⟨g2, o2 + k * 3, none⟩) hgw2).symm.trans d1
        clear hbl hcl d2 d3 ow
        simp only [Bool.not_false] at ow2 rr WB HN
        cases hu : cl.u
        · rw [hu] at HFR d1 y2
          simp only [Bool.false_eq_true, if_false, Nat.add_zero] at HFR
          go_wp2_with (at_builtin; refine wpList_appendO rfl (.tmp 29) (.tmp 35) rfl w1.heap.size _ ((bs.take k).map (!·)) rfl ow2 (some ⟨wr.heap.size, 0, none⟩) 1 1 _ [true] rfl rr (by rw [hlen]; omega) (by simp; omega) ?_; intro v5 w5 o5 g5 s5; have BN := WB.out w5 g5; have c5 := (BN.cell (p := ⟨g, o + k, none⟩) hgw).trans y1; have y5 := (BN.cell (p := ⟨w.heap.size, 0, none⟩) (by show w.heap.size < w1.heap.size; omega)).trans x0; have e5 := (BN.cell (p := ⟨g2, o2 + k * 3, none⟩) hgw2).trans y2)
          go_roundw
          case rel => exact ⟨k + 1, by omega, by go_num, by rw [HFR.out], by rw [HN.out]; exact o5, BN⟩
          case measure => simp [intOf]; omega
        · rw [hu] at HFR d1 y2
          simp only [if_true] at HFR
          go_wp2_with (at_builtin; refine wpList_appendO rfl (.tmp 29) (.tmp 35) rfl w1.heap.size _ ((bs.take k).map (!·)) rfl ow2 (some ⟨wr.heap.size, 0, none⟩) 1 1 _ [true] rfl rr (by rw [hlen]; omega) (by simp; omega) ?_; intro v5 w5 o5 g5 s5; have BN := WB.out w5 g5; have c5 := (BN.cell (p := ⟨g, o + k, none⟩) hgw).trans y1; have y5 := (BN.cell (p := ⟨w.heap.size, 0, none⟩) (by show w.heap.size < w1.heap.size; omega)).trans x0; have e5 := (BN.cell (p := ⟨g2, o2 + k * 3, none⟩) hgw2).trans y2)
          go_roundw
          case rel => exact ⟨k + 1, by omega, by go_num, by rw [HFR.out]; go_num, by rw [HN.out]; exact o5, BN⟩
          case measure => simp [intOf]; omega
      · have HFR := Lib.hid (Hps.freedTo_kept (cs := h.cs) hbl)
        have y1 : w1.cell? ⟨g, o + k, none⟩ = some (.bool true) := (bb.cell (p := ⟨g, o + k, none⟩) hgw).symm.trans c1
        have y2 : w1.cell? ⟨g2, o2 + k * 3, none⟩ = some (.bool cl.u) := (bb.cell (p := ⟨g2, o2 + k * 3, none⟩) hgw2).symm.trans d1
        clear hbl hcl d2 d3 ow
        simp only [Bool.not_true] at ow2 rr WB HN
        go_wp2_with (at_builtin; refine wpList_appendO rfl (.tmp 29) (.tmp 35) rfl w1.heap.size _ ((bs.take k).map (!·)) rfl ow2 (some ⟨wr.heap.size, 0, none⟩) 1 1 _ [false] rfl rr (by rw [hlen]; omega) (by simp; omega) ?_; intro v5 w5 o5 g5 s5; have BN := WB.out w5 g5; have c5 := (BN.cell (p := ⟨g, o + k, none⟩) hgw).trans y1; have y5 := (BN.cell (p := ⟨w.heap.size, 0, none⟩) (by show w.heap.size < w1.heap.size; omega)).trans x0; have e5 := (BN.cell (p := ⟨g2, o2 + k * 3, none⟩) hgw2).trans y2)
        go_roundw
        case rel => exact ⟨k + 1, by omega, by go_num, by rw [HFR.out], by rw [HN.out]; exact o5, BN⟩
        case measure => simp [intOf]; omega
    · obtain rfl : k = q := by omega
      have ow' : OwnO wr w1.heap.size (.slice Av k cv) (bs.map (!·)) := by
        rw [List.take_of_length_le (by rw [HB.out]; omega)] at ow
        exact ow
      have rd := ow'.reads
      have hsr := hs.up bw
      clear ow hlen x0 x1
      go_wp2_with fail
      refine (l11Drop_any _ _ _ _ _ _ _ _ h (bs.map (!·)) _ hsr rd (by omega) (by have := HM.out; omega) H3.out).mono ?_
      rintro e w5 ⟨vc, vr, rfl, oh, b5⟩
      have b6 := bw.trans (b5.mono bw.size)
      have q3 := (q3.keep bb q3.lt).keep b5 (q3.keep bb q3.lt).lt
      obtain ⟨rvs, S⟩ := BoxSt.of oh b5
      obtain ⟨Ac, cc, Rc, dc, rfl, rfl, -⟩ := oh.form
      have hlx : (Hps.dropH h (bs.map (!·))).cs.length = k := by rw [Hps.dropH, Hps.dropL_len]; exact HLC.out
      have hrx : (Hps.dropH h (bs.map (!·))).rt.length = m := hsr.roots.1
      rw [hlx, hrx] at oh S ⊢
      have b7 : Below w.heap.size w (w5.alloc (.cells #[.slice Ac k cc, .slice Rc m dc] 26)) := b6.alloc b6.size _
      replace q3 := q3.alloc (.cells #[.slice Ac k cc, .slice Rc m dc] 26)
      clear oh b5 b6 hsr x0' x1' rd ow'
      go_upto_region 12 with fail
      generalize w5.alloc (.cells #[.slice Ac k cc, .slice Rc m dc] 26) = w6 at S b7 q3 ⊢
      generalize w5.heap.size = b at S ⊢
      have z0 : w6.cell? ⟨b, 0, none⟩ = some (.slice Ac k cc) := S.box.cell 0
      have z1 : w6.cell? ⟨b, 1, none⟩ = some (.slice Rc m dc) := S.box.cell 1
      have hsx := S.own.reads
      go_wp2_with fail
      refine (mHeapValid_any _ _ _ _ _ _ _ _ hsx (by omega) (by have := HM.out; omega)).mono ?_
      rintro e w7 ⟨rfl, b8⟩
      replace q3 := q3.keep b8 q3.lt
      replace S := S.up b8
      replace b7 := b7.trans (b8.mono b7.size)
      clear hsx b8 z0 z1
      cases hv2 : Hps.validH (Hps.dropH h (bs.map (!·)))
      · have HF := Lib.hid (Hps.sweepH_bad HV.out HLB.out hv2)
        have r2 : (w7).frozen? ⟨w.heap.size + 1, 0, none⟩ = false := q3.frozen 0
        have r3 : (w7).frozen? ⟨w.heap.size + 1, 1, none⟩ = false := q3.frozen 1
        have r4 : (w7).cell? ⟨w.heap.size + 1, 0, none⟩ = some (.slice none 0 0) := q3.cell 0
        have r5 : (w7).cell? ⟨w.heap.size + 1, 1, none⟩ = some (.slice none 0 0) := q3.cell 1
        have r6 : (((w7).setCell ⟨w.heap.size + 1, 0, none⟩ (.slice none 0 0)).setCell ⟨w.heap.size + 1, 1, none⟩ (.slice none 0 0)).cell? ⟨w.heap.size + 1, 0, none⟩ = some (.slice none 0 0) := ((q3.put 0 (.slice none 0 0)).put 1 (.slice none 0 0)).cell 0
        have r7 : (((w7).setCell ⟨w.heap.size + 1, 0, none⟩ (.slice none 0 0)).setCell ⟨w.heap.size + 1, 1, none⟩ (.slice none 0 0)).cell? ⟨w.heap.size + 1, 1, none⟩ = some (.slice none 0 0) := ((q3.put 0 (.slice none 0 0)).put 1 (.slice none 0 0)).cell 1
        have D := Lib.hid ((own_zeroH (w7) (w7).heap.size (Nat.le_refl _)).out (w := w) (g := w.heap.size + 1) q3.lt b7 (by omega))
        clear S q3 b7 hv2 q1 b2 bb bw hfl
        go_wp2_with fail
        exact bodyPost_ret (v := .tuple #[.agg #[.slice none 0 0, .slice none 0 0], .int .i64 (-1)]) (by simp [results, Try.results78, go_sem, *]) rfl ⟨_, _, by rw [HF.out], by rw [HF.out]; exact D.out.1, D.out.2⟩
      · have HF := Lib.hid (Hps.sweepH_ok HV.out HLB.out hv2)
        rw [HLC.out] at HF
        have z0 : w7.cell? ⟨b, 0, none⟩ = some (.slice Ac k cc) := S.box.cell 0
        have z1 : w7.cell? ⟨b, 1, none⟩ = some (.slice Rc m dc) := S.box.cell 1
        have r2 : (w7).frozen? ⟨w.heap.size + 1, 0, none⟩ = false := q3.frozen 0
        have r3 : (w7).frozen? ⟨w.heap.size + 1, 1, none⟩ = false := q3.frozen 1
        have r4 : (w7).cell? ⟨w.heap.size + 1, 0, none⟩ = some (.slice none 0 0) := q3.cell 0
        have r5 : (w7).cell? ⟨w.heap.size + 1, 1, none⟩ = some (.slice none 0 0) := q3.cell 1
        have r6 : (((w7).setCell ⟨w.heap.size + 1, 0, none⟩ (.slice Ac k cc)).setCell ⟨w.heap.size + 1, 1, none⟩ (.slice Rc m dc)).cell? ⟨w.heap.size + 1, 0, none⟩ = some (.slice Ac k cc) := ((q3.put 0 (.slice Ac k cc)).put 1 (.slice Rc m dc)).cell 0
        have r7 : (((w7).setCell ⟨w.heap.size + 1, 0, none⟩ (.slice Ac k cc)).setCell ⟨w.heap.size + 1, 1, none⟩ (.slice Rc m dc)).cell? ⟨w.heap.size + 1, 1, none⟩ = some (.slice Rc m dc) := ((q3.put 0 (.slice Ac k cc)).put 1 (.slice Rc m dc)).cell 1
        have D := Lib.hid (S.ownH.out (w := w) (g := w.heap.size + 1) (by have := bb.size; omega) b7 (by omega))
        clear S q3 b7 hv2 q1 b2 bb bw hfl
        go_wp2_with fail
        exact bodyPost_ret (v := .tuple #[.agg #[.slice Ac k cc, .slice Rc m dc], .int .i64 (Hps.freedTo h.cs bs k : Int)]) (by simp [results, Try.results78, go_sem, *]) rfl ⟨_, _, by rw [HF.out], by rw [HF.out]; exact D.out.1, D.out.2⟩
end Go.Proofs.Ytkdoolilggkjpaa
