/- What the program's MarkBounded returns: for every heap and every number of places. No conditions. -/
import Derived.Test.YtmjejcfifkbkoaaQj
namespace Go.Proofs.Ytmjejcfifkbkoaa
open Go.RowKit
set_option maxRecDepth 100000

set_option maxHeartbeats 2000000 in
theorem markBounded_any (A R : Option Addr) (n c m d : Nat) (pl : Int) (h : Hp) (w : World) (hs : HS w w.heap.size A n R m h) (hn : n ≤ 1099511627776) (hm : m ≤ 1099511627776) (hnc : n ≤ c) (hmd : m ≤ d) :
    Calls Try.prog 41 #[heapV A n c R m d, .int .i64 pl] w (GaveOI w (Hps.boundH h pl).1 (Hps.boundH h pl).2) := by
  have hlc := hs.cells.1
  have hlr := hs.roots.1
  have b1 := (Below.refl w.heap.size w).alloc (Nat.le_refl _) (.cells #[.slice A n c, .slice R m d] 28)
  have q1 := Rw.new w 28 #[.slice A n c, .slice R m d]
  have hs1 := hs.up b1
  have hz1 : (w.alloc (.cells #[.slice A n c, .slice R m d] 28)).heap.size = w.heap.size + 1 := by simp
  go_enter Try.func41, Try.ntmps41
  go_upto_region 1 with fail
  generalize w.alloc (.cells #[.slice A n c, .slice R m d] 28) = w1 at b1 q1 hs1 hz1 ⊢
  obtain ⟨q, hq⟩ : ∃ q, w.heap.size = q := ⟨_, rfl⟩
  have HQ := Lib.hid hq
  rw [hq] at b1 q1 hz1 ⊢
  have HZ1 := Lib.hid hz1
  have hsB := (hs.below (by rw [hq]; exact b1)).more (B' := q + 1) (by omega)
  have hq1 : q ≤ w1.heap.size := by omega
  clear hz1 hq
  have y0 : w1.cell? ⟨q, 0, none⟩ = some (.slice A n c) := q1.cell 0
  have y1 : w1.cell? ⟨q, 1, none⟩ = some (.slice R m d) := q1.cell 1
  have HHV := Lib.hid (heapValid_any A R n c m d h w1 hs1 hn hm hnc hmd)
  have HNO : ¬(Hps.validH h = true ∧ 1 ≤ pl ∧ pl ≤ 40) → Hid ((Hps.boundH h pl).1 = [] ∧ (Hps.boundH h pl).2 = -1) := fun hb => Lib.hid (by rw [Hps.bound_no hb]; exact ⟨rfl, rfl⟩)
  clear hs1
  by_cases hall : Hps.validH h = true ∧ 1 ≤ pl ∧ pl ≤ 40
  case neg =>
    have HE := HNO hall
    cases hv : Hps.validH h
    · clear HNO hall
      go_wp2_with fail
      refine HHV.out.mono ?_
      rw [hv]
      clear hv
      rintro e w2 ⟨rfl, b2⟩
      have b3 := b1.trans (b2.mono hq1)
      go_wp2_with fail
      go_ret2
      exact ⟨_, by rw [HE.out.2]; rfl, by rw [HE.out.1]; exact World.ownsRow_nil _ _ _ _, by rw [HQ.out]; exact b3⟩
    · by_cases h1 : pl < 1
      · clear HNO hall
        go_wp2_with fail
        refine HHV.out.mono ?_
        rw [hv]
        clear hv
        rintro e w2 ⟨rfl, b2⟩
        have b3 := b1.trans (b2.mono hq1)
        go_wp2_with fail
        go_ret2
        exact ⟨_, by rw [HE.out.2]; rfl, by rw [HE.out.1]; exact World.ownsRow_nil _ _ _ _, by rw [HQ.out]; exact b3⟩
      · have h2 : pl > 40 := by
          rcases Int.lt_or_le 40 pl with h2 | h2
          · exact h2
          · exact absurd ⟨hv, by omega, h2⟩ hall
        clear HNO hall
        go_wp2_with fail
        refine HHV.out.mono ?_
        rw [hv]
        clear hv
        rintro e w2 ⟨rfl, b2⟩
        have b3 := b1.trans (b2.mono hq1)
        go_wp2_with fail
        go_ret2
        exact ⟨_, by rw [HE.out.2]; rfl, by rw [HE.out.1]; exact World.ownsRow_nil _ _ _ _, by rw [HQ.out]; exact b3⟩
  case pos =>
    obtain ⟨hv, hp1, hp2⟩ := hall
    obtain ⟨p, rfl⟩ : ∃ p : Nat, pl = p := ⟨pl.toNat, by omega⟩
    have HB := Lib.hid (Hps.bound_yes (pl := p) hv (by omega) (by omega))
    obtain ⟨s1, s2, s3⟩ := Hps.valid_small hv
    have HRF := Lib.hid (Hps.valid_refs hv)
    have HRO := Lib.hid (Hps.valid_iff.1 hv).2.2.2
    have HS3 := Lib.hid s3
    rw [hlc] at s1
    have hm4 : m ≤ 1000 := by rw [← hlr, s2]; omega
    have hp3 : ¬ (p : Int) < 1 := by omega
    have hp4 : ¬ (p : Int) > 40 := by omega
    have hp5 : 1 ≤ p := by omega
    have hp6 : p ≤ 1000 := by omega
    clear s3 s2 HNO hp1 hp2
    go_wp2_with fail
    refine HHV.out.mono ?_
    rw [hv]
    clear hv
    rintro e w2 ⟨rfl, b2⟩
    have q2 := q1.keep b2 q1.lt
    have z2 := b2.size
    have x0 : w2.cell? ⟨q, 0, none⟩ = some (.slice A n c) := q2.cell 0
    have x1 : w2.cell? ⟨q, 1, none⟩ = some (.slice R m d) := q2.cell 1
    have b3 := b1.trans (b2.mono hq1)
    have hsB2 := hsB.below (b2.mono (by have := HZ1.out; omega))
    have hql := q2.lt
    have b4 := b3.alloc (by omega) (.cells #[.slice A n c, .int .u64 0, .int .i64 p, .slice none 0 0] 116)
    have q4 := q2.alloc (.cells #[.slice A n c, .int .u64 0, .int .i64 p, .slice none 0 0] 116)
    have mb := Rw.new w2 116 #[.slice A n c, .int .u64 0, .int .i64 p, .slice none 0 0]
    have hs4 := hsB2.below ((Below.refl (q + 1) w2).alloc (by omega) (.cells #[.slice A n c, .int .u64 0, .int .i64 p, .slice none 0 0] 116))
    have z4 : (w2.alloc (.cells #[.slice A n c, .int .u64 0, .int .i64 p, .slice none 0 0] 116)).heap.size = w2.heap.size + 1 := by simp
    clear HHV y0 y1 q1 b1 b2 hsB hsB2 q2 b3
    go_upto_region 4 with fail
    generalize w2.alloc (.cells #[.slice A n c, .int .u64 0, .int .i64 p, .slice none 0 0] 116) = w4 at b4 q4 mb hs4 z4 ⊢
    have hqb : q + 1 ≤ w2.heap.size := by omega
    generalize w2.heap.size = b at mb z4 hqb ⊢
    have HZ4 := Lib.hid z4
    have W4 : MkSt w4 (q + 1) b (.slice A n c) (0 : Nat) p (.slice none 0 0) [] := ⟨mb, World.ownsRow_nil _ _ _ _, hqb⟩
    have y1 : w4.cell? ⟨q, 1, none⟩ = some (.slice R m d) := q4.cell 1
    have h4 : q + 1 ≤ w4.heap.size := by omega
    have HFP := Lib.hid (firstPass_any (q + 1) b n c p m d A R (.slice none 0 0) h w4 w4 hs4.cells hs4.roots HRO.out HRF.out HS3.out s1 h4 hp5 hp6 hm4 W4 (Below.refl _ _))
    clear x0 x1 hql z2 z4 mb W4
    go_wp2_with fail
    refine HFP.out.mono ?_
    rintro e w5 ⟨rfl, sv5, W5, b5⟩
    have HPS := Lib.hid (Hps.bounded_spec h.cs p h.rt)
    rw [hlr] at HPS
    have hml := (Hps.first_len h.cs p h.rt m).trans hlc
    have hcn : (Hps.firstTo h.cs p h.rt m).count false ≤ n := by
      have := List.count_le_length (a := false) (l := Hps.firstTo h.cs p h.rt m)
      omega
    have HCN := Lib.hid hcn
    have HML := Lib.hid hml
    clear HFP y1 hcn hml
    go_wp2_with fail
    go_loopw [7] (fun pv wr => ∃ (P : Nat) (mk : List Bool) (sv : Value), pv = .int .i64 P ∧ MkSt wr (q + 1) b (.slice A n c) (Bm.wordN mk true) p sv [] ∧ mk.length = n ∧ Hid (Hps.Passes h.cs p mk P (Hps.boundedL h.cs p h.rt).1 (Hps.boundedL h.cs p h.rt).2) ∧ P + mk.count false ≤ n + 1 ∧ Below (q + 1) w4 wr) (fun _ wr => idleB wr b n)
    case atStart => exact ⟨1, _, sv5, rfl, W5, HML.out, HPS, by have := HCN.out; omega, b5⟩
    case round =>
      clear W5 HPS b5 HML HCN
      obtain ⟨P, mk, sv, rfl, W, hml, HPS, hcn, bb⟩ := hrel
      have HDN := Lib.hid (isDone_any (q + 1) b n c p A sv h.cs [] w4 wr mk hs4.cells HRF.out HS3.out s1 h4 W hml bb)
      have HM0 := Lib.hid (idleB_eq W hml)
      cases ha : Hps.anyOpen h.cs mk
      · have HPF := Lib.hid (HPS.out.one (.done ha))
        have Q := q4.keep bb (by omega)
        have y0 : wr.cell? ⟨q, 0, none⟩ = some (.slice A n c) := Q.cell 0
        have z1 : wr.cell? ⟨b, 1, none⟩ = some (.int .u64 (Bm.wordN mk true : Nat)) := W.box.cell 1
        have HFL := Lib.hid (cflags_any (Bm.wordN mk true) n wr (Bm.wordN_lt mk true (by omega)) (by omega))
        have HWF := Lib.hid (Hps.word_flags hml)
        have hws := bb.size
        rw [ha] at HDN
        clear ha
        go_wp2_with fail
        refine HDN.out.mono ?_
        rintro e w6 ⟨rfl, rfl⟩
        go_wp2_with fail
        refine HFL.out.mono ?_
        rintro e w7 ⟨v7, rfl, o7, b7⟩
        rw [HWF.out] at o7
        go_wp2_with fail
        go_ret2
        refine ⟨_, by rw [HB.out, HPF.out.2]; rfl, ?_, ?_⟩
        · rw [HB.out]
          show OwnO _ _ _ (Hps.boundedL h.cs p h.rt).1
          rw [HPF.out.1, HQ.out]
          exact o7.base (by omega)
        · rw [HQ.out]
          exact (b4.trans (bb.mono (by omega))).trans (b7.mono (by omega))
      · have hdec := Hps.pass_any (pl := p) ha
        have HPL := Lib.hid (Hps.pass_len h.cs p mk n)
        have HFU := Lib.hid (furtherPass_any (q + 1) b n c p A sv h.cs w4 wr mk hs4.cells HRF.out HS3.out s1 h4 hp5 hp6 W hml bb)
        have HPN : Hid (Hps.Passes h.cs p (Hps.passTo h.cs p mk n) (P + 1) (Hps.boundedL h.cs p h.rt).1 (Hps.boundedL h.cs p h.rt).2) := Lib.hid (by
          rcases HPS.out.fork with h1 | h1
          · rw [h1] at ha; cases ha
          · rwa [hml] at h1)
        rw [hml] at hdec
        have HDE := Lib.hid hdec
        have HL2 := Lib.hid hml
        rw [ha] at HDN
        clear ha hdec hml HPS W
        go_wp2_with fail
        refine HDN.out.mono ?_
        rintro e w6 ⟨rfl, rfl⟩
        go_wp2_with fail
        refine HFU.out.mono ?_
        rintro e w7 ⟨rfl, sv7, W7, b7⟩
        have b8 := bb.trans b7
        have HMS := Lib.hid (idleB_eq W7 (HPL.out.trans HL2.out))
        clear HFU HDN b7 bb
        go_wp2_with fail
        go_roundw
        case rel => exact ⟨P + 1, _, sv7, by go_num, W7, HPL.out.trans HL2.out, HPN, by have := HDE.out; omega, b8⟩
        case measure => rw [HMS.out, HM0.out]; exact HDE.out
end Go.Proofs.Ytmjejcfifkbkoaa
