/- What the model's MarkBounded returns: for every heap and every number of places. No conditions. -/
import Derived.Test.YtmjejcfifkbkoaaQg
namespace Go.Proofs.Ytmjejcfifkbkoaa
open Go.RowKit
set_option maxRecDepth 100000

/-- marks of the call's own, and a number -/
def GaveOI (w : World) (xs : List Bool) (x : Int) (e : Ending) (w' : World) : Prop := ∃ v, e = .returned (.tuple #[v, .int .i64 x]) ∧ OwnO w' w.heap.size v xs ∧ Below w.heap.size w w'

set_option maxHeartbeats 4000000 in
theorem mMarkBounded_any (A R : Option Addr) (n c m d : Nat) (pl : Int) (h : Hp) (w : World) (hs : HS w w.heap.size A n R m h) (hn : n ≤ 1099511627776) (hm : m ≤ 1099511627776) :
    Calls Try.prog 42 #[heapV A n c R m d, .int .i64 pl] w (GaveOI w (Hps.boundH h pl).1 (Hps.boundH h pl).2) := by
  have hlc := hs.cells.1
  have hlr := hs.roots.1
  have b1 := (Below.refl w.heap.size w).alloc (Nat.le_refl _) (.cells #[.slice A n c, .slice R m d] 28)
  have q1 := Rw.new w 28 #[.slice A n c, .slice R m d]
  have hs1 := hs.up b1
  have hz1 : (w.alloc (.cells #[.slice A n c, .slice R m d] 28)).heap.size = w.heap.size + 1 := by simp
  go_enter Try.func42, Try.ntmps42
  go_upto_region 1 with fail
  generalize w.alloc (.cells #[.slice A n c, .slice R m d] 28) = w1 at b1 q1 hs1 hz1 ⊢
  obtain ⟨q, hq⟩ : ∃ q, w.heap.size = q := ⟨_, rfl⟩
  have HQ := Lib.hid hq
  rw [hq] at b1 q1 hz1 ⊢
  have HZ1 := Lib.hid hz1
  have hsB := (hs.below (by rw [hq]; exact b1)).more (B' := q + 1) (by omega)
  have hq1 : q ≤ w1.heap.size := by omega
  clear hz1 hq
  have y0 : w1.cell? ⟨q, 0, none⟩ = some (.slice A n c) := q1.cell 0
  have y1 : w1.cell? ⟨q, 1, none⟩ = some (.slice R m d) := q1.cell 1
  have HHV := Lib.hid (mHeapValid_any A R n c m d h w1 hs1 hn hm)
  clear hs1
  have HNO : ¬(Hps.validH h = true ∧ 1 ≤ pl ∧ pl ≤ 40) → Hid ((Hps.boundH h pl).1 = [] ∧ (Hps.boundH h pl).2 = -1) := fun hb => Lib.hid (by rw [Hps.bound_no hb]; exact ⟨rfl, rfl⟩)
  cases hv : Hps.validH h
  · have HE := HNO (by rw [hv]; simp)
    clear HNO
    go_wp2_with fail
    refine HHV.out.mono ?_
    rw [hv]
    clear hv
    rintro e w2 ⟨rfl, b2⟩
    have b3 := b1.trans (b2.mono hq1)
    have on := own_noneO w2 q (Nat.le_trans hq1 b2.size)
    have bl := b3.alloc (Nat.le_trans hq1 b2.size) (.cells #[] 4)
    go_wp2_with fail
    go_ret2
    exact ⟨_, by rw [HE.out.2]; rfl, by rw [HE.out.1, HQ.out]; exact on, by rw [HQ.out]; exact bl⟩
  · by_cases hp : 1 ≤ pl ∧ pl ≤ 40
    · obtain ⟨p, rfl⟩ : ∃ p : Nat, pl = p := ⟨pl.toNat, by omega⟩
      have HB := Lib.hid (Hps.bound_yes (pl := p) hv (by omega) (by omega))
      obtain ⟨s1, s2, s3⟩ := Hps.valid_small hv
      have HRF := Lib.hid (Hps.valid_refs hv)
      have HRO := Lib.hid (Hps.valid_iff.1 hv).2.2.2
      have HS3 := Lib.hid s3
      rw [hlc] at s1
      have hp1 : (1 : Int) ≤ p := hp.1
      have hp2 : (p : Int) ≤ 40 := hp.2
      have hp1000 : p ≤ 1000 := by omega
      have HL1 := Lib.hid (fun w => l1In_any (p : Int) 1 40 w)
      clear s3 s2 HNO hp
      go_wp2_with fail
      refine HHV.out.mono ?_
      rw [hv]
      clear hv
      rintro e w2 ⟨rfl, b2⟩
      have b3 := b1.trans (b2.mono hq1)
      have q3 := q1.keep b2 q1.lt
      have y0 : w2.cell? ⟨q, 0, none⟩ = some (.slice A n c) := q3.cell 0
      have y1 : w2.cell? ⟨q, 1, none⟩ = some (.slice R m d) := q3.cell 1
      have hmk := makeO w2 n (by omega)
      have b5 := (Below.refl w2.heap.size w2).alloc (Nat.le_refl _) (.cells (Array.replicate n (.bool false)) 4)
      have o5 := own_madeO w2 n (by omega)
      have z2 := b2.size
      have O5 : OwnO (w2.alloc (.cells (Array.replicate n (.bool false)) 4)) (q + 1) (.slice (some ⟨w2.heap.size, 0, none⟩) n n) (List.replicate n false) := o5.base (by have := HZ1.out; omega)
      have HBB := Lib.hid (b3.trans (b5.mono (by have := HZ1.out; omega)))
      have Q5 := q3.alloc (.cells (Array.replicate n (.bool false)) 4)
      have hs5 := (hsB.below (b2.mono (by have := HZ1.out; omega))).below (b5.mono (by have := HZ1.out; omega))
      have h5 : q + 1 ≤ (w2.alloc (.cells (Array.replicate n (.bool false)) 4)).heap.size := by have := HZ1.out; simp; omega
      obtain ⟨w5, hw5⟩ : ∃ w5, w2.alloc (.cells (Array.replicate n (.bool false)) 4) = w5 := ⟨_, rfl⟩
      rw [hw5] at O5 Q5 hs5 HBB hmk h5
      clear hw5 b5 o5 q3 q1 HHV hsB b3 b2 b1
      go_wp2_with fail
      refine (HL1.out w2).mono ?_
      rw [show (decide ((1 : Int) ≤ p) && decide ((p : Int) ≤ 40)) = true by rw [decide_eq_true hp1, decide_eq_true hp2]; rfl]
      rintro e w3 ⟨rfl, rfl⟩
      go_wp2_with fail
      clear hmk y0 y1 HL1 hp1 hp2
      generalize w2.heap.size = gm at O5 ⊢
      go_loopw [7] (fun i wr => ∃ (k : Nat) (mk : List Bool), k ≤ m ∧ i = .int .i64 k ∧ OwnO wr (q + 1) (.slice (some ⟨gm, 0, none⟩) n n) mk ∧ Hid (mk = Hps.firstTo h.cs p h.rt k) ∧ Below (q + 1) w5 wr) (fun i _ => m - (intOf i).toNat)
      case atStart => exact ⟨0, _, Nat.zero_le _, rfl, O5, Lib.hid (by rw [Hps.firstTo, List.take_zero, hlc]; rfl), Below.refl _ _⟩
      case round =>
        clear O5 z2
        obtain ⟨k, mk, hk, rfl, O, HM, bb⟩ := hrel
        have Q := Q5.keep bb (by omega)
        have y0 : wr.cell? ⟨q, 0, none⟩ = some (.slice A n c) := Q.cell 0
        have y1 : wr.cell? ⟨q, 1, none⟩ = some (.slice R m d) := Q.cell 1
        by_cases hlt : k < m
        · obtain ⟨gr, or, x, e2, hgr, hx, d0⟩ := hs5.roots.at_ hlt
          subst e2
          have e0 := (bb.cell (p := ⟨gr, or + k, none⟩) hgr).trans d0
          have hlt' : (k : Int) < m := by omega
          have hok := Hps.okRefs_at HRO.out hx
          have HFS := Lib.hid (show Hps.firstTo h.cs p h.rt (k + 1) = Hps.rootP h.cs p mk x by rw [Hps.first_succ hx, HM.out])
          by_cases hx0 : 0 ≤ x
          · obtain ⟨z, rfl, hz, _⟩ := Hps.okRef_nat hok hx0
            rw [hlc] at hz
            obtain ⟨b, hbz, c1⟩ := O.at_own hz
            have hz' : (z : Int) < n := by omega
            cases b
            · have HP := Lib.hid (show Hps.rootP h.cs p mk (z : Int) = Hps.drainL h.cs p (mk.set z true) [(z : Int)] by rw [Hps.rootP, if_pos ⟨hx0, by rw [Int.toNat_natCast]; exact hbz⟩, Int.toNat_natCast])
              have f1 : wr.frozen? ⟨gm, z, none⟩ = false := O.frozen O.cap.1.symm z
              have O4 := O.put' (j := z) O.cap.1.symm true
              have Q4 := Q.other (g' := gm) (i := z) (by have := (World.ownsRow.lt O gm rfl).1; omega) (.bool true)
              have z0 : (wr.setCell ⟨gm, z, none⟩ (.bool true)).cell? ⟨q, 0, none⟩ = some (.slice A n c) := Q4.cell 0
              have z1 : (wr.setCell ⟨gm, z, none⟩ (.bool true)).cell? ⟨q, 1, none⟩ = some (.slice (some ⟨gr, or, none⟩) m d) := Q4.cell 1
              have b4 := bb.setCell (p := ⟨gm, z, none⟩) (World.ownsRow.lt O gm rfl).1 (.bool true)
              have HC := Lib.hid (l12Drain_any (q + 1) gm n c m d p z A _ h w5 _ _ hs5 HRF.out HS3.out s1 h5 O4 hz hp1000 b4)
              clear hx hok hbz O Q Q4 O4
              go_wp2_with fail
              refine HC.out.mono ?_
              rintro e w7 ⟨rfl, O7, b7⟩
              have b8 := b4.trans b7
              clear HC b7
              go_wp2_with fail
              go_roundw
              case rel => exact ⟨k + 1, _, by omega, by go_num, O7, Lib.hid (by rw [HFS.out, HP.out]), b8⟩
              case measure => simp [intOf]; omega
            · have HP := Lib.hid (show Hps.rootP h.cs p mk (z : Int) = mk by rw [Hps.rootP, if_neg (fun e => by rw [Int.toNat_natCast, hbz] at e; cases e.2)])
              clear hx hok hbz
              go_wp2_with fail
              go_roundw
              case rel => exact ⟨k + 1, _, by omega, by go_num, O, Lib.hid (by rw [HFS.out, HP.out]), bb⟩
              case measure => simp [intOf]; omega
          · have hx0' : decide (x ≥ 0) = false := decide_eq_false hx0
            have HP := Lib.hid (show Hps.rootP h.cs p mk x = mk by rw [Hps.rootP, if_neg (fun e => hx0 e.1)])
            clear hx hok
            go_wp2_with fail
            go_roundw
            case rel => exact ⟨k + 1, _, by omega, by go_num, O, Lib.hid (by rw [HFS.out, HP.out]), bb⟩
            case measure => simp [intOf]; omega
        · obtain rfl : k = m := by omega
          have HPS := Lib.hid (Hps.bounded_spec h.cs p h.rt)
          rw [hlr] at HPS
          rw [← HM.out] at HPS
          have hcn : mk.count false ≤ n := by rw [O.cap.1]; exact List.count_le_length
          clear HM hlt hk
          go_wp2_with fail
          go_loopw [9] (fun pv wr => ∃ (P : Nat) (mk : List Bool), pv = .int .i64 P ∧ OwnO wr (q + 1) (.slice (some ⟨gm, 0, none⟩) n n) mk ∧ Hid (Hps.Passes h.cs p mk P (Hps.boundedL h.cs p h.rt).1 (Hps.boundedL h.cs p h.rt).2) ∧ P + mk.count false ≤ n + 1 ∧ Below (q + 1) w5 wr) (fun _ wr => idleW wr gm n)
          case atStart => exact ⟨1, mk, rfl, O, HPS, by omega, bb⟩
          case round =>
            clear O HPS hcn y0 y1 Q bb
            obtain ⟨P, mk, rfl, O, HPS, hcn, bb⟩ := hrel
            have Q := Q5.keep bb (by omega)
            have y0 : wr.cell? ⟨q, 0, none⟩ = some (.slice A n c) := Q.cell 0
            have y1 : wr.cell? ⟨q, 1, none⟩ = some (.slice R k d) := Q.cell 1
            have HC := Lib.hid (l12Any_any (q + 1) gm n c k d A R h w5 wr mk hs5 HRF.out HS3.out s1 h5 O bb)
            have HM0 := Lib.hid (idleW_eq O)
            go_wp2_with fail
            refine HC.out.mono ?_
            rintro e w6 ⟨rfl, b6⟩
            have hwz := bb.size
            have O6 := O.below b6 (Nat.le_refl _)
            have b7 := bb.trans (b6.mono (by omega))
            cases ha : Hps.anyOpen h.cs mk
            · have HPF := Lib.hid (HPS.out.one (.done ha))
              clear ha HC
              go_wp2_with fail
              go_ret2
              refine ⟨_, by rw [HB.out, HPF.out.2]; rfl, ?_, ?_⟩
              · rw [HB.out]
                show OwnO _ _ _ (Hps.boundedL h.cs p h.rt).1
                rw [HPF.out.1, HQ.out]
                exact O6.base (by omega)
              · rw [HQ.out]
                exact HBB.out.trans (b7.mono (by omega))
            · have hdec := Hps.pass_any (pl := p) ha
              have hml : mk.length = n := O.cap.1.symm
              rw [hml] at hdec
              have HPN : Hid (Hps.Passes h.cs p (Hps.passTo h.cs p mk n) (P + 1) (Hps.boundedL h.cs p h.rt).1 (Hps.boundedL h.cs p h.rt).2) := Lib.hid (by
                rcases HPS.out.fork with h1 | h1
                · rw [h1] at ha; cases ha
                · rwa [hml] at h1)
              have HDE := Lib.hid hdec
              have HAA := Lib.hid ha
              clear ha HC O HPS hdec hml bb b6
              go_wp2_with fail
              go_loopw [10] (fun i ww => ∃ (j : Nat) (mk2 : List Bool), j ≤ n ∧ i = .int .i64 j ∧ OwnO ww (q + 1) (.slice (some ⟨gm, 0, none⟩) n n) mk2 ∧ Hid (mk2 = Hps.passTo h.cs p mk j) ∧ Below (q + 1) w5 ww) (fun i _ => n - (intOf i).toNat)
              case atStart => exact ⟨0, mk, Nat.zero_le _, rfl, O6, Lib.hid rfl, b7⟩
              case round =>
                clear O6 b7 Q y0 y1
                obtain ⟨j, mk2, hj, rfl, O, HM2, bb⟩ := hrel
                have Q := Q5.keep bb (by omega)
                have y0 : wr.cell? ⟨q, 0, none⟩ = some (.slice A n c) := Q.cell 0
                have y1 : wr.cell? ⟨q, 1, none⟩ = some (.slice R k d) := Q.cell 1
                by_cases hlt : j < n
                · have hlt' : (j : Int) < n := by omega
                  have HC := Lib.hid (l12Open_any (q + 1) gm n c k d j A R h w5 wr mk2 hs5 HRF.out HS3.out s1 h5 O hlt bb)
                  go_wp2_with fail
                  refine HC.out.mono ?_
                  rintro e w8 ⟨rfl, b8⟩
                  have hwz := bb.size
                  have O8 := O.below b8 (Nat.le_refl _)
                  have b9 := bb.trans (b8.mono (by omega))
                  have Q8 := Q.keep b8 Q.lt
                  have z0 : w8.cell? ⟨q, 0, none⟩ = some (.slice A n c) := Q8.cell 0
                  have z1 : w8.cell? ⟨q, 1, none⟩ = some (.slice R k d) := Q8.cell 1
                  cases ho : Hps.openAt h.cs mk2 j
                  · have HN := Lib.hid (Hps.pass_shut (pl := p) (mk := mk) (by rw [← HM2.out]; exact ho))
                    clear ho HC
                    go_wp2_with fail
                    go_roundw
                    case rel => exact ⟨j + 1, _, by omega, by go_num, O8, Lib.hid (by rw [HN.out, HM2.out]), b9⟩
                    case measure => simp [intOf]; omega
                  · have HN := Lib.hid (Hps.pass_open (pl := p) (mk := mk) (by rw [← HM2.out]; exact ho))
                    have HC2 := Lib.hid (l12Drain_any (q + 1) gm n c k d p j A R h w5 w8 mk2 hs5 HRF.out HS3.out s1 h5 O8 hlt hp1000 b9)
                    clear ho HC
                    go_wp2_with fail
                    refine HC2.out.mono ?_
                    rintro e w10 ⟨rfl, O10, b10⟩
                    have b11 := b9.trans b10
                    clear HC2
                    go_wp2_with fail
                    go_roundw
                    case rel => exact ⟨j + 1, _, by omega, by go_num, O10, Lib.hid (by rw [HN.out, ← HM2.out]), b11⟩
                    case measure => simp [intOf]; omega
                · obtain rfl : j = n := by omega
                  have HMS := Lib.hid (idleW_eq O)
                  rw [HM2.out] at O HMS
                  go_wp2_with fail
                  go_roundw
                  case rel => exact ⟨P + 1, _, by go_num, O, HPN, by have := HDE.out; omega, bb⟩
                  case measure => rw [HMS.out, HM0.out]; exact HDE.out
    · have HE := HNO (fun e => hp e.2)
      have HL1 := Lib.hid (fun w => l1In_any pl 1 40 w)
      have hd : (decide ((1 : Int) ≤ pl) && decide (pl ≤ 40)) = false := by
        rw [Bool.and_eq_false_iff, decide_eq_false_iff_not, decide_eq_false_iff_not]
        omega
      clear HNO hp
      go_wp2_with fail
      refine HHV.out.mono ?_
      rw [hv]
      clear hv
      rintro e w2 ⟨rfl, b2⟩
      have b3 := b1.trans (b2.mono hq1)
      have on := own_noneO w2 q (Nat.le_trans hq1 b2.size)
      have bl := b3.alloc (Nat.le_trans hq1 b2.size) (.cells #[] 4)
      go_wp2_with fail
      refine (HL1.out w2).mono ?_
      rw [hd]
      rintro e w3 ⟨rfl, rfl⟩
      go_wp2_with fail
      go_ret2
      exact ⟨_, by rw [HE.out.2]; rfl, by rw [HE.out.1, HQ.out]; exact on, by rw [HQ.out]; exact bl⟩
end Go.Proofs.Ytmjejcfifkbkoaa
