/- What the model's CellsFrom and DeadCycle return: for every heap and every number. No conditions. -/
import Derived.Test.YtiojoailjiojjaaDoorRd
import Derived.Test.YtiojoailjiojjaaDoorHe
namespace Go.Proofs.YtiojoailjiojjaaDoor
open Go.RowKit
set_option maxRecDepth 100000

namespace Hps
theorem fromH_no {h : Hp} {x : Int} (hn : ¬ (validH h = true ∧ 0 ≤ x ∧ usedAt h.cs x.toNat = true)) : fromH h x = [] := by rw [fromH, if_neg hn]
theorem fromH_yes {h : Hp} {v : Nat} (hv : validH h = true) (hu : usedAt h.cs v = true) : fromH h (v : Int) = reachL h.cs [(v : Int)] := by rw [fromH, if_pos ⟨hv, by omega, by simpa using hu⟩]
theorem deadH_no {h : Hp} {x : Int} (hn : ¬ (validH h = true ∧ 0 ≤ x ∧ usedAt h.cs x.toNat = true)) : deadH h x = [] := by rw [deadH, if_neg hn]
theorem deadH_yes {h : Hp} {v : Nat} (hv : validH h = true) (hu : usedAt h.cs v = true) : deadH h (v : Int) = deadL h (v : Int) := by rw [deadH, if_pos ⟨hv, by omega, by simpa using hu⟩]
theorem trialH_nil (h : Hp) : trialH h [] = [] := by
  unfold trialH
  split
  · next e =>
    rw [Bool.and_eq_true] at e
    have := (okSet_iff.1 e.2).1
    apply List.eq_nil_of_length_eq_zero
    rw [trialL_len, ← this]
    rfl
  · rfl
/-- the first k elements are those of the difference -/
def mixB (s t : List Bool) (k : Nat) : List Bool := (minusL s t).take k ++ s.drop k
theorem mixB_zero (s t : List Bool) : mixB s t 0 = s := by simp [mixB]
theorem minusL_len {s t : List Bool} (h : s.length = t.length) : (minusL s t).length = s.length := by simp [minusL, h]
theorem mixB_len {s t : List Bool} {k : Nat} (h : s.length = t.length) (hk : k ≤ s.length) : (mixB s t k).length = s.length := by simp [mixB, minusL_len h]; omega
theorem mixB_fin {s t : List Bool} {k : Nat} (h : s.length = t.length) (hk : s.length ≤ k) : mixB s t k = minusL s t := by
  rw [mixB, List.take_of_length_le (by rw [minusL_len h]; exact hk), List.drop_eq_nil_of_le hk, List.append_nil]
theorem mixB_at {s t : List Bool} {k : Nat} (h : s.length = t.length) (hk : k < s.length) : (mixB s t k)[k]? = s[k]? := by
  rw [mixB, List.getElem?_append_right (by simp [minusL_len h]; omega)]
  simp [minusL_len h, Nat.min_eq_left (Nat.le_of_lt hk)]
theorem mixB_step {s t : List Bool} {k : Nat} {a b : Bool} (h : s.length = t.length) (ha : s[k]? = some a) (hb : t[k]? = some b) : (mixB s t k).set k (a && !b) = mixB s t (k + 1) := by
  have hk := (List.getElem?_eq_some_iff.1 ha).1
  have hm : (minusL s t)[k]? = some (a && !b) := by rw [minusL, List.getElem?_zipWith, ha, hb]
  have hl := minusL_len h
  have hd : s.drop k = a :: s.drop (k + 1) := by
    rw [List.drop_eq_getElem_cons hk]
    congr 1
    rw [List.getElem?_eq_getElem hk] at ha
    exact Option.some.inj ha
  unfold mixB
  rw [hd, List.take_add_one, hm]
  simp only [Option.toList, List.append_assoc, List.singleton_append]
  rw [List.set_append_right _ _ (by simp [hl]; omega)]
  simp [hl, Nat.min_eq_left (Nat.le_of_lt hk)]
end Hps

set_option maxHeartbeats 2000000 in
theorem mCellsFrom_any (A R : Option Addr) (n c m d : Nat) (x : Int) (h : Hp) (w : World) (hs : HS w w.heap.size A n R m h) (hn : n ≤ 1099511627776) (hm : m ≤ 1099511627776) :
    Calls Tryd.prog 46 #[heapV A n c R m d, .int .i64 x] w (GaveO w (Hps.fromH h x)) := by
  have hlc := hs.cells.1
  have b0 : Below w.heap.size w (w.alloc (.cells #[.slice A n c, .slice R m d] 26)) := (Below.refl _ _).alloc (Nat.le_refl _) _
  have r0 := hs.up b0
  have hw0 := Rw.new w 26 #[.slice A n c, .slice R m d]
  cases hv : Hps.validH h
  · have HR := Lib.hid (Hps.fromH_no (h := h) (x := x) (by rw [hv]; simp))
    have HV := Lib.hid hv
    clear hv
    go_enter Tryd.func46, Tryd.ntmps46
    go_wp2_with fail
    refine (mHeapValid_any _ _ _ _ _ _ h _ r0 hn hm).mono ?_
    rw [HV.out]
    rintro e w1 ⟨rfl, b1⟩
    have bb1 := b0.trans (b1.mono b0.size)
    have on := own_noneO w1 w.heap.size bb1.size
    have bl := bb1.alloc bb1.size (.cells #[] 4)
    go_wp2_with fail
    go_ret
    exact ⟨_, rfl, by rw [HR.out]; exact on, bl⟩
  · have HV := Lib.hid hv
    obtain ⟨s1, s2, s3⟩ := Hps.valid_small hv
    have HRF := Lib.hid (Hps.valid_refs hv)
    have HS3 := Lib.hid s3
    have hwn : IntKind.i64.wrap ((n : Int) - 1) = (n : Int) - 1 := IntWalk.i64_in _ (by omega)
    by_cases hin : 0 ≤ x ∧ x ≤ (n : Int) - 1
    · obtain ⟨v, rfl⟩ := Int.eq_ofNat_of_zero_le hin.1
      have hvn : v < n := by omega
      have hvn' : (v : Int) < n := by omega
      have HL := Lib.hid (fun ww => (l1In_any (v : Int) 0 ((n : Int) - 1) ww).mono fun e w' he => (⟨by rw [he.1, decide_eq_true hin.1, decide_eq_true hin.2]; rfl, he.2⟩ : e = .returned (.bool true) ∧ ww = w'))
      cases hu : Hps.usedAt h.cs v
      · have HR := Lib.hid (Hps.fromH_no (h := h) (x := (v : Int)) (by simp [hu]))
        have HU := Lib.hid hu
        clear hv hu hin s3
        go_enter Tryd.func46, Tryd.ntmps46
        go_wp2_with fail
        refine (mHeapValid_any _ _ _ _ _ _ h _ r0 hn hm).mono ?_
        rw [HV.out]
        rintro e w1 ⟨rfl, b1⟩
        have bb1 := b0.trans (b1.mono b0.size)
        have r1 := r0.up b1
        have hw1 := hw0.keep b1 (by simp)
        have z0 : w1.cell? ⟨w.heap.size, 0, none⟩ = some (.slice A n c) := hw1.cell 0
        clear r0 hw0
        go_wp2_with fail
        refine (HL.out _).mono ?_
        rintro e w2 ⟨rfl, rfl⟩
        obtain ⟨g, o, cl, A', m', cc, rfl, hg, hcl, d1, d2, d3, hmc, hi⟩ := r1.cells.at_ hvn
        have huf : cl.u = false := by have := HU.out; rw [Hps.usedAt, hcl] at this; exact this
        rw [huf] at d1
        have on := own_noneO w1 w.heap.size bb1.size
        have bl := bb1.alloc bb1.size (.cells #[] 4)
        clear hcl huf
        go_wp2_with fail
        go_ret
        exact ⟨_, rfl, by rw [HR.out]; exact on, bl⟩
      · have HR := Lib.hid (Hps.fromH_yes hv hu)
        have HU := Lib.hid hu
        clear hv hu hin s3
        go_enter Tryd.func46, Tryd.ntmps46
        go_wp2_with fail
        refine (mHeapValid_any _ _ _ _ _ _ h _ r0 hn hm).mono ?_
        rw [HV.out]
        rintro e w1 ⟨rfl, b1⟩
        have bb1 := b0.trans (b1.mono b0.size)
        have r1 := r0.up b1
        have hw1 := hw0.keep b1 (by simp)
        have z0 : w1.cell? ⟨w.heap.size, 0, none⟩ = some (.slice A n c) := hw1.cell 0
        have z1 : w1.cell? ⟨w.heap.size, 1, none⟩ = some (.slice R m d) := hw1.cell 1
        clear r0 hw0
        go_wp2_with fail
        refine (HL.out _).mono ?_
        rintro e w2 ⟨rfl, rfl⟩
        obtain ⟨g, o, cl, A', m', cc, rfl, hg, hcl, d1, d2, d3, hmc, hi⟩ := r1.cells.at_ hvn
        have huf : cl.u = true := by
          obtain ⟨c2, h1, h2⟩ := Hps.usedAt_iff.1 HU.out
          rw [hcl] at h1
          rw [Option.some.inj h1]
          exact h2
        rw [huf] at d1
        have b2 := bb1.alloc bb1.size (.cells #[.int .i64 v] 3)
        have r2 := r1.up ((Below.refl w1.heap.size w1).alloc (Nat.le_refl _) (.cells #[.int .i64 v] 3))
        have rr : IS (w1.alloc (.cells #[.int .i64 v] 3)) (w1.alloc (.cells #[.int .i64 v] 3)).heap.size (some ⟨w1.heap.size, 0, none⟩) 1 [(v : Int)] := (own_oneI w1 v 0 (Nat.zero_le _)).reads
        have HOK := Lib.hid (show Hps.okRefs h.cs [(v : Int)] = true from Hps.okRefs_iff.2 fun y hy => by rw [List.mem_singleton] at hy; subst hy; exact Hps.okRef_iff.2 (.inr ⟨by omega, by simpa using HU.out⟩))
        clear hcl huf
        go_wp2_with fail
        refine (l7Reach_any _ _ _ _ _ _ _ _ _ h [(v : Int)] _ r2 rr (by omega) (by omega) HOK.out HRF.out (fun cl hcl => by have := HS3.out cl hcl; omega)).mono ?_
        rintro e w3 ⟨v3, rfl, o3, b3⟩
        go_wp2_with fail
        go_ret
        exact ⟨_, rfl, by rw [HR.out]; exact o3.base b2.size, b2.trans (b3.mono b2.size)⟩
    · have HR := Lib.hid (Hps.fromH_no (h := h) (x := x) (by
        rintro ⟨_, q1, q2⟩
        have := Hps.usedAt_lt q2
        omega))
      have HL := Lib.hid (fun ww => (l1In_any x 0 ((n : Int) - 1) ww).mono fun e w' he => (⟨by rw [he.1]; congr 1; simp only [Value.bool.injEq, Bool.and_eq_false_iff, decide_eq_false_iff_not]; omega, he.2⟩ : e = .returned (.bool false) ∧ ww = w'))
      clear hv hin s3
      go_enter Tryd.func46, Tryd.ntmps46
      go_wp2_with fail
      refine (mHeapValid_any _ _ _ _ _ _ h _ r0 hn hm).mono ?_
      rw [HV.out]
      rintro e w1 ⟨rfl, b1⟩
      have bb1 := b0.trans (b1.mono b0.size)
      have hw1 := hw0.keep b1 (by simp)
      have z0 : w1.cell? ⟨w.heap.size, 0, none⟩ = some (.slice A n c) := hw1.cell 0
      clear r0 hw0
      go_wp2_with fail
      refine (HL.out _).mono ?_
      rintro e w2 ⟨rfl, rfl⟩
      have on := own_noneO w1 w.heap.size bb1.size
      have bl := bb1.alloc bb1.size (.cells #[] 4)
      go_wp2_with fail
      go_ret
      exact ⟨_, rfl, by rw [HR.out]; exact on, bl⟩

set_option maxHeartbeats 4000000 in
theorem mDeadCycle_any (A R : Option Addr) (n c m d : Nat) (x : Int) (h : Hp) (w : World) (hs : HS w w.heap.size A n R m h) (hn : n ≤ 1099511627776) (hm : m ≤ 1099511627776) :
    Calls Tryd.prog 12 #[heapV A n c R m d, .int .i64 x] w (GaveO w (Hps.deadH h x)) := by
  have hlc := hs.cells.1
  have b0 : Below w.heap.size w (w.alloc (.cells #[.slice A n c, .slice R m d] 26)) := (Below.refl _ _).alloc (Nat.le_refl _) _
  have r0 := hs.up b0
  have hw0 := Rw.new w 26 #[.slice A n c, .slice R m d]
  by_cases hok : Hps.validH h = true ∧ 0 ≤ x ∧ Hps.usedAt h.cs x.toNat = true
  · obtain ⟨hv, hx0, hu⟩ := hok
    obtain ⟨v, rfl⟩ := Int.eq_ofNat_of_zero_le hx0
    rw [Int.toNat_natCast] at hu
    obtain ⟨s1, s2, s3⟩ := Hps.valid_small hv
    have HR := Lib.hid (Hps.deadH_yes hv hu)
    have HF := Lib.hid (Hps.fromH_yes hv hu)
    have HRF := Lib.hid (Hps.valid_refs hv)
    have HS3 := Lib.hid s3
    have hn0 : 0 < n := by have := Hps.usedAt_lt hu; omega
    obtain ⟨S, hS⟩ : ∃ S, Hps.reachL h.cs [(v : Int)] = S := ⟨_, rfl⟩
    have hSl : S.length = n := by rw [← hS, Hps.reachL_len, hlc]
    have HOKS := Lib.hid (show Hps.okSet h S = true by rw [← hS]; exact Hps.from_ok hv hu)
    have HT := Lib.hid (show Hps.trialH h S = Hps.trialL h S by rw [Hps.trialH, hv, HOKS.out]; rfl)
    have HTL := Lib.hid (show (Hps.trialL h S).length = n by rw [Hps.trialL_len, hlc])
    have HD := Lib.hid (show Hps.deadL h (v : Int) = Hps.minusL S (Hps.reachL h.cs (Hps.outsideL h S)) by rw [Hps.deadL, hS])
    have HLC := Lib.hid hlc
    rw [hS] at HF
    clear hv hx0 hu s3 hS
    have HC := Lib.hid (mCellsFrom_any A R n c m d (v : Int) h _ r0 hn hm)
    rw [HF.out] at HC
    go_enter Tryd.func12, Tryd.ntmps12
    go_wp2_with fail
    refine HC.out.mono ?_
    rintro e w2 ⟨v1, rfl, o1, b1⟩
    obtain ⟨A1, c1, e1, hA1⟩ := o1.form
    rw [hSl] at e1 hA1
    subst e1
    obtain ⟨g1, rfl, hg1, hg1l⟩ := hA1 hn0
    have bb1 := b0.trans (b1.mono b0.size)
    have r1 := r0.up b1
    have hw1 := hw0.keep b1 (by simp)
    have z0 : w2.cell? ⟨w.heap.size, 0, none⟩ = some (.slice A n c) := hw1.cell 0
    have z1 : w2.cell? ⟨w.heap.size, 1, none⟩ = some (.slice R m d) := hw1.cell 1
    have HTC := Lib.hid (mTrialCounts_any A R (some ⟨g1, 0, none⟩) n c m d n c1 h S w2 r1 o1.reads hn hm hn)
    rw [HT.out] at HTC
    rw [World.size_alloc] at o1 hg1
    clear HC r0 hw0 b1 hA1
    go_wp2_with fail
    refine HTC.out.mono ?_
    rintro e w3 ⟨v2, rfl, o2, b2⟩
    obtain ⟨A2, c2, e2, _⟩ := o2.form
    rw [HTL.out] at e2
    subst e2
    have bb2 := bb1.trans (b2.mono bb1.size)
    have r2 := r1.up b2
    have o1' := o1.below b2 (Nat.le_refl _)
    have hw2 := hw1.keep b2 hw1.lt
    have tr := o2.reads
    have oz := own_noneI w3 w3.heap.size (Nat.le_refl _)
    have HO0 := Lib.hid (show ([] : List Int) = Hps.outsideTo h S 0 by simp [Hps.outsideTo])
    rw [HO0.out] at oz
    have bz : Below w3.heap.size w3 (w3.alloc (.cells #[] 3)) := (Below.refl _ _).alloc (Nat.le_refl _) _
    have hn0' : (n : Int) > 0 := by omega
    have sz2 := hw2.lt
    have hs23 := b2.size
    clear HTC r1 hw1 b2 o2 z0 z1 o1
    go_wp2_with fail
    go_loopw [7, 8] (fun o i wr => ∃ k : Nat, k ≤ n ∧ i = .int .i64 k ∧ OwnI wr w3.heap.size o (Hps.outsideTo h S k) ∧ Below w3.heap.size w3 wr) (fun _ i _ => n - (intOf i).toNat)
    case atStart => exact ⟨0, Nat.zero_le _, rfl, oz, bz⟩
    case round =>
      clear oz bz
      obtain ⟨k, hk, rfl, oo, bb⟩ := hrel
      obtain ⟨Ao, co, eo, _⟩ := oo.form
      have hlo := Hps.outsideTo_len h S k
      obtain ⟨lo, hloe⟩ : ∃ lo, (Hps.outsideTo h S k).length = lo := ⟨_, rfl⟩
      rw [hloe] at eo hlo
      subst eo
      by_cases hlt : k < n
      · obtain ⟨gt, ot, y, e1, hgt, hy, d0⟩ := (tr.below bb).at_ hlt
        subst e1
        rw [Hps.trialL_at (by rw [HLC.out]; exact hlt)] at hy
        have hy := Option.some.inj hy
        have hlt' : (k : Int) < n := by omega
        by_cases hp : 0 < Hps.trialAt h S k
        · have hp' : y > 0 := by omega
          have HN := Lib.hid (Hps.outsideTo_yes hp)
          have oa := World.ownsRow.alloc oo (.cells #[.int .i64 k] 3)
          have rr : IS (wr.alloc (.cells #[.int .i64 k] 3)) (wr.alloc (.cells #[.int .i64 k] 3)).heap.size (some ⟨wr.heap.size, 0, none⟩) 1 [(k : Int)] := (own_oneI wr k 0 (Nat.zero_le _)).reads
          have hsz : w3.heap.size ≤ (wr.alloc (.cells #[.int .i64 k] 3)).heap.size := by have := bb.size; simp; omega
          have ba := bb.alloc bb.size (.cells #[.int .i64 k] 3)
          have hlen1 : (Hps.outsideTo h S k).length + 1 ≤ 1099511627776 := by rw [hloe]; omega
          clear hp hy
          go_wp2_with (at_builtin; refine wpList_appendI rfl (.tmp 34) (.tmp 36) rfl w3.heap.size _ (Hps.outsideTo h S k) rfl oa (some ⟨wr.heap.size, 0, none⟩) 1 1 _ [(k : Int)] rfl rr hlen1 hsz ?_; intro v6 w6 o6 g6 _s6)
          have bb6 := ba.grown g6 (by have := bb.size; simp; omega) (fun kk hk => (World.ownsRow.lt oa kk hk).1)
          rw [← HN.out] at o6
          obtain ⟨A6, c6, e6, _⟩ := o6.form
          generalize hl6 : (Hps.outsideTo h S (k + 1)).length = l6 at e6
          subst e6
          clear oa rr g6 ba
          go_roundw
          case rel => exact ⟨k + 1, by omega, by go_num, o6, bb6⟩
          case measure => simp [intOf]; omega
        · have hp' : ¬ y > 0 := by omega
          have HN := Lib.hid (Hps.outsideTo_no hp)
          clear hp hy
          go_wp2_with fail
          go_roundw
          case rel => exact ⟨k + 1, by omega, by go_num, by rw [HN.out]; exact oo, bb⟩
          case measure => simp [intOf]; omega
      · obtain rfl : k = n := by omega
        have HE := Lib.hid (show Hps.outsideTo h S k = Hps.outsideL h S by rw [Hps.outsideL, HLC.out])
        rw [HE.out] at oo
        have HOO := Lib.hid (Hps.outside_ok HOKS.out)
        have bb3 := bb2.trans (bb.mono bb2.size)
        have r3 := r2.up bb
        have hw3 := hw2.keep bb sz2
        have z0 : wr.cell? ⟨w.heap.size, 0, none⟩ = some (.slice A k c) := hw3.cell 0
        have z1 : wr.cell? ⟨w.heap.size, 1, none⟩ = some (.slice R m d) := hw3.cell 1
        have o1w := o1'.below bb (Nat.le_refl _)
        have HX := Lib.hid (l7Reach_any A R Ao k c m d lo co h (Hps.outsideL h S) wr r3 oo.reads (by omega) (by omega) HOO.out HRF.out (fun cl hcl => by have := HS3.out cl hcl; omega))
        have hkz : ((k : Int) == 0) = false := by rw [beq_eq_false_iff_ne]; omega
        obtain ⟨Tt, hTt⟩ : ∃ Tt, Hps.reachL h.cs (Hps.outsideL h S) = Tt := ⟨_, rfl⟩
        have hTl : Tt.length = k := by rw [← hTt, Hps.reachL_len, HLC.out]
        rw [hTt] at HX HD
        have hszr := bb.size
        clear oo r2 r3 hw2 hw3 tr o1' hTt bb
        go_wp2_with fail
        refine HX.out.mono ?_
        rintro e w6 ⟨v6, rfl, o6, b6⟩
        obtain ⟨A6, c6, e6, hA6⟩ := o6.form
        rw [hTl] at e6 hA6
        subst e6
        obtain ⟨g6, rfl, hg6, hg6l⟩ := hA6 (by omega)
        have o1x := o1w.below b6 (Nat.le_refl _)
        have bb6 := bb3.trans (b6.mono (by have := bb3.size; omega))
        have hST : S.length = Tt.length := by omega
        have HST := Lib.hid hST
        rw [← Hps.mixB_zero S Tt] at o1x
        have hne : (Value.slice (some ⟨g6, 0, none⟩) k c6).ownBlock = none ∨ (Value.slice (some ⟨g6, 0, none⟩) k c6).ownBlock ≠ some g1 := .inr fun e => by
          have : g6 = g1 := Option.some.inj e
          omega
        have HNE := Lib.hid hne
        have HSL := Lib.hid hSl
        have HTT := Lib.hid hTl
        have o1y := o1x.base (show w.heap.size ≤ w.heap.size + 1 by omega)
        clear HX o1w z0 z1 hA6 b6 o1x hne hST hSl hTl
        go_wp2_with fail
        go_loopw [10] (fun i wr => ∃ j : Nat, j ≤ k ∧ i = .int .i64 j ∧ OwnO wr w.heap.size (.slice (some ⟨g1, 0, none⟩) k c1) (Hps.mixB S Tt j) ∧ OwnO wr w.heap.size (.slice (some ⟨g6, 0, none⟩) k c6) Tt ∧ Below w.heap.size w wr) (fun i _ => k - (intOf i).toNat)
        case atStart => exact ⟨0, Nat.zero_le _, rfl, o1y, o6.base (by have := bb3.size; omega), bb6⟩
        case round =>
          clear o1y o6 bb6
          obtain ⟨j, hj, rfl, o1, o6, bb⟩ := hrel
          have hml := Hps.mixB_len (k := j) HST.out (by rw [HSL.out]; exact hj)
          rw [HSL.out] at hml
          by_cases hlj : j < k
          · obtain ⟨g', o', a, e1, _, ha, d1⟩ := o1.reads.at_ hlj
            injection e1 with e1
            injection e1 with e1a e1b
            subst e1a e1b
            rw [Nat.zero_add] at d1
            rw [Hps.mixB_at HST.out (by rw [HSL.out]; exact hlj)] at ha
            obtain ⟨g', o', b, e1, _, hb, d2⟩ := o6.reads.at_ hlj
            injection e1 with e1
            injection e1 with e1a e1b
            subst e1a e1b
            rw [Nat.zero_add] at d2
            have hlj' : (j : Int) < k := by omega
            have fz : wr.frozen? ⟨g1, j, none⟩ = false := o1.frozen hml j
            have on := Lib.hid (OwnO.cast (Hps.mixB_step HST.out ha hb) (o1.put' (j := j) hml (a && !b)))
            have ot := Lib.hid (o6.far (put_any wr g1 j (.bool (a && !b))) HNE.out)
            have bn := Lib.hid (bb.setCell (p := ⟨g1, j, none⟩) (World.ownsRow.lt o1 g1 rfl).1 (.bool (a && !b)))
            clear ha hb o1 o6 hml
            cases a <;> cases b <;>
            · go_wp2_with fail
              go_roundw
              case rel => exact ⟨j + 1, by omega, by go_num, on.out, ot.out, bn.out⟩
              case measure => simp [intOf]; omega
          · obtain rfl : j = k := by omega
            rw [Hps.mixB_fin HST.out (by rw [HSL.out]; omega), ← HD.out, ← HR.out] at o1
            go_wp2_with fail
            go_ret
            exact ⟨_, rfl, o1, bb⟩
  · have HR := Lib.hid (Hps.deadH_no hok)
    have HF := Lib.hid (Hps.fromH_no hok)
    clear hok
    have HC := Lib.hid (mCellsFrom_any A R n c m d x h _ r0 hn hm)
    rw [HF.out] at HC
    go_enter Tryd.func12, Tryd.ntmps12
    go_wp2_with fail
    refine HC.out.mono ?_
    rintro e w2 ⟨v1, rfl, o1, b1⟩
    obtain ⟨A1, c1, rfl, _⟩ := o1.form
    rw [show ([] : List Bool).length = 0 from rfl] at o1 ⊢
    have bb1 := b0.trans (b1.mono b0.size)
    have r1 := r0.up b1
    have hw1 := hw0.keep b1 (by simp)
    have z0 : w2.cell? ⟨w.heap.size, 0, none⟩ = some (.slice A n c) := hw1.cell 0
    have z1 : w2.cell? ⟨w.heap.size, 1, none⟩ = some (.slice R m d) := hw1.cell 1
    have HTC := Lib.hid (mTrialCounts_any A R A1 n c m d 0 c1 h [] w2 r1 o1.reads hn hm (by omega))
    rw [Hps.trialH_nil] at HTC
    clear HC r0 hw0 b1 o1
    go_wp2_with fail
    refine HTC.out.mono ?_
    rintro e w3 ⟨v2, rfl, o2, b2⟩
    obtain ⟨A2, c2, rfl, _⟩ := o2.form
    rw [show ([] : List Int).length = 0 from rfl] at o2 ⊢
    have bb2 := bb1.trans (b2.mono bb1.size)
    have bb3 := (bb2.alloc bb2.size (.cells #[] 3)).alloc (by have := bb2.size; simp; omega) (.cells #[] 4)
    have oz := own_noneO (w3.alloc (.cells #[] 3)) w.heap.size (by have := bb2.size; simp; omega)
    rw [show (w3.alloc (.cells #[] 3)).heap.size = w3.heap.size + 1 by simp] at oz
    clear HTC r1 hw1 z0 z1 o2
    go_wp2_with fail
    go_loopw [8] (fun i wr => i = .int .i64 0 ∧ wr = w3.alloc (.cells #[] 3)) (fun _ _ => 0)
    case atStart => exact ⟨rfl, rfl⟩
    case round =>
      obtain ⟨rfl, rfl⟩ := hrel
      go_wp2_with fail
      go_ret
      exact ⟨_, rfl, by rw [HR.out]; exact oz, bb3⟩
end Go.Proofs.YtiojoailjiojjaaDoor
