/- What the model's CellsFrom and DeadCycle return: for every heap and every number. No conditions. -/
import Derived.Test.YtiojoailjiojjaaRd
import Derived.Test.YtiojoailjiojjaaHe
namespace Go.Proofs.Ytiojoailjiojjaa
open Go.RowKit
set_option maxRecDepth 100000

namespace Hps
theorem fromH_no {h : Hp} {x : Int} (hn : ¬ (validH h = true ∧ 0 ≤ x ∧ usedAt h.cs x.toNat = true)) : fromH h x = [] := by rw [fromH, if_neg hn]
theorem fromH_yes {h : Hp} {v : Nat} (hv : validH h = true) (hu : usedAt h.cs v = true) : fromH h (v : Int) = reachL h.cs [(v : Int)] := by rw [fromH, if_pos ⟨hv, by omega, by simpa using hu⟩]
theorem deadH_no {h : Hp} {x : Int} (hn : ¬ (validH h = true ∧ 0 ≤ x ∧ usedAt h.cs x.toNat = true)) : deadH h x = [] := by rw [deadH, if_neg hn]
theorem deadH_yes {h : Hp} {v : Nat} (hv : validH h = true) (hu : usedAt h.cs v = true) : deadH h (v : Int) = deadL h (v : Int) := by rw [deadH, if_pos ⟨hv, by omega, by simpa using hu⟩]
theorem trialH_nil (h : Hp) : trialH h [] = [] := by
  unfold trialH
  split
  · next e =>
    rw [Bool.and_eq_true] at e
    have := (okSet_iff.1 e.2).1
    apply List.eq_nil_of_length_eq_zero
    rw [trialL_len, ← this]
    rfl
  · rfl
/-- the first k elements are those of the difference -/
def mixB (s t : List Bool) (k : Nat) : List Bool := (minusL s t).take k ++ s.drop k
theorem mixB_zero (s t : List Bool) : mixB s t 0 = s := by simp [mixB]
theorem minusL_len {s t : List Bool} (h : s.length = t.length) : (minusL s t).length = s.length := by simp [minusL, h]
theorem mixB_len {s t : List Bool} {k : Nat} (h : s.length = t.length) (hk : k ≤ s.length) : (mixB s t k).length = s.length := by simp [mixB, minusL_len h]; omega
theorem mixB_fin {s t : List Bool} {k : Nat} (h : s.length = t.length) (hk : s.length ≤ k) : mixB s t k = minusL s t := by
  rw [mixB, List.take_of_length_le (by rw [minusL_len h]; exact hk), List.drop_eq_nil_of_le hk, List.append_nil]
theorem mixB_at {s t : List Bool} {k : Nat} (h : s.length = t.length) (hk : k < s.length) : (mixB s t k)[k]? = s[k]? := by
  rw [mixB, List.getElem?_append_right (by simp [minusL_len h]; omega)]
  simp [minusL_len h, Nat.min_eq_left (Nat.le_of_lt hk)]
theorem mixB_step {s t : List Bool} {k : Nat} {a b : Bool} (h : s.length = t.length) (ha : s[k]? = some a) (hb : t[k]? = some b) : (mixB s t k).set k (a && !b) = mixB s t (k + 1) := by
  have hk := (List.getElem?_eq_some_iff.1 ha).1
  have hm : (minusL s t)[k]? = some (a && !b) := by rw [minusL, List.getElem?_zipWith, ha, hb]
  have hl := minusL_len h
  have hd : s.drop k = a :: s.drop (k + 1) := by
    rw [List.drop_eq_getElem_cons hk]
    congr 1
    rw [List.getElem?_eq_getElem hk] at ha
    exact Option.some.inj ha
  unfold mixB
  rw [hd, List.take_add_one, hm]
  simp only [Option.toList, List.append_assoc, List.singleton_append]
  rw [List.set_append_right _ _ (by simp [hl]; omega)]
  simp [hl, Nat.min_eq_left (Nat.le_of_lt hk)]
end Hps

set_option maxHeartbeats 2000000 in
theorem mCellsFrom_any (A R : Option Addr) (n c m d : Nat) (x : Int) (h : Hp) (w : World) (hs : HS w w.heap.size A n R m h) (hn : n ≤ 1099511627776) (hm : m ≤ 1099511627776) :
    Calls Try.prog 16 #[heapV A n c R m d, .int .i64 x] w (GaveO w (Hps.fromH h x)) := by
  have hlc := hs.cells.1
  have b0 : Below w.heap.size w (w.alloc (.cells #[.slice A n c, .slice R m d] 26)) := (Below.refl _ _).alloc (Nat.le_refl _) _
  have r0 := hs.up b0
  have hw0 := Rw.new w 26 #[.slice A n c, .slice R m d]
  cases hv : Hps.validH h
  · have HR := Lib.hid (Hps.fromH_no (h := h) (x := x) (by rw [hv]; simp))
    have HV := Lib.hid hv
    clear hv
    go_enter Try.func16, Try.ntmps16
    go_wp2_with fail
    refine (mHeapValid_any _ _ _ _ _ _ h _ r0 hn hm).mono ?_
    rw [HV.out]
    rintro e w1 ⟨rfl, b1⟩
    have bb1 := b0.trans (b1.mono b0.size)
    have on := own_noneO w1 w.heap.size bb1.size
    have bl := bb1.alloc bb1.size (.cells #[] 4)
    go_wp2_with fail
    go_ret
    exact ⟨_, rfl, by rw [HR.out]; exact on, bl⟩
  · have HV := Lib.hid hv
    obtain ⟨s1, s2, s3⟩ := Hps.valid_small hv
    have HRF := Lib.hid (Hps.valid_refs hv)
    have HS3 := Lib.hid s3
    have hwn : IntKind.i64.wrap ((n : Int) - 1) = (n : Int) - 1 := IntWalk.i64_in _ (by omega)
    by_cases hin : 0 ≤ x ∧ x ≤ (n : Int) - 1
    · obtain ⟨v, rfl⟩ := Int.eq_ofNat_of_zero_le hin.1
      have hvn : v < n := by omega
      have hvn' : (v : Int) < n := by omega
      have HL := Lib.hid (fun ww => (l1In_any (v : Int) 0 ((n : Int) - 1) ww).mono fun e w' he => (⟨by rw [he.1, decide_eq_true hin.1, decide_eq_true hin.2]; rfl, he.2⟩ : e = .returned (.bool true) ∧ ww = w'))
      cases hu : Hps.usedAt h.cs v
      · have HR := Lib.hid (Hps.fromH_no (h := h) (x := (v : Int)) (by simp [hu]))
        have HU := Lib.hid hu
        clear hv hu hin s3
        go_enter Try.func16, Try.ntmps16
        go_wp2_with fail
        refine (mHeapValid_any _ _ _ _ _ _ h _ r0 hn hm).mono ?_
        rw [HV.out]
        rintro e w1 ⟨rfl, b1⟩
        have bb1 := b0.trans (b1.mono b0.size)
        have r1 := r0.up b1
        have hw1 := hw0.keep b1 (by simp)
        have z0 : w1.cell? ⟨w.heap.size, 0, none⟩ = some (.slice A n c) := hw1.cell 0
        clear r0 hw0
        go_wp2_with fail
        refine (HL.out _).mono ?_
        rintro e w2 ⟨rfl, rfl⟩
        obtain ⟨g, o, cl, A', m', cc, rfl, hg, hcl, d1, d2, d3, hmc, hi⟩ := r1.cells.at_ hvn
        have huf : cl.u = false := by have := HU.out; rw [Hps.usedAt, hcl] at this; exact this
        rw [huf] at d1
        have on := own_noneO w1 w.heap.size bb1.size
        have bl := bb1.alloc bb1.size (.cells #[] 4)
        clear hcl huf
        go_wp2_with fail
        go_ret
        exact ⟨_, rfl, by rw [HR.out]; exact on, bl⟩
      · have HR := Lib.hid (Hps.fromH_yes hv hu)
        have HU := Lib.hid hu
        clear hv hu hin s3
        go_enter Try.func16, Try.ntmps16
        go_wp2_with fail
        refine (mHeapValid_any _ _ _ _ _ _ h _ r0 hn hm).mono ?_
        rw [HV.out]
        rintro e w1 ⟨rfl, b1⟩
        have bb1 := b0.trans (b1.mono b0.size)
        have r1 := r0.up b1
        have hw1 := hw0.keep b1 (by simp)
        have z0 : w1.cell? ⟨w.heap.size, 0, none⟩ = some (.slice A n c) := hw1.cell 0
        have z1 : w1.cell? ⟨w.heap.size, 1, none⟩ = some (.slice R m d) := hw1.cell 1
        clear r0 hw0
        go_wp2_with fail
        refine (HL.out _).mono ?_
        rintro e w2 ⟨rfl, rfl⟩
        obtain ⟨g, o, cl, A', m', cc, rfl, hg, hcl, d1, d2, d3, hmc, hi⟩ := r1.cells.at_ hvn
        have huf : cl.u = true := by
          obtain ⟨c2, h1, h2⟩ := Hps.usedAt_iff.1 HU.out
          rw [hcl] at h1
          rw [Option.some.inj h1]
          exact h2
        rw [huf] at d1
        have b2 := bb1.alloc bb1.size (.cells #[.int .i64 v] 3)
        have r2 := r1.up ((Below.refl w1.heap.size w1).alloc (Nat.le_refl _) (.cells #[.int .i64 v] 3))
        have rr : IS (w1.alloc (.cells #[.int .i64 v] 3)) (w1.alloc (.cells #[.int .i64 v] 3)).heap.size (some ⟨w1.heap.size, 0, none⟩) 1 [(v : Int)] := (own_oneI w1 v 0 (Nat.zero_le _)).reads
        have HOK := Lib.hid (show Hps.okRefs h.cs [(v : Int)] = true from Hps.okRefs_iff.2 fun y hy => by rw [List.mem_singleton] at hy; subst hy; exact Hps.okRef_iff.2 (.inr ⟨by omega, by simpa using HU.out⟩))
        clear hcl huf
        go_wp2_with fail
        refine (l7Reach_any _ _ _ _ _ _ _ _ _ h [(v : Int)] _ r2 rr (by omega) (by omega) HOK.out HRF.out (fun cl hcl => by have := HS3.out cl hcl; omega)).mono ?_
        rintro e w3 ⟨v3, rfl, o3, b3⟩
        go_wp2_with fail
        go_ret
        exact ⟨_, rfl, by rw [HR.out]; exact o3.base b2.size, b2.trans (b3.mono b2.size)⟩
    · have HR := Lib.hid (Hps.fromH_no (h := h) (x := x) (by
        rintro ⟨_, q1, q2⟩
        have := Hps.usedAt_lt q2
        omega))
      have HL := Lib.hid (fun ww => (l1In_any x 0 ((n : Int) - 1) ww).mono fun e w' he => (⟨by rw [he.1]; congr 1; simp only [Value.bool.injEq, Bool.and_eq_false_iff, decide_eq_false_iff_not]; omega, he.2⟩ : e = .returned (.bool false) ∧ ww = w'))
      clear hv hin s3
      go_enter Try.func16, Try.ntmps16
      go_wp2_with fail
      refine (mHeapValid_any _ _ _ _ _ _ h _ r0 hn hm).mono ?_
      rw [HV.out]
      rintro e w1 ⟨rfl, b1⟩
      have bb1 := b0.trans (b1.mono b0.size)
      have hw1 := hw0.keep b1 (by simp)
      have z0 : w1.cell? ⟨w.heap.size, 0, none⟩ = some (.slice A n c) := hw1.cell 0
      clear r0 hw0
      go_wp2_with fail
      refine (HL.out _).mono ?_
      rintro e w2 ⟨rfl, rfl⟩
      have on := own_noneO w1 w.heap.size bb1.size
      have bl := bb1.alloc bb1.size (.cells #[] 4)
      go_wp2_with fail
      go_ret
      exact ⟨_, rfl, by rw [HR.out]; exact on, bl⟩

end Go.Proofs.Ytiojoailjiojjaa
