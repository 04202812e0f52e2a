/- What the program's flaggedSet and TrialCounts return: for every heap and every set. No conditions. -/
import Derived.Test.YtiojoailjiojjaaRo
import Derived.Test.YtiojoailjiojjaaGb
namespace Go.Proofs.Ytiojoailjiojjaa
open Go.RowKit
set_option maxRecDepth 100000

namespace Hps
theorem not_bit {U i : Nat} (hU : U < 18446744073709551616) (hi : i < 64) : (18446744073709551615 - U).testBit i = !U.testBit i := by
  rw [show 18446744073709551615 - U = 2 ^ 64 - (U + 1) by omega, Nat.testBit_two_pow_sub_succ (by omega)]
  simp [hi]
/-- a set of used cells: no bit is outside -/
theorem okSet_word {h : Hp} {s : List Bool} (hl : s.length = h.cs.length) (h40 : h.cs.length ≤ 40) : okSet h s = decide (Bm.wordN s true &&& (18446744073709551615 - usedW h.cs) = 0) := by
  have hU := usedW_lt (cs := h.cs) (by omega)
  rw [Bool.eq_iff_iff, okSet_iff, decide_eq_true_eq]
  constructor
  · rintro ⟨_, h2⟩
    apply Bm.zero_bits
    intro i
    rw [Nat.testBit_and, Bm.wordN_bit]
    by_cases q : s[i]? = some true
    · have := (List.getElem?_eq_some_iff.1 q).1
      rw [not_bit hU (by omega), usedW_bit, h2 i q]
      simp
    · simp [q]
  · intro h2
    refine ⟨hl, fun k hk => ?_⟩
    have := (List.getElem?_eq_some_iff.1 hk).1
    have h3 : (Bm.wordN s true &&& (18446744073709551615 - usedW h.cs)).testBit k = false := by rw [h2]; simp
    rw [Nat.testBit_and, Bm.wordN_bit, not_bit hU (by omega), usedW_bit] at h3
    simpa [hk] using h3
/-- counts, the first k of them with -1 for what is not in the set -/
def mixL (V : Nat) (L : List Int) (n k : Nat) : List Int := (List.range n).map fun i => if i < k ∧ V.testBit i = false then -1 else ((L.count (i : Int) : Nat) : Int)
theorem mixL_len (V : Nat) (L : List Int) (n k : Nat) : (mixL V L n k).length = n := by simp [mixL]
theorem mixL_zero (V : Nat) (L : List Int) (n : Nat) : mixL V L n 0 = cntN n L := by simp [mixL, cntN]
theorem mixL_yes {V : Nat} {L : List Int} {n k : Nat} (h : V.testBit k = true) : mixL V L n (k + 1) = mixL V L n k := by
  unfold mixL
  apply List.map_congr_left
  intro i _
  by_cases e : i = k
  · subst e
    simp [h]
  · by_cases q : i < k ∧ V.testBit i = false
    · rw [if_pos q, if_pos ⟨by omega, q.2⟩]
    · rw [if_neg q, if_neg fun w => q ⟨by omega, w.2⟩]
theorem mixL_no {V : Nat} {L : List Int} {n k : Nat} (h : V.testBit k = false) (hk : k < n) : (mixL V L n k).set k (-1) = mixL V L n (k + 1) := by
  apply List.ext_getElem?
  intro i
  rw [List.getElem?_set, mixL_len]
  unfold mixL
  rw [List.getElem?_map, List.getElem?_map]
  by_cases e : k = i
  · subst e
    rw [if_pos rfl, if_pos hk, List.getElem?_range hk]
    simp [h]
  · rw [if_neg e]
    rcases Nat.lt_or_ge i n with hi | hi
    · rw [List.getElem?_range hi]
      simp only [Option.map_some, Option.some.injEq]
      by_cases q : i < k ∧ V.testBit i = false
      · rw [if_pos q, if_pos ⟨by omega, q.2⟩]
      · rw [if_neg q, if_neg fun w => q ⟨by omega, w.2⟩]
    · rw [List.getElem?_eq_none (by simpa using hi)]
      rfl
theorem mixL_fin {h : Hp} {s : List Bool} {n : Nat} (hn : h.cs.length = n) : mixL (Bm.wordN s true) (outOf h s) n n = trialL h s := by
  unfold mixL trialL
  rw [hn]
  apply List.map_congr_left
  intro i hi
  have hi := List.mem_range.1 hi
  unfold trialAt
  rw [Bm.wordN_bit]
  by_cases q : s[i]? = some true
  · rw [if_pos q, if_neg (by simp [q])]
  · rw [if_neg q, if_pos ⟨hi, by simp [q]⟩]
end Hps

set_option maxHeartbeats 1000000 in
theorem flaggedSet_any (A : Option Addr) (n c : Nat) (bs : List Bool) (w : World) (h : OS w w.heap.size A n bs) (hn : n ≤ 64) :
    Calls Try.prog 34 #[.slice A n c] w fun e w' => e = .returned (.int .u64 (Bm.wordN bs true : Nat)) ∧ w = w' := by
  have hlb := h.1
  have HW := Lib.hid (show Bm.wordN bs true = Bm.setN bs true n by rw [Bm.wordN, hlb])
  go_enter Try.func34, Try.ntmps34
  go_wp2_with fail
  go_loopw [3, 8] (fun v i wr => ∃ k : Nat, k ≤ n ∧ i = .int .i64 k ∧ v = .int .u64 (Bm.setN bs true k : Nat) ∧ wr = w) (fun _ i _ => n - (intOf i).toNat)
  case atStart => exact ⟨0, Nat.zero_le _, rfl, rfl, rfl⟩
  case round =>
    obtain ⟨k, hk, rfl, rfl, rfl⟩ := hrel
    by_cases hlt : k < n
    · obtain ⟨g, o, b, rfl, hg, hb, d1⟩ := h.at_ hlt
      have hlt' : (k : Int) < n := by omega
      have hV := Bm.setN_64 bs true (k := k) (by omega)
      obtain ⟨p1, p2, p3⟩ := Hps.pow_in (k := k) (by omega)
      have hor := Hps.or_in (V := Bm.setN bs true k) (k := k) hV (by omega)
      have hkneg : ¬ ((k : Int) < 0) := by omega
      cases b
      · have HN := Lib.hid (show Bm.setN bs true (k + 1) = Bm.setN bs true k by rw [Bm.setN, if_neg (by rw [hb]; decide)])
        clear hb
        go_wp2_with fail
        go_roundw
        case rel => exact ⟨k + 1, by omega, by go_num, by rw [HN.out], trivial⟩
        case measure => simp [intOf]; omega
      · have HN := Lib.hid (show Bm.setN bs true (k + 1) = Bm.setN bs true k ||| 2 ^ k by rw [Bm.setN, if_pos hb])
        clear hb
        go_wp2_with fail
        go_roundw
        case rel => exact ⟨k + 1, by omega, by go_num, by rw [HN.out], trivial⟩
        case measure => simp [intOf]; omega
    · obtain rfl : k = n := by omega
      go_wp2_with fail
      go_ret
      exact ⟨by rw [HW.out]; rfl, rfl⟩

set_option maxHeartbeats 2000000 in
theorem trialCounts_any (A R F : Option Addr) (n c m d q e : Nat) (h : Hp) (bs : List Bool) (w : World) (hs : HS w w.heap.size A n R m h) (ho : OS w w.heap.size F q bs) (hn : n ≤ 1099511627776) (hm : m ≤ 1099511627776) (hq : q ≤ 1099511627776) (hc : n ≤ c) (hd : m ≤ d) :
    Calls Try.prog 8 #[heapV A n c R m d, .slice F q e] w (GaveI w (Hps.trialH h bs)) := by
  have hlc := hs.cells.1
  have hlb := ho.1
  have b0 : Below w.heap.size w (w.alloc (.cells #[.slice A n c, .slice R m d] 26)) := (Below.refl _ _).alloc (Nat.le_refl _) _
  have r0 := hs.up b0
  have f0 := ho.up b0
  have hw0 := Rw.new w 26 #[.slice A n c, .slice R m d]
  cases hv : Hps.validH h
  · have HR := Lib.hid (show Hps.trialH h bs = [] by rw [Hps.trialH, hv]; rfl)
    have HV := Lib.hid hv
    clear hv
    go_enter Try.func8, Try.ntmps8
    go_wp2_with fail
    refine (heapValid_any _ _ _ _ _ _ h _ r0 hn hm hc hd).mono ?_
    rw [HV.out]
    rintro e w1 ⟨rfl, b1⟩
    have bb1 := b0.trans (b1.mono b0.size)
    go_wp2_with fail
    go_ret
    exact ⟨_, rfl, by rw [HR.out]; exact World.ownsRow_nil _ _ _ _, bb1⟩
  · have s1 := (Hps.valid_small hv).1
    have HV := Lib.hid hv
    by_cases hqn : q = n
    · subst hqn
      have hsl : bs.length = h.cs.length := by omega
      have HOK := Lib.hid (Hps.okSet_word hsl s1)
      have hVl : Bm.wordN bs true < 18446744073709551616 := Bm.wordN_lt _ _ (by omega)
      have hUl := Hps.usedW_lt (cs := h.cs) (by omega)
      have HOUT : Hid (Hps.outW h (Bm.wordN bs true) q = Hps.outOf h bs) := Lib.hid (by
        rw [Hps.outOf, hlc]
        exact Hps.outW_eq (fun i => Bm.wordN_bit _ _ _) _)
      have HMF := Lib.hid (Hps.mixL_fin (s := bs) hlc)
      have hcn := u64_andNot_nat _ _ hVl hUl
      have HRT : Hid (Hps.okSet h bs = true → Hps.trialH h bs = Hps.trialL h bs) := Lib.hid fun hk => by rw [Hps.trialH, hv, hk]; rfl
      have HRF : Hid (Hps.okSet h bs = false → Hps.trialH h bs = []) := Lib.hid fun hk => by rw [Hps.trialH, hv, hk]; rfl
      obtain ⟨V, hV⟩ : ∃ V, Bm.wordN bs true = V := ⟨_, rfl⟩
      obtain ⟨U, hU⟩ : ∃ U, Hps.usedW h.cs = U := ⟨_, rfl⟩
      have HVV := Lib.hid hV
      have HUU := Lib.hid hU
      rw [hV] at hVl HOUT HMF HOK hcn
      rw [hU] at hUl hcn HOK
      obtain ⟨X, hX⟩ : ∃ X, V &&& (18446744073709551615 - U) = X := ⟨_, rfl⟩
      rw [hX] at hcn HOK
      have HQQ := Lib.hid hlb
      clear hv hV hU hX hsl hlb
      go_enter Try.func8, Try.ntmps8
      go_wp2_with fail
      refine (heapValid_any _ _ _ _ _ _ h _ r0 hn hm hc hd).mono ?_
      rw [HV.out]
      rintro e w1 ⟨rfl, b1⟩
      have bb1 := b0.trans (b1.mono b0.size)
      have r1 := r0.up b1
      have f1 := f0.up b1
      have hw1 := hw0.keep b1 (by simp)
      have z0 : w1.cell? ⟨w.heap.size, 0, none⟩ = some (.slice A q c) := hw1.cell 0
      clear r0 f0 hw0
      go_wp2_with fail
      refine (flaggedSet_any _ _ _ bs w1 f1 (by omega)).mono ?_
      rw [HVV.out]
      rintro e w2 ⟨rfl, rfl⟩
      go_wp2_with fail
      refine (usedSet_any _ _ _ h.cs w1 r1.cells (by omega)).mono ?_
      rw [HUU.out]
      rintro e w2 ⟨rfl, b2⟩
      have bb2 := bb1.trans (b2.mono bb1.size)
      have r2 := r1.up b2
      have hw2 := hw1.keep b2 hw1.lt
      have y0 : w2.cell? ⟨w.heap.size, 0, none⟩ = some (.slice A q c) := hw2.cell 0
      have y1 : w2.cell? ⟨w.heap.size, 1, none⟩ = some (.slice R m d) := hw2.cell 1
      clear r1 hw1 z0
      by_cases hx : X = 0
      · subst hx
        have HR := Lib.hid (HRT.out (by rw [HOK.out]; rfl))
        go_wp2_with fail
        refine (countsWithout_any A R q c m d V h w2 r2 HV.out hVl).mono ?_
        rw [HOUT.out]
        rintro e w3 ⟨v3, rfl, o3, b3⟩
        have bb3 := bb2.trans (b3.mono bb2.size)
        obtain ⟨A3, c3, e3, hA3⟩ := o3.form
        rw [Hps.cntN_len] at e3 hA3
        subst e3
        rw [← Hps.mixL_zero V] at o3
        have HA := Lib.hid hA3
        have o3' := o3.base bb2.size
        clear y0 y1 b3 o3 hA3
        go_wp2_with fail
        go_loopw [32] (fun i wr => ∃ k : Nat, k ≤ q ∧ i = .int .i64 k ∧ OwnI wr w.heap.size (.slice A3 q c3) (Hps.mixL V (Hps.outOf h bs) q k) ∧ Below w.heap.size w wr) (fun i _ => q - (intOf i).toNat)
        case atStart => exact ⟨0, Nat.zero_le _, rfl, o3', bb3⟩
        case round =>
          clear o3' bb3
          obtain ⟨k, hk, rfl, o3, bb⟩ := hrel
          by_cases hlt : k < q
          · obtain ⟨g3, rfl, hg3, _⟩ := HA.out (by omega)
            have hlt' : (k : Int) < q := by omega
            have HB := Lib.hid (show Hps.hasB V (k : Int) = V.testBit k by simp [Hps.hasB])
            have hg3' : w.heap.size ≤ g3 := (World.ownsRow.lt o3 g3 rfl).1
            cases hbit : V.testBit k
            · have HBF := Lib.hid (HB.out.trans hbit)
              obtain ⟨g', o', x, e1, _, _, c1⟩ := o3.reads.at_ (k := k) hlt
              injection e1 with e1
              injection e1 with e2 e3
              subst e2 e3
              rw [Nat.zero_add] at c1
              have fz : wr.frozen? ⟨g3, k, none⟩ = false := o3.frozen (Hps.mixL_len _ _ _ _) k
              have on := Lib.hid (OwnI.cast (Hps.mixL_no (L := Hps.outOf h bs) hbit hlt) (o3.put' (j := k) (Hps.mixL_len _ _ _ _) (-1)))
              have bn := bb.setCell (p := ⟨g3, k, none⟩) hg3' (.int .i64 (-1))
              clear hbit HB o3
              go_wp2_with fail
              refine (has_any V k _ hVl).mono ?_
              rw [HBF.out]
              rintro e w4 ⟨rfl, rfl⟩
              go_wp2_with fail
              go_roundw
              case rel => exact ⟨k + 1, by omega, by go_num, on.out, bn⟩
              case measure => simp [intOf]; omega
            · have HBT := Lib.hid (HB.out.trans hbit)
              have HN := Lib.hid (Hps.mixL_yes (L := Hps.outOf h bs) (n := q) hbit)
              clear hbit HB
              go_wp2_with fail
              refine (has_any V k _ hVl).mono ?_
              rw [HBT.out]
              rintro e w4 ⟨rfl, rfl⟩
              go_wp2_with fail
              go_roundw
              case rel => exact ⟨k + 1, by omega, by go_num, by rw [HN.out]; exact o3, bb⟩
              case measure => simp [intOf]; omega
          · obtain rfl : k = q := by omega
            rw [HMF.out, ← HR.out] at o3
            go_wp2_with fail
            go_ret
            exact ⟨_, rfl, o3, bb⟩
      · have hx0 : ((X : Int) != 0) = true := by rw [bne_iff_ne]; omega
        have HR := Lib.hid (HRF.out (by rw [HOK.out]; exact decide_eq_false hx))
        clear hx
        go_wp2_with fail
        go_ret
        exact ⟨_, rfl, by rw [HR.out]; exact World.ownsRow_nil _ _ _ _, bb2⟩
    · have HR := Lib.hid (show Hps.trialH h bs = [] by
        have : Hps.okSet h bs = false := by
          rw [Hps.okSet, decide_eq_false (show ¬ bs.length = h.cs.length by omega)]
          rfl
        rw [Hps.trialH, hv, this]
        rfl)
      have hne : ((q : Int) != n) = true := by rw [bne_iff_ne]; omega
      clear hv hqn
      go_enter Try.func8, Try.ntmps8
      go_wp2_with fail
      refine (heapValid_any _ _ _ _ _ _ h _ r0 hn hm hc hd).mono ?_
      rw [HV.out]
      rintro e w1 ⟨rfl, b1⟩
      have bb1 := b0.trans (b1.mono b0.size)
      have hw1 := hw0.keep b1 (by simp)
      have z0 : w1.cell? ⟨w.heap.size, 0, none⟩ = some (.slice A n c) := hw1.cell 0
      clear r0 f0 hw0
      go_wp2_with fail
      go_ret
      exact ⟨_, rfl, by rw [HR.out]; exact World.ownsRow_nil _ _ _ _, bb1⟩
end Go.Proofs.Ytiojoailjiojjaa
