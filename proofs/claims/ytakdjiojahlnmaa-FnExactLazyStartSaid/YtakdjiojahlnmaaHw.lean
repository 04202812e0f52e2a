/- A work list beside a set of cells (a word of bits), and how many bits are set: OnesCount64, count. No conditions. -/
import Derived.Test.YtakdjiojahlnmaaGg
import Derived.Test.YtakdjiojahlnmaaHg
namespace Go.Proofs.Ytakdjiojahlnmaa
open Go.RowKit
set_option maxRecDepth 100000

namespace Hps
theorem pc_succ (V k : Nat) : pcN V (k + 1) = pcN V k + (if V.testBit k = true then 1 else 0) := by
  unfold pcN
  rw [List.range_succ, List.countP_append, List.countP_singleton]
theorem pc_same {V W n : Nat} (h : ∀ i, i < n → V.testBit i = W.testBit i) : pcN V n = pcN W n := by
  unfold pcN
  apply List.countP_congr
  intro i hi
  rw [h i (List.mem_range.1 hi)]
theorem or_bit (V k i : Nat) : (V ||| 2 ^ k).testBit i = (V.testBit i || decide (k = i)) := by rw [Nat.testBit_or, Nat.testBit_two_pow]
theorem pc_mark {V k : Nat} (h : V.testBit k = false) : ∀ {n : Nat}, k < n → pcN (V ||| 2 ^ k) n = pcN V n + 1
  | 0, hn => by omega
  | n + 1, hn => by
    rw [pc_succ, pc_succ, or_bit]
    by_cases e : k = n
    · subst e
      rw [h, pc_same (W := V) fun i hi => by rw [or_bit, decide_eq_false (show ¬ k = i by omega), Bool.or_false]]
      simp
    · rw [pc_mark h (show k < n by omega), decide_eq_false e, Bool.or_false]
      omega
theorem pc_zero : ∀ n, pcN 0 n = 0
  | 0 => rfl
  | n + 1 => by rw [pc_succ, pc_zero n]; simp
theorem pc_word (xs : List Bool) : ∀ m, pcN (Bm.wordN xs true) m = (xs.take m).count true
  | 0 => rfl
  | m + 1 => by
    rw [pc_succ, pc_word xs m, Bm.wordN_bit, List.take_add_one, List.count_append]
    cases h : xs[m]? with
    | none => simp
    | some b => cases b <;> simp
theorem used_count {cs : List Cl} {n : Nat} (h : cs.length = n) (hn : n ≤ 64) : pcN (usedW cs) 64 = usedTo cs n := by
  unfold usedW usedTo
  rw [pc_word, List.take_of_length_le (by simp; omega), List.take_of_length_le (by omega), List.count_eq_countP, List.countP_map]
  apply List.countP_congr
  intro c _
  simp
theorem live_count {bs : List Bool} {n : Nat} (h : bs.length = n) (hn : n ≤ 64) : pcN (Bm.wordN bs true) 64 = liveTo bs n := by
  unfold liveTo
  rw [pc_word, List.take_of_length_le (by omega), List.take_of_length_le (by omega)]

/-- cells and references into them: small, and each -1 or the number of a used cell -/
structure OkG (h : Hp) : Prop where
  len : h.cs.length ≤ 40
  few : h.rt.length ≤ 40
  small : ∀ c ∈ h.cs, c.r.length ≤ 3
  rts : okRefs h.cs h.rt = true
  rfs : ∀ c ∈ h.cs, okRefs h.cs c.r = true
theorem OkG.valid {h : Hp} (hv : validH h = true) : OkG h := ⟨(valid_small hv).1, by rw [(valid_small hv).2.1]; omega, (valid_small hv).2.2, (valid_iff.1 hv).2.2.2, valid_refs hv⟩
theorem OkG.one {h : Hp} (hv : OkG h) {k : Nat} (hk : usedAt h.cs k = true) : OkG ⟨h.cs, [(k : Int)]⟩ :=
  ⟨hv.len, by simp, hv.small, okRefs_iff.2 fun x hx => by rw [List.mem_singleton] at hx; subst hx; exact okRef_iff.2 (.inr ⟨by omega, by simpa using hk⟩), hv.rfs⟩
/-- a work list beside the set of what has been reached -/
structure Stk (h : Hp) (V : Nat) (l : List Int) : Prop where
  lo : V < 2 ^ h.cs.length
  rch : ∀ k : Nat, V.testBit k = true → Rch h.cs h.rt k
  lst : ∀ x ∈ l, x = -1 ∨ ∃ k : Nat, x = k ∧ Rch h.cs h.rt k
  roots : ∀ k : Nat, (k : Int) ∈ h.rt → V.testBit k = true ∨ (k : Int) ∈ l
  step : ∀ (k m : Nat) (c : Cl), V.testBit k = true → h.cs[k]? = some c → (m : Int) ∈ c.r → V.testBit m = true ∨ (m : Int) ∈ l
  len : l.length ≤ 40 + 4 * pcN V h.cs.length
theorem Stk.start {h : Hp} (hv : OkG h) : Stk h 0 h.rt := by
  refine ⟨Nat.pow_pos (by omega), fun k hk => by simp at hk, fun x hx => ?_, fun k hk => .inr hk, fun k m c hk => by simp at hk, by have := hv.few; omega⟩
  rcases okRef_iff.1 (okRefs_iff.1 hv.rts x hx) with h1 | ⟨h1, _⟩
  · exact .inl h1
  · exact .inr ⟨x.toNat, by omega, .root (by rwa [show ((x.toNat : Nat) : Int) = x by omega])⟩
/-- the last of the list is nothing new -/
theorem Stk.pop {h : Hp} {V : Nat} {l : List Int} {x : Int} (s : Stk h V (l ++ [x])) (hx : x = -1 ∨ hasB V x = true) : Stk h V l := by
  have hm : ∀ k : Nat, (k : Int) ∈ l ++ [x] → V.testBit k = true ∨ (k : Int) ∈ l := fun k hk => by
    rw [List.mem_append, List.mem_singleton] at hk
    rcases hk with hk | hk
    · exact .inr hk
    · left
      rcases hx with h1 | h1
      · omega
      · subst hk
        simpa [hasB] using h1
  refine ⟨s.lo, s.rch, fun y hy => s.lst y (by simp [hy]), fun k hk => ?_, fun k m c h1 h2 h3 => ?_, by have := s.len; simp at this; omega⟩
  · rcases s.roots k hk with h1 | h1
    · exact .inl h1
    · exact hm k h1
  · rcases s.step k m c h1 h2 h3 with h1 | h1
    · exact .inl h1
    · exact hm m h1
/-- the last of the list is a cell that had not been reached -/
theorem Stk.mark {h : Hp} (hv : OkG h) {V k : Nat} {l : List Int} {c : Cl} (s : Stk h V (l ++ [(k : Int)])) (hk : V.testBit k = false) (hc : h.cs[k]? = some c) : Stk h (V ||| 2 ^ k) (l ++ c.r) := by
  have hlt : k < h.cs.length := (List.getElem?_eq_some_iff.1 hc).1
  have hr : Rch h.cs h.rt k := by
    rcases s.lst (k : Int) (by simp) with h1 | ⟨j, h1, h2⟩
    · omega
    · rwa [show k = j by omega]
  have hm : ∀ j : Nat, V.testBit j = true ∨ (j : Int) ∈ l ++ [(k : Int)] → (V ||| 2 ^ k).testBit j = true ∨ (j : Int) ∈ l ++ c.r := fun j hj => by
    rw [or_bit]
    rcases hj with hj | hj
    · left; rw [hj]; rfl
    · rw [List.mem_append, List.mem_singleton] at hj
      rcases hj with hj | hj
      · right; simp [hj]
      · left; simp; right; omega
  refine ⟨Nat.or_lt_two_pow s.lo (Nat.pow_lt_pow_right (by omega) hlt), fun j hj => ?_, fun x hx => ?_, fun j hj => hm j (s.roots j hj), fun j m c' h1 h2 h3 => ?_, ?_⟩
  · rw [or_bit] at hj
    rw [Bool.or_eq_true, decide_eq_true_eq] at hj
    rcases hj with hj | hj
    · exact s.rch j hj
    · rwa [← hj]
  · rw [List.mem_append] at hx
    rcases hx with hx | hx
    · exact s.lst x (by simp [hx])
    · rcases okRef_iff.1 (okRefs_iff.1 (hv.rfs c (List.mem_of_getElem? hc)) x hx) with h1 | ⟨h1, _⟩
      · exact .inl h1
      · exact .inr ⟨x.toNat, by omega, .step hr hc (by rwa [show ((x.toNat : Nat) : Int) = x by omega])⟩
  · rw [or_bit, Bool.or_eq_true, decide_eq_true_eq] at h1
    rcases h1 with h1 | h1
    · exact hm m (s.step j m c' h1 h2 h3)
    · subst h1
      rw [hc] at h2
      injection h2 with h2
      subst h2
      right
      simp [h3]
  · rw [pc_mark hk hlt]
    have := s.len
    have h3 := hv.small c (List.mem_of_getElem? hc)
    simp at this
    simp
    omega
/-- a cell of the list is there -/
theorem Stk.at_ {h : Hp} (hv : OkG h) {V : Nat} {l : List Int} {x : Int} (s : Stk h V (l ++ [x])) (h1 : x ≠ -1) : ∃ k : Nat, x = k ∧ k < h.cs.length := by
  rcases s.lst x (by simp) with h2 | ⟨k, h2, h3⟩
  · exact absurd h2 h1
  · exact ⟨k, h2, usedAt_lt (h3.used hv.rts hv.rfs)⟩
/-- the set of what can be reached -/
noncomputable def reachW (h : Hp) : Nat := Bm.wordN (reachL h.cs h.rt) true
theorem reachW_lt {h : Hp} (hn : h.cs.length ≤ 64) : reachW h < 18446744073709551616 := Bm.wordN_lt _ _ (by rw [reachL_len]; exact hn)
theorem Stk.fin {h : Hp} {V : Nat} (s : Stk h V []) : V = reachW h := by
  apply Nat.eq_of_testBit_eq
  intro k
  unfold reachW
  rw [Bm.wordN_bit, Bool.eq_iff_iff, decide_eq_true_eq]
  rcases Nat.lt_or_ge k h.cs.length with hk | hk
  · rw [reachL_true hk]
    refine ⟨s.rch k, fun hr => Rch.inside (S := fun k => V.testBit k = true) (fun j hj => ?_) (fun j m c h1 h2 h3 => ?_) hr⟩
    · simpa using s.roots j hj
    · simpa using s.step j m c h1 h2 h3
  · have e1 : V.testBit k = false := Nat.testBit_lt_two_pow (Nat.lt_of_lt_of_le s.lo (Nat.pow_le_pow_right (by omega) hk))
    rw [e1, List.getElem?_eq_none (by rw [reachL_len]; exact hk)]
    simp
theorem reach_flags {h : Hp} {n : Nat} (hn : h.cs.length = n) : (List.range n).map (reachW h).testBit = reachL h.cs h.rt :=
  Bm.word_list _ (by rw [reachL_len, hn]) _ fun i _ => by unfold reachW; rw [Bm.wordN_bit]
end Hps

namespace Pc
theorem i64_and127 (x : Nat) (h : x < 9223372036854775808) : bits .and .i64 (x : Int) 127 = ((x % 128 : Nat) : Int) := by
  show IntKind.i64.wrap ((BitVec.ofInt 64 (x : Int) &&& BitVec.ofInt 64 ((127 : Nat) : Int)).toNat : Int) = _
  rw [BitVec.toNat_and, ofInt_u64 x (by omega), ofInt_u64 127 (by omega), nat_mask7]
  exact IntWalk.i64_in _ (by omega)
theorem s1_le (x m : Nat) : s1 x m ≤ x / 2 + x := Nat.add_le_add Nat.and_le_left Nat.and_le_left
theorem walk {V : Nat} (hV : V < 18446744073709551616) : ∃ y1 y2 y3 z z2 : Nat,
    IntKind.u64.wrap (bits .and .u64 ((V : Int) / 2) 6148914691236517205 + bits .and .u64 (V : Int) 6148914691236517205) = (y1 : Int) ∧
    IntKind.u64.wrap (bits .and .u64 ((y1 : Int) / 4) 3689348814741910323 + bits .and .u64 (y1 : Int) 3689348814741910323) = (y2 : Int) ∧
    bits .and .u64 (IntKind.u64.wrap ((y2 : Int) / 16 + (y2 : Int))) 1085102592571150095 = (y3 : Int) ∧
    IntKind.u64.wrap ((y3 : Int) + (y3 : Int) / 256) = (z : Int) ∧
    IntKind.u64.wrap ((z : Int) + (z : Int) / 65536) = (z2 : Int) ∧
    bits .and .i64 (wrap64 (IntKind.u64.wrap ((z2 : Int) + (z2 : Int) / 4294967296))) 127 = (pcN V 64 : Nat) := by
  obtain ⟨y1, h1⟩ : ∃ y, y = s1 V 6148914691236517205 := ⟨_, rfl⟩
  obtain ⟨y2, h2⟩ : ∃ y, y = s2 y1 3689348814741910323 := ⟨_, rfl⟩
  obtain ⟨y3, h3⟩ : ∃ y, y = s3 y2 1085102592571150095 := ⟨_, rfl⟩
  obtain ⟨z, hz⟩ : ∃ z, z = y3 + y3 / 256 := ⟨_, rfl⟩
  obtain ⟨z2, hz2⟩ : ∃ z2, z2 = z + z / 65536 := ⟨_, rfl⟩
  have hall := sums V hV y3 z z2 (by rw [h3, h2, h1]) hz hz2
  obtain ⟨q1, q2, q3, q4⟩ := hall
  have a1 : V / 2 &&& 6148914691236517205 ≤ 6148914691236517205 := Nat.and_le_right
  have a2 : V &&& 6148914691236517205 ≤ 6148914691236517205 := Nat.and_le_right
  have b1 : y1 / 4 &&& 3689348814741910323 ≤ 3689348814741910323 := Nat.and_le_right
  have b2 : y1 &&& 3689348814741910323 ≤ 3689348814741910323 := Nat.and_le_right
  refine ⟨y1, y2, y3, z, z2, ?_, ?_, ?_, ?_, ?_, ?_⟩
  · have e1 := u64_and_nat (V / 2) 6148914691236517205 (by omega) (by omega)
    have e2 := u64_and_nat V 6148914691236517205 hV (by omega)
    rw [show (V : Int) / 2 = ((V / 2 : Nat) : Int) by omega, show (6148914691236517205 : Int) = ((6148914691236517205 : Nat) : Int) from rfl, e1, e2, IntKind.wrap_u64, h1]
    unfold s1
    omega
  · have hy1 : y1 < 18446744073709551616 := by rw [h1]; unfold s1; omega
    have e1 := u64_and_nat (y1 / 4) 3689348814741910323 (by omega) (by omega)
    have e2 := u64_and_nat y1 3689348814741910323 hy1 (by omega)
    rw [show (y1 : Int) / 4 = ((y1 / 4 : Nat) : Int) by omega, show (3689348814741910323 : Int) = ((3689348814741910323 : Nat) : Int) from rfl, e1, e2, IntKind.wrap_u64, h2]
    unfold s2
    omega
  · have hy2 : y2 ≤ 7378697629483820646 := by rw [h2]; unfold s2; omega
    have e0 : IntKind.u64.wrap ((y2 : Int) / 16 + (y2 : Int)) = ((y2 / 16 + y2 : Nat) : Int) := by rw [IntKind.wrap_u64]; omega
    have e1 := u64_and_nat (y2 / 16 + y2) 1085102592571150095 (by omega) (by omega)
    rw [e0, show (1085102592571150095 : Int) = ((1085102592571150095 : Nat) : Int) from rfl, e1, h3]
    rfl
  · rw [IntKind.wrap_u64]; omega
  · rw [IntKind.wrap_u64]; omega
  · have e0 : IntKind.u64.wrap ((z2 : Int) + (z2 : Int) / 4294967296) = ((z2 + z2 / 4294967296 : Nat) : Int) := by rw [IntKind.wrap_u64]; omega
    rw [e0, show wrap64 ((z2 + z2 / 4294967296 : Nat) : Int) = ((z2 + z2 / 4294967296 : Nat) : Int) by unfold wrap64; omega, i64_and127 _ q3, q4]
end Pc

set_option maxHeartbeats 1000000 in
theorem onesCount_any (V : Nat) (w : World) (hV : V < 18446744073709551616) :
    Calls Try.prog 92 #[.int .u64 V] w fun e w' => e = .returned (.int .i64 (pcN V 64 : Nat)) ∧ w = w' := by
  obtain ⟨y1, y2, y3, z, z2, E1, E2, E3, E4, E5, E6⟩ := Pc.walk hV
  have H := Lib.hid (And.intro E1 (And.intro E2 (And.intro E3 (And.intro E4 (And.intro E5 E6)))))
  clear E1 E2 E3 E4 E5 E6
  go_enter Try.func92, Try.ntmps92
  go_wp2_with fail
  go_ret
  obtain ⟨E1, E2, E3, E4, E5, E6⟩ := H.out
  simp only [E1, E2, E3, E4, E5, E6]
  exact ⟨rfl, trivial⟩
theorem count_any (V : Nat) (w : World) (hV : V < 18446744073709551616) :
    Calls Try.prog 60 #[.int .u64 V] w fun e w' => e = .returned (.int .i64 (pcN V 64 : Nat)) ∧ w = w' := by
  go_enter Try.func60, Try.ntmps60
  go_wp2_with fail
  refine (onesCount_any V _ hV).mono ?_
  rintro e w1 ⟨rfl, rfl⟩
  go_wp2_with fail
  go_ret
  exact ⟨rfl, rfl⟩
end Go.Proofs.Ytakdjiojahlnmaa
