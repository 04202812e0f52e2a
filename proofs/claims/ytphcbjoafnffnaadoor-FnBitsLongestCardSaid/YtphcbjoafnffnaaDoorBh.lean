/- The laws of BitsFind (P35) and BitsLongest (P38) return true: for every list of bytes, in every memory in which the table of math/bits lies as laid. -/
import Derived.Test.YtphcbjoafnffnaaDoorBe
import Derived.Test.YtphcbjoafnffnaaDoorBk
namespace Go.Proofs.YtphcbjoafnffnaaDoor
open Go.RowKit
namespace Bm
theorem take_at {xs : List Bool} {k M : Nat} (hl : xs.length ≤ 64) (h1 : 1 ≤ M) : chgOk xs k M true = true ↔ k + M ≤ xs.length ∧ runF xs k M false = true := by
  constructor
  · intro h
    rcases chg_cases xs k M true with ⟨hh, _⟩ | ⟨_, _, S, N, e1, e2, _, _, h3, h4, _⟩
    · rw [hh] at h; cases h
    · obtain rfl : k = S := by omega
      obtain rfl : M = N := by omega
      exact ⟨h3, h4⟩
  · rintro ⟨h3, h4⟩
    exact (chg_yes (b := true) hl h1 h3 h4).1
theorem find_next (xs : List Bool) : findW xs ((longN xs + 1 : Nat) : Int) = -1 := by
  refine findW_none ?_
  cases h : findN xs (longN xs + 1) with
  | none => rfl
  | some k =>
    have := (long_find xs (n := longN xs + 1) (by omega)).2 (by rw [h]; rfl)
    omega
theorem find_long {xs : List Bool} (hl : xs.length ≤ 64) (h : 1 ≤ longN xs) : ∃ k : Nat, findW xs (longN xs : Int) = k := by
  have hs := (long_find xs h).1 (Nat.le_refl _)
  obtain ⟨k, hk⟩ := Option.isSome_iff_exists.1 hs
  have := long_le xs
  exact ⟨k, findW_some (okM_iff.2 ⟨⟨by omega, by omega⟩, hl⟩) hk⟩
theorem rev_succ {xs : List Bool} {j : Nat} {b : Bool} (hj : j < xs.length) (hx : xs[xs.length - 1 - j]? = some b) : xs.reverse.take (j + 1) = xs.reverse.take j ++ [b] := by
  rw [List.take_add_one, List.getElem?_reverse hj, hx]
  rfl
end Bm

set_option maxRecDepth 100000 in
set_option maxHeartbeats 4000000 in
theorem bitsFindLaw_walk (A : Option Addr) (n c : Nat) (w : World) (h : Bytes w w.heap.size A n) (hc : n ≤ c) (hn : n ≤ 9223372036854775807) (hT : TzT w) :
    Calls Tryd.prog 3 #[.slice A n c] w fun e w' => e = .returned (.bool true) ∧ Below w.heap.size w w' := by
  by_cases hs : n ≤ 1048576
  · have hs' : decide ((1048576 : Int) < (n : Int)) = false := by simp; omega
    go_enter Tryd.func3, Tryd.ntmps3
    go_wp2_with fail
    refine (drawBitsFind_any _ _ _ _ h hc hn).mono ?_
    rintro e w1 ⟨A1, n1, c1, xs, m, rfl, o1, hcap, hn65, m0, m1, b1⟩
    have hlx := o1.1
    subst hlx
    obtain ⟨f, hf⟩ : ∃ f, Bm.findW xs m = f := ⟨_, rfl⟩
    have HF := Lib.hid hf
    clear hf
    go_wp2_with fail
    refine (bitsFind_any _ _ _ xs _ _ (hT.below b1) o1 (by omega) hcap).mono ?_
    rw [HF.out]
    rintro e w2 ⟨rfl, b2⟩
    have bb2 := b1.trans (b2.mono b1.size)
    have o2 := o1.up b2
    clear o1
    go_wp2_with fail
    refine (mBitsFind_any _ _ _ xs _ _ o2 (by omega)).mono ?_
    rw [HF.out]
    rintro e w3 ⟨rfl, b3⟩
    have bb3 := bb2.trans (b3.mono bb2.size)
    have o3 := o2.up b3
    clear o2 b1 b2 b3 bb2
    cases ho : Bm.okM xs m
    · obtain rfl : f = -1 := by rw [← HF.out]; exact Bm.findW_bad ho
      have hno : ¬ ((1 ≤ m ∧ m ≤ 64) ∧ xs.length ≤ 64) := fun hh => by rw [Bm.okM_iff.2 hh] at ho; cases ho
      clear ho
      by_cases h1 : m < 1
      · clear hno
        go_wp2_with fail
        refine (alive_any _).mono ?_
        rintro e w4 ⟨rfl, b4⟩
        go_wp2_with fail
        go_ret
        exact ⟨rfl, bb3.trans (b4.mono bb3.size)⟩
      · have h1' : decide (m < 1) = false := decide_eq_false h1
        by_cases h2 : 64 < m
        · clear hno
          go_wp2_with fail
          refine (alive_any _).mono ?_
          rintro e w4 ⟨rfl, b4⟩
          go_wp2_with fail
          go_ret
          exact ⟨rfl, bb3.trans (b4.mono bb3.size)⟩
        · have h2' : decide (64 < m) = false := decide_eq_false h2
          have h3 : (64 : Int) < xs.length := by omega
          clear hno
          go_wp2_with fail
          refine (alive_any _).mono ?_
          rintro e w4 ⟨rfl, b4⟩
          go_wp2_with fail
          go_ret
          exact ⟨rfl, bb3.trans (b4.mono bb3.size)⟩
    · obtain ⟨⟨h1, h2⟩, h64⟩ := Bm.okM_iff.1 ho
      obtain ⟨M, rfl⟩ := Int.eq_ofNat_of_zero_le m0
      have hM1 : 1 ≤ M := by omega
      have hM2 : M ≤ 64 := by omega
      have h1' : decide ((M : Int) < 1) = false := decide_eq_false (by omega)
      have h2' : decide ((64 : Int) < M) = false := decide_eq_false (by omega)
      have h3' : decide ((64 : Int) < (xs.length : Int)) = false := decide_eq_false (by omega)
      have HO := Lib.hid ho
      have HLO := Lib.hid (show Bm.longW xs = (Bm.longN xs : Int) by rw [Bm.longW, if_pos h64])
      have HLF := Lib.hid (Bm.long_find xs hM1)
      have OO := Lib.hid o3
      obtain ⟨Ln, hLn⟩ : ∃ Ln, Bm.longN xs = Ln := ⟨_, rfl⟩
      rw [hLn] at HLO HLF
      clear ho hLn o3 m0
      go_wp2_with fail
      go_loopw [6] (fun i wr => ∃ k : Nat, k ≤ xs.length ∧ i = .int .i64 k ∧ Hid (∀ j, j < k → Bm.chgOk xs j M true = false) ∧ Below w3.heap.size w3 wr) (fun i _ => xs.length - (intOf i).toNat)
      case atStart => exact ⟨0, Nat.zero_le _, rfl, Lib.hid (fun j hj => by omega), Below.refl _ _⟩
      case round =>
        obtain ⟨k, hk, rfl, HJ, hb⟩ := hrel
        have o4 := OO.out.up hb
        by_cases hlt : k < xs.length
        · have hlt' : (k : Int) < xs.length := by omega
          obtain ⟨ok, hok⟩ : ∃ ok, Bm.chgOk xs k M true = ok := ⟨_, rfl⟩
          have HK := Lib.hid hok
          clear hok
          go_wp2_with fail
          refine (bitsTake_any _ _ _ xs _ _ _ o4 (by omega) hcap).mono ?_
          rw [HK.out]
          rintro e w5 ⟨v5, rfl, p5, b5⟩
          have bb5 := hb.trans (b5.mono hb.size)
          have o5 := o4.up b5
          clear o4 p5 b5
          cases ok
          · have HN := Lib.hid (show ∀ j, j < k + 1 → Bm.chgOk xs j M true = false from fun j hj => by
              rcases Nat.lt_or_ge j k with h | h
              · exact HJ.out j h
              · obtain rfl : j = k := by omega
                exact HK.out)
            go_wp2_with fail
            go_roundw
            case rel => exact ⟨k + 1, by omega, by go_num, HN, bb5⟩
            case measure => simp [intOf]; omega
          · have hkk := (Bm.take_at h64 hM1).1 HK.out
            have hfk : Bm.findN xs M = some k := by
              cases hfn : Bm.findN xs M with
              | none => exact absurd hkk (Bm.find_none hfn k)
              | some j =>
                obtain ⟨a1, a2, a3⟩ := Bm.find_some hfn
                rcases Nat.lt_trichotomy j k with h | h | h
                · have := HJ.out j h
                  rw [(Bm.take_at h64 hM1).2 ⟨a1, a2⟩] at this
                  cases this
                · rw [h]
                · exact absurd hkk (a3 k h)
            obtain rfl : f = k := by rw [← HF.out]; exact Bm.findW_some HO.out hfk
            have hML : M ≤ Ln := HLF.out.2 (by rw [hfk]; rfl)
            have hML' : (M : Int) ≤ Ln := by omega
            clear hkk hfk hML
            go_wp2_with fail
            refine (bitsLongest_any _ _ _ xs _ o5 (by omega) hcap).mono ?_
            rw [HLO.out]
            rintro e w6 ⟨rfl, b6⟩
            have bb6 := bb5.trans (b6.mono bb5.size)
            go_wp2_with fail
            go_ret
            exact ⟨rfl, bb3.trans (bb6.mono bb3.size)⟩
        · obtain rfl : k = xs.length := by omega
          have hfk : Bm.findN xs M = none := by
            cases hfn : Bm.findN xs M with
            | none => rfl
            | some j =>
              obtain ⟨a1, a2, _⟩ := Bm.find_some hfn
              have := HJ.out j (by omega)
              rw [(Bm.take_at h64 hM1).2 ⟨a1, a2⟩] at this
              cases this
          obtain rfl : f = -1 := by rw [← HF.out]; exact Bm.findW_none hfk
          have hML : Ln < M := by
            rcases Nat.lt_or_ge Ln M with h | h
            · exact h
            · have := HLF.out.1 h
              rw [hfk] at this
              cases this
          have hML' : (Ln : Int) < M := by omega
          clear hfk hML
          go_wp2_with fail
          refine (bitsLongest_any _ _ _ xs _ o4 (by omega) hcap).mono ?_
          rw [HLO.out]
          rintro e w6 ⟨rfl, b6⟩
          have bb6 := hb.trans (b6.mono hb.size)
          go_wp2_with fail
          go_ret
          exact ⟨rfl, bb3.trans (bb6.mono bb3.size)⟩
  · go_enter Tryd.func3, Tryd.ntmps3
    go_wp2
    go_ret
    exact ⟨rfl, Below.refl _ _⟩

set_option maxRecDepth 100000 in
set_option maxHeartbeats 4000000 in
theorem bitsLongestLaw_walk (A : Option Addr) (n c : Nat) (w : World) (h : Bytes w w.heap.size A n) (hc : n ≤ c) (hn : n ≤ 9223372036854775807) (hT : TzT w) :
    Calls Tryd.prog 4 #[.slice A n c] w fun e w' => e = .returned (.bool true) ∧ Below w.heap.size w w' := by
  by_cases hs : n ≤ 1048576
  · have hs' : decide ((1048576 : Int) < (n : Int)) = false := by simp; omega
    go_enter Tryd.func4, Tryd.ntmps4
    go_wp2_with fail
    refine (drawBitsLongest_any _ _ _ _ h hc hn).mono ?_
    rintro e w1 ⟨A1, n1, c1, xs, rfl, o1, hcap, hn65, b1⟩
    have hlx := o1.1
    subst hlx
    obtain ⟨f, hf⟩ : ∃ f, Bm.longW xs = f := ⟨_, rfl⟩
    have HF := Lib.hid hf
    clear hf
    go_wp2_with fail
    refine (bitsLongest_any _ _ _ xs _ o1 (by omega) hcap).mono ?_
    rw [HF.out]
    rintro e w2 ⟨rfl, b2⟩
    have bb2 := b1.trans (b2.mono b1.size)
    have o2 := o1.up b2
    clear o1
    go_wp2_with fail
    refine (mBitsLongest_any _ _ _ xs _ o2 (by omega)).mono ?_
    rw [HF.out]
    rintro e w3 ⟨rfl, b3⟩
    have bb3 := bb2.trans (b3.mono bb2.size)
    have o3 := o2.up b3
    have hT3 := Lib.hid (hT.below bb3)
    clear o2 b1 b2 b3 bb2
    by_cases h64 : xs.length ≤ 64
    · obtain ⟨Ln, hLn⟩ : ∃ Ln, Bm.longN xs = Ln := ⟨_, rfl⟩
      obtain rfl : f = (Ln : Int) := by rw [← HF.out, Bm.longW, if_pos h64, hLn]
      have HNX := Lib.hid (Bm.find_next xs)
      have HFL := Lib.hid (fun hh => Bm.find_long (xs := xs) h64 hh)
      have HRV := Lib.hid (show Bm.longW xs.reverse = (Ln : Int) by rw [Bm.longW, List.length_reverse, if_pos h64, Bm.long_rev, hLn])
      have hle := Bm.long_le xs
      rw [hLn] at HNX HFL hle
      have OO := Lib.hid o3
      have h0' : decide ((Ln : Int) < 0) = false := decide_eq_false (by omega)
      have n0 := own_noneO w3 w3.heap.size (Nat.le_refl _)
      have m0 : Below w3.heap.size w3 (w3.alloc (.cells #[] 4)) := (Below.refl _ _).alloc (Nat.le_refl _) _
      clear hLn o3 HF
      go_wp2_with fail
      go_loopw [5, 6] (fun u i wr => ∃ j : Nat, j ≤ xs.length ∧ i = .int .i64 ((xs.length : Int) - 1 - j) ∧ OwnO wr w3.heap.size u (xs.reverse.take j) ∧ Below w3.heap.size w3 wr) (fun _ i _ => (intOf i + 1).toNat)
      case atStart => exact ⟨0, Nat.zero_le _, int_eq (by omega), n0, m0⟩
      case round =>
        clear n0 m0
        obtain ⟨j, hj, rfl, ho, hb⟩ := hrel
        have o4 := OO.out.up hb
        by_cases hlt : j < xs.length
        · obtain ⟨g, o, b, e1, hg, hx, c1'⟩ := o4.at_ (k := xs.length - 1 - j) (by omega)
          subst e1
          have HX := Lib.hid (Bm.rev_succ hlt hx)
          obtain ⟨K, hK⟩ : ∃ K, xs.length - 1 - j = K := ⟨_, rfl⟩
          have hKi : (xs.length : Int) - 1 - j = K := by omega
          have hKl : (K : Int) < xs.length := by omega
          rw [hK] at c1'
          rw [hKi]
          have HKI := Lib.hid hKi
          have ow := World.ownsRow.alloc ho (.cells #[.bool b] 4)
          have rr : OS (wr.alloc (.cells #[.bool b] 4)) (wr.alloc (.cells #[.bool b] 4)).heap.size (some ⟨wr.heap.size, 0, none⟩) 1 [b] := (own_oneO wr b 0 (Nat.zero_le _)).reads
          have hsz := hb.size
          have hyn : (xs.reverse.take j).length + 1 ≤ 1099511627776 := by rw [List.length_take]; omega
          clear hx hK hKi
          go_wp2_with (at_builtin; refine wpList_appendO rfl (.tmp 33) (.tmp 38) rfl w3.heap.size _ _ rfl ow (some ⟨wr.heap.size, 0, none⟩) 1 1 _ [b] rfl rr hyn (by simp; omega) ?_; intro v5 w5 o5 g5 s5)
          have bn : Below w3.heap.size w3 w5 := (hb.alloc hb.size _).grown g5 (by simp; omega) (fun k hk => (World.ownsRow.lt ho k hk).1)
          have on := OwnO.cast HX.out.symm o5
          clear ow rr g5 s5 o5 ho
          go_roundw
          case rel => exact ⟨j + 1, by omega, int_eq (by have := HKI.out; omega), on, bn⟩
          case measure => have := HKI.out; simp [intOf] <;> omega
        · obtain rfl : j = xs.length := by omega
          rw [List.take_of_length_le (by simp)] at ho
          obtain ⟨A6, c6, rfl, f6⟩ := ho.form
          have hcap6 := ho.cap.2
          have hgeq : decide ((0 : Int) ≤ (xs.length : Int) - 1 - xs.length) = false := decide_eq_false (by omega)
          have hrl : xs.reverse.length = xs.length := List.length_reverse
          obtain ⟨rs, hrs⟩ : ∃ rs, xs.reverse = rs := ⟨_, rfl⟩
          rw [hrs] at ho hcap6 HRV hrl ⊢
          have RR := ho.reads
          rw [hrl] at RR hcap6
          have HRR := Lib.hid RR
          clear f6 RR ho hrs
          by_cases hL0 : Ln = 0
          · subst hL0
            go_wp2_with fail
            refine (bitsFind_any _ _ _ xs _ _ (hT3.out.below hb) o4 (by omega) hcap).mono ?_
            rw [show Bm.findW xs 1 = -1 from HNX.out]
            rintro e w5 ⟨rfl, b5⟩
            have bb5 := hb.trans (b5.mono hb.size)
            go_wp2_with fail
            refine (bitsLongest_any _ _ _ rs _ (HRR.out.up b5) (by omega) hcap6).mono ?_
            rw [show Bm.longW rs = 0 from HRV.out]
            rintro e w6 ⟨rfl, b6⟩
            have bb6 := bb5.trans (b6.mono bb5.size)
            go_wp2_with fail
            go_ret
            exact ⟨rfl, bb3.trans (bb6.mono bb3.size)⟩
          · obtain ⟨k, hk⟩ := HFL.out (by omega)
            have HK := Lib.hid hk
            have hL1 : ((Ln : Int) == 0) = false := by rw [beq_eq_false_iff_ne]; omega
            have hk0 : (0 : Int) ≤ k := by omega
            clear hk
            go_wp2_with fail
            refine (bitsFind_any _ _ _ xs _ _ (hT3.out.below hb) o4 (by omega) hcap).mono ?_
            rw [HK.out]
            rintro e w5 ⟨rfl, b5⟩
            have bb5 := hb.trans (b5.mono hb.size)
            have o5 := o4.up b5
            go_wp2_with fail
            refine (bitsFind_any _ _ _ xs _ _ ((hT3.out.below hb).below b5) o5 (by omega) hcap).mono ?_
            rw [show Bm.findW xs ((Ln : Int) + 1) = -1 from HNX.out]
            rintro e w6 ⟨rfl, b6⟩
            have bb6 := bb5.trans (b6.mono bb5.size)
            go_wp2_with fail
            refine (bitsLongest_any _ _ _ rs _ ((HRR.out.up b5).up b6) (by omega) hcap6).mono ?_
            rw [HRV.out]
            rintro e w7 ⟨rfl, b7⟩
            have bb7 := bb6.trans (b7.mono bb6.size)
            go_wp2_with fail
            go_ret
            exact ⟨rfl, bb3.trans (bb7.mono bb3.size)⟩
    · obtain rfl : f = -1 := by rw [← HF.out, Bm.longW, if_neg h64]
      go_wp2_with fail
      refine (alive_any _).mono ?_
      rintro e w4 ⟨rfl, b4⟩
      go_wp2_with fail
      go_ret
      exact ⟨rfl, bb3.trans (b4.mono bb3.size)⟩
  · go_enter Tryd.func4, Tryd.ntmps4
    go_wp2
    go_ret
    exact ⟨rfl, Below.refl _ _⟩
end Go.Proofs.YtphcbjoafnffnaaDoor
