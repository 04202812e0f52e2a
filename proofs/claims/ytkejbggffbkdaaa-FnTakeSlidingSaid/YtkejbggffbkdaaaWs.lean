/- What FirstFit and BestFit return, the program's and the model's: for every slice of blocks and all numbers. -/
import Derived.Test.YtkejbggffbkdaaaWr
import Derived.Test.YtkejbggffbkdaaaWe
import Derived.Deep.QuietTactic
import Derived.BigQuiet
namespace Go.Proofs.Ytkejbggffbkdaaa
open Go.RowKit

theorem run_storeNew {P : Program} (w : World) (t : TypeId) (c c' : Array Value) (hs : c.size = c'.size) (h1 : c'.all (·.oneCell') = true) : (storeCells ⟨w.heap.size, 0, none⟩ c'.toList).run P (w.alloc (.cells c t)) = .ok () (w.alloc (.cells c' t)) := by
  rw [run_storeRow (Rw.new w t c) hs h1, World.setRow_alloc_new]

set_option maxRecDepth 100000 in
set_option maxHeartbeats 2000000 in
theorem firstFit_any (A : Option Addr) (n c : Nat) (xs : List Bl) (t size : Int) (w : World) (h : BS w w.heap.size A n xs) (hn : n ≤ 1099511627776) :
    Calls Try.prog 25 #[.slice A n c, .int .i64 t, .int .i64 size] w fun e w' => e = .returned (.int .i64 (Bks.firstW xs t size)) ∧ Below w.heap.size w w' := by
  cases hv : Bks.validB xs t
  · have HR := Lib.hid (Bks.firstW_not (xs := xs) (t := t) (size := size) (fun hh => by rw [hv] at hh; cases hh.1))
    have HV := Lib.hid hv
    clear hv
    go_enter Try.func25, Try.ntmps25
    go_wp2_with fail
    refine (blocksValid_any _ _ _ xs _ _ h hn).mono ?_
    rw [HV.out]
    rintro e w1 ⟨rfl, b1⟩
    go_wp2_with fail
    go_ret
    exact ⟨by rw [HR.out]; rfl, b1⟩
  · by_cases hsz : 1 ≤ size ∧ size ≤ 256
    · obtain ⟨s, rfl⟩ := Int.eq_ofNat_of_zero_le (show 0 ≤ size by omega)
      have hd : (decide ((1 : Int) ≤ (s : Int)) && decide ((s : Int) ≤ 256)) = true := by simpa using hsz
      have HF := Lib.hid (Bks.first_idx (size := s) hv (by omega) (by omega))
      have HV := Lib.hid hv
      have hl := Bks.valid_len hv
      have hlen := h.1
      have hn5 : n ≤ 256 := by omega
      have hs1 : 1 ≤ s := by omega
      have hs2 : s ≤ 256 := by omega
      rw [hlen] at HF
      clear hv hsz hl hlen
      obtain ⟨hz, hszi⟩ := zero_of_info info_index
      rw [idxCells_zero] at hz
      have HSZ := Lib.hid hszi
      clear hszi
      go_enter Try.func25, Try.ntmps25
      go_wp2_with fail
      refine (blocksValid_any _ _ _ xs _ _ h hn).mono ?_
      rw [HV.out]
      rintro e w1 ⟨rfl, b1⟩
      go_wp2_with fail
      refine (wordsValid_any _ _).mono ?_
      rw [hd]
      rintro e w' ⟨rfl, rfl⟩
      go_wp2_with fail
      refine (index_any _ _ _ xs t _ (h.up b1) hn HV.out).mono ?_
      rintro e w2 ⟨rfl, b2⟩
      have bb2 := b1.trans (b2.mono b1.size)
      have hst := run_storeNew (P := Try.prog) w2 53 (idxCells fun _ => 0) (idxCells (Bks.idx xs n)) (by rw [idxCells_size, idxCells_size]) (idxCells_one _)
      have hsz2 := idxCells_size (Bks.idx xs n)
      have hs2' : (s : Int) ≤ 257 := by omega
      go_wp2_with fail
      clear hz hst hsz2
      have hrow := Rw.new w2 53 (idxCells (Bks.idx xs n))
      have b3 : Below w.heap.size w (w2.alloc (.cells (idxCells (Bks.idx xs n)) 53)) := bb2.alloc bb2.size _
      generalize w2.alloc (.cells (idxCells (Bks.idx xs n)) 53) = w3 at hrow b3
      generalize hm : 257 - s = m at *
      have hm2 : s + m = 257 := by omega
      have hmA : s + m ≤ 257 := by omega
      have hmB : 257 ≤ s + m := by omega
      have HM := Lib.hid hm2
      clear hm hm2 b1 b2 bb2
      have hwl := hrow.lt
      have HRW := Lib.hid hrow
      clear hrow
      go_loop [8, 25] (fun a i => ∃ k : Nat, k ≤ m ∧ i = .int .i64 k ∧ a = .int .i64 (Bks.leastN (Bks.idx xs n) s k)) (fun _ i => m - (intOf i).toNat)
      case atStart => exact ⟨0, Nat.zero_le _, rfl, rfl⟩
      case round =>
        obtain ⟨k, hk, rfl, rfl⟩ := hrel
        by_cases hlt : k < m
        · have c0 := (HRW.out.cell (s + k)).trans (idxCells_at (Bks.idx xs n) (by omega))
          have HS := Lib.hid (show Bks.leastN (Bks.idx xs n) s (k + 1) = if 0 ≤ Bks.idx xs n (s + k) ∧ (Bks.leastN (Bks.idx xs n) s k < 0 ∨ Bks.idx xs n (s + k) < Bks.leastN (Bks.idx xs n) s k) then Bks.idx xs n (s + k) else Bks.leastN (Bks.idx xs n) s k from rfl)
          generalize Bks.idx xs n (s + k) = v at c0 HS
          generalize Bks.leastN (Bks.idx xs n) s k = q at HS
          go_wp2
          all_goals
            go_round
            case rel => exact ⟨k + 1, by omega, by go_num, by rw [HS.out]; first | rw [if_pos (by omega)] | rw [if_neg (by omega)]⟩
            case measure => simp [intOf]; omega
        · obtain rfl : k = m := by omega
          go_wp2
          go_ret
          exact ⟨by rw [HF.out]; rfl, b3⟩
    · have hd : (decide ((1 : Int) ≤ size) && decide (size ≤ 256)) = false := by simpa using hsz
      have HR := Lib.hid (Bks.firstW_not (xs := xs) (t := t) (size := size) (fun hh => hsz hh.2))
      have HV := Lib.hid hv
      clear hv hsz
      go_enter Try.func25, Try.ntmps25
      go_wp2_with fail
      refine (blocksValid_any _ _ _ xs _ _ h hn).mono ?_
      rw [HV.out]
      rintro e w1 ⟨rfl, b1⟩
      go_wp2_with fail
      refine (wordsValid_any _ _).mono ?_
      rw [hd]
      rintro e w' ⟨rfl, rfl⟩
      go_wp2_with fail
      go_ret
      exact ⟨by rw [HR.out]; rfl, b1⟩

set_option maxHeartbeats 2000000 in
theorem mFirstFit_any (A : Option Addr) (n c : Nat) (xs : List Bl) (t size : Int) (w : World) (h : BS w w.heap.size A n xs) (hn : n ≤ 1099511627776) :
    Calls Try.prog 39 #[.slice A n c, .int .i64 t, .int .i64 size] w fun e w' => e = .returned (.int .i64 (Bks.firstW xs t size)) ∧ Below w.heap.size w w' := by
  have HL := Lib.hid h.1
  by_cases hg : Bks.validB xs t = true ∧ 1 ≤ size ∧ size ≤ 256
  · have HF := Lib.hid (show Bks.firstW xs t size = Bks.firstIdx xs size 0 by rw [Bks.firstW, if_pos hg])
    have hd : (decide ((1 : Int) ≤ size) && decide (size ≤ 256)) = true := by simpa using hg.2
    have HV := Lib.hid hg.1
    obtain ⟨_, s1, s2⟩ := hg
    go_enter Try.func39, Try.ntmps39
    go_wp2
    go_loopw [7] (fun i wr => ∃ k : Nat, k ≤ n ∧ i = .int .i64 k ∧ Hid (∀ j y, j < k → xs[j]? = some y → Bks.fits size y = false) ∧ Below w.heap.size w wr) (fun i _ => n - (intOf i).toNat)
    case atStart => exact ⟨0, Nat.zero_le _, rfl, Lib.hid (fun j y hj => by omega), Below.refl _ _⟩
    case round =>
      obtain ⟨k, hk, rfl, hpre, hb⟩ := hrel
      by_cases hlt : k < n
      · go_wp2_with fail
        refine (mBlocksValid_any _ _ _ xs _ _ (h.up hb) hn).mono ?_
        rw [HV.out]
        rintro e w1 ⟨rfl, b1⟩
        have bb1 := hb.trans (b1.mono hb.size)
        obtain ⟨g, o, x, rfl, hgb, hx, ⟨i1, i2⟩, ⟨i3, i4⟩, c1, c2, c3⟩ := (h.below bb1).at_ hlt
        have HX := Lib.hid hx
        clear hx c1
        cases hu : x.u
        · rw [hu] at c3
          have HU := Lib.hid hu
          clear hu
          by_cases hz : size ≤ x.z
          · go_wp2_with (go_at_call 41; refine (l1In_any _ _ _ _).mono ?_; rw [hd]; rintro e w' ⟨rfl, rfl⟩)
            go_ret
            refine ⟨?_, bb1⟩
            rw [HF.out, Bks.firstIdx_some xs size 0 k x HX.out (by rw [Bks.fits_iff]; exact ⟨HU.out, hz⟩) hpre.out]
            exact ret_int (by simp)
          · go_wp2_with (go_at_call 41; refine (l1In_any _ _ _ _).mono ?_; rw [hd]; rintro e w' ⟨rfl, rfl⟩)
            go_roundw
            case rel => exact ⟨k + 1, by omega, by go_num, Lib.hid (fun j y hj hy => by
              rcases Nat.lt_or_ge j k with e | e
              · exact hpre.out j y e hy
              · obtain rfl : j = k := by omega
                obtain rfl : y = x := Option.some.inj (hy.symm.trans HX.out)
                cases hf : Bks.fits size y
                · rfl
                · rw [Bks.fits_iff] at hf
                  omega), bb1⟩
            case measure => simp [intOf]; omega
        · rw [hu] at c3
          have HU := Lib.hid hu
          clear hu
          go_wp2_with (go_at_call 41; refine (l1In_any _ _ _ _).mono ?_; rw [hd]; rintro e w' ⟨rfl, rfl⟩)
          go_roundw
          case rel => exact ⟨k + 1, by omega, by go_num, Lib.hid (fun j y hj hy => by
              rcases Nat.lt_or_ge j k with e | e
              · exact hpre.out j y e hy
              · obtain rfl : j = k := by omega
                obtain rfl : y = x := Option.some.inj (hy.symm.trans HX.out)
                cases hf : Bks.fits size y
                · rfl
                · rw [Bks.fits_iff, HU.out] at hf
                  cases hf.1), bb1⟩
          case measure => simp [intOf]; omega
      · have HK := Lib.hid (show k = n by omega)
        go_wp2_with fail
        go_ret
        refine ⟨?_, hb⟩
        rw [HF.out, Bks.firstIdx_none xs size 0 (fun j y hy => hpre.out j y (by have := (List.getElem?_eq_some_iff.1 hy).1; have e1 := HL.out; have e2 := HK.out; omega) hy)]
        rfl
  · have HF := Lib.hid (Bks.firstW_not hg)
    have hbad : Bks.validB xs t = false ∨ (decide ((1 : Int) ≤ size) && decide (size ≤ 256)) = false := by
      cases hv : Bks.validB xs t
      · exact .inl rfl
      · right
        have : ¬ (1 ≤ size ∧ size ≤ 256) := fun hh => hg ⟨hv, hh⟩
        simpa using this
    go_enter Try.func39, Try.ntmps39
    go_wp2
    go_loopw [7] (fun i wr => i = .int .i64 0 ∧ wr = w) (fun _ _ => 0)
    case atStart => exact ⟨rfl, rfl⟩
    case round =>
      obtain ⟨rfl, rfl⟩ := hrel
      by_cases h0 : 0 < n
      · go_wp2_with fail
        refine (mBlocksValid_any _ _ _ xs _ _ h hn).mono ?_
        rintro e w1 ⟨rfl, b1⟩
        cases hv : Bks.validB xs t
        · go_wp2_with fail
          go_ret
          exact ⟨by rw [HF.out]; rfl, b1⟩
        · have hd := hbad.resolve_left (by rw [hv]; simp)
          clear hbad
          go_wp2_with (go_at_call 41; refine (l1In_any _ _ _ _).mono ?_; rw [hd]; rintro e w' ⟨rfl, rfl⟩)
          go_ret
          exact ⟨by rw [HF.out]; rfl, b1⟩
      · go_wp2_with fail
        go_ret
        exact ⟨by rw [HF.out]; rfl, Below.refl _ _⟩

end Go.Proofs.Ytkejbggffbkdaaa
