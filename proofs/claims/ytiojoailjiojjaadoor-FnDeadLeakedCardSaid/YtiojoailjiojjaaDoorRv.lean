/- For every list of bytes the law FnDeadLeaked returns true (P122), over the program's contracts, in every memory in which the table of math/bits lies as laid. -/
import Derived.Test.YtiojoailjiojjaaDoorRi
import Derived.Test.YtiojoailjiojjaaDoorRs
import Derived.Test.YtiojoailjiojjaaDoorRe
import Derived.Test.YtiojoailjiojjaaDoorPi
namespace Go.Proofs.YtiojoailjiojjaaDoor
open Go.RowKit
set_option maxRecDepth 100000

set_option maxHeartbeats 8000000 in
theorem deadLeakedLaw_walk (A0 : Option Addr) (n0 c0 : Nat) (w : World) (hby : Bytes w w.heap.size A0 n0) (hc0 : n0 ≤ c0) (hn0 : n0 ≤ 9223372036854775807) (hT : TzT w) :
    Calls Tryd.prog 6 #[.slice A0 n0 c0] w fun e w' => e = .returned (.bool true) ∧ Below w.heap.size w w' := by
  by_cases hs : n0 ≤ 1048576
  case neg =>
    have hs' : (1048576 : Int) < (n0 : Int) := by omega
    go_enter Tryd.func6, Tryd.ntmps6
    go_wp2
    go_ret
    exact ⟨rfl, Below.refl _ _⟩
  have hs' : decide ((1048576 : Int) < (n0 : Int)) = false := by simp; omega
  go_enter Tryd.func6, Tryd.ntmps6
  go_wp2_with fail
  refine (drawDeadCycle_any _ _ _ _ hby hc0 hn0).mono ?_
  rintro e w1 ⟨A, nn, c, R, m, d, h, x, rfl, hnc, hmd, hsr, hsm, b1⟩
  have hlc := hsr.cells.1
  have hlr := hsr.roots.1
  have hn41 : nn ≤ 41 := by have := hsm.1; omega
  have hm4 : m ≤ 4 := by have := hsm.2.1; omega
  have bA : Below w1.heap.size w1 (w1.alloc (.cells #[.slice A nn c, .slice R m d] 26)) := (Below.refl _ _).alloc (Nat.le_refl _) _
  have bx := Rw.new w1 26 #[.slice A nn c, .slice R m d]
  replace hsr := hsr.up bA
  have bb := b1.trans (bA.mono b1.size)
  have hT2 := hT.below bb
  have HLC := Lib.hid hlc
  clear bA b1 hsm hlc hlr hby
  go_upto_region 4 with fail
  generalize w1.alloc (.cells #[.slice A nn c, .slice R m d] 26) = w2 at bx hsr bb hT2 ⊢
  generalize w1.heap.size = b at bx ⊢
  have x0 : w2.cell? ⟨b, 0, none⟩ = some (.slice A nn c) := bx.cell 0
  have x1 : w2.cell? ⟨b, 1, none⟩ = some (.slice R m d) := bx.cell 1
  go_wp2_with fail
  refine (deadCycle_any _ _ _ _ _ _ x h _ hT2 hsr (by omega) (by omega) hnc hmd).mono ?_
  rintro e w3 ⟨v1, rfl, o1, b3⟩
  obtain ⟨A1, c1, rfl, -⟩ := o1.form
  replace bx := bx.keep b3 bx.lt
  replace hsr := hsr.up b3
  replace hT2 := hT2.below b3
  replace bb := bb.trans (b3.mono bb.size)
  clear x0 x1 b3
  have x0 : w3.cell? ⟨b, 0, none⟩ = some (.slice A nn c) := bx.cell 0
  have x1 : w3.cell? ⟨b, 1, none⟩ = some (.slice R m d) := bx.cell 1
  go_wp2_with fail
  refine (mDeadCycle_any _ _ _ _ _ _ x h _ hsr (by omega) (by omega)).mono ?_
  rintro e w4 ⟨v2, rfl, o2, b3⟩
  obtain ⟨A2, c2, rfl, -⟩ := o2.form
  replace o1 := o1.below b3 (Nat.le_refl _)
  replace bx := bx.keep b3 bx.lt
  replace hsr := hsr.up b3
  replace hT2 := hT2.below b3
  replace bb := bb.trans (b3.mono bb.size)
  clear x0 x1 b3
  have hdl : (Hps.deadH h x).length ≤ 41 := by
    rw [Hps.deadH]
    split
    · rw [Hps.deadL_len, HLC.out]; exact hn41
    · simp
  have SF := Lib.hid ((sameFlags_any A1 A2 (Hps.deadH h x).length (Hps.deadH h x).length c1 c2 (Hps.deadH h x) (Hps.deadH h x) w4 o1.reads o2.reads (by omega) (by omega)).mono fun e w' he => (⟨by rw [he.1, decide_eq_true rfl], he.2⟩ : e = .returned (.bool true) ∧ Below w4.heap.size w4 w'))
  have HDL : Hid (∀ k : Nat, (Hps.deadH h x)[k]? = some true → (k : Int) ∈ Hps.leakH h) := Lib.hid fun k hk => by
    by_cases hok : Hps.validH h = true ∧ 0 ≤ x ∧ Hps.usedAt h.cs x.toNat = true
    · obtain ⟨hv, hx0, hu⟩ := hok
      obtain ⟨v, rfl⟩ := Int.eq_ofNat_of_zero_le hx0
      rw [Int.toNat_natCast] at hu
      rw [Hps.deadH_yes hv hu] at hk
      rw [Hps.leakH, if_pos hv]
      exact Hps.dead_leaked hv hu hk
    · rw [Hps.deadH_no hok] at hk
      simp at hk
  have hll : (Hps.leakH h).length ≤ 1000 := by
    unfold Hps.leakH
    split
    · next hv =>
      have h1 := Hps.usedN_parts hv
      have h2 : Hps.usedN h ≤ h.cs.length := by rw [Hps.usedN_eq]; exact List.countP_le_length
      have := HLC.out
      omega
    · simp
  obtain ⟨D, hDD⟩ : ∃ D, Hps.deadH h x = D := ⟨_, rfl⟩
  obtain ⟨L, hLL⟩ : ∃ L, Hps.leakH h = L := ⟨_, rfl⟩
  have HLL := Lib.hid hLL
  rw [hDD] at HDL SF o1 hdl ⊢
  rw [hLL] at HDL hll
  obtain ⟨dn, hdn⟩ : ∃ dn, D.length = dn := ⟨_, rfl⟩
  have HDN := Lib.hid hdn
  rw [hdn] at SF o1 hdl ⊢
  clear hDD hLL hdn o2
  have x0 : w4.cell? ⟨b, 0, none⟩ = some (.slice A nn c) := bx.cell 0
  have x1 : w4.cell? ⟨b, 1, none⟩ = some (.slice R m d) := bx.cell 1
  go_wp2_with fail
  refine SF.out.mono ?_
  rintro e w5 ⟨rfl, b3⟩
  replace o1 := o1.below b3 (Nat.le_refl _)
  replace bx := bx.keep b3 bx.lt
  replace hsr := hsr.up b3
  replace hT2 := hT2.below b3
  replace bb := bb.trans (b3.mono bb.size)
  clear x0 x1 b3 SF
  have x0 : w5.cell? ⟨b, 0, none⟩ = some (.slice A nn c) := bx.cell 0
  have x1 : w5.cell? ⟨b, 1, none⟩ = some (.slice R m d) := bx.cell 1
  go_wp2_with fail
  refine (leakedCells_any _ _ _ _ _ _ h _ hT2 hsr (by omega) (by omega) hnc hmd).mono ?_
  rw [HLL.out]
  rintro e w6 ⟨v6, rfl, o6, b3⟩
  obtain ⟨A6, c6, rfl, -⟩ := o6.form
  obtain ⟨ln, hln⟩ : ∃ ln, L.length = ln := ⟨_, rfl⟩
  have HLN := Lib.hid hln
  rw [hln] at o6 hll ⊢
  replace o1 := o1.below b3 (Nat.le_refl _)
  replace bb := bb.trans (b3.mono bb.size)
  have q1 := o1.reads
  have q6 := o6.reads
  clear x0 x1 b3 o1 o6 bx hsr hT2 hln
  go_wp2_with fail
  go_loopw [7] (fun i wr => ∃ k : Nat, k ≤ dn ∧ i = .int .i64 k ∧ w6 = wr) (fun i _ => dn - (intOf i).toNat)
  case atStart => exact ⟨0, Nat.zero_le _, rfl, rfl⟩
  case round =>
    obtain ⟨k, hk, rfl, rfl⟩ := hrel
    by_cases hlt : k < dn
    · obtain ⟨g1, o1, dv, e1, _, hdv, d1⟩ := q1.at_ hlt
      subst e1
      have hlt' : (k : Int) < dn := by omega
      have HDV := Lib.hid hdv
      clear hdv
      go_wp2_with fail
      go_loopw [8, 9] (fun iv jv wr => ∃ j : Nat, j ≤ ln ∧ jv = .int .i64 j ∧ iv = .bool (decide ((k : Int) ∈ L.take j)) ∧ w6 = wr) (fun _ jv _ => ln - (intOf jv).toNat)
      case atStart => exact ⟨0, Nat.zero_le _, rfl, by simp, rfl⟩
      case round =>
        obtain ⟨j, hj, rfl, rfl, rfl⟩ := hrel
        by_cases hlj : j < ln
        · obtain ⟨g6, o6, z, e6, _, hz, d6⟩ := q6.at_ hlj
          subst e6
          have hlj' : (j : Int) < ln := by omega
          have HT := Lib.hid (take_snocI hz)
          by_cases hin : (k : Int) ∈ L.take j
          · have HN := Lib.hid (show decide ((k : Int) ∈ L.take (j + 1)) = true by rw [HT.out]; simp [hin])
            rw [decide_eq_true hin]
            clear hz hin
            go_wp2_with fail
            go_roundw
            case rel => exact ⟨j + 1, by omega, by go_num, by rw [HN.out], trivial⟩
            case measure => simp [intOf]; omega
          · rw [decide_eq_false hin]
            by_cases hzk : z = (k : Int)
            · have HN := Lib.hid (show decide ((k : Int) ∈ L.take (j + 1)) = true by rw [HT.out]; simp [hzk])
              have hzk' : (z == (k : Int)) = true := by rw [beq_iff_eq]; exact hzk
              clear hz hin hzk
              go_wp2_with fail
              go_roundw
              case rel => exact ⟨j + 1, by omega, by go_num, by rw [HN.out], trivial⟩
              case measure => simp [intOf]; omega
            · have HN := Lib.hid (show decide ((k : Int) ∈ L.take (j + 1)) = false by
                rw [HT.out, decide_eq_false]
                rw [List.mem_append, List.mem_singleton]
                rintro (q | q)
                · exact hin q
                · exact hzk q.symm)
              have hzk' : (z == (k : Int)) = false := by rw [beq_eq_false_iff_ne]; exact hzk
              clear hz hin hzk
              go_wp2_with fail
              go_roundw
              case rel => exact ⟨j + 1, by omega, by go_num, by rw [HN.out], trivial⟩
              case measure => simp [intOf]; omega
        · obtain rfl : j = ln := by omega
          rw [List.take_of_length_le (by rw [HLN.out]; omega)]
          cases dv
          · generalize decide ((k : Int) ∈ L) = q
            go_wp2_with fail
            go_roundw
            case rel => exact ⟨k + 1, by omega, by go_num, trivial⟩
            case measure => simp [intOf]; omega
          · rw [decide_eq_true (HDL.out k HDV.out)]
            go_wp2_with fail
            go_roundw
            case rel => exact ⟨k + 1, by omega, by go_num, trivial⟩
            case measure => simp [intOf]; omega
    · obtain rfl : k = dn := by omega
      go_wp2_with fail
      refine (alive_any _).mono ?_
      rintro e w7 ⟨rfl, b7⟩
      go_wp2_with fail
      go_ret
      exact ⟨rfl, bb.trans (b7.mono bb.size)⟩
end Go.Proofs.YtiojoailjiojjaaDoor
