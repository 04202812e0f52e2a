/- What eqCell, eqCellS and eqHeap of the exact laws return: for all heaps. No conditions. -/
import Derived.Test.YtkdoolilggkjpaaHk
import Derived.StillTailTactics
namespace Go.Proofs.Ytkdoolilggkjpaa
open Go.RowKit
set_option maxRecDepth 100000

set_option maxHeartbeats 1000000 in
theorem eqCell_any (x y : Cl) (A B : Option Addr) (m q c d : Nat) (w : World) (hx : IS w w.heap.size A m x.r) (hy : IS w w.heap.size B q y.r) (hm : m ≤ 1099511627776) (hq : q ≤ 1099511627776) :
    Calls Try.prog 74 #[.agg #[.bool x.u, .int .i64 x.d, .slice A m c], .agg #[.bool y.u, .int .i64 y.d, .slice B q d]] w fun e w' => e = .returned (.bool (decide (x = y))) ∧ Below w.heap.size w w' := by
  have b2 : Below w.heap.size w ((w.alloc (.cells #[.bool x.u, .int .i64 x.d, .slice A m c] 31)).alloc (.cells #[.bool y.u, .int .i64 y.d, .slice B q d] 31)) := ((Below.refl w.heap.size w).alloc (Nat.le_refl _) _).alloc (by simp) _
  have x2 := hx.up b2
  have y2 := hy.up b2
  by_cases hu : x.u = y.u
  · have hu' : (!x.u == y.u) = false := by simp [hu]
    have HU := Lib.hid hu
    clear hu
    by_cases hd : x.d = y.d
    · have hd' : (x.d != y.d) = false := by rw [bne_eq_false_iff_eq]; exact hd
      have HD := Lib.hid hd
      clear hd
      cases hr : decide (x.r = y.r)
      · have HR := Lib.hid (show decide (x = y) = false by
          have hne := of_decide_eq_false hr
          apply decide_eq_false
          rintro rfl
          exact hne rfl)
        have HRR := Lib.hid hr
        clear hr
        go_enter Try.func74, Try.ntmps74
        go_wp2_with fail
        refine (eqIntS_any _ _ _ _ _ _ x.r y.r _ x2 y2 hm hq).mono ?_
        rw [HRR.out]
        rintro e w1 ⟨rfl, b1⟩
        go_wp2_with fail
        go_ret
        exact ⟨by rw [HR.out]; rfl, b2.trans (b1.mono b2.size)⟩
      · have HR := Lib.hid (show decide (x = y) = true by
          have hrr := of_decide_eq_true hr
          apply decide_eq_true
          have h1 := HU.out
          have h2 := HD.out
          cases x
          cases y
          simp_all)
        have HRR := Lib.hid hr
        clear hr
        go_enter Try.func74, Try.ntmps74
        go_wp2_with fail
        refine (eqIntS_any _ _ _ _ _ _ x.r y.r _ x2 y2 hm hq).mono ?_
        rw [HRR.out]
        rintro e w1 ⟨rfl, b1⟩
        go_wp2_with fail
        go_ret
        exact ⟨by rw [HR.out]; rfl, b2.trans (b1.mono b2.size)⟩
    · have hd' : (x.d != y.d) = true := by rw [bne_iff_ne]; exact hd
      have HR := Lib.hid (show decide (x = y) = false by apply decide_eq_false; rintro rfl; exact hd rfl)
      clear hd
      go_enter Try.func74, Try.ntmps74
      go_wp2_with fail
      go_ret
      exact ⟨by rw [HR.out]; rfl, b2⟩
  · have hu' : (!x.u == y.u) = true := by simp [hu]
    have HR := Lib.hid (show decide (x = y) = false by apply decide_eq_false; rintro rfl; exact hu rfl)
    clear hu
    go_enter Try.func74, Try.ntmps74
    go_wp2_with fail
    go_ret
    exact ⟨by rw [HR.out]; rfl, b2⟩

theorem take_eq_succC {xs ys : List Cl} {k : Nat} {x y : Cl} (h : xs.take k = ys.take k) (hx : xs[k]? = some x) (hy : ys[k]? = some y) (he : decide (x = y) = true) : xs.take (k + 1) = ys.take (k + 1) := by
  rw [List.take_add_one, List.take_add_one, h, hx, hy, of_decide_eq_true he]
theorem ne_of_atC {xs ys : List Cl} {k : Nat} {x y : Cl} (hx : xs[k]? = some x) (hy : ys[k]? = some y) (he : decide (x = y) = false) : decide (xs = ys) = false := by
  apply decide_eq_false
  rintro rfl
  rw [hx] at hy
  injection hy with hy
  exact of_decide_eq_false he hy

set_option maxHeartbeats 1000000 in
theorem eqCellS_any (A B : Option Addr) (n m c d : Nat) (xs ys : List Cl) (w : World) (h : CS w w.heap.size A n xs) (h' : CS w w.heap.size B m ys) (hn : n ≤ 1099511627776) (hm : m ≤ 1099511627776) (hb : ∀ cl ∈ xs, cl.r.length ≤ 1099511627776) (hb' : ∀ cl ∈ ys, cl.r.length ≤ 1099511627776) :
    Calls Try.prog 59 #[.slice A n c, .slice B m d] w fun e w' => e = .returned (.bool (decide (xs = ys))) ∧ Below w.heap.size w w' := by
  have HL := Lib.hid h.1
  have HL' := Lib.hid h'.1
  have HB := Lib.hid hb
  have HB' := Lib.hid hb'
  clear hb hb'
  by_cases hnm : n = m
  · subst hnm
    go_enter Try.func59, Try.ntmps59
    go_wp2
    go_loopw [5] (fun i wr => ∃ (k : Nat), k ≤ n ∧ i = .int .i64 k ∧ Hid (xs.take k = ys.take k) ∧ Below w.heap.size w wr) (fun i _ => n - (intOf i).toNat)
    case atStart => exact ⟨0, Nat.zero_le _, rfl, by simp [Hid], Below.refl _ _⟩
    case round =>
      obtain ⟨k, hk, rfl, hpre, hb⟩ := hrel
      by_cases hlt : k < n
      · obtain ⟨g, o, x, A1, m1, c1, rfl, hg, hx, p1, p2, p3, _, hi⟩ := (h.below hb).at_ hlt
        obtain ⟨g', o', y, B1, q1, d1, rfl, hg', hx', r1, r2, r3, _, hi'⟩ := (h'.below hb).at_ hlt
        have HX := Lib.hid hx
        have HX' := Lib.hid hx'
        have hm1 : m1 ≤ 1099511627776 := by have := HB.out x (List.mem_of_getElem? hx); have := hi.1; omega
        have hq1 : q1 ≤ 1099511627776 := by have := HB'.out y (List.mem_of_getElem? hx'); have := hi'.1; omega
        have hi2 : IS wr.drew wr.drew.heap.size A1 m1 x.r := hi.more hb.size
        have hi2' : IS wr.drew wr.drew.heap.size B1 q1 y.r := hi'.more hb.size
        clear hx hx' hi hi'
        go_wp2
        go_still_tail 8, (by kernel_rfl)
        change wpList _ _ _ _ _ wr.drew
        have hbd : Below w.heap.size w wr.drew := hb.drew
        generalize wr.drew = w2 at hbd hi2 hi2'
        cases he : decide (x = y)
        all_goals
          have HE := Lib.hid he
          clear he
          go_wp2_with (go_at_call 74; refine (eqCell_any x y _ _ _ _ _ _ _ hi2 hi2' hm1 hq1).mono ?_; rw [HE.out]; rintro e w1 ⟨rfl, hb1⟩)
        · go_ret
          exact ⟨ret_bool (ne_of_atC HX.out HX'.out HE.out).symm, hbd.trans (hb1.mono hbd.size)⟩
        · go_roundw
          case rel => exact ⟨k + 1, by omega, by go_num, Lib.hid (take_eq_succC hpre.out HX.out HX'.out HE.out), hbd.trans (hb1.mono hbd.size)⟩
          case measure => simp [intOf]; omega
      · have hkn : k = n := by omega
        have HK := Lib.hid hkn
        clear hkn
        go_wp2
        go_ret
        refine ⟨ret_bool ?_, hb⟩
        have hp := hpre.out
        rw [HK.out, List.take_of_length_le (by rw [HL.out]; omega), List.take_of_length_le (by rw [HL'.out]; omega)] at hp
        simp [hp]
  · have hne : ((n : Int) != m) = true := by rw [bne_iff_ne]; omega
    have HN := Lib.hid hnm
    clear hnm
    go_enter Try.func59, Try.ntmps59
    go_wp2
    go_ret
    refine ⟨ret_bool ?_, Below.refl _ _⟩
    simp
    rintro rfl
    exact HN.out (HL.out.symm.trans HL'.out)

set_option maxHeartbeats 1000000 in
theorem eqHeap_any (A R A' R' : Option Addr) (n c m d n' c' m' d' : Nat) (x y : Hp) (w : World) (hx : HS w w.heap.size A n R m x) (hy : HS w w.heap.size A' n' R' m' y) (hn : n ≤ 1099511627776) (hm : m ≤ 1099511627776) (hn' : n' ≤ 1099511627776) (hm' : m' ≤ 1099511627776) (hb : ∀ cl ∈ x.cs, cl.r.length ≤ 1099511627776) (hb' : ∀ cl ∈ y.cs, cl.r.length ≤ 1099511627776) :
    Calls Try.prog 30 #[heapV A n c R m d, heapV A' n' c' R' m' d'] w fun e w' => e = .returned (.bool (decide (x = y))) ∧ Below w.heap.size w w' := by
  have b2 : Below w.heap.size w ((w.alloc (.cells #[.slice A n c, .slice R m d] 26)).alloc (.cells #[.slice A' n' c', .slice R' m' d'] 26)) := ((Below.refl w.heap.size w).alloc (Nat.le_refl _) _).alloc (by simp) _
  have x2 := hx.up b2
  have y2 := hy.up b2
  have r0 := (Rw.new w 26 #[.slice A n c, .slice R m d]).alloc (.cells #[.slice A' n' c', .slice R' m' d'] 26)
  have r1 := Rw.new (w.alloc (.cells #[.slice A n c, .slice R m d] 26)) 26 #[.slice A' n' c', .slice R' m' d']
  simp only [World.size_alloc] at r1
  cases hc : decide (x.cs = y.cs)
  · have HC := Lib.hid hc
    have HR := Lib.hid (show decide (x = y) = false by
      have hne := of_decide_eq_false hc
      apply decide_eq_false
      rintro rfl
      exact hne rfl)
    clear hc
    go_enter Try.func30, Try.ntmps30
    go_wp2_with fail
    refine (eqCellS_any _ _ _ _ _ _ x.cs y.cs _ x2.cells y2.cells hn hn' hb hb').mono ?_
    rw [HC.out]
    rintro e w1 ⟨rfl, b1⟩
    go_wp2_with fail
    go_ret
    exact ⟨by rw [HR.out]; rfl, b2.trans (b1.mono b2.size)⟩
  · have HC := Lib.hid hc
    clear hc
    cases hr : decide (x.rt = y.rt)
    all_goals
      have HRT := Lib.hid hr
      have HR := Lib.hid (show decide (x = y) = decide (x.rt = y.rt) by
        have e1 := of_decide_eq_true HC.out
        rw [decide_eq_decide]
        cases x
        cases y
        simp_all)
      clear hr
      go_enter Try.func30, Try.ntmps30
      go_wp2_with fail
      refine (eqCellS_any _ _ _ _ _ _ x.cs y.cs _ x2.cells y2.cells hn hn' hb hb').mono ?_
      rw [HC.out]
      rintro e w1 ⟨rfl, b1⟩
      have bb1 := b2.trans (b1.mono b2.size)
      have c0 := r0.keep b1 (by simp; omega)
      have c1 := r1.keep b1 (by simp)
      have x3 := x2.up b1
      have y3 := y2.up b1
      have z0 : w1.cell? ⟨w.heap.size, 1, none⟩ = some (.slice R m d) := c0.cell 1
      have z1 : w1.cell? ⟨w.heap.size + 1, 1, none⟩ = some (.slice R' m' d') := c1.cell 1
      clear c0 c1 r0 r1 x2 y2
      go_wp2_with fail
      refine (eqIntS_any _ _ _ _ _ _ x.rt y.rt _ x3.roots y3.roots hm hm').mono ?_
      rw [HRT.out]
      rintro e w2 ⟨rfl, b2'⟩
      go_wp2_with fail
      go_ret
      exact ⟨by rw [HR.out, HRT.out]; rfl, bb1.trans (b2'.mono bb1.size)⟩
end Go.Proofs.Ytkdoolilggkjpaa
