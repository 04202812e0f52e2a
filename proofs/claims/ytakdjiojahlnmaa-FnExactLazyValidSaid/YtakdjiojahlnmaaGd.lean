/- What the helpers of the exact laws return at slices of numbers: toIntS, eqIntS, markIntS, heldIntS, szIntS; how a slice of numbers that came in lies in memory. No conditions. What the helpers of the exact laws return at cells and heaps: toCell, toCellS, toHeap. No conditions. What toHeap of the exact laws returns: for every heap. No conditions. What eqCell, eqCellS and eqHeap of the exact laws return: for all heaps. No conditions. What szCell, szCellS and szHeap of the exact laws return; how a heap that came in lies in memory. No conditions. Writing into several of a call's own slices; what markCellS, markHeap, heldCellS and heldHeap of the exact laws return. No conditions. What heldCellS and heldHeap of the exact laws return at a marked heap. No conditions. -/
import Derived.Test.YtakdjiojahlnmaaGb
import Derived.Test.YtakdjiojahlnmaaPost
import Derived.Test.YtakdjiojahlnmaaHh
import Derived.Test.YtakdjiojahlnmaaHj
import Derived.StillTailTactics
namespace Go.Proofs.Ytakdjiojahlnmaa
open Go.ChangeShapes Go.WideShapes Go.ChangeAt Go.RowKit Go.Deep

theorem set_takeI {xs : List Int} {n k : Nat} {y : Int} (hl : xs.length = n) (hk : k < n) (hy : xs[k]? = some y) : (xs.take k ++ List.replicate (n - k) (0 : Int)).set k y = xs.take (k + 1) ++ List.replicate (n - (k + 1)) (0 : Int) := by
  have h1 : (xs.take k).length = k := by rw [List.length_take]; omega
  rw [List.set_append_right _ _ (by omega), h1, Nat.sub_self, show n - k = (n - (k + 1)) + 1 by omega, List.replicate_succ, List.set_cons_zero, List.take_add_one, hy]
  simp

set_option maxHeartbeats 1000000 in
theorem toIntS_any (A : Option Addr) (n c : Nat) (xs : List Int) (w : World) (h : IS w w.heap.size A n xs) (hn : n ≤ 1099511627776) :
    Calls Try.prog 64 #[.slice A n c] w fun e w' => e = .returned (.slice (some ⟨w.heap.size, 0, none⟩) n n) ∧ OwnI w' w.heap.size (.slice (some ⟨w.heap.size, 0, none⟩) n n) xs ∧ Below w.heap.size w w' := by
  have hl := h.1
  have hmk := makeI w n hn
  have o2 := own_madeI w n hn
  have b2 : Below w.heap.size w (w.alloc (.cells (Array.replicate n (.int .i64 0)) 3)) := (Below.refl _ _).alloc (Nat.le_refl _) _
  obtain ⟨w2, hw2⟩ : ∃ w2, w.alloc (.cells (Array.replicate n (.int .i64 0)) 3) = w2 := ⟨_, rfl⟩
  rw [hw2] at hmk o2 b2
  have o2 : OwnI w2 w.heap.size (.slice (some ⟨w.heap.size, 0, none⟩) n n) (xs.take 0 ++ List.replicate (n - 0) (0 : Int)) := by simpa using o2
  clear hw2
  go_enter Try.func64, Try.ntmps64
  go_wp2
  clear hmk
  go_loopw [4] (fun i wr => ∃ k : Nat, k ≤ n ∧ i = .int .i64 k ∧ OwnI wr w.heap.size (.slice (some ⟨w.heap.size, 0, none⟩) n n) (xs.take k ++ List.replicate (n - k) (0 : Int)) ∧ Below w.heap.size w wr) (fun i _ => n - (intOf i).toNat)
  case atStart => exact ⟨0, Nat.zero_le _, rfl, o2, b2⟩
  case round =>
    clear o2 b2
    obtain ⟨k, hk, rfl, ho, hb⟩ := hrel
    have hlen : (xs.take k ++ List.replicate (n - k) (0 : Int)).length = n := by simp; omega
    by_cases hlt : k < n
    · obtain ⟨g', o', x, e', _, _, c1⟩ := ho.reads.at_ (k := k) (by omega)
      injection e' with e'
      injection e' with e1 e2
      subst e1 e2
      rw [Nat.zero_add] at c1
      obtain ⟨g, o, y, rfl, hg, hy, c2⟩ := (h.below hb).at_ hlt
      have fz : wr.frozen? ⟨w.heap.size, k, none⟩ = false := ho.frozen hlen k
      have t1 : (k : Int) < n := by omega
      have on := OwnI.cast (set_takeI hl hlt hy) (ho.put' (j := k) hlen y)
      have bn := hb.setCell (p := ⟨w.heap.size, k, none⟩) (Nat.le_refl _) (.int .i64 y)
      clear ho hlen hy
      go_wp2_with fail
      go_roundw
      case rel => exact ⟨k + 1, by omega, by go_num, on, bn⟩
      case measure => simp [intOf]; omega
    · obtain rfl : k = n := by omega
      rw [List.take_of_length_le (by omega), Nat.sub_self] at ho
      have ho : OwnI wr w.heap.size (.slice (some ⟨w.heap.size, 0, none⟩) k k) xs := by simpa using ho
      clear hlen
      go_wp2_with fail
      go_ret
      exact ⟨rfl, ho, hb⟩

theorem eqIntS_any (A B : Option Addr) (n m c d : Nat) (xs ys : List Int) (w : World) (h : IS w w.heap.size A n xs) (h' : IS w w.heap.size B m ys) (hn : n ≤ 1099511627776) (hm : m ≤ 1099511627776) :
    Calls Try.prog 67 #[.slice A n c, .slice B m d] w fun e w' => e = .returned (.bool (decide (xs = ys))) ∧ Below w.heap.size w w' := by
  have HL := Lib.hid h.1
  have HL' := Lib.hid h'.1
  by_cases hnm : n = m
  · subst hnm
    go_enter Try.func67, Try.ntmps67
    go_wp2
    go_loopw [5] (fun i wr => ∃ (k : Nat), k ≤ n ∧ i = .int .i64 k ∧ Hid (xs.take k = ys.take k) ∧ Below w.heap.size w wr) (fun i _ => n - (intOf i).toNat)
    case atStart => exact ⟨0, Nat.zero_le _, rfl, by simp [Hid], Below.refl _ _⟩
    case round =>
      obtain ⟨k, hk, rfl, hpre, hb⟩ := hrel
      by_cases hlt : k < n
      · obtain ⟨g, o, x, rfl, hg, hx, c1⟩ := (h.below hb).at_ hlt
        obtain ⟨g', o', y, rfl, hg', hx', c1'⟩ := (h'.below hb).at_ hlt
        have HX := Lib.hid hx
        have HX' := Lib.hid hx'
        have hlt' : (k : Int) < n := by omega
        clear hx hx'
        by_cases hxy : x = y
        · subst hxy
          go_wp2_with fail
          go_quiet (fail)
          go_wp2
          go_roundw
          case rel => exact ⟨k + 1, by omega, by go_num, Lib.hid (take_eq_succI hpre.out HX.out HX'.out), below_drewN hb _⟩
          case measure => simp [intOf]; omega
        · have hne : (x == y) = false := by rw [beq_eq_false_iff_ne]; exact hxy
          have hne2 : (x != y) = true := by rw [bne_iff_ne]; exact hxy
          have HNE := Lib.hid (show xs ≠ ys from fun e => hxy (by
            have a := HX.out
            have b := HX'.out
            rw [e, b] at a
            exact (Option.some.inj a).symm))
          clear hxy
          go_wp2_with fail
          go_quiet (fail)
          go_wp2
          go_ret
          exact ⟨ret_bool (decide_eq_false HNE.out).symm, below_drewN hb _⟩
      · have hkn : k = n := by omega
        have HK := Lib.hid hkn
        clear hkn
        go_wp2
        go_ret
        refine ⟨ret_bool ?_, hb⟩
        have hp := hpre.out
        rw [HK.out, List.take_of_length_le (by rw [HL.out]; omega), List.take_of_length_le (by rw [HL'.out]; omega)] at hp
        simp [hp]
  · have hne : ((n : Int) != m) = true := by rw [bne_iff_ne]; omega
    have HN := Lib.hid hnm
    clear hnm
    go_enter Try.func67, Try.ntmps67
    go_wp2
    go_ret
    refine ⟨ret_bool ?_, Below.refl _ _⟩
    simp
    rintro rfl
    exact HN.out (HL.out.symm.trans HL'.out)

theorem sep_swapI {v0 v1 : Value} (h : v0.ownBlock = none ∨ v0.ownBlock ≠ v1.ownBlock) : v1.ownBlock = none ∨ v1.ownBlock ≠ v0.ownBlock := by
  rcases h with h | h
  · cases e : v1.ownBlock with
    | none => exact .inl rfl
    | some k => right; rw [h]; simp
  · exact .inr fun e => h e.symm

/-- the marks that are laid into a slice of numbers -/
def marksI (k : Int) (n : Nat) : List Int := (List.range n).map fun (i : Nat) => k + (i : Int)
theorem marksI_len (k : Int) (n : Nat) : (marksI k n).length = n := by simp [marksI]
theorem marksI_at (k : Int) {n i : Nat} (h : i < n) : (marksI k n)[i]? = some (k + i) := by
  simp [marksI, h]
theorem set_marksI (k : Int) (xs : List Int) {i : Nat} (h : i < xs.length) : (marksI k i ++ xs.drop i).set i (k + i) = marksI k (i + 1) ++ xs.drop (i + 1) := by
  rw [List.set_append_right _ _ (by rw [marksI_len]; omega), marksI_len, Nat.sub_self]
  rw [List.drop_eq_getElem_cons h, List.set_cons_zero]
  simp [marksI, List.range_succ]

set_option maxHeartbeats 1000000 in
theorem markIntS_any (v : Value) (xs : List Int) (k : Int) (base : Nat) (w : World) (h : OwnI w base v xs) (hk : 0 ≤ k) (hk2 : k ≤ 1099511627776) (hn : xs.length ≤ 1099511627776) :
    Calls Try.prog 69 #[v, .int .i64 k] w fun e w' => e = .returned (.int .i64 (k + xs.length)) ∧ OwnI w' base v (marksI k xs.length) ∧ w.grownBy w' v.ownBlock := by
  obtain ⟨A, c, rfl, hA⟩ := h.form
  obtain ⟨n, hn'⟩ : ∃ n, xs.length = n := ⟨_, rfl⟩
  rw [hn'] at h hn hA ⊢
  go_enter Try.func69, Try.ntmps69
  go_wp2
  go_loopw [1, 5] (fun q a wr => ∃ i : Nat, i ≤ n ∧ a = .int .i64 i ∧ q = .int .i64 (k + i) ∧ OwnI wr base (.slice A n c) (marksI k i ++ xs.drop i) ∧ w.grownBy wr (Value.slice A n c).ownBlock) (fun _ a _ => n - (intOf a).toNat)
  case atStart => exact ⟨0, Nat.zero_le _, rfl, by simp, by simpa [marksI] using h, World.grownBy.refl _ _⟩
  case round =>
    clear h
    obtain ⟨i, hi, rfl, rfl, ho, hg⟩ := hrel
    have hl : (marksI k i ++ xs.drop i).length = n := by simp [marksI]; omega
    by_cases hlt : i < n
    · obtain ⟨g, rfl, hbg, hgl⟩ := hA (by omega)
      obtain ⟨g', o', x, e', _, _, c1⟩ := ho.reads.at_ (k := i) (by omega)
      injection e' with e'
      injection e' with e1 e2
      subst e1 e2
      rw [Nat.zero_add] at c1
      have fz : wr.frozen? ⟨g, i, none⟩ = false := ho.frozen hl i
      have t1 : (i : Int) < n := by omega
      have on := OwnI.cast (set_marksI k xs (show i < xs.length by omega)) (ho.put' (j := i) hl (k + i))
      have gn := only_put hg i (.int .i64 (k + i))
      clear ho hl hA
      go_wp2
      go_roundw
      case rel => exact ⟨i + 1, by omega, by go_num, int_eq (by omega), on, gn⟩
      case measure => simp [intOf]; omega
    · obtain rfl : i = n := by omega
      have ho : OwnI wr base (.slice A i c) (marksI k i) := by
        rw [List.drop_of_length_le (by omega), List.append_nil] at ho
        exact ho
      clear hl hA
      go_wp2
      go_ret
      exact ⟨rfl, ho, hg⟩
theorem heldIntS_any (A : Option Addr) (n c : Nat) (k : Int) (w : World) (h : IS w w.heap.size A n (marksI k n)) (hk : 0 ≤ k) (hk2 : k ≤ 1099511627776) (hn : n ≤ 1099511627776) :
    Calls Try.prog 97 #[.slice A n c, .int .i64 k] w fun e w' => e = .returned (.int .i64 (k + n)) ∧ w = w' := by
  go_enter Try.func97, Try.ntmps97
  go_wp2
  go_loop [1, 5] (fun q a => ∃ i : Nat, i ≤ n ∧ a = .int .i64 i ∧ q = .int .i64 (k + i)) (fun _ a => n - (intOf a).toNat)
  case atStart => exact ⟨0, Nat.zero_le _, rfl, by simp⟩
  case round =>
    obtain ⟨i, hi, rfl, rfl⟩ := hrel
    by_cases hlt : i < n
    · obtain ⟨g, o, x, rfl, hg, hx, c1⟩ := h.at_ hlt
      rw [marksI_at k hlt] at hx
      injection hx with hx
      subst hx
      go_wp2
      go_round
      case rel => exact ⟨i + 1, by omega, by go_num, int_eq (by omega)⟩
      case measure => simp [intOf]; omega
    · have hin : i = n := by omega
      have HI := Lib.hid hin
      clear hin
      go_wp2
      go_ret
      exact ⟨by rw [← HI.out]; rfl, rfl⟩
theorem szIntS_any (A : Option Addr) (n c : Nat) (l : Int) (w : World) (h0 : 0 ≤ l) (h1 : l ≤ 1099511627776) (hn : n ≤ 9223372036854775807) :
    Calls Try.prog 62 #[.slice A n c, .int .i64 l] w fun e w' => e = .returned (.int .i64 (if n ≤ l then l - n else -1)) ∧ w = w' := by
  by_cases h : (n : Int) ≤ l
  · have h' : decide (l - (n : Int) < 0) = false := decide_eq_false (by omega)
    rw [if_pos h]
    go_enter Try.func62, Try.ntmps62
    go_wp2
    go_ret
    exact ⟨rfl, rfl⟩
  · have h' : l - (n : Int) < 0 := by omega
    rw [if_neg h]
    go_enter Try.func62, Try.ntmps62
    go_wp2
    go_ret
    exact ⟨rfl, rfl⟩
section
variable {H : Type} {enc : TypeId × Value → H} {P : Program} {W W' : World}
/-- a slice of numbers that came in -/
theorem open_nums {t e : TypeId} {r : Reach} {b0 : Nat} {v : Value} {d : DataW H} {ps : List MemPlace} (ht : P.underlying t = some (.slice e)) (he : P.underlying e = some (.int .i64)) (ce : P.cellsOf e = 1)
    (hval : Value.okWide P W r b0 t v) (h : DataW.Trod enc P W 0 (fun _ => true) true t v d ps) (hlt : ∀ x ∈ ps, x.block < W.heap.size) :
    ∃ (A : Option Addr) (n c : Nat) (xs : List Int), v = .slice A n c ∧ n ≤ c ∧ n ≤ 9223372036854775807 ∧ IS W W.heap.size A n xs ∧ AllN xs := by
  obtain ⟨A, n, c, rfl⟩ := okWide_slice ht hval
  obtain ⟨fuel, hf⟩ := h
  rcases open_ints ht he ce hf with ⟨h0, _⟩ | ⟨a, len, cap, zs, hcs, hb, hl, hm, hz, hx, hi, hwf⟩
  · simp [Value.cells] at h0
    obtain ⟨rfl, rfl, rfl⟩ := h0
    exact ⟨none, 0, 0, [], rfl, by omega, by omega, IS.none_ _ _ _, fun k v hv => by simp at hv⟩
  · simp [Value.cells] at hcs
    obtain ⟨rfl, rfl, rfl⟩ := hcs
    simp only [if_true] at hz
    refine ⟨some a, n, c, zs.take n, rfl, hl, by unfold maxLen at hm; omega, ⟨by rw [List.length_take]; omega, fun hn => ?_⟩, fun k v hv => i64_of_wf (hwf v (List.mem_of_mem_take (List.mem_of_getElem? hv)))⟩
    have h0 := hi 0 (by omega)
    simp [Addr.add] at h0
    have ha := addr_of_cell h0
    have hblt : a.block < W.heap.size := by
      apply hlt (.cell a.block a.off)
      have hps := congrArg Prod.snd hx
      simp only [] at hps
      rw [hps, hz, ha]
      simp [MemPlace.row]
      omega
    refine ⟨a.block, a.off, by rw [← ha], hblt, fun k x hk => ?_⟩
    have hkn := (List.getElem?_eq_some_iff.1 hk).1
    rw [List.length_take] at hkn
    rw [List.getElem?_take_of_lt (by omega)] at hk
    have hc := hi k (by omega)
    rw [ha, add_none, List.getD_eq_getElem?_getD, hk] at hc
    exact hc
end
end Go.Proofs.Ytakdjiojahlnmaa

namespace Go.Proofs.Ytakdjiojahlnmaa
open Go.RowKit

set_option maxHeartbeats 1000000 in
theorem toCell_any (cl : Cl) (A : Option Addr) (m cc : Nat) (w : World) (hi : IS w w.heap.size A m cl.r) (hm : m ≤ 1099511627776) :
    Calls Try.prog 94 #[.agg #[.bool cl.u, .int .i64 cl.d, .slice A m cc]] w fun e w' => ∃ g, e = .returned (.agg #[.bool cl.u, .int .i64 cl.d, .slice (some ⟨g, 0, none⟩) m m]) ∧ OwnI w' w.heap.size (.slice (some ⟨g, 0, none⟩) m m) cl.r ∧ Below w.heap.size w w' := by
  have b3 : Below w.heap.size w (((w.alloc (.cells #[.bool cl.u, .int .i64 cl.d, .slice A m cc] 120)).alloc (.cells #[.bool false, .int .i64 0, .slice none 0 0] 45)).alloc (.cells #[.bool cl.u, .int .i64 cl.d, .slice none 0 0] 45)) := (((Below.refl w.heap.size w).alloc (Nat.le_refl _) _).alloc (by simp) _).alloc (by simp; omega) _
  have i3 := hi.up b3
  have r1 := (Rw.new (w.alloc (.cells #[.bool cl.u, .int .i64 cl.d, .slice A m cc] 120)) 45 #[.bool false, .int .i64 0, .slice none 0 0]).alloc (.cells #[.bool cl.u, .int .i64 cl.d, .slice none 0 0] 45)
  have r2 := Rw.new ((w.alloc (.cells #[.bool cl.u, .int .i64 cl.d, .slice A m cc] 120)).alloc (.cells #[.bool false, .int .i64 0, .slice none 0 0] 45)) 45 #[.bool cl.u, .int .i64 cl.d, .slice none 0 0]
  have hsz : (((w.alloc (.cells #[.bool cl.u, .int .i64 cl.d, .slice A m cc] 120)).alloc (.cells #[.bool false, .int .i64 0, .slice none 0 0] 45)).alloc (.cells #[.bool cl.u, .int .i64 cl.d, .slice none 0 0] 45)).heap.size = w.heap.size + 3 := by simp
  simp only [World.size_alloc] at r1 r2
  go_enter Try.func94, Try.ntmps94
  go_wp2_with fail
  refine (toIntS_any _ _ _ cl.r _ i3 hm).mono ?_
  rw [hsz]
  rintro e w1 ⟨rfl, o1, b1⟩
  have c1 := r1.keep b1 (by omega)
  have c2 := r2.keep b1 (by omega)
  have bb1 := b3.trans (b1.mono (by omega))
  have x0 : w1.cell? ⟨w.heap.size + 1 + 1, 0, none⟩ = some (.bool cl.u) := c2.cell 0
  have x1 : w1.cell? ⟨w.heap.size + 1 + 1, 1, none⟩ = some (.int .i64 cl.d) := c2.cell 1
  have x2 : w1.cell? ⟨w.heap.size + 1 + 1, 2, none⟩ = some (.slice none 0 0) := c2.cell 2
  have x3 := c2.frozen 2
  have c3 := c2.put 2 (.slice (some ⟨w.heap.size + 3, 0, none⟩) m m)
  have d1 := Rw.other (w := w1) c1 (show w.heap.size + 1 ≠ w.heap.size + 1 + 1 by omega) (i := 2) (.slice (some ⟨w.heap.size + 3, 0, none⟩) m m)
  have o2 := o1.far (only_put (g := w.heap.size + 1 + 1) (World.grownBy.refl _ _) 2 (.slice (some ⟨w.heap.size + 3, 0, none⟩) m m)) (.inr (by simp [Value.ownBlock]))
  have bb2 := bb1.setCell (p := ⟨w.heap.size + 1 + 1, 2, none⟩) (by simp; omega) (.slice (some ⟨w.heap.size + 3, 0, none⟩) m m)
  obtain ⟨w2, hw2⟩ : ∃ w2, w1.setCell ⟨w.heap.size + 1 + 1, 2, none⟩ (.slice (some ⟨w.heap.size + 3, 0, none⟩) m m) = w2 := ⟨_, rfl⟩
  rw [hw2] at c3 d1 o2 bb2
  have y0 : w2.cell? ⟨w.heap.size + 1 + 1, 0, none⟩ = some (.bool cl.u) := c3.cell 0
  have y1 : w2.cell? ⟨w.heap.size + 1 + 1, 1, none⟩ = some (.int .i64 cl.d) := c3.cell 1
  have y2 : w2.cell? ⟨w.heap.size + 1 + 1, 2, none⟩ = some (.slice (some ⟨w.heap.size + 3, 0, none⟩) m m) := c3.cell 2
  have u0 : w2.cell? ⟨w.heap.size + 1, 0, none⟩ = some (.bool false) := d1.cell 0
  have u1 : w2.cell? ⟨w.heap.size + 1, 1, none⟩ = some (.int .i64 0) := d1.cell 1
  have u2 : w2.cell? ⟨w.heap.size + 1, 2, none⟩ = some (.slice none 0 0) := d1.cell 2
  have f0 := d1.frozen 0
  have f1 := d1.frozen 1
  have f2 := d1.frozen 2
  have d2 := ((d1.put 0 (.bool cl.u)).put 1 (.int .i64 cl.d)).put 2 (.slice (some ⟨w.heap.size + 3, 0, none⟩) m m)
  have q0 := d2.cell 0
  have q1 := d2.cell 1
  have q2 := d2.cell 2
  have bb3 := ((bb2.setCell (p := ⟨w.heap.size + 1, 0, none⟩) (by simp) (.bool cl.u)).setCell (p := ⟨w.heap.size + 1, 1, none⟩) (by simp) (.int .i64 cl.d)).setCell (p := ⟨w.heap.size + 1, 2, none⟩) (by simp) (.slice (some ⟨w.heap.size + 3, 0, none⟩) m m)
  have hne : ((Value.slice (some ⟨w.heap.size + 3, 0, none⟩) m m).ownBlock = none ∨ (Value.slice (some ⟨w.heap.size + 3, 0, none⟩) m m).ownBlock ≠ some (w.heap.size + 1)) := .inr (by simp [Value.ownBlock])
  have o3 := ((o2.far (only_put (g := w.heap.size + 1) (World.grownBy.refl _ _) 0 (.bool cl.u)) hne).far (only_put (g := w.heap.size + 1) (World.grownBy.refl _ _) 1 (.int .i64 cl.d)) hne).far (only_put (g := w.heap.size + 1) (World.grownBy.refl _ _) 2 (.slice (some ⟨w.heap.size + 3, 0, none⟩) m m)) hne
  simp at q0 q1 q2
  clear c1 c2 c3 d1 d2 o1 o2 b1 b3 bb1 bb2 r1 r2 i3 hsz hne
  go_wp2_with fail
  exact bodyPost_ret (v := .agg #[.bool cl.u, .int .i64 cl.d, .slice (some ⟨w.heap.size + 3, 0, none⟩) m m]) (by simp [results, Try.results94, go_sem, *]) rfl ⟨_, rfl, o3.base (by omega), bb3⟩

/-- a cell that is not used -/
def noCl : Cl := ⟨false, 0, []⟩
theorem madeC_list (n : Nat) : (madeCells (Value.agg #[.bool false, .int .i64 0, .slice none 0 0]).cells (n * 3)).toList = flatC (List.replicate n noCl) (List.replicate n (.slice none 0 0)) := by
  have hl := flatC_length (List.replicate n noCl) (List.replicate n (.slice none 0 0)) (by simp)
  rw [List.length_replicate] at hl
  apply List.ext_getElem?
  intro j
  rcases Nat.lt_or_ge j (n * 3) with hj | hj
  · have hk : j / 3 < n := by omega
    obtain ⟨f1, f2, f3⟩ := flatC_at (List.replicate n noCl) (List.replicate n (.slice none 0 0)) (j / 3) noCl (.slice none 0 0) (by simp [hk]) (by simp [hk])
    have hm : (madeCells (Value.agg #[.bool false, .int .i64 0, .slice none 0 0]).cells (n * 3)).toList[j]? = some ((Value.agg #[.bool false, .int .i64 0, .slice none 0 0]).cells[j % 3]!) := by
      simp [madeCells, hj, Value.cells]
    rw [hm]
    have h3 : j % 3 = 0 ∨ j % 3 = 1 ∨ j % 3 = 2 := by omega
    rcases h3 with e | e | e
    · rw [e]
      rw [show j = j / 3 * 3 by omega, f1]
      rfl
    · rw [e]
      rw [show j = j / 3 * 3 + 1 by omega, f2]
      rfl
    · rw [e]
      rw [show j = j / 3 * 3 + 2 by omega, f3]
      rfl
  · rw [List.getElem?_eq_none (by simp [madeCells]; omega), List.getElem?_eq_none (by omega)]
theorem makeC (W : World) (n : Nat) (hn : n ≤ 1099511627776) : (Instr.makeSlice 23 (.int .i64 n) (.int .i64 n)).run Try.prog W = .ok (.slice (some ⟨W.heap.size, 0, none⟩) n n) (W.alloc (.cells (flatC (List.replicate n noCl) (List.replicate n (.slice none 0 0))).toArray 45)) := by
  obtain ⟨i0, hi0, hz0, hz1, hz2⟩ := info_parts info_cell
  have := run_make (P := Try.prog) W 23 45 i0 _ Try.underlying23 hi0 hz0 .i64 .i64 n n (by omega) (by omega) (by rw [hz2]; omega) (by omega)
  rw [hz1] at this
  rw [← madeC_list]
  simpa using this
theorem own_madeC (w : World) (n : Nat) (hn : n ≤ 1099511627776) : OwnHx (w.alloc (.cells (flatC (List.replicate n noCl) (List.replicate n (.slice none 0 0))).toArray 45)) w.heap.size (.slice (some ⟨w.heap.size, 0, none⟩) n n) (.slice none 0 0) (List.replicate n (.slice none 0 0)) ⟨List.replicate n noCl, []⟩ := by
  have hl := flatC_length (List.replicate n noCl) (List.replicate n (.slice none 0 0)) (by simp)
  rw [List.length_replicate] at hl
  refine ⟨by simp, ?_, fun k c v hc hv => ?_, World.ownsRow_nil _ _ _ _, ?_⟩
  · have := World.ownsRow_lit (base := w.heap.size) (e := 45) (size := 3) w (flatC (List.replicate n noCl) (List.replicate n (.slice none 0 0))).toArray n (Nat.le_refl _) (by unfold maxLen; omega) (by simp [hl])
    simpa using this
  · rw [List.getElem?_replicate] at hc hv
    split at hc
    · injection hc with hc
      rename_i hk
      rw [if_pos hk] at hv
      injection hv with hv
      subst hc hv
      exact World.ownsRow_nil _ _ _ _
    · cases hc
  · unfold Sep
    rw [List.pairwise_cons, List.pairwise_cons]
    refine ⟨fun v hv => ?_, fun v hv => .inl rfl, ?_⟩
    · simp only [List.mem_cons, List.mem_replicate] at hv
      rcases hv with rfl | ⟨_, rfl⟩ <;> exact .inr (by simp [Value.ownBlock])
    · rw [List.pairwise_replicate]
      exact .inr (.inl rfl)

theorem set_takeC {cs : List Cl} {n k : Nat} {y : Cl} (hl : cs.length = n) (hk : k < n) (hy : cs[k]? = some y) : (cs.take k ++ List.replicate (n - k) noCl).set k y = cs.take (k + 1) ++ List.replicate (n - (k + 1)) noCl := by
  have h1 : (cs.take k).length = k := by rw [List.length_take]; omega
  rw [List.set_append_right _ _ (by omega), h1, Nat.sub_self, show n - k = (n - (k + 1)) + 1 by omega, List.replicate_succ, List.set_cons_zero, List.take_add_one, hy]
  simp

set_option maxHeartbeats 2000000 in
theorem toCellS_any (A : Option Addr) (n c : Nat) (cs : List Cl) (w : World) (h : CS w w.heap.size A n cs) (hn : n ≤ 1099511627776) (hb : ∀ cl ∈ cs, cl.r.length ≤ 1099511627776) :
    Calls Try.prog 63 #[.slice A n c] w fun e w' => ∃ rvs, e = .returned (.slice (some ⟨w.heap.size, 0, none⟩) n n) ∧ OwnHx w' w.heap.size (.slice (some ⟨w.heap.size, 0, none⟩) n n) (.slice none 0 0) rvs ⟨cs, []⟩ ∧ Below w.heap.size w w' := by
  have hl := h.1
  have HB := Lib.hid hb
  clear hb
  have hmk := makeC w n hn
  have o2 := own_madeC w n hn
  have b2 : Below w.heap.size w (w.alloc (.cells (flatC (List.replicate n noCl) (List.replicate n (.slice none 0 0))).toArray 45)) := (Below.refl _ _).alloc (Nat.le_refl _) _
  have s2 : w.heap.size < (w.alloc (.cells (flatC (List.replicate n noCl) (List.replicate n (.slice none 0 0))).toArray 45)).heap.size := by simp
  obtain ⟨w2, hw2⟩ : ∃ w2, w.alloc (.cells (flatC (List.replicate n noCl) (List.replicate n (.slice none 0 0))).toArray 45) = w2 := ⟨_, rfl⟩
  rw [hw2] at hmk o2 b2 s2
  clear hw2
  go_enter Try.func63, Try.ntmps63
  go_wp2
  clear hmk
  go_loopw [4] (fun i wr => ∃ (k : Nat) (rvs : List Value), k ≤ n ∧ i = .int .i64 k ∧ OwnHx wr w.heap.size (.slice (some ⟨w.heap.size, 0, none⟩) n n) (.slice none 0 0) rvs ⟨cs.take k ++ List.replicate (n - k) noCl, []⟩ ∧ Below w.heap.size w wr ∧ w.heap.size < wr.heap.size) (fun i _ => n - (intOf i).toNat)
  case atStart => exact ⟨0, _, Nat.zero_le _, rfl, by simpa using o2, b2, s2⟩
  case round =>
    clear o2 b2 s2
    obtain ⟨k, rvs, hk, rfl, S, bb, hsz⟩ := hrel
    have hlen : (cs.take k ++ List.replicate (n - k) noCl).length = n := by simp; omega
    by_cases hlt : k < n
    · obtain ⟨g, o, cl, A', m', cc, e1, hg, hcl, d1, d2, d3, hmc, hi⟩ := (h.below bb).at_ hlt
      subst e1
      have hlt' : (k : Int) < n := by omega
      have hl3 := hi.1
      have hm3 : m' ≤ 1099511627776 := by have := HB.out cl (List.mem_of_getElem? hcl); omega
      have HST := Lib.hid (set_takeC hl hlt hcl)
      have hold : (cs.take k ++ List.replicate (n - k) noCl)[k]? = some noCl := by
        rw [List.getElem?_append_right (by rw [List.length_take]; omega), List.length_take, Nat.min_eq_left (by omega), Nat.sub_self, List.getElem?_replicate, if_pos (by omega)]
      have hi' := hi.more bb.size
      clear hcl
      go_wp2_with fail
      refine (toCell_any cl _ _ _ _ hi' hm3).mono ?_
      rintro e w1 ⟨g1, rfl, o1, b1⟩
      have S1 := S.below b1 (Nat.le_refl _)
      have bb1 := bb.trans (b1.mono bb.size)
      have hg1 := (World.ownsRow.lt o1 g1 (by simp [Value.ownBlock]))
      have ST : OwnHx w1 w.heap.size (.slice (some ⟨w.heap.size, 0, none⟩) (Hp.mk (cs.take k ++ List.replicate (n - k) noCl) []).cs.length n) (.slice none 0 0) rvs ⟨cs.take k ++ List.replicate (n - k) noCl, []⟩ := by
        show OwnHx w1 w.heap.size (.slice (some ⟨w.heap.size, 0, none⟩) (cs.take k ++ List.replicate (n - k) noCl).length n) (.slice none 0 0) rvs ⟨cs.take k ++ List.replicate (n - k) noCl, []⟩
        rw [hlen]
        exact S1
      have N := ST.cell (k := k) (cl := cl) (old := noCl) hold (o1.base bb.size) (fun v hv => .inr fun e => by
        have hb := (S.blocks (v := v) (by simpa only [hlen] using hv) (k := g1) (by rw [← e]; simp [Value.ownBlock])).2
        omega)
      simp only [hlen] at N
      rw [HST.out] at N
      have row := S1.row
      simp only [hlen] at row
      obtain ⟨v0, hv0⟩ : ∃ v0, rvs[k]? = some v0 := ⟨_, List.getElem?_eq_getElem (by rw [S1.len]; simp only [hlen]; exact hlt)⟩
      obtain ⟨f1, f2, f3⟩ := flatC_at _ _ _ _ _ hold hv0
      have q1 := (World.ownsRow.cellAt row (k * 3) (by omega)).trans f1
      have q2 := (World.ownsRow.cellAt row (k * 3 + 1) (by omega)).trans f2
      have q3 := (World.ownsRow.cellAt row (k * 3 + 2) (by omega)).trans f3
      have z1 := World.ownsRow.frozenAt row (k * 3)
      have z2 := World.ownsRow.frozenAt row (k * 3 + 1)
      have z3 := World.ownsRow.frozenAt row (k * 3 + 2)
      have bn := ((bb1.setCell (p := ⟨w.heap.size, k * 3, none⟩) (Nat.le_refl _) (.bool cl.u)).setCell (p := ⟨w.heap.size, k * 3 + 1, none⟩) (Nat.le_refl _) (.int .i64 cl.d)).setCell (p := ⟨w.heap.size, k * 3 + 2, none⟩) (Nat.le_refl _) (.slice (some ⟨g1, 0, none⟩) m' m')
      have hsz1 := b1.size
      have NN := Lib.hid N
      clear N ST S S1 row f1 f2 f3 hold o1 b1 d1 d2 d3 hi hi' bb1
      go_wp2_with fail
      go_roundw
      case rel => exact ⟨k + 1, _, by omega, by go_num, NN.out, bn, by simp; omega⟩
      case measure => simp [intOf]; omega
    · obtain rfl : k = n := by omega
      have e : cs.take k ++ List.replicate (k - k) noCl = cs := by rw [List.take_of_length_le (by omega)]; simp
      rw [e] at S
      clear hlen e
      go_wp2_with fail
      go_ret
      exact ⟨rvs, rfl, S, bb⟩
end Go.Proofs.Ytakdjiojahlnmaa

namespace Go.Proofs.Ytakdjiojahlnmaa
open Go.RowKit

theorem OwnHx.withRoots {w : World} {base base2 : Nat} {vc vr : Value} {rvs : List Value} {cs : List Cl} {rt : List Int} (S : OwnHx w base vc (.slice none 0 0) rvs ⟨cs, []⟩) (o : OwnI w base2 vr rt) (hb : base ≤ base2) (hf : ∀ v ∈ vc :: rvs, ∀ k, v.ownBlock = some k → k < base2) : OwnHx w base vc vr rvs ⟨cs, rt⟩ := by
  have hs := S.sep
  unfold Sep at hs
  rw [List.pairwise_cons, List.pairwise_cons] at hs
  have hne : ∀ v ∈ vc :: rvs, v.ownBlock = none ∨ v.ownBlock ≠ vr.ownBlock := fun v hv => by
    cases e : v.ownBlock with
    | none => exact .inl rfl
    | some k =>
      right
      intro e'
      have h1 := hf v hv k e
      have h2 := (World.ownsRow.lt o k e'.symm).1
      omega
  refine ⟨S.len, S.row, S.refs, o.base hb, ?_⟩
  unfold Sep
  rw [List.pairwise_cons, List.pairwise_cons]
  refine ⟨fun v hv => ?_, fun v hv => sep_back (hne v (by simp [hv])), hs.2.2⟩
  rcases List.mem_cons.1 hv with rfl | hv
  · exact hne vc (by simp)
  · exact hs.1 v (by simp [hv])

set_option maxHeartbeats 2000000 in
theorem toHeap_any (A R : Option Addr) (n c m d : Nat) (h : Hp) (w : World) (hs : HS w w.heap.size A n R m h) (hn : n ≤ 1099511627776) (hm : m ≤ 1099511627776) (hb : ∀ cl ∈ h.cs, cl.r.length ≤ 1099511627776) :
    Calls Try.prog 29 #[heapV A n c R m d] w fun e w' => ∃ g1 g2, e = .returned (heapV (some ⟨g1, 0, none⟩) n n (some ⟨g2, 0, none⟩) m m) ∧ OwnH w' w.heap.size (.slice (some ⟨g1, 0, none⟩) n n) (.slice (some ⟨g2, 0, none⟩) m m) h ∧ Below w.heap.size w w' := by
  have b3 : Below w.heap.size w (((w.alloc (.cells #[.slice A n c, .slice R m d] 50)).alloc (.cells #[.slice none 0 0, .slice none 0 0] 26)).alloc (.cells #[.slice none 0 0, .slice none 0 0] 26)) := (((Below.refl w.heap.size w).alloc (Nat.le_refl _) _).alloc (by simp) _).alloc (by simp; omega) _
  have i3 := hs.up b3
  have r0 := ((Rw.new w 50 #[.slice A n c, .slice R m d]).alloc (.cells #[.slice none 0 0, .slice none 0 0] 26)).alloc (.cells #[.slice none 0 0, .slice none 0 0] 26)
  have r1 := (Rw.new (w.alloc (.cells #[.slice A n c, .slice R m d] 50)) 26 #[.slice none 0 0, .slice none 0 0]).alloc (.cells #[.slice none 0 0, .slice none 0 0] 26)
  have r2 := Rw.new ((w.alloc (.cells #[.slice A n c, .slice R m d] 50)).alloc (.cells #[.slice none 0 0, .slice none 0 0] 26)) 26 #[.slice none 0 0, .slice none 0 0]
  have hsz : (((w.alloc (.cells #[.slice A n c, .slice R m d] 50)).alloc (.cells #[.slice none 0 0, .slice none 0 0] 26)).alloc (.cells #[.slice none 0 0, .slice none 0 0] 26)).heap.size = w.heap.size + 3 := by simp
  simp only [World.size_alloc] at r1 r2
  have HB := Lib.hid hb
  clear hb
  go_enter Try.func29, Try.ntmps29
  go_wp2_with fail
  refine (toCellS_any _ _ _ h.cs _ i3.cells hn HB.out).mono ?_
  rw [hsz]
  rintro e w1 ⟨rvs, rfl, S, b1⟩
  have c0 := r0.keep b1 (by omega)
  have c1 := r1.keep b1 (by omega)
  have c2 := r2.keep b1 (by omega)
  have bb1 := b3.trans (b1.mono (by omega))
  have x0 : w1.cell? ⟨w.heap.size + 1 + 1, 0, none⟩ = some (.slice none 0 0) := c2.cell 0
  have x1 : w1.cell? ⟨w.heap.size + 1 + 1, 1, none⟩ = some (.slice none 0 0) := c2.cell 1
  have x3 := c2.frozen 0
  -- the cells are put into the box
  have S2 := S.far (put_any w1 (w.heap.size + 1 + 1) 0 (.slice (some ⟨w.heap.size + 3, 0, none⟩) n n)) (S.apart_below (by omega))
  have e0 := Rw.other (w := w1) c0 (show w.heap.size ≠ w.heap.size + 1 + 1 by omega) (i := 0) (.slice (some ⟨w.heap.size + 3, 0, none⟩) n n)
  have e1 := Rw.other (w := w1) c1 (show w.heap.size + 1 ≠ w.heap.size + 1 + 1 by omega) (i := 0) (.slice (some ⟨w.heap.size + 3, 0, none⟩) n n)
  have e2 := c2.put 0 (.slice (some ⟨w.heap.size + 3, 0, none⟩) n n)
  have bb2 := bb1.setCell (p := ⟨w.heap.size + 1 + 1, 0, none⟩) (by simp; omega) (.slice (some ⟨w.heap.size + 3, 0, none⟩) n n)
  have hsz1 := b1.size
  have hsz2 : (w1.setCell ⟨w.heap.size + 1 + 1, 0, none⟩ (.slice (some ⟨w.heap.size + 3, 0, none⟩) n n)).heap.size = w1.heap.size := by simp
  obtain ⟨w2, hw2⟩ : ∃ w2, w1.setCell ⟨w.heap.size + 1 + 1, 0, none⟩ (.slice (some ⟨w.heap.size + 3, 0, none⟩) n n) = w2 := ⟨_, rfl⟩
  rw [hw2] at S2 e0 e1 e2 bb2 hsz2
  have hs2 := (hs.below bb2).more bb2.size
  have z1 : w2.cell? ⟨w.heap.size, 1, none⟩ = some (.slice R m d) := e0.cell 1
  have e2' : Rw w2 (w.heap.size + 1 + 1) 26 #[.slice (some ⟨w.heap.size + 3, 0, none⟩) n n, .slice none 0 0] := e2
  clear c0 c1 c2 S b1 b3 bb1 r0 r1 r2 i3 e0 e2
  go_wp2_with fail
  refine (toIntS_any _ _ _ h.rt _ hs2.roots hm).mono ?_
  rintro e w3 ⟨rfl, o3, b3⟩
  have S3 := S2.below b3 (Nat.le_refl _)
  have f1 := e1.keep b3 e1.lt
  have f2 := e2'.keep b3 e2'.lt
  have bb3 := bb2.trans (b3.mono bb2.size)
  have H3 := S3.withRoots o3 (by omega) (fun v hv k hk => (S2.blocks (v := v) (by simp only [List.mem_cons] at hv ⊢; rcases hv with h | h <;> simp [h]) hk).2)
  have hge : w.heap.size + 3 ≤ w2.heap.size := by omega
  obtain ⟨g2, hg2⟩ : ∃ g2, w2.heap.size = g2 := ⟨_, rfl⟩
  rw [hg2] at H3 hge
  rw [hg2]
  have y0 : w3.cell? ⟨w.heap.size + 1 + 1, 0, none⟩ = some (.slice (some ⟨w.heap.size + 3, 0, none⟩) n n) := f2.cell 0
  have y1 : w3.cell? ⟨w.heap.size + 1 + 1, 1, none⟩ = some (.slice none 0 0) := f2.cell 1
  have y2 := f2.frozen 1
  -- the roots are put into the box
  have H4 := H3.far (put_any w3 (w.heap.size + 1 + 1) 1 (.slice (some ⟨g2, 0, none⟩) m m)) (H3.apart_below (by omega))
  have k1 := Rw.other (w := w3) f1 (show w.heap.size + 1 ≠ w.heap.size + 1 + 1 by omega) (i := 1) (.slice (some ⟨g2, 0, none⟩) m m)
  have k2 : Rw (w3.setCell ⟨w.heap.size + 1 + 1, 1, none⟩ (.slice (some ⟨g2, 0, none⟩) m m)) (w.heap.size + 1 + 1) 26 #[.slice (some ⟨w.heap.size + 3, 0, none⟩) n n, .slice (some ⟨g2, 0, none⟩) m m] := f2.put 1 _
  have bb4 := bb3.setCell (p := ⟨w.heap.size + 1 + 1, 1, none⟩) (by simp; omega) (.slice (some ⟨g2, 0, none⟩) m m)
  obtain ⟨w4, hw4⟩ : ∃ w4, w3.setCell ⟨w.heap.size + 1 + 1, 1, none⟩ (.slice (some ⟨g2, 0, none⟩) m m) = w4 := ⟨_, rfl⟩
  rw [hw4] at H4 k1 k2 bb4
  have u0 : w4.cell? ⟨w.heap.size + 1 + 1, 0, none⟩ = some (.slice (some ⟨w.heap.size + 3, 0, none⟩) n n) := k2.cell 0
  have u1 : w4.cell? ⟨w.heap.size + 1 + 1, 1, none⟩ = some (.slice (some ⟨g2, 0, none⟩) m m) := k2.cell 1
  have v0 : w4.cell? ⟨w.heap.size + 1, 0, none⟩ = some (.slice none 0 0) := k1.cell 0
  have v1 : w4.cell? ⟨w.heap.size + 1, 1, none⟩ = some (.slice none 0 0) := k1.cell 1
  have v2 := k1.frozen 0
  have v3 := k1.frozen 1
  have k3 := (k1.put 0 (.slice (some ⟨w.heap.size + 3, 0, none⟩) n n)).put 1 (.slice (some ⟨g2, 0, none⟩) m m)
  have q0 := k3.cell 0
  have q1 := k3.cell 1
  have bb5 := (bb4.setCell (p := ⟨w.heap.size + 1, 0, none⟩) (by simp) (.slice (some ⟨w.heap.size + 3, 0, none⟩) n n)).setCell (p := ⟨w.heap.size + 1, 1, none⟩) (by simp) (.slice (some ⟨g2, 0, none⟩) m m)
  have ap := H4.apart_below (b := w.heap.size + 1) (by omega)
  have H5 := ((H4.far (put_any w4 (w.heap.size + 1) 0 (.slice (some ⟨w.heap.size + 3, 0, none⟩) n n)) ap).far (put_any _ (w.heap.size + 1) 1 (.slice (some ⟨g2, 0, none⟩) m m)) ap).base (show w.heap.size ≤ w.heap.size + 3 by omega)
  simp at q0 q1
  have OH := Lib.hid H5
  clear S2 S3 H3 H4 H5 e1 e2' f1 f2 k1 k2 k3 o3 b3 bb2 bb3 bb4 ap hs2
  go_wp2_with fail
  exact bodyPost_ret (v := heapV (some ⟨w.heap.size + 3, 0, none⟩) n n (some ⟨g2, 0, none⟩) m m) (by simp [results, Try.results29, go_sem, *]) rfl ⟨_, _, rfl, ⟨_, OH.out⟩, bb5⟩
end Go.Proofs.Ytakdjiojahlnmaa

namespace Go.Proofs.Ytakdjiojahlnmaa
open Go.RowKit
set_option maxRecDepth 100000

set_option maxHeartbeats 1000000 in
theorem eqCell_any (x y : Cl) (A B : Option Addr) (m q c d : Nat) (w : World) (hx : IS w w.heap.size A m x.r) (hy : IS w w.heap.size B q y.r) (hm : m ≤ 1099511627776) (hq : q ≤ 1099511627776) :
    Calls Try.prog 95 #[.agg #[.bool x.u, .int .i64 x.d, .slice A m c], .agg #[.bool y.u, .int .i64 y.d, .slice B q d]] w fun e w' => e = .returned (.bool (decide (x = y))) ∧ Below w.heap.size w w' := by
  have b2 : Below w.heap.size w ((w.alloc (.cells #[.bool x.u, .int .i64 x.d, .slice A m c] 45)).alloc (.cells #[.bool y.u, .int .i64 y.d, .slice B q d] 45)) := ((Below.refl w.heap.size w).alloc (Nat.le_refl _) _).alloc (by simp) _
  have x2 := hx.up b2
  have y2 := hy.up b2
  by_cases hu : x.u = y.u
  · have hu' : (!x.u == y.u) = false := by simp [hu]
    have HU := Lib.hid hu
    clear hu
    by_cases hd : x.d = y.d
    · have hd' : (x.d != y.d) = false := by rw [bne_eq_false_iff_eq]; exact hd
      have HD := Lib.hid hd
      clear hd
      cases hr : decide (x.r = y.r)
      · have HR := Lib.hid (show decide (x = y) = false by
          have hne := of_decide_eq_false hr
          apply decide_eq_false
          rintro rfl
          exact hne rfl)
        have HRR := Lib.hid hr
        clear hr
        go_enter Try.func95, Try.ntmps95
        go_wp2_with fail
        refine (eqIntS_any _ _ _ _ _ _ x.r y.r _ x2 y2 hm hq).mono ?_
        rw [HRR.out]
        rintro e w1 ⟨rfl, b1⟩
        go_wp2_with fail
        go_ret
        exact ⟨by rw [HR.out]; rfl, b2.trans (b1.mono b2.size)⟩
      · have HR := Lib.hid (show decide (x = y) = true by
          have hrr := of_decide_eq_true hr
          apply decide_eq_true
          have h1 := HU.out
          have h2 := HD.out
          cases x
          cases y
          simp_all)
        have HRR := Lib.hid hr
        clear hr
        go_enter Try.func95, Try.ntmps95
        go_wp2_with fail
        refine (eqIntS_any _ _ _ _ _ _ x.r y.r _ x2 y2 hm hq).mono ?_
        rw [HRR.out]
        rintro e w1 ⟨rfl, b1⟩
        go_wp2_with fail
        go_ret
        exact ⟨by rw [HR.out]; rfl, b2.trans (b1.mono b2.size)⟩
    · have hd' : (x.d != y.d) = true := by rw [bne_iff_ne]; exact hd
      have HR := Lib.hid (show decide (x = y) = false by apply decide_eq_false; rintro rfl; exact hd rfl)
      clear hd
      go_enter Try.func95, Try.ntmps95
      go_wp2_with fail
      go_ret
      exact ⟨by rw [HR.out]; rfl, b2⟩
  · have hu' : (!x.u == y.u) = true := by simp [hu]
    have HR := Lib.hid (show decide (x = y) = false by apply decide_eq_false; rintro rfl; exact hu rfl)
    clear hu
    go_enter Try.func95, Try.ntmps95
    go_wp2_with fail
    go_ret
    exact ⟨by rw [HR.out]; rfl, b2⟩

theorem take_eq_succC {xs ys : List Cl} {k : Nat} {x y : Cl} (h : xs.take k = ys.take k) (hx : xs[k]? = some x) (hy : ys[k]? = some y) (he : decide (x = y) = true) : xs.take (k + 1) = ys.take (k + 1) := by
  rw [List.take_add_one, List.take_add_one, h, hx, hy, of_decide_eq_true he]
theorem ne_of_atC {xs ys : List Cl} {k : Nat} {x y : Cl} (hx : xs[k]? = some x) (hy : ys[k]? = some y) (he : decide (x = y) = false) : decide (xs = ys) = false := by
  apply decide_eq_false
  rintro rfl
  rw [hx] at hy
  injection hy with hy
  exact of_decide_eq_false he hy

set_option maxHeartbeats 1000000 in
theorem eqCellS_any (A B : Option Addr) (n m c d : Nat) (xs ys : List Cl) (w : World) (h : CS w w.heap.size A n xs) (h' : CS w w.heap.size B m ys) (hn : n ≤ 1099511627776) (hm : m ≤ 1099511627776) (hb : ∀ cl ∈ xs, cl.r.length ≤ 1099511627776) (hb' : ∀ cl ∈ ys, cl.r.length ≤ 1099511627776) :
    Calls Try.prog 66 #[.slice A n c, .slice B m d] w fun e w' => e = .returned (.bool (decide (xs = ys))) ∧ Below w.heap.size w w' := by
  have HL := Lib.hid h.1
  have HL' := Lib.hid h'.1
  have HB := Lib.hid hb
  have HB' := Lib.hid hb'
  clear hb hb'
  by_cases hnm : n = m
  · subst hnm
    go_enter Try.func66, Try.ntmps66
    go_wp2
    go_loopw [5] (fun i wr => ∃ (k : Nat), k ≤ n ∧ i = .int .i64 k ∧ Hid (xs.take k = ys.take k) ∧ Below w.heap.size w wr) (fun i _ => n - (intOf i).toNat)
    case atStart => exact ⟨0, Nat.zero_le _, rfl, by simp [Hid], Below.refl _ _⟩
    case round =>
      obtain ⟨k, hk, rfl, hpre, hb⟩ := hrel
      by_cases hlt : k < n
      · obtain ⟨g, o, x, A1, m1, c1, rfl, hg, hx, p1, p2, p3, _, hi⟩ := (h.below hb).at_ hlt
        obtain ⟨g', o', y, B1, q1, d1, rfl, hg', hx', r1, r2, r3, _, hi'⟩ := (h'.below hb).at_ hlt
        have HX := Lib.hid hx
        have HX' := Lib.hid hx'
        have hm1 : m1 ≤ 1099511627776 := by have := HB.out x (List.mem_of_getElem? hx); have := hi.1; omega
        have hq1 : q1 ≤ 1099511627776 := by have := HB'.out y (List.mem_of_getElem? hx'); have := hi'.1; omega
        have hi2 : IS wr.drew wr.drew.heap.size A1 m1 x.r := hi.more hb.size
        have hi2' : IS wr.drew wr.drew.heap.size B1 q1 y.r := hi'.more hb.size
        clear hx hx' hi hi'
        go_wp2
        go_still_tail 8, (by kernel_rfl)
        change wpList _ _ _ _ _ wr.drew
        have hbd : Below w.heap.size w wr.drew := hb.drew
        generalize wr.drew = w2 at hbd hi2 hi2'
        cases he : decide (x = y)
        all_goals
          have HE := Lib.hid he
          clear he
          go_wp2_with (go_at_call 95; refine (eqCell_any x y _ _ _ _ _ _ _ hi2 hi2' hm1 hq1).mono ?_; rw [HE.out]; rintro e w1 ⟨rfl, hb1⟩)
        · go_ret
          exact ⟨ret_bool (ne_of_atC HX.out HX'.out HE.out).symm, hbd.trans (hb1.mono hbd.size)⟩
        · go_roundw
          case rel => exact ⟨k + 1, by omega, by go_num, Lib.hid (take_eq_succC hpre.out HX.out HX'.out HE.out), hbd.trans (hb1.mono hbd.size)⟩
          case measure => simp [intOf]; omega
      · have hkn : k = n := by omega
        have HK := Lib.hid hkn
        clear hkn
        go_wp2
        go_ret
        refine ⟨ret_bool ?_, hb⟩
        have hp := hpre.out
        rw [HK.out, List.take_of_length_le (by rw [HL.out]; omega), List.take_of_length_le (by rw [HL'.out]; omega)] at hp
        simp [hp]
  · have hne : ((n : Int) != m) = true := by rw [bne_iff_ne]; omega
    have HN := Lib.hid hnm
    clear hnm
    go_enter Try.func66, Try.ntmps66
    go_wp2
    go_ret
    refine ⟨ret_bool ?_, Below.refl _ _⟩
    simp
    rintro rfl
    exact HN.out (HL.out.symm.trans HL'.out)

set_option maxHeartbeats 1000000 in
theorem eqHeap_any (A R A' R' : Option Addr) (n c m d n' c' m' d' : Nat) (x y : Hp) (w : World) (hx : HS w w.heap.size A n R m x) (hy : HS w w.heap.size A' n' R' m' y) (hn : n ≤ 1099511627776) (hm : m ≤ 1099511627776) (hn' : n' ≤ 1099511627776) (hm' : m' ≤ 1099511627776) (hb : ∀ cl ∈ x.cs, cl.r.length ≤ 1099511627776) (hb' : ∀ cl ∈ y.cs, cl.r.length ≤ 1099511627776) :
    Calls Try.prog 31 #[heapV A n c R m d, heapV A' n' c' R' m' d'] w fun e w' => e = .returned (.bool (decide (x = y))) ∧ Below w.heap.size w w' := by
  have b2 : Below w.heap.size w ((w.alloc (.cells #[.slice A n c, .slice R m d] 26)).alloc (.cells #[.slice A' n' c', .slice R' m' d'] 26)) := ((Below.refl w.heap.size w).alloc (Nat.le_refl _) _).alloc (by simp) _
  have x2 := hx.up b2
  have y2 := hy.up b2
  have r0 := (Rw.new w 26 #[.slice A n c, .slice R m d]).alloc (.cells #[.slice A' n' c', .slice R' m' d'] 26)
  have r1 := Rw.new (w.alloc (.cells #[.slice A n c, .slice R m d] 26)) 26 #[.slice A' n' c', .slice R' m' d']
  simp only [World.size_alloc] at r1
  cases hc : decide (x.cs = y.cs)
  · have HC := Lib.hid hc
    have HR := Lib.hid (show decide (x = y) = false by
      have hne := of_decide_eq_false hc
      apply decide_eq_false
      rintro rfl
      exact hne rfl)
    clear hc
    go_enter Try.func31, Try.ntmps31
    go_wp2_with fail
    refine (eqCellS_any _ _ _ _ _ _ x.cs y.cs _ x2.cells y2.cells hn hn' hb hb').mono ?_
    rw [HC.out]
    rintro e w1 ⟨rfl, b1⟩
    go_wp2_with fail
    go_ret
    exact ⟨by rw [HR.out]; rfl, b2.trans (b1.mono b2.size)⟩
  · have HC := Lib.hid hc
    clear hc
    cases hr : decide (x.rt = y.rt)
    all_goals
      have HRT := Lib.hid hr
      have HR := Lib.hid (show decide (x = y) = decide (x.rt = y.rt) by
        have e1 := of_decide_eq_true HC.out
        rw [decide_eq_decide]
        cases x
        cases y
        simp_all)
      clear hr
      go_enter Try.func31, Try.ntmps31
      go_wp2_with fail
      refine (eqCellS_any _ _ _ _ _ _ x.cs y.cs _ x2.cells y2.cells hn hn' hb hb').mono ?_
      rw [HC.out]
      rintro e w1 ⟨rfl, b1⟩
      have bb1 := b2.trans (b1.mono b2.size)
      have c0 := r0.keep b1 (by simp; omega)
      have c1 := r1.keep b1 (by simp)
      have x3 := x2.up b1
      have y3 := y2.up b1
      have z0 : w1.cell? ⟨w.heap.size, 1, none⟩ = some (.slice R m d) := c0.cell 1
      have z1 : w1.cell? ⟨w.heap.size + 1, 1, none⟩ = some (.slice R' m' d') := c1.cell 1
      clear c0 c1 r0 r1 x2 y2
      go_wp2_with fail
      refine (eqIntS_any _ _ _ _ _ _ x.rt y.rt _ x3.roots y3.roots hm hm').mono ?_
      rw [HRT.out]
      rintro e w2 ⟨rfl, b2'⟩
      go_wp2_with fail
      go_ret
      exact ⟨by rw [HR.out, HRT.out]; rfl, bb1.trans (b2'.mono bb1.size)⟩
end Go.Proofs.Ytakdjiojahlnmaa

namespace Go.Proofs.Ytakdjiojahlnmaa
open Go.ChangeShapes Go.WideShapes Go.ChangeAt Go.RowKit Go.Deep
set_option maxRecDepth 100000

/-- how many references the first k cells have -/
def refN (cs : List Cl) (k : Nat) : Nat := ((cs.take k).map (·.r.length)).sum
theorem refN_succ {cs : List Cl} {k : Nat} {c : Cl} (h : cs[k]? = some c) : refN cs (k + 1) = refN cs k + c.r.length := by
  simp [refN, List.take_add_one, h]
theorem refN_mono (cs : List Cl) : ∀ {j k : Nat}, j ≤ k → refN cs j ≤ refN cs k := by
  intro j k hjk
  induction hjk with
  | refl => exact Nat.le_refl _
  | step _ ih =>
    refine Nat.le_trans ih ?_
    rename_i k _
    cases h : cs[k]? with
    | none => simp [refN, List.take_add_one, h]
    | some c => rw [refN_succ h]; omega
theorem refN_mem {cs : List Cl} {c : Cl} (hc : c ∈ cs) : c.r.length ≤ refN cs cs.length := by
  obtain ⟨k, hk⟩ := List.mem_iff_getElem?.1 hc
  have h1 := refN_succ hk
  have h2 := refN_mono cs (j := k + 1) (k := cs.length) (List.getElem?_eq_some_iff.1 hk).1
  omega
/-- what is left of l -/
def leftOf (l : Int) (n : Nat) : Int := if (n : Int) ≤ l then l - n else -1

set_option maxHeartbeats 1000000 in
theorem szCell_any (cl : Cl) (A : Option Addr) (m cc : Nat) (l : Int) (w : World) (h0 : 0 ≤ l) (h1 : l ≤ 1099511627776) (hm : m ≤ 9223372036854775807) :
    Calls Try.prog 93 #[.agg #[.bool cl.u, .int .i64 cl.d, .slice A m cc], .int .i64 l] w fun e w' => e = .returned (.int .i64 (leftOf l m)) ∧ Below w.heap.size w w' := by
  have b1 : Below w.heap.size w (w.alloc (.cells #[.bool cl.u, .int .i64 cl.d, .slice A m cc] 120)) := (Below.refl _ _).alloc (Nat.le_refl _) _
  unfold leftOf
  by_cases h : (m : Int) ≤ l
  · have HI := Lib.hid (show (if (m : Int) ≤ l then l - m else -1) = l - m from if_pos h)
    have h' : decide (l - (m : Int) < 0) = false := decide_eq_false (by omega)
    go_enter Try.func93, Try.ntmps93
    go_wp2_with fail
    refine (szIntS_any _ _ _ _ _ h0 h1 hm).mono ?_
    rw [HI.out]
    rintro e w' ⟨rfl, rfl⟩
    go_wp2_with fail
    go_ret
    exact ⟨rfl, b1⟩
  · have HI := Lib.hid (show (if (m : Int) ≤ l then l - m else -1) = -1 from if_neg h)
    go_enter Try.func93, Try.ntmps93
    go_wp2_with fail
    refine (szIntS_any _ _ _ _ _ h0 h1 hm).mono ?_
    rw [HI.out]
    rintro e w' ⟨rfl, rfl⟩
    go_wp2_with fail
    go_ret
    exact ⟨rfl, b1⟩

set_option maxHeartbeats 2000000 in
theorem szCellS_any (A : Option Addr) (n c : Nat) (cs : List Cl) (l : Int) (w : World) (h : CS w w.heap.size A n cs) (h0 : 0 ≤ l) (h1 : l ≤ 1099511627776) (hn : n ≤ 9223372036854775807) (hb : ∀ cl ∈ cs, cl.r.length ≤ 9223372036854775807) :
    Calls Try.prog 61 #[.slice A n c, .int .i64 l] w fun e w' => e = .returned (.int .i64 (leftOf l (n + refN cs n))) ∧ Below w.heap.size w w' := by
  have HB := Lib.hid hb
  clear hb
  by_cases hl : (n : Int) ≤ l
  · have hl' : decide (l - (n : Int) < 0) = false := decide_eq_false (by omega)
    go_enter Try.func61, Try.ntmps61
    go_wp2_with fail
    go_loopw [1, 5] (fun q i wr => ∃ k : Nat, k ≤ n ∧ i = .int .i64 k ∧ q = .int .i64 (l - n - refN cs k) ∧ (0 : Int) ≤ l - n - refN cs k ∧ Below w.heap.size w wr) (fun _ i _ => n - (intOf i).toNat)
    case atStart => exact ⟨0, Nat.zero_le _, rfl, by simp [refN], by simp [refN]; omega, Below.refl _ _⟩
    case round =>
      obtain ⟨k, hk, rfl, rfl, hnn, bb⟩ := hrel
      by_cases hlt : k < n
      · obtain ⟨g, o, cl, A', m', cc, e1, hg, hcl, d1, d2, d3, hmc, hi⟩ := (h.below bb).at_ hlt
        subst e1
        have hlt' : (k : Int) < n := by omega
        have hm3 : m' ≤ 9223372036854775807 := by have := HB.out cl (List.mem_of_getElem? hcl); have := hi.1; omega
        have hs := refN_succ hcl
        rw [hi.1] at hs
        have hle := refN_mono cs (j := k + 1) (k := n) (by omega)
        obtain ⟨r, hr⟩ : ∃ r, refN cs k = r := ⟨_, rfl⟩
        rw [hr] at hs hnn ⊢
        have HS := Lib.hid hs
        have HLE := Lib.hid hle
        clear hcl hs hle hr
        by_cases hfit : (m' : Int) ≤ l - n - r
        · have HF := Lib.hid (show leftOf (l - n - r) m' = l - n - r - m' from if_pos hfit)
          have hq0 : decide (l - (n : Int) - (r : Int) - (m' : Int) < 0) = false := decide_eq_false (by omega)
          go_wp2_with fail
          refine (szCell_any cl _ _ _ _ _ hnn (by omega) hm3).mono ?_
          rw [HF.out]
          rintro e w1 ⟨rfl, b1⟩
          go_wp2_with fail
          go_roundw
          case rel => exact ⟨k + 1, by omega, by go_num, int_eq (by rw [HS.out]; omega), by rw [HS.out]; omega, bb.trans (b1.mono bb.size)⟩
          case measure => simp [intOf]; omega
        · have HF := Lib.hid (show leftOf (l - n - r) m' = -1 from if_neg hfit)
          have HR := Lib.hid (show leftOf l (n + refN cs n) = -1 from if_neg (by have := HS.out; have := HLE.out; omega))
          go_wp2_with fail
          refine (szCell_any cl _ _ _ _ _ hnn (by omega) hm3).mono ?_
          rw [HF.out]
          rintro e w1 ⟨rfl, b1⟩
          go_wp2_with fail
          go_ret
          exact ⟨by rw [HR.out]; rfl, bb.trans (b1.mono bb.size)⟩
      · obtain rfl : k = n := by omega
        have HR := Lib.hid (show leftOf l (k + refN cs k) = l - k - refN cs k by rw [leftOf, if_pos (by omega)]; omega)
        go_wp2_with fail
        go_ret
        exact ⟨by rw [HR.out]; rfl, bb⟩
  · have hl' : l - (n : Int) < 0 := by omega
    have HR := Lib.hid (show leftOf l (n + refN cs n) = -1 from if_neg (by omega))
    go_enter Try.func61, Try.ntmps61
    go_wp2_with fail
    go_ret
    exact ⟨by rw [HR.out]; rfl, Below.refl _ _⟩

/-- all that a heap has: cells, references and roots -/
def sizeH (h : Hp) : Nat := h.cs.length + refN h.cs h.cs.length + h.rt.length
set_option maxHeartbeats 1000000 in
theorem szHeap_any (A R : Option Addr) (n c m d : Nat) (h : Hp) (l : Int) (w : World) (hs : HS w w.heap.size A n R m h) (h0 : 0 ≤ l) (h1 : l ≤ 1099511627776) (hn : n ≤ 9223372036854775807) (hm : m ≤ 9223372036854775807) (hb : ∀ cl ∈ h.cs, cl.r.length ≤ 9223372036854775807) :
    Calls Try.prog 28 #[heapV A n c R m d, .int .i64 l] w fun e w' => e = .returned (.int .i64 (leftOf l (sizeH h))) ∧ Below w.heap.size w w' := by
  have b1 : Below w.heap.size w (w.alloc (.cells #[.slice A n c, .slice R m d] 50)) := (Below.refl _ _).alloc (Nat.le_refl _) _
  have s1 := hs.up b1
  have r0 := Rw.new w 50 #[.slice A n c, .slice R m d]
  have hsz : sizeH h = n + refN h.cs n + m := by rw [sizeH, hs.cells.1, hs.roots.1]
  by_cases hf : ((n + refN h.cs n : Nat) : Int) ≤ l
  · have HF := Lib.hid (show leftOf l (n + refN h.cs n) = l - (n + refN h.cs n : Nat) from if_pos hf)
    have hq : decide (l - ((n + refN h.cs n : Nat) : Int) < 0) = false := decide_eq_false (by omega)
    obtain ⟨q, hq'⟩ : ∃ q : Int, l - ((n + refN h.cs n : Nat) : Int) = q := ⟨_, rfl⟩
    rw [hq'] at HF hq
    have hq0 : 0 ≤ q := by omega
    have hq1 : q ≤ 1099511627776 := by omega
    have HL := Lib.hid (show leftOf l (sizeH h) = leftOf q m by
      unfold leftOf
      rw [hsz]
      by_cases e : (m : Int) ≤ q
      · rw [if_pos e, if_pos (by omega)]; omega
      · rw [if_neg e, if_neg (by omega)])
    clear hq' hf
    by_cases e : (m : Int) ≤ q
    · have HE := Lib.hid (show (if (m : Int) ≤ q then q - m else -1) = q - m from if_pos e)
      have he : decide (q - (m : Int) < 0) = false := decide_eq_false (by omega)
      go_enter Try.func28, Try.ntmps28
      go_wp2_with fail
      refine (szCellS_any _ _ _ h.cs _ _ s1.cells h0 h1 hn hb).mono ?_
      rw [HF.out]
      rintro e' w1 ⟨rfl, b2⟩
      have z1 : w1.cell? ⟨w.heap.size, 1, none⟩ = some (.slice R m d) := (r0.keep b2 (by simp)).cell 1
      go_wp2_with fail
      refine (szIntS_any _ _ _ _ _ hq0 hq1 hm).mono ?_
      rw [HE.out]
      rintro e' w2 ⟨rfl, rfl⟩
      go_wp2_with fail
      go_ret
      exact ⟨by rw [HL.out, leftOf, HE.out]; rfl, b1.trans (b2.mono b1.size)⟩
    · have HE := Lib.hid (show (if (m : Int) ≤ q then q - m else -1) = -1 from if_neg e)
      go_enter Try.func28, Try.ntmps28
      go_wp2_with fail
      refine (szCellS_any _ _ _ h.cs _ _ s1.cells h0 h1 hn hb).mono ?_
      rw [HF.out]
      rintro e' w1 ⟨rfl, b2⟩
      have z1 : w1.cell? ⟨w.heap.size, 1, none⟩ = some (.slice R m d) := (r0.keep b2 (by simp)).cell 1
      go_wp2_with fail
      refine (szIntS_any _ _ _ _ _ hq0 hq1 hm).mono ?_
      rw [HE.out]
      rintro e' w2 ⟨rfl, rfl⟩
      go_wp2_with fail
      go_ret
      exact ⟨by rw [HL.out, leftOf, HE.out]; rfl, b1.trans (b2.mono b1.size)⟩
  · have HF := Lib.hid (show leftOf l (n + refN h.cs n) = -1 from if_neg hf)
    have HL := Lib.hid (show leftOf l (sizeH h) = -1 from if_neg (by rw [hsz]; omega))
    go_enter Try.func28, Try.ntmps28
    go_wp2_with fail
    refine (szCellS_any _ _ _ h.cs _ _ s1.cells h0 h1 hn hb).mono ?_
    rw [HF.out]
    rintro e' w1 ⟨rfl, b2⟩
    go_wp2_with fail
    go_ret
    exact ⟨by rw [HL.out]; rfl, b1.trans (b2.mono b1.size)⟩
end Go.Proofs.Ytakdjiojahlnmaa

namespace Go.Proofs.Ytakdjiojahlnmaa
open Go.RowKit
set_option maxRecDepth 100000

/-- only blocks of the values l have been written -/
structure Touched (w w' : World) (l : List Value) : Prop where
  os : w'.os = w.os
  tape : w'.tape = w.tape
  output : w'.output = w.output
  size : w.heap.size ≤ w'.heap.size
  block : ∀ j, j < w.heap.size → (∀ v ∈ l, v.ownBlock ≠ some j) → w'.heap[j]? = w.heap[j]?
theorem Touched.refl (w : World) (l : List Value) : Touched w w l := ⟨rfl, rfl, rfl, Nat.le_refl _, fun _ _ _ => rfl⟩
theorem Touched.grown {w w1 w2 : World} {l : List Value} {v : Value} (h : Touched w w1 l) (hg : w1.grownBy w2 v.ownBlock) (hv : v ∈ l) : Touched w w2 l :=
  ⟨hg.os.trans h.os, hg.tape.trans h.tape, hg.output.trans h.output, Nat.le_trans h.size hg.size, fun j hj hn => (hg.block j (Nat.lt_of_lt_of_le hj h.size) (fun e => hn v hv e.symm)).trans (h.block j hj hn)⟩
theorem Touched.put {w w1 : World} {l : List Value} {g : Nat} {v : Value} (h : Touched w w1 l) (hv : v ∈ l) (hg : v.ownBlock = some g) (i : Nat) (u : Value) : Touched w (w1.setCell ⟨g, i, none⟩ u) l :=
  h.grown (v := v) (by rw [hg]; exact put_any w1 g i u) hv
theorem Touched.below {w0 w w' : World} {B : Nat} {l : List Value} (h : Touched w w' l) (hb : Below B w0 w) (hB : B ≤ w.heap.size) (hl : ∀ v ∈ l, ∀ k, v.ownBlock = some k → B ≤ k) : Below B w0 w' :=
  ⟨h.os.trans hb.os, h.tape.trans hb.tape, h.output.trans hb.output, Nat.le_trans hb.size h.size, fun j hj => (h.block j (by omega) (fun v hv e => by have := hl v hv j e; omega)).trans (hb.block j hj)⟩
theorem Touched.first {w w' : World} {o : Obj} {l : List Value} (h : Touched (w.alloc o) w' l) : Touched w w' l :=
  ⟨h.os, h.tape, h.output, Nat.le_trans (by simp) h.size, fun j hj hn => (h.block j (by simp; omega) hn).trans (Below.heap_alloc w o j hj)⟩
theorem Touched.more {w w' : World} {l l' : List Value} (h : Touched w w' l) (hl : ∀ v ∈ l, v ∈ l') : Touched w w' l' :=
  ⟨h.os, h.tape, h.output, h.size, fun j hj hn => h.block j hj fun v hv => hn v (hl v hv)⟩
theorem Rw.touched {w w' : World} {g : Nat} {t : TypeId} {cs : Array Value} {l : List Value} (h : Rw w g t cs) (ht : Touched w w' l) (hn : ∀ v ∈ l, v.ownBlock ≠ some g) : Rw w' g t cs := (ht.block g h.lt hn).trans h
theorem row_touched {w w' : World} {base n s : Nat} {e : TypeId} {v : Value} {xs : List Value} {l : List Value} (h : w.ownsRow base e s v n xs) (ht : Touched w w' l) (hne : ∀ u ∈ l, v.ownBlock = none ∨ v.ownBlock ≠ u.ownBlock) : w'.ownsRow base e s v n xs := by
  refine ⟨h.1, ?_⟩
  rcases h.2 with h0 | ⟨g, cap, cur, e, hb', hh, hr⟩
  · exact .inl h0
  · refine .inr ⟨g, cap, cur, e, hb', (ht.block g (Array.getElem?_eq_some_iff.1 hh).1 (fun u hu eu => ?_)).trans hh, hr⟩
    rcases hne u hu with h1 | h1
    · rw [e] at h1; simp [Value.ownBlock] at h1
    · apply h1; rw [e, eu]; simp [Value.ownBlock]

/-- whether a cell is used is written -/
theorem OwnHx.used {w : World} {base g c k : Nat} {vr : Value} {rvs : List Value} {h : Hp} {cl : Cl} (S : OwnHx w base (.slice (some ⟨g, 0, none⟩) h.cs.length c) vr rvs h) (hc : h.cs[k]? = some cl) (b : Bool) :
    OwnHx (w.setCell ⟨g, k * 3, none⟩ (.bool b)) base (.slice (some ⟨g, 0, none⟩) h.cs.length c) vr rvs ⟨h.cs.set k ⟨b, cl.d, cl.r⟩, h.rt⟩ := by
  have ap : ∀ v ∈ vr :: rvs, v.ownBlock = none ∨ v.ownBlock ≠ some g := S.apart_cells
  refine ⟨by simp [S.len], ?_, fun j c' v hc' hv => ?_, S.roots.far (put_any w g _ _) (ap vr (by simp)), S.sep⟩
  · have := (World.ownsRow.stored S.row (k * 3) (.bool b)).1
    rw [flatC_set_u _ _ _ _ _ S.len hc] at this
    simpa using this
  · rw [List.getElem?_set] at hc'
    have hmem := List.mem_of_getElem? hv
    by_cases hj : k = j
    · subst hj
      rw [if_pos rfl, if_pos (List.getElem?_eq_some_iff.1 hc).1] at hc'
      injection hc' with hc'
      subst hc'
      exact (S.refs k cl v hc hv).far (put_any w g _ _) (ap v (by simp [hmem]))
    · rw [if_neg hj] at hc'
      exact (S.refs j c' v hc' hv).far (put_any w g _ _) (ap v (by simp [hmem]))
/-- all references of a cell are written -/
theorem OwnHx.refAll {w w' : World} {base k : Nat} {vc vr v : Value} {rvs : List Value} {h : Hp} {cl : Cl} {xs : List Int} (S : OwnHx w base vc vr rvs h) (hc : h.cs[k]? = some cl) (hv : rvs[k]? = some v) (o : OwnI w' base v xs) (hg : w.grownBy w' v.ownBlock) :
    OwnHx w' base vc vr rvs ⟨h.cs.set k ⟨cl.u, cl.d, xs⟩, h.rt⟩ := by
  have hmem := List.mem_of_getElem? hv
  have hvc : vc.ownBlock = none ∨ vc.ownBlock ≠ v.ownBlock := sep_back (S.apart_cells v (List.mem_cons_of_mem _ hmem))
  have hvr : vr.ownBlock = none ∨ vr.ownBlock ≠ v.ownBlock := sep_back (S.apart_roots v (List.mem_cons_of_mem _ hmem))
  have hgt : ∀ (j : Nat) (u : Value), j ≠ k → rvs[j]? = some u → u.ownBlock = none ∨ u.ownBlock ≠ v.ownBlock := fun j u hj hvj => by
    have hs := S.sep
    unfold Sep at hs
    rw [List.pairwise_cons, List.pairwise_cons] at hs
    rcases Nat.lt_or_ge j k with h1 | h1
    · exact Sep.get hs.2.2 hvj hv h1
    · exact sep_back (Sep.get hs.2.2 hv hvj (by omega))
  refine ⟨by simp [S.len], ?_, fun j c' u hc' hvj => ?_, S.roots.far hg hvr, S.sep⟩
  · have := World.ownsRow.kept S.row hg hvc
    rw [List.length_set, flatC_refs _ _ _ _ _ hc]
    exact this
  · rw [List.getElem?_set] at hc'
    by_cases hj : k = j
    · subst hj
      rw [if_pos rfl, if_pos (List.getElem?_eq_some_iff.1 hc).1] at hc'
      injection hc' with hc'
      subst hc'
      rw [hv] at hvj
      injection hvj with hvj
      subst hvj
      exact o
    · rw [if_neg hj] at hc'
      exact (S.refs j c' u hc' hvj).far hg (hgt j u (by omega) hvj)

/-- the mark before cell i -/
def mkK (k : Int) (cs : List Cl) (i : Nat) : Int := k + 2 * i + refN cs i
def mkCl (k : Int) (c : Cl) : Cl := ⟨k % 3 == 0, k + 1, marksI (k + 1 + 1) c.r.length⟩
/-- the first i cells marked -/
def mkTo (k : Int) (cs : List Cl) : Nat → List Cl
  | 0 => cs
  | i + 1 => match cs[i]? with
    | some c => (mkTo k cs i).set i (mkCl (mkK k cs i) c)
    | none => mkTo k cs i
theorem mkTo_len (k : Int) (cs : List Cl) : ∀ i, (mkTo k cs i).length = cs.length
  | 0 => rfl
  | i + 1 => by
    simp only [mkTo]
    split
    · rw [List.length_set, mkTo_len k cs i]
    · exact mkTo_len k cs i
theorem mkTo_succ {k : Int} {cs : List Cl} {i : Nat} {c : Cl} (h : cs[i]? = some c) : mkTo k cs (i + 1) = (mkTo k cs i).set i (mkCl (mkK k cs i) c) := by simp [mkTo, h]
theorem mkTo_later {k : Int} {cs : List Cl} : ∀ {i j : Nat}, i ≤ j → (mkTo k cs i)[j]? = cs[j]?
  | 0, _, _ => rfl
  | i + 1, j, h => by
    simp only [mkTo]
    split
    · rw [List.getElem?_set, if_neg (by omega), mkTo_later (by omega)]
    · exact mkTo_later (by omega)
theorem mkTo_done {k : Int} {cs : List Cl} {j : Nat} {c : Cl} (hc : cs[j]? = some c) : ∀ {i : Nat}, j < i → (mkTo k cs i)[j]? = some (mkCl (mkK k cs j) c)
  | 0, h => by omega
  | i + 1, h => by
    have hj := (List.getElem?_eq_some_iff.1 hc).1
    rcases Nat.eq_or_lt_of_le (show j ≤ i by omega) with e | e
    · subst e
      rw [mkTo_succ hc, List.getElem?_set, if_pos rfl, if_pos (by rw [mkTo_len]; exact hj)]
    · have ih := mkTo_done (k := k) hc e
      simp only [mkTo]
      split
      · rw [List.getElem?_set, if_neg (by omega)]
        exact ih
      · exact ih
theorem mkK_succ {k : Int} {cs : List Cl} {i : Nat} {c : Cl} (h : cs[i]? = some c) : mkK k cs (i + 1) = mkK k cs i + 1 + 1 + c.r.length := by
  simp only [mkK]
  rw [refN_succ h]
  omega

set_option maxHeartbeats 2000000 in
theorem markCellS_any (vc vr : Value) (rvs : List Value) (h : Hp) (k : Int) (base : Nat) (w : World) (S : OwnHx w base vc vr rvs h) (hk : 0 ≤ k) (hk2 : k ≤ 1000000000) (hn : sizeH h ≤ 1000000000) :
    Calls Try.prog 68 #[vc, .int .i64 k] w fun e w' => e = .returned (.int .i64 (mkK k h.cs h.cs.length)) ∧ OwnHx w' base vc vr rvs ⟨mkTo k h.cs h.cs.length, h.rt⟩ ∧ Touched w w' (vc :: rvs) := by
  obtain ⟨A, c, R, d, rfl, rfl, _, _, fA, _⟩ := S.form
  obtain ⟨n, hn'⟩ : ∃ n, h.cs.length = n := ⟨_, rfl⟩
  have hsz : n + refN h.cs n ≤ 1000000000 := by unfold sizeH at hn; rw [hn'] at hn; omega
  obtain ⟨v0, hv0⟩ : ∃ v0, Value.slice R h.rt.length d = v0 := ⟨_, rfl⟩
  rw [hv0] at S ⊢
  rw [hn'] at S fA ⊢
  clear hv0 hn
  go_enter Try.func68, Try.ntmps68
  go_wp2_with fail
  go_loopw [1, 5] (fun q a wr => ∃ i : Nat, i ≤ n ∧ a = .int .i64 i ∧ q = .int .i64 (mkK k h.cs i) ∧ OwnHx wr base (.slice A n c) v0 rvs ⟨mkTo k h.cs i, h.rt⟩ ∧ Touched w wr (.slice A n c :: rvs)) (fun _ a _ => n - (intOf a).toNat)
  case atStart => exact ⟨0, Nat.zero_le _, rfl, by simp [mkK, refN], S, Touched.refl _ _⟩
  case round =>
    clear S
    obtain ⟨i, hi, rfl, rfl, S, T⟩ := hrel
    have hml := mkTo_len k h.cs i
    rw [hn'] at hml
    by_cases hlt : i < n
    · obtain ⟨g, rfl, hbg, hgl⟩ := fA (by omega)
      have hlt' : (i : Int) < n := by omega
      obtain ⟨cl, hcl⟩ : ∃ cl, h.cs[i]? = some cl := ⟨_, List.getElem?_eq_getElem (by omega)⟩
      have hcm : (mkTo k h.cs i)[i]? = some cl := by rw [mkTo_later (Nat.le_refl _)]; exact hcl
      obtain ⟨rv, hrv, hro⟩ := S.ref (k := i) (c := cl) hcm
      obtain ⟨A8, c8, e8, f8⟩ := hro.form
      subst e8
      have hrs := refN_succ hcl
      have hrm := refN_mono h.cs (j := i + 1) (k := n) (by omega)
      have hri := refN_mono h.cs (j := i) (k := i + 1) (by omega)
      obtain ⟨q, hq⟩ : ∃ q, mkK k h.cs i = q := ⟨_, rfl⟩
      have hq0 : 0 ≤ q := by rw [← hq]; simp only [mkK]; omega
      have hq1 : q + cl.r.length + 2 ≤ 4000000100 := by rw [← hq]; simp only [mkK]; omega
      have HQS := Lib.hid (mkK_succ (k := k) hcl)
      have HTS := Lib.hid (mkTo_succ (k := k) hcl)
      rw [hq] at HQS HTS ⊢
      -- the two numbers of the cell
      have ST : OwnHx wr base (.slice (some ⟨g, 0, none⟩) (Hp.mk (mkTo k h.cs i) h.rt).cs.length c) v0 rvs ⟨mkTo k h.cs i, h.rt⟩ := by
        show OwnHx wr base (.slice (some ⟨g, 0, none⟩) (mkTo k h.cs i).length c) v0 rvs ⟨mkTo k h.cs i, h.rt⟩
        rw [hml]
        exact S
      have S1 := ST.used hcm (q % 3 == 0)
      have hc1 : ((mkTo k h.cs i).set i ⟨q % 3 == 0, cl.d, cl.r⟩)[i]? = some ⟨q % 3 == 0, cl.d, cl.r⟩ := by simp [hml, hlt]
      have S1' : OwnHx (wr.setCell ⟨g, i * 3, none⟩ (.bool (q % 3 == 0))) base (.slice (some ⟨g, 0, none⟩) (Hp.mk ((mkTo k h.cs i).set i ⟨q % 3 == 0, cl.d, cl.r⟩) h.rt).cs.length c) v0 rvs ⟨(mkTo k h.cs i).set i ⟨q % 3 == 0, cl.d, cl.r⟩, h.rt⟩ := by
        simpa using S1
      have S2 := S1'.data hc1 (q + 1)
      have row := S.row
      simp only [hml] at row
      obtain ⟨p1, p2, p3⟩ := flatC_at _ _ _ _ _ hcm hrv
      have x1 := (World.ownsRow.cellAt row (i * 3) (by omega)).trans p1
      have x2 := (World.ownsRow.cellAt row (i * 3 + 1) (by omega)).trans p2
      have z1 := World.ownsRow.frozenAt row (i * 3)
      have row2 := S2.row
      have hl2 : (Hp.mk (((mkTo k h.cs i).set i ⟨q % 3 == 0, cl.d, cl.r⟩).set i ⟨q % 3 == 0, q + 1, cl.r⟩) h.rt).cs.length = n := by simp [hml]
      have T2 := (T.put (v := .slice (some ⟨g, 0, none⟩) n c) (by simp) rfl (i * 3) (.bool (q % 3 == 0))).put (v := .slice (some ⟨g, 0, none⟩) n c) (by simp) rfl (i * 3 + 1) (.int .i64 (q + 1))
      have hro2 := S2.refs i ⟨q % 3 == 0, q + 1, cl.r⟩ (.slice A8 cl.r.length c8) (by simp [hml, hlt]) hrv
      have hl1 : (Hp.mk ((mkTo k h.cs i).set i ⟨q % 3 == 0, cl.d, cl.r⟩) h.rt).cs.length = n := by simp [hml]
      have row1 := S1'.row
      simp only [hl1] at row1
      obtain ⟨_, p2', _⟩ := flatC_at _ _ _ _ _ hc1 hrv
      have y2 := (World.ownsRow.cellAt row1 (i * 3 + 1) (by omega)).trans p2'
      have z2 := World.ownsRow.frozenAt row1 (i * 3 + 1)
      simp only [hl1, hl2] at row2
      have hc2 : (((mkTo k h.cs i).set i ⟨q % 3 == 0, cl.d, cl.r⟩).set i ⟨q % 3 == 0, q + 1, cl.r⟩)[i]? = some ⟨q % 3 == 0, q + 1, cl.r⟩ := by simp [hml, hlt]
      obtain ⟨_, _, p3'⟩ := flatC_at _ _ _ _ _ hc2 hrv
      have y3 := (World.ownsRow.cellAt row2 (i * 3 + 2) (by omega)).trans p3'
      simp only [hl1] at S2
      have FIN := Lib.hid (fun w' (o : OwnI w' base (.slice A8 cl.r.length c8) (marksI (q + 1 + 1) cl.r.length)) hg => S2.refAll (w' := w') hc2 hrv o hg)
      have HRO := Lib.hid hro2
      have hwr : ∀ W : World, W = W := fun _ => rfl
      clear ST S S1 S1' S2 row row1 row2 hc1 hc2 p1 p2 p3 p2' p3' hro hro2 f8 hcm hcl hrs hrm hri hq hwr
      go_wp2_with fail
      refine (markIntS_any _ cl.r _ _ _ HRO.out (by omega) (by omega) (by omega)).mono ?_
      rintro e w3 ⟨rfl, o3, g3⟩
      have T3 := T2.grown g3 (List.mem_cons_of_mem _ (List.mem_of_getElem? hrv))
      have F := FIN.out w3 o3 g3
      simp only [List.set_set] at F
      have NN := Lib.hid F
      clear F FIN HRO
      go_wp2_with fail
      go_roundw
      case rel => exact ⟨i + 1, by omega, by go_num, int_eq (by rw [HQS.out]), by rw [HTS.out]; exact NN.out, T3⟩
      case measure => simp [intOf]; omega
    · obtain rfl : i = n := by omega
      clear hml
      go_wp2_with fail
      go_ret
      exact ⟨rfl, S, T⟩

/-- a heap, marked; the mark behind it -/
def markH (k : Int) (h : Hp) : Hp := ⟨mkTo k h.cs h.cs.length, marksI (mkK k h.cs h.cs.length) h.rt.length⟩
def markKH (k : Int) (h : Hp) : Int := mkK k h.cs h.cs.length + h.rt.length
set_option maxHeartbeats 1000000 in
theorem markHeap_any (vc vr : Value) (rvs : List Value) (h : Hp) (k : Int) (base : Nat) (w : World) (S : OwnHx w base vc vr rvs h) (hk : 0 ≤ k) (hk2 : k ≤ 1000000000) (hn : sizeH h ≤ 1000000000) :
    Calls Try.prog 32 #[.agg #[vc, vr], .int .i64 k] w fun e w' => e = .returned (.int .i64 (markKH k h)) ∧ OwnHx w' base vc vr rvs (markH k h) ∧ Touched w w' (vc :: vr :: rvs) := by
  have b1 : Below w.heap.size w (w.alloc (.cells #[vc, vr] 26)) := (Below.refl _ _).alloc (Nat.le_refl _) _
  have S1 := S.below b1 (Nat.le_refl _)
  have r1 := Rw.new w 26 #[vc, vr]
  have hfar : ∀ v ∈ vc :: vr :: rvs, v.ownBlock ≠ some w.heap.size := fun v hv e => by have := (S.blocks hv e).2; omega
  have hs1 : h.cs.length + refN h.cs h.cs.length + h.rt.length ≤ 1000000000 := hn
  have hk0 : 0 ≤ mkK k h.cs h.cs.length := by simp only [mkK]; omega
  have hk1 : mkK k h.cs h.cs.length ≤ 1099511627776 := by simp only [mkK]; omega
  obtain ⟨q, hq⟩ : ∃ q, mkK k h.cs h.cs.length = q := ⟨_, rfl⟩
  have HQ := Lib.hid hq
  have HKH := Lib.hid (show markKH k h = q + h.rt.length by rw [markKH, hq])
  have HMH := Lib.hid (show markH k h = ⟨mkTo k h.cs h.cs.length, marksI q h.rt.length⟩ by rw [markH, hq])
  rw [hq] at hk0 hk1
  clear hq
  go_enter Try.func32, Try.ntmps32
  go_wp2_with fail
  refine (markCellS_any vc vr rvs h k base _ S1 hk hk2 hn).mono ?_
  rw [HQ.out]
  rintro e w2 ⟨rfl, S2, T2⟩
  have z1 : w2.cell? ⟨w.heap.size, 1, none⟩ = some vr := (Rw.touched r1 T2 (fun v hv => hfar v (by simp only [List.mem_cons] at hv ⊢; rcases hv with e | e <;> simp [e]))).cell 1
  have T2' : Touched w w2 (vc :: vr :: rvs) := T2.first.more (fun v hv => by simp only [List.mem_cons] at hv ⊢; rcases hv with e | e <;> simp [e])
  have hro : OwnI w2 base vr h.rt := S2.roots
  go_wp2_with fail
  refine (markIntS_any vr h.rt q base _ hro hk0 hk1 (by omega)).mono ?_
  rintro e w3 ⟨rfl, o3, g3⟩
  have T3 := T2'.grown g3 (by simp)
  have hapr := S2.apart_roots
  have S3 : OwnHx w3 base vc vr rvs (markH k h) := by
    rw [HMH.out]
    exact ⟨S2.len, World.ownsRow.kept S2.row g3 (hapr vc (by simp)), fun j c v hc hv => (S2.refs j c v hc hv).far g3 (hapr v (by simp [List.mem_of_getElem? hv])), o3, S2.sep⟩
  clear S2 T2 T2' hro hapr o3 g3
  go_wp2_with fail
  go_ret
  exact ⟨by rw [HKH.out]; rfl, S3, T3⟩
end Go.Proofs.Ytakdjiojahlnmaa

namespace Go.Proofs.Ytakdjiojahlnmaa
open Go.RowKit
set_option maxRecDepth 100000

set_option maxHeartbeats 2000000 in
theorem heldCellS_any (A : Option Addr) (n c : Nat) (cs : List Cl) (k : Int) (w : World) (h : CS w w.heap.size A n (mkTo k cs cs.length)) (hl : cs.length = n) (hk : 0 ≤ k) (hk2 : k ≤ 1000000000) (hn : n + refN cs n ≤ 1000000000) :
    Calls Try.prog 96 #[.slice A n c, .int .i64 k] w fun e w' => e = .returned (.int .i64 (mkK k cs n)) ∧ w = w' := by
  go_enter Try.func96, Try.ntmps96
  go_wp2_with fail
  go_loopw [1, 5] (fun q a wr => ∃ i : Nat, i ≤ n ∧ a = .int .i64 i ∧ q = .int .i64 (mkK k cs i) ∧ wr = w) (fun _ a _ => n - (intOf a).toNat)
  case atStart => exact ⟨0, Nat.zero_le _, rfl, by simp [mkK, refN], rfl⟩
  case round =>
    obtain ⟨i, hi, rfl, rfl, rfl⟩ := hrel
    by_cases hlt : i < n
    · have hlt' : (i : Int) < n := by omega
      obtain ⟨cl, hcl⟩ : ∃ cl, cs[i]? = some cl := ⟨_, List.getElem?_eq_getElem (by omega)⟩
      obtain ⟨g, o, mc, A', m', cc, e1, hg, hmc, d1, d2, d3, _, hir⟩ := h.at_ hlt
      subst e1
      rw [mkTo_done hcl (by omega)] at hmc
      injection hmc with hmc
      subst hmc
      have hm' := hir.1
      have hrs := refN_succ hcl
      have hrm := refN_mono cs (j := i + 1) (k := n) (by omega)
      obtain ⟨q, hq⟩ : ∃ q, mkK k cs i = q := ⟨_, rfl⟩
      have hq0 : 0 ≤ q := by rw [← hq]; simp only [mkK]; omega
      have hq1 : q + cl.r.length + 2 ≤ 4000000100 := by rw [← hq]; simp only [mkK]; omega
      have HQS := Lib.hid (mkK_succ (k := k) hcl)
      rw [hq] at HQS d1 d2 hir hm' ⊢
      simp only [mkCl] at d1 d2 hir hm'
      rw [marksI_len] at hm'
      subst hm'
      have hk0 : decide (q + 1 + 1 + (cl.r.length : Int) < 0) = false := decide_eq_false (by omega)
      clear hcl hrs hrm hq
      go_wp2_with fail
      refine (heldIntS_any _ _ _ _ _ hir (by omega) (by omega) (by omega)).mono ?_
      rintro e w' ⟨rfl, rfl⟩
      go_wp2_with fail
      go_roundw
      case rel => exact ⟨i + 1, by omega, by go_num, int_eq (by rw [HQS.out]), trivial⟩
      case measure => simp [intOf]; omega
    · obtain rfl : i = n := by omega
      go_wp2_with fail
      go_ret
      exact ⟨rfl, rfl⟩

set_option maxHeartbeats 1000000 in
theorem heldHeap_any (A R : Option Addr) (n c m d : Nat) (h : Hp) (k : Int) (w : World) (hs : HS w w.heap.size A n R m (markH k h)) (hl : h.cs.length = n) (hr : h.rt.length = m) (hk : 0 ≤ k) (hk2 : k ≤ 1000000000) (hn : sizeH h ≤ 1000000000) :
    Calls Try.prog 71 #[heapV A n c R m d, .int .i64 k] w fun e w' => e = .returned (.int .i64 (markKH k h)) ∧ Below w.heap.size w w' := by
  have b1 : Below w.heap.size w (w.alloc (.cells #[.slice A n c, .slice R m d] 26)) := (Below.refl _ _).alloc (Nat.le_refl _) _
  have s1 := hs.up b1
  have r1 := Rw.new w 26 #[.slice A n c, .slice R m d]
  have z1 : (w.alloc (.cells #[.slice A n c, .slice R m d] 26)).cell? ⟨w.heap.size, 1, none⟩ = some (.slice R m d) := r1.cell 1
  have hs1 : h.cs.length + refN h.cs h.cs.length + h.rt.length ≤ 1000000000 := hn
  have hk0 : 0 ≤ mkK k h.cs n := by simp only [mkK]; omega
  have hk1 : mkK k h.cs n ≤ 1099511627776 := by simp only [mkK]; rw [hl] at hs1; omega
  obtain ⟨q, hq⟩ : ∃ q, mkK k h.cs n = q := ⟨_, rfl⟩
  have HQ := Lib.hid hq
  have HKH := Lib.hid (show markKH k h = q + m by rw [markKH, hl, hr, hq])
  have c1 : CS (w.alloc (.cells #[.slice A n c, .slice R m d] 26)) (w.alloc (.cells #[.slice A n c, .slice R m d] 26)).heap.size A n (mkTo k h.cs h.cs.length) := s1.cells
  have i1 : IS (w.alloc (.cells #[.slice A n c, .slice R m d] 26)) (w.alloc (.cells #[.slice A n c, .slice R m d] 26)).heap.size R m (marksI q m) := by
    have := s1.roots
    simp only [markH] at this
    rw [hl, hq, hr] at this
    exact this
  rw [hq] at hk0 hk1
  have hq0 : decide (q < 0) = false := decide_eq_false (by omega)
  have hq1 : decide (q + (m : Int) < 0) = false := decide_eq_false (by omega)
  clear hq
  go_enter Try.func71, Try.ntmps71
  go_wp2_with fail
  refine (heldCellS_any _ _ _ h.cs _ _ c1 hl hk hk2 (by rw [hl] at hs1; omega)).mono ?_
  rw [HQ.out]
  rintro e w' ⟨rfl, rfl⟩
  go_wp2_with fail
  refine (heldIntS_any _ _ _ _ _ i1 hk0 hk1 (by omega)).mono ?_
  rintro e w' ⟨rfl, rfl⟩
  go_wp2_with fail
  go_ret
  exact ⟨by rw [HKH.out]; rfl, b1⟩
end Go.Proofs.Ytakdjiojahlnmaa
