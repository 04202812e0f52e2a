/- What the helpers of the exact laws return at cells and heaps: toCell, toCellS, toHeap. No conditions. -/
import Derived.Test.YtkdoolilggkjpaaHh
import Derived.Test.YtkdoolilggkjpaaIb
import Derived.Test.YtkdoolilggkjpaaHj
namespace Go.Proofs.Ytkdoolilggkjpaa
open Go.RowKit

set_option maxHeartbeats 1000000 in
theorem toCell_any (cl : Cl) (A : Option Addr) (m cc : Nat) (w : World) (hi : IS w w.heap.size A m cl.r) (hm : m ≤ 1099511627776) :
    Calls Try.prog 73 #[.agg #[.bool cl.u, .int .i64 cl.d, .slice A m cc]] w fun e w' => ∃ g, e = .returned (.agg #[.bool cl.u, .int .i64 cl.d, .slice (some ⟨g, 0, none⟩) m m]) ∧ OwnI w' w.heap.size (.slice (some ⟨g, 0, none⟩) m m) cl.r ∧ Below w.heap.size w w' := by
  have b3 : Below w.heap.size w (((w.alloc (.cells #[.bool cl.u, .int .i64 cl.d, .slice A m cc] 91)).alloc (.cells #[.bool false, .int .i64 0, .slice none 0 0] 31)).alloc (.cells #[.bool cl.u, .int .i64 cl.d, .slice none 0 0] 31)) := (((Below.refl w.heap.size w).alloc (Nat.le_refl _) _).alloc (by simp) _).alloc (by simp; omega) _
  have i3 := hi.up b3
  have r1 := (Rw.new (w.alloc (.cells #[.bool cl.u, .int .i64 cl.d, .slice A m cc] 91)) 31 #[.bool false, .int .i64 0, .slice none 0 0]).alloc (.cells #[.bool cl.u, .int .i64 cl.d, .slice none 0 0] 31)
  have r2 := Rw.new ((w.alloc (.cells #[.bool cl.u, .int .i64 cl.d, .slice A m cc] 91)).alloc (.cells #[.bool false, .int .i64 0, .slice none 0 0] 31)) 31 #[.bool cl.u, .int .i64 cl.d, .slice none 0 0]
  have hsz : (((w.alloc (.cells #[.bool cl.u, .int .i64 cl.d, .slice A m cc] 91)).alloc (.cells #[.bool false, .int .i64 0, .slice none 0 0] 31)).alloc (.cells #[.bool cl.u, .int .i64 cl.d, .slice none 0 0] 31)).heap.size = w.heap.size + 3 := by simp
  simp only [World.size_alloc] at r1 r2
  go_enter Try.func73, Try.ntmps73
  go_wp2_with fail
  refine (toIntS_any _ _ _ cl.r _ i3 hm).mono ?_
  rw [hsz]
  rintro e w1 ⟨rfl, o1, b1⟩
  have c1 := r1.keep b1 (by omega)
  have c2 := r2.keep b1 (by omega)
  have bb1 := b3.trans (b1.mono (by omega))
  have x0 : w1.cell? ⟨w.heap.size + 1 + 1, 0, none⟩ = some (.bool cl.u) := c2.cell 0
  have x1 : w1.cell? ⟨w.heap.size + 1 + 1, 1, none⟩ = some (.int .i64 cl.d) := c2.cell 1
  have x2 : w1.cell? ⟨w.heap.size + 1 + 1, 2, none⟩ = some (.slice none 0 0) := c2.cell 2
  have x3 := c2.frozen 2
  have c3 := c2.put 2 (.slice (some ⟨w.heap.size + 3, 0, none⟩) m m)
  have d1 := Rw.other (w := w1) c1 (show w.heap.size + 1 ≠ w.heap.size + 1 + 1 by omega) (i := 2) (.slice (some ⟨w.heap.size + 3, 0, none⟩) m m)
  have o2 := o1.far (only_put (g := w.heap.size + 1 + 1) (World.grownBy.refl _ _) 2 (.slice (some ⟨w.heap.size + 3, 0, none⟩) m m)) (.inr (by simp [Value.ownBlock]))
  have bb2 := bb1.setCell (p := ⟨w.heap.size + 1 + 1, 2, none⟩) (by simp; omega) (.slice (some ⟨w.heap.size + 3, 0, none⟩) m m)
  obtain ⟨w2, hw2⟩ : ∃ w2, w1.setCell ⟨w.heap.size + 1 + 1, 2, none⟩ (.slice (some ⟨w.heap.size + 3, 0, none⟩) m m) = w2 := ⟨_, rfl⟩
  rw [hw2] at c3 d1 o2 bb2
  have y0 : w2.cell? ⟨w.heap.size + 1 + 1, 0, none⟩ = some (.bool cl.u) := c3.cell 0
  have y1 : w2.cell? ⟨w.heap.size + 1 + 1, 1, none⟩ = some (.int .i64 cl.d) := c3.cell 1
  have y2 : w2.cell? ⟨w.heap.size + 1 + 1, 2, none⟩ = some (.slice (some ⟨w.heap.size + 3, 0, none⟩) m m) := c3.cell 2
  have u0 : w2.cell? ⟨w.heap.size + 1, 0, none⟩ = some (.bool false) := d1.cell 0
  have u1 : w2.cell? ⟨w.heap.size + 1, 1, none⟩ = some (.int .i64 0) := d1.cell 1
  have u2 : w2.cell? ⟨w.heap.size + 1, 2, none⟩ = some (.slice none 0 0) := d1.cell 2
  have f0 := d1.frozen 0
  have f1 := d1.frozen 1
  have f2 := d1.frozen 2
  have d2 := ((d1.put 0 (.bool cl.u)).put 1 (.int .i64 cl.d)).put 2 (.slice (some ⟨w.heap.size + 3, 0, none⟩) m m)
  have q0 := d2.cell 0
  have q1 := d2.cell 1
  have q2 := d2.cell 2
  have bb3 := ((bb2.setCell (p := ⟨w.heap.size + 1, 0, none⟩) (by simp) (.bool cl.u)).setCell (p := ⟨w.heap.size + 1, 1, none⟩) (by simp) (.int .i64 cl.d)).setCell (p := ⟨w.heap.size + 1, 2, none⟩) (by simp) (.slice (some ⟨w.heap.size + 3, 0, none⟩) m m)
  have hne : ((Value.slice (some ⟨w.heap.size + 3, 0, none⟩) m m).ownBlock = none ∨ (Value.slice (some ⟨w.heap.size + 3, 0, none⟩) m m).ownBlock ≠ some (w.heap.size + 1)) := .inr (by simp [Value.ownBlock])
  have o3 := ((o2.far (only_put (g := w.heap.size + 1) (World.grownBy.refl _ _) 0 (.bool cl.u)) hne).far (only_put (g := w.heap.size + 1) (World.grownBy.refl _ _) 1 (.int .i64 cl.d)) hne).far (only_put (g := w.heap.size + 1) (World.grownBy.refl _ _) 2 (.slice (some ⟨w.heap.size + 3, 0, none⟩) m m)) hne
  simp at q0 q1 q2
  clear c1 c2 c3 d1 d2 o1 o2 b1 b3 bb1 bb2 r1 r2 i3 hsz hne
  go_wp2_with fail
  exact bodyPost_ret (v := .agg #[.bool cl.u, .int .i64 cl.d, .slice (some ⟨w.heap.size + 3, 0, none⟩) m m]) (by simp [results, Try.results73, go_sem, *]) rfl ⟨_, rfl, o3.base (by omega), bb3⟩

/-- a cell that is not used -/
def noCl : Cl := ⟨false, 0, []⟩
theorem madeC_list (n : Nat) : (madeCells (Value.agg #[.bool false, .int .i64 0, .slice none 0 0]).cells (n * 3)).toList = flatC (List.replicate n noCl) (List.replicate n (.slice none 0 0)) := by
  have hl := flatC_length (List.replicate n noCl) (List.replicate n (.slice none 0 0)) (by simp)
  rw [List.length_replicate] at hl
  apply List.ext_getElem?
  intro j
  rcases Nat.lt_or_ge j (n * 3) with hj | hj
  · have hk : j / 3 < n := by omega
    obtain ⟨f1, f2, f3⟩ := flatC_at (List.replicate n noCl) (List.replicate n (.slice none 0 0)) (j / 3) noCl (.slice none 0 0) (by simp [hk]) (by simp [hk])
    have hm : (madeCells (Value.agg #[.bool false, .int .i64 0, .slice none 0 0]).cells (n * 3)).toList[j]? = some ((Value.agg #[.bool false, .int .i64 0, .slice none 0 0]).cells[j % 3]!) := by
      simp [madeCells, hj, Value.cells]
    rw [hm]
    have h3 : j % 3 = 0 ∨ j % 3 = 1 ∨ j % 3 = 2 := by omega
    rcases h3 with e | e | e
    · rw [e]
      rw [show j = j / 3 * 3 by omega, f1]
      rfl
    · rw [e]
      rw [show j = j / 3 * 3 + 1 by omega, f2]
      rfl
    · rw [e]
      rw [show j = j / 3 * 3 + 2 by omega, f3]
      rfl
  · rw [List.getElem?_eq_none (by simp [madeCells]; omega), List.getElem?_eq_none (by omega)]
theorem makeC (W : World) (n : Nat) (hn : n ≤ 1099511627776) : (Instr.makeSlice 23 (.int .i64 n) (.int .i64 n)).run Try.prog W = .ok (.slice (some ⟨W.heap.size, 0, none⟩) n n) (W.alloc (.cells (flatC (List.replicate n noCl) (List.replicate n (.slice none 0 0))).toArray 31)) := by
  obtain ⟨i0, hi0, hz0, hz1, hz2⟩ := info_parts info_cell
  have := run_make (P := Try.prog) W 23 31 i0 _ Try.underlying23 hi0 hz0 .i64 .i64 n n (by omega) (by omega) (by rw [hz2]; omega) (by omega)
  rw [hz1] at this
  rw [← madeC_list]
  simpa using this
theorem own_madeC (w : World) (n : Nat) (hn : n ≤ 1099511627776) : OwnHx (w.alloc (.cells (flatC (List.replicate n noCl) (List.replicate n (.slice none 0 0))).toArray 31)) w.heap.size (.slice (some ⟨w.heap.size, 0, none⟩) n n) (.slice none 0 0) (List.replicate n (.slice none 0 0)) ⟨List.replicate n noCl, []⟩ := by
  have hl := flatC_length (List.replicate n noCl) (List.replicate n (.slice none 0 0)) (by simp)
  rw [List.length_replicate] at hl
  refine ⟨by simp, ?_, fun k c v hc hv => ?_, World.ownsRow_nil _ _ _ _, ?_⟩
  · have := World.ownsRow_lit (base := w.heap.size) (e := 31) (size := 3) w (flatC (List.replicate n noCl) (List.replicate n (.slice none 0 0))).toArray n (Nat.le_refl _) (by unfold maxLen; omega) (by simp [hl])
    simpa using this
  · rw [List.getElem?_replicate] at hc hv
    split at hc
    · injection hc with hc
      rename_i hk
      rw [if_pos hk] at hv
      injection hv with hv
      subst hc hv
      exact World.ownsRow_nil _ _ _ _
    · cases hc
  · unfold Sep
    rw [List.pairwise_cons, List.pairwise_cons]
    refine ⟨fun v hv => ?_, fun v hv => .inl rfl, ?_⟩
    · simp only [List.mem_cons, List.mem_replicate] at hv
      rcases hv with rfl | ⟨_, rfl⟩ <;> exact .inr (by simp [Value.ownBlock])
    · rw [List.pairwise_replicate]
      exact .inr (.inl rfl)

theorem set_takeC {cs : List Cl} {n k : Nat} {y : Cl} (hl : cs.length = n) (hk : k < n) (hy : cs[k]? = some y) : (cs.take k ++ List.replicate (n - k) noCl).set k y = cs.take (k + 1) ++ List.replicate (n - (k + 1)) noCl := by
  have h1 : (cs.take k).length = k := by rw [List.length_take]; omega
  rw [List.set_append_right _ _ (by omega), h1, Nat.sub_self, show n - k = (n - (k + 1)) + 1 by omega, List.replicate_succ, List.set_cons_zero, List.take_add_one, hy]
  simp

set_option maxHeartbeats 2000000 in
theorem toCellS_any (A : Option Addr) (n c : Nat) (cs : List Cl) (w : World) (h : CS w w.heap.size A n cs) (hn : n ≤ 1099511627776) (hb : ∀ cl ∈ cs, cl.r.length ≤ 1099511627776) :
    Calls Try.prog 57 #[.slice A n c] w fun e w' => ∃ rvs, e = .returned (.slice (some ⟨w.heap.size, 0, none⟩) n n) ∧ OwnHx w' w.heap.size (.slice (some ⟨w.heap.size, 0, none⟩) n n) (.slice none 0 0) rvs ⟨cs, []⟩ ∧ Below w.heap.size w w' := by
  have hl := h.1
  have HB := Lib.hid hb
  clear hb
  have hmk := makeC w n hn
  have o2 := own_madeC w n hn
  have b2 : Below w.heap.size w (w.alloc (.cells (flatC (List.replicate n noCl) (List.replicate n (.slice none 0 0))).toArray 31)) := (Below.refl _ _).alloc (Nat.le_refl _) _
  have s2 : w.heap.size < (w.alloc (.cells (flatC (List.replicate n noCl) (List.replicate n (.slice none 0 0))).toArray 31)).heap.size := by simp
  obtain ⟨w2, hw2⟩ : ∃ w2, w.alloc (.cells (flatC (List.replicate n noCl) (List.replicate n (.slice none 0 0))).toArray 31) = w2 := ⟨_, rfl⟩
  rw [hw2] at hmk o2 b2 s2
  clear hw2
  go_enter Try.func57, Try.ntmps57
  go_wp2
  clear hmk
  go_loopw [4] (fun i wr => ∃ (k : Nat) (rvs : List Value), k ≤ n ∧ i = .int .i64 k ∧ OwnHx wr w.heap.size (.slice (some ⟨w.heap.size, 0, none⟩) n n) (.slice none 0 0) rvs ⟨cs.take k ++ List.replicate (n - k) noCl, []⟩ ∧ Below w.heap.size w wr ∧ w.heap.size < wr.heap.size) (fun i _ => n - (intOf i).toNat)
  case atStart => exact ⟨0, _, Nat.zero_le _, rfl, by simpa using o2, b2, s2⟩
  case round =>
    clear o2 b2 s2
    obtain ⟨k, rvs, hk, rfl, S, bb, hsz⟩ := hrel
    have hlen : (cs.take k ++ List.replicate (n - k) noCl).length = n := by simp; omega
    by_cases hlt : k < n
    · obtain ⟨g, o, cl, A', m', cc, e1, hg, hcl, d1, d2, d3, hmc, hi⟩ := (h.below bb).at_ hlt
      subst e1
      have hlt' : (k : Int) < n := by omega
      have hl3 := hi.1
      have hm3 : m' ≤ 1099511627776 := by have := HB.out cl (List.mem_of_getElem? hcl); omega
      have HST := Lib.hid (set_takeC hl hlt hcl)
      have hold : (cs.take k ++ List.replicate (n - k) noCl)[k]? = some noCl := by
        rw [List.getElem?_append_right (by rw [List.length_take]; omega), List.length_take, Nat.min_eq_left (by omega), Nat.sub_self, List.getElem?_replicate, if_pos (by omega)]
      have hi' := hi.more bb.size
      clear hcl
      go_wp2_with fail
      refine (toCell_any cl _ _ _ _ hi' hm3).mono ?_
      rintro e w1 ⟨g1, rfl, o1, b1⟩
      have S1 := S.below b1 (Nat.le_refl _)
      have bb1 := bb.trans (b1.mono bb.size)
      have hg1 := (World.ownsRow.lt o1 g1 (by simp [Value.ownBlock]))
      have ST : OwnHx w1 w.heap.size (.slice (some ⟨w.heap.size, 0, none⟩) (Hp.mk (cs.take k ++ List.replicate (n - k) noCl) []).cs.length n) (.slice none 0 0) rvs ⟨cs.take k ++ List.replicate (n - k) noCl, []⟩ := by
        show OwnHx w1 w.heap.size (.slice (some ⟨w.heap.size, 0, none⟩) (cs.take k ++ List.replicate (n - k) noCl).length n) (.slice none 0 0) rvs ⟨cs.take k ++ List.replicate (n - k) noCl, []⟩
        rw [hlen]
        exact S1
      have N := ST.cell (k := k) (cl := cl) (old := noCl) hold (o1.base bb.size) (fun v hv => .inr fun e => by
        have hb := (S.blocks (v := v) (by simpa only [hlen] using hv) (k := g1) (by rw [← e]; simp [Value.ownBlock])).2
        omega)
      simp only [hlen] at N
      rw [HST.out] at N
      have row := S1.row
      simp only [hlen] at row
      obtain ⟨v0, hv0⟩ : ∃ v0, rvs[k]? = some v0 := ⟨_, List.getElem?_eq_getElem (by rw [S1.len]; simp only [hlen]; exact hlt)⟩
      obtain ⟨f1, f2, f3⟩ := flatC_at _ _ _ _ _ hold hv0
      have q1 := (World.ownsRow.cellAt row (k * 3) (by omega)).trans f1
      have q2 := (World.ownsRow.cellAt row (k * 3 + 1) (by omega)).trans f2
      have q3 := (World.ownsRow.cellAt row (k * 3 + 2) (by omega)).trans f3
      have z1 := World.ownsRow.frozenAt row (k * 3)
      have z2 := World.ownsRow.frozenAt row (k * 3 + 1)
      have z3 := World.ownsRow.frozenAt row (k * 3 + 2)
      have bn := ((bb1.setCell (p := ⟨w.heap.size, k * 3, none⟩) (Nat.le_refl _) (.bool cl.u)).setCell (p := ⟨w.heap.size, k * 3 + 1, none⟩) (Nat.le_refl _) (.int .i64 cl.d)).setCell (p := ⟨w.heap.size, k * 3 + 2, none⟩) (Nat.le_refl _) (.slice (some ⟨g1, 0, none⟩) m' m')
      have hsz1 := b1.size
      have NN := Lib.hid N
      clear N ST S S1 row f1 f2 f3 hold o1 b1 d1 d2 d3 hi hi' bb1
      go_wp2_with fail
      go_roundw
      case rel => exact ⟨k + 1, _, by omega, by go_num, NN.out, bn, by simp; omega⟩
      case measure => simp [intOf]; omega
    · obtain rfl : k = n := by omega
      have e : cs.take k ++ List.replicate (k - k) noCl = cs := by rw [List.take_of_length_le (by omega)]; simp
      rw [e] at S
      clear hlen e
      go_wp2_with fail
      go_ret
      exact ⟨rvs, rfl, S, bb⟩
end Go.Proofs.Ytkdoolilggkjpaa
