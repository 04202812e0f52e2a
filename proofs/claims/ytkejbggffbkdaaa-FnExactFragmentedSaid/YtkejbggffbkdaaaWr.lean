/- What indexBySizes returns: for all valid blocks. -/
import Derived.Test.YtkejbggffbkdaaaOwn
import Derived.Test.YtkejbggffbkdaaaIdx
import Derived.Deep.WholeRow
namespace Go.Proofs.Ytkejbggffbkdaaa
open Go.RowKit

theorem info_index : (Try.prog.info? 53).map (fun i => (i.zero, i.size)) = some (some (.agg (Array.replicate 257 (.int .i64 0))), 257) := by kernel_rfl

/-- the cells of an index -/
def idxCells (F : Nat → Int) : Array Value := ((List.range 257).map fun s => Value.int .i64 (F s)).toArray

theorem idxCells_size (F : Nat → Int) : (idxCells F).size = 257 := by simp [idxCells]
theorem idxCells_at (F : Nat → Int) {s : Nat} (h : s < 257) : (idxCells F)[s]? = some (.int .i64 (F s)) := by simp [idxCells, h]
theorem idxCells_congr {F G : Nat → Int} (h : ∀ s, s < 257 → F s = G s) : idxCells F = idxCells G := by
  unfold idxCells
  congr 1
  apply List.map_congr_left
  intro s hs
  rw [h s (by simpa using hs)]
theorem idxCells_set (F G : Nat → Int) {s : Nat} {v : Int} (hs : s < 257) (h : ∀ j, j < 257 → G j = if j = s then v else F j) : (idxCells F).setIfInBounds s (.int .i64 v) = idxCells G := by
  apply Array.ext_getElem?
  intro j
  rw [Array.getElem?_setIfInBounds]
  rcases Nat.lt_or_ge j 257 with hj | hj
  · rw [idxCells_at G hj, h j hj, idxCells_size]
    by_cases e : s = j
    · subst e
      simp [hs]
    · rw [if_neg e, if_neg (fun e' => e e'.symm), idxCells_at F hj]
  · rw [if_neg (by omega)]
    rw [Array.getElem?_eq_none (by rw [idxCells_size]; omega), Array.getElem?_eq_none (by rw [idxCells_size]; omega)]
theorem idxCells_zero : Array.replicate 257 (Value.int .i64 0) = idxCells (fun _ => 0) := by
  apply Array.ext_getElem?
  intro j
  rcases Nat.lt_or_ge j 257 with hj | hj
  · rw [idxCells_at _ hj]
    simp [hj]
  · rw [Array.getElem?_eq_none (by simp; omega), Array.getElem?_eq_none (by rw [idxCells_size]; omega)]
theorem idxCells_one (F : Nat → Int) : (idxCells F).all (·.oneCell') = true := by
  simp [idxCells, Value.oneCell']

/-- a whole array out of a block, and into one -/
theorem wp_loadRow {P : Program} {w : World} {o : Oper} {a : Act} {K : Act → World → Prop} {Q : Exit → Act → World → Prop} {r : Operand} {t e : TypeId} {g n : Nat} {c : Array Value} (ho : o.op = .load t r) (hr : a.eval r = .pointer (some ⟨g, 0, none⟩))
    (hh : Rw w g t c) (hu : P.underlying t = some (.array n e)) (hi : (P.info? t).map (·.size) = some c.size) (h : K (a.put o.dst (.agg c)) w) : Oper.wp P o a w K Q := by
  have hl := run_loadVar_row (P := P) w g t t c (0, 0) _ hh hu rfl hi
  unfold Oper.wp execOp
  simp only [ho, hr, Instr.loadAt, Instr.sureAddr, Sem.run_bind, Sem.run_pure, Result.andThen_ok, hl]
  exact h
theorem run_storeRow {P : Program} {w : World} {t : TypeId} {g : Nat} {c c' : Array Value} (hh : Rw w g t c) (hs : c.size = c'.size) (h1 : c'.all (·.oneCell') = true) : (storeCells ⟨g, 0, none⟩ c'.toList).run P w = .ok () (w.setRow g c') := by
  have := run_storeCells_from (P := P) g t c'.toList 0 c w hh (by simp; omega) (fun v hv => (Array.all_eq_true_iff_forall_mem.1 h1) v (by simpa using hv))
  simpa [World.setRow] using this
theorem Rw.row {w : World} {g : Nat} {t : TypeId} {c : Array Value} (h : Rw w g t c) (c' : Array Value) : Rw (w.setRow g c') g t c' := by
  unfold Rw at h ⊢
  simp [World.setRow, Array.getElem?_modify, h]
theorem below_row {B : Nat} {a w : World} (h : Below B a w) {g : Nat} (hg : B ≤ g) (c : Array Value) : Below B a (w.setRow g c) :=
  ⟨h.os, h.tape, h.output, by simpa [World.setRow] using h.size, fun i hi => by
    rw [← h.block i hi]
    simp only [World.setRow, Array.getElem?_modify]
    rw [if_neg (by omega)]⟩

set_option maxRecDepth 100000 in
set_option maxHeartbeats 2000000 in
theorem index_any (A : Option Addr) (n c : Nat) (xs : List Bl) (t : Int) (w : World) (h : BS w w.heap.size A n xs) (hn : n ≤ 1099511627776) (hv : Bks.validB xs t = true) :
    Calls Try.prog 42 #[.slice A n c] w fun e w' => e = .returned (.agg (idxCells (Bks.idx xs n))) ∧ Below w.heap.size w w' := by
  obtain ⟨hz, hsz⟩ := zero_of_info info_index
  rw [idxCells_zero] at hz
  have HS := Lib.hid hsz
  have HV := Lib.hid hv
  have HL := Lib.hid h.1
  clear hsz hv
  go_enter Try.func42, Try.ntmps42
  go_wp2
  clear hz
  go_loopw [7] (fun i wr => ∃ k : Nat, k ≤ 257 ∧ i = .int .i64 k ∧ Rw wr (w.heap.size + 1) 53 (idxCells (fun j => if j < k then -1 else 0)) ∧ Rw wr w.heap.size 53 (idxCells (fun _ => 0)) ∧ Below w.heap.size w wr) (fun i _ => 257 - (intOf i).toNat)
  case atStart =>
    refine ⟨0, Nat.zero_le _, rfl, ?_, (Rw.new w _ _).alloc _, ((Below.refl _ _).alloc (Nat.le_refl _) _).alloc (by simp) _⟩
    have := Rw.new (w.alloc (.cells (idxCells fun _ => 0) 53)) 53 (idxCells fun _ => 0)
    simpa using this
  case round =>
    obtain ⟨k, hk, rfl, hrow, hres, hb⟩ := hrel
    by_cases hlt : k < 257
    · have c0 := (hrow.cell k).trans (idxCells_at _ hlt)
      have f0 := hrow.frozen k
      have HR := Lib.hid hrow
      have HR2 := Lib.hid hres
      clear hrow hres
      have hlt' : (k : Int) < 257 := by omega
      go_wp2
      go_roundw
      case rel =>
        refine ⟨k + 1, by omega, by go_num, ?_, ?_, hb.setCell (by simp) _⟩
        · rw [← idxCells_set (fun j => if j < k then -1 else 0) _ (s := k) (v := -1) hlt (fun j _ => by
            by_cases e : j = k
            · simp [e]
            · rw [if_neg e]
              by_cases e2 : j < k
              · rw [if_pos e2, if_pos (by omega)]
              · rw [if_neg e2, if_neg (by omega)])]
          exact HR.out.put k _
        · exact HR2.out.keep ((Below.refl (w.heap.size + 1) wr).setCell (by simp) _) (by omega)
      case measure => simp [intOf]; omega
    · obtain rfl : k = 257 := by omega
      have hrow0 : Rw wr (w.heap.size + 1) 53 (idxCells (Bks.idx xs 0)) := by
        rw [← idxCells_congr (F := fun j => if j < 257 then -1 else 0) (fun s hs => by simp [hs, Bks.idx])]
        exact hrow
      clear hrow
      go_wp2
      go_loopw [15] (fun i wr => ∃ k : Nat, k ≤ n ∧ i = .int .i64 k ∧ Rw wr (w.heap.size + 1) 53 (idxCells (Bks.idx xs k)) ∧ Rw wr w.heap.size 53 (idxCells (fun _ => 0)) ∧ Below w.heap.size w wr) (fun i _ => n - (intOf i).toNat)
      case atStart => exact ⟨0, Nat.zero_le _, rfl, hrow0, hres, hb⟩
      case round =>
        clear hrow0 hres hb
        obtain ⟨k, hk, rfl, hrow, hres, hb⟩ := hrel
        by_cases hkn : k < n
        · obtain ⟨g, o, x, rfl, hg, hx, _, _, c1, c2, c3⟩ := (h.below hb).at_ hkn
          obtain ⟨z0, z1, z2, z3, z4, z5, z6⟩ := Bks.valid_at HV.out hx
          obtain ⟨s, hs⟩ := Int.eq_ofNat_of_zero_le (show 0 ≤ x.z by omega)
          have hs1 : s < 257 := by omega
          have hs1' : (s : Int) < 257 := by omega
          rw [hs] at c2
          have HX := Lib.hid hx
          have HZ := Lib.hid hs
          have hgr : g < wr.heap.size := Nat.lt_of_lt_of_le hg hb.size
          have hwl := hrow.lt
          have i0 := (hrow.cell s).trans (idxCells_at (Bks.idx xs k) hs1)
          have f0 := hrow.frozen s
          have HI := Lib.hid (Bks.idx_succ hx)
          have HR := Lib.hid hrow
          have HR2 := Lib.hid hres
          clear hx z0 z5 hs z1 z2 z4 hrow hres
          obtain ⟨v, hv⟩ : ∃ v, Bks.idx xs k s = v := ⟨_, rfl⟩
          rw [hv] at i0
          have HVV := Lib.hid hv
          clear hv
          cases hu : x.u
          · rw [hu] at c3
            by_cases hneg : v < 0
            · go_wp2
              go_roundw
              case rel =>
                refine ⟨k + 1, by omega, by go_num, ?_, (HR2.out.keep ((Below.refl (w.heap.size + 1) wr).setCell (by simp) _) (by omega)).alloc _, (hb.setCell (by simp) _).alloc (by simpa [World.setCell] using hb.size) _⟩
                rw [← idxCells_set (Bks.idx xs k) _ (s := s) (v := k) hs1 (fun j _ => by
                  rw [HI.out j, hu, HZ.out]
                  by_cases e : j = s
                  · subst e
                    rw [if_pos ⟨rfl, rfl, by rw [HVV.out]; exact hneg⟩, if_pos rfl]
                  · rw [if_neg e, if_neg (by rintro ⟨_, e2, _⟩; omega)])]
                exact (HR.out.put s _).alloc _
              case measure => simp [intOf]; omega
            · go_wp2
              go_roundw
              case rel =>
                refine ⟨k + 1, by omega, by go_num, ?_, HR2.out.alloc _, hb.alloc hb.size _⟩
                rw [← idxCells_congr (F := Bks.idx xs k) (fun j _ => by
                  rw [HI.out j, hu, HZ.out]
                  by_cases e : j = s
                  · subst e
                    rw [if_neg (by rintro ⟨_, _, e3⟩; rw [HVV.out] at e3; exact hneg e3)]
                  · rw [if_neg (by rintro ⟨_, e2, _⟩; omega)])]
                exact HR.out.alloc _
              case measure => simp [intOf]; omega
          · rw [hu] at c3
            go_wp2
            go_roundw
            case rel =>
              refine ⟨k + 1, by omega, by go_num, ?_, HR2.out.alloc _, hb.alloc hb.size _⟩
              rw [← idxCells_congr (F := Bks.idx xs k) (fun j _ => by
                rw [HI.out j, hu, if_neg (by rintro ⟨e1, _⟩; cases e1)])]
              exact HR.out.alloc _
            case measure => simp [intOf]; omega
        · obtain rfl : k = n := by omega
          have hi1 : (Try.prog.info? 53).map (·.size) = some (idxCells (Bks.idx xs k)).size := by rw [idxCells_size]; exact HS.out
          go_wp2
          refine wp_loadRow rfl rfl hrow Try.underlying53 hi1 ?_
          have hsz2 := idxCells_size (Bks.idx xs k)
          have hst := run_storeRow (P := Try.prog) (c' := idxCells (Bks.idx xs k)) hres (by rw [idxCells_size, idxCells_size]) (idxCells_one _)
          have hld := run_loadVar_row (P := Try.prog) (wr.setRow w.heap.size (idxCells (Bks.idx xs k))) w.heap.size _ _ _ (0, 0) _ (hres.row (idxCells (Bks.idx xs k))) Try.underlying53 rfl hi1
          go_wp2
          refine bodyPost_ret (v := .agg (idxCells (Bks.idx xs k))) ?_ rfl ⟨rfl, below_row hb (Nat.le_refl _) _⟩
          simp [results, Try.results42, asAddr, hld]
end Go.Proofs.Ytkejbggffbkdaaa
