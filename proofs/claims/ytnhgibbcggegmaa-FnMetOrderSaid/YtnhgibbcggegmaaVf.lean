/- For every list of bytes the law FnMetOrder returns true (P52), over the program's contracts. No conditions. -/
import Derived.Test.YtnhgibbcggegmaaKo
import Derived.Test.YtnhgibbcggegmaaHs
import Derived.Test.YtnhgibbcggegmaaGx
import Derived.Test.YtnhgibbcggegmaaHx
import Derived.Deep.Cut
namespace Go.Proofs.Ytnhgibbcggegmaa
open Go.RowKit
set_option maxRecDepth 100000

set_option maxHeartbeats 1000000 in
theorem drawMetOrder_any (A : Option Addr) (n c : Nat) (w : World) (h : Bytes w w.heap.size A n) (hc : n ≤ c) (hn : n ≤ 9223372036854775807) :
    Calls Try.prog 18 #[.slice A n c] w (DrawnH w) := by
  have b0 : Below w.heap.size w (w.alloc (.cells #[.slice none 0 0, .slice none 0 0] 26)) := (Below.refl _ _).alloc (Nat.le_refl _) _
  have h0 := (h.keep fun p hp => b0.cell hp).more b0.size
  have r0 := Rw.new w 26 #[.slice none 0 0, .slice none 0 0]
  go_enter Try.func18, Try.ntmps18
  go_wp2_with fail
  refine (open_any _ _ _ _ h0 hc hn).mono ?_
  rintro e w1 ⟨rfl, hr1, b1⟩
  have r1 := r0.keep b1 r0.lt
  have hz := r0.lt
  have bb1 := b0.trans (b1.mono b0.size)
  have hs0 := b0.size
  generalize w.alloc (.cells #[.slice none 0 0, .slice none 0 0] 26) = w0 at b0 h0 r0 hr1 b1 r1 hz bb1 hs0 ⊢
  go_wp2_with fail
  refine (l20Heap_any _ _ 12 _ hr1 (by omega) (by omega) (by omega)).mono ?_
  rintro e w2 ⟨A2, nn, c2, R2, m, d2, hh, rfl, hc1, hc2, HFx, -, hsm, -, g2⟩
  have r2 := r1.far g2 (fun e => by injection e with e; omega)
  have bb2 : Below w.heap.size w w2 := bb1.grown g2 bb1.size (fun k hk => by injection hk; omega)
  have x0 : w2.cell? ⟨w.heap.size, 0, none⟩ = some (.slice none 0 0) := r2.cell 0
  have x1 : w2.cell? ⟨w.heap.size, 1, none⟩ = some (.slice none 0 0) := r2.cell 1
  have x2 : w2.frozen? ⟨w.heap.size, 0, none⟩ = false := r2.frozen 0
  have x3 : w2.frozen? ⟨w.heap.size, 1, none⟩ = false := r2.frozen 1
  have y0 : ((w2.setCell ⟨w.heap.size, 0, none⟩ (.slice A2 nn c2)).setCell ⟨w.heap.size, 1, none⟩ (.slice R2 m d2)).cell? ⟨w.heap.size, 0, none⟩ = some (.slice A2 nn c2) := ((r2.put 0 (.slice A2 nn c2)).put 1 (.slice R2 m d2)).cell 0
  have y1 : ((w2.setCell ⟨w.heap.size, 0, none⟩ (.slice A2 nn c2)).setCell ⟨w.heap.size, 1, none⟩ (.slice R2 m d2)).cell? ⟨w.heap.size, 1, none⟩ = some (.slice R2 m d2) := ((r2.put 0 (.slice A2 nn c2)).put 1 (.slice R2 m d2)).cell 1
  have bS : w1.heap.size ≤ w1.heap.size ∧ w.heap.size < w1.heap.size := ⟨Nat.le_refl _, by have := b1.size; omega⟩
  have HSx := Lib.hid (HFx ((w2.setCell ⟨w.heap.size, 0, none⟩ (.slice A2 nn c2)).setCell ⟨w.heap.size, 1, none⟩ (.slice R2 m d2)) (by simp) (fun j hj hk => by
    rw [Below.heap_setCell _ ⟨w.heap.size, 1, none⟩ _ j (by show j ≠ w.heap.size; omega), Below.heap_setCell _ ⟨w.heap.size, 0, none⟩ _ j (by show j ≠ w.heap.size; omega)]))
  have BF := Lib.hid ((bb2.setCell (p := ⟨w.heap.size, 0, none⟩) (Nat.le_refl _) (.slice A2 nn c2)).setCell (p := ⟨w.heap.size, 1, none⟩) (Nat.le_refl _) (.slice R2 m d2))
  clear HFx g2 r2 r1 r0 bb1 bb2 b0 b1 h0 hr1
  go_wp2_with fail
  exact bodyPost_ret (v := .agg #[.slice A2 nn c2, .slice R2 m d2]) (by simp [results, Try.results18, go_sem, *]) rfl ⟨A2, nn, c2, R2, m, d2, hh, rfl, hc1, hc2, HSx.out, hsm, BF.out⟩

namespace Hps
/-- marks of all that is on the order are the marks of what can be reached -/
theorem order_marks {h : Hp} (hv : validH h = true) {outs : List Bool} (hl : outs.length = h.cs.length) (hm : ∀ j : Nat, outs[j]? = some true ↔ (j : Int) ∈ orderH h) : outs = reachH h := by
  rw [reachH, if_pos hv]
  exact reachL_eq hl fun k _ => (hm k).trans (mem_order hv)
/-- the first root that is a cell is the first of the order -/
theorem order_first {h : Hp} (hv : validH h = true) {x : Int} (hx : h.rt[0]? = some x) (h0 : 0 ≤ x) : (orderH h)[0]? = some x := by
  have hm : (meet [] h.rt)[0]? = some x := by
    cases e : h.rt with
    | nil => rw [e] at hx; simp at hx
    | cons y ys =>
      rw [e] at hx
      have hx : y = x := by simpa using hx
      subst hx
      rw [meet_cons, meet1, if_pos ⟨h0, by simp⟩]
      exact prefix_at (meet_prefix ys _) (by simp)
  have hb : ∀ (f k : Nat) (l : List Int), l <+: bfs h.cs f k l := by
    intro f
    induction f with
    | zero => intro k l; exact List.prefix_refl _
    | succ f ih =>
      intro k l
      rw [bfs]
      cases l[k]? with
      | none => exact List.prefix_refl _
      | some n => exact (meet_prefix _ _).trans (ih _ _)
  rw [order_valid hv, orderL]
  exact prefix_at (hb _ _ _) hm
theorem take_notin {l : List Int} (hd : l.Nodup) {k : Nat} {x : Int} (hx : l[k]? = some x) : x ∉ l.take k := by
  intro hm
  obtain ⟨i, hi⟩ := List.mem_iff_getElem?.1 hm
  rw [List.getElem?_take] at hi
  split at hi
  · next h1 =>
    have e1 := nameL_at hd hi
    have e2 := nameL_at hd hx
    omega
  · cases hi
end Hps

set_option maxRecDepth 100000 in
set_option maxHeartbeats 8000000 in
theorem metOrderLaw_walk (A : Option Addr) (n c : Nat) (w : World) (h : Bytes w w.heap.size A n) (hc : n ≤ c) (hn : n ≤ 9223372036854775807) :
    Calls Try.prog 5 #[.slice A n c] w fun e w' => e = .returned (.bool true) ∧ Below w.heap.size w w' := by
  by_cases hs : n ≤ 1048576
  case neg =>
    have hs' : (1048576 : Int) < (n : Int) := by omega
    go_enter Try.func5, Try.ntmps5
    go_wp2
    go_ret
    exact ⟨rfl, Below.refl _ _⟩
  have hs' : decide ((1048576 : Int) < (n : Int)) = false := by simp; omega
  go_enter Try.func5, Try.ntmps5
  go_wp2_with fail
  refine (drawMetOrder_any _ _ _ _ h hc hn).mono ?_
  rintro e w1 ⟨A1, nn, c1, R1, m, d1, hh, rfl, hc1, hd1, hsH, hsm, b1⟩
  have hn41 : nn ≤ 41 := by rw [← hsH.cells.1]; exact hsm.1
  have hm4 : m ≤ 4 := by rw [← hsH.roots.1]; exact hsm.2.1
  have bA : Below w1.heap.size w1 (w1.alloc (.cells #[.slice A1 nn c1, .slice R1 m d1] 26)) := (Below.refl _ _).alloc (Nat.le_refl _) _
  have hs2 := hsH.up bA
  have bx := Rw.new w1 26 #[.slice A1 nn c1, .slice R1 m d1]
  have bb := b1.trans (bA.mono b1.size)
  clear hsH bA hsm b1
  go_upto_region 4 with fail
  generalize w1.alloc (.cells #[.slice A1 nn c1, .slice R1 m d1] 26) = w2 at hs2 bx bb ⊢
  generalize w1.heap.size = b at bx ⊢
  have x0 : w2.cell? ⟨b, 0, none⟩ = some (.slice A1 nn c1) := bx.cell 0
  have x1 : w2.cell? ⟨b, 1, none⟩ = some (.slice R1 m d1) := bx.cell 1
  obtain ⟨xs, hxs⟩ : ∃ xs, Hps.orderH hh = xs := ⟨_, rfl⟩
  have HX := Lib.hid hxs
  have hxl : xs.length ≤ 41 := by rw [← hxs]; have := Hps.order_len hh; have := hs2.cells.1; omega
  clear hxs
  go_wp2_with fail
  refine (metOrder_any _ _ _ _ _ _ hh _ hs2 (by omega) (by omega) hc1 hd1).mono ?_
  rw [HX.out]
  rintro e w3 ⟨v, rfl, ov, b3⟩
  obtain ⟨Av, cv, rfl, -⟩ := ov.form
  have bx3 := bx.keep b3 bx.lt
  have hs3 := hs2.up b3
  have bb3 := bb.trans (b3.mono bb.size)
  have y0 : w3.cell? ⟨b, 0, none⟩ = some (.slice A1 nn c1) := bx3.cell 0
  have y1 : w3.cell? ⟨b, 1, none⟩ = some (.slice R1 m d1) := bx3.cell 1
  have hr3 := ov.reads
  clear hs2 bx x0 x1 ov b3 bb
  go_wp2_with fail
  refine (mMetOrder_any _ _ _ _ _ _ hh _ hs3 (by omega) (by omega)).mono ?_
  rw [HX.out]
  rintro e w4 ⟨v, rfl, ov4, b4⟩
  obtain ⟨Aw, cw, rfl, -⟩ := ov4.form
  have bx4 := bx3.keep b4 bx3.lt
  have hs4 := hs3.up b4
  have bb4 := bb3.trans (b4.mono bb3.size)
  have hr4 := hr3.up b4
  have hr4' := ov4.reads
  clear hs3 bx3 y0 y1 ov4 b4 bb3 hr3
  go_wp2_with fail
  refine (sameInts_any _ _ _ _ _ _ xs xs _ hr4 hr4' (by omega) (by omega)).mono ?_
  rw [decide_eq_true rfl]
  rintro e w5 ⟨rfl, b5⟩
  have bx5 := bx4.keep b5 bx4.lt
  have hs5 := hs4.up b5
  have bb5 := bb4.trans (b5.mono bb4.size)
  have hr5 := hr4.up b5
  have y0 : w5.cell? ⟨b, 0, none⟩ = some (.slice A1 nn c1) := bx5.cell 0
  have y1 : w5.cell? ⟨b, 1, none⟩ = some (.slice R1 m d1) := bx5.cell 1
  clear hs4 bx4 hr4' b5 bb4 hr4
  go_wp2_with fail
  refine (mHeapValid_any _ _ _ _ _ _ hh _ hs5 (by omega) (by omega)).mono ?_
  cases hv : Hps.validH hh
  · rintro e w6 ⟨rfl, b6⟩
    have bb6 := bb5.trans (b6.mono bb5.size)
    have hx0 : xs = [] := by rw [← HX.out, Hps.orderH, if_neg (by rw [hv]; simp)]
    subst hx0
    clear HX hv hr5
    go_wp2_with fail
    refine (alive_any _).mono ?_
    rintro e w7 ⟨rfl, b7⟩
    have bb7 := bb6.trans (b7.mono bb6.size)
    go_wp2_with fail
    go_ret
    exact ⟨rfl, bb7⟩
  rintro e w6 ⟨rfl, b6⟩
  have bx6 := bx5.keep b6 bx5.lt
  have hs6 := hs5.up b6
  have bb6 := bb5.trans (b6.mono bb5.size)
  have hr6 := hr5.up b6
  have hlc := hs6.cells.1
  have hlr := hs6.roots.1
  have HM4 := Lib.hid (show m = 4 by rw [← hlr]; exact (Hps.valid_iff.1 hv).2.2.1)
  have HV := Lib.hid hv
  have HIN : Hid (∀ x ∈ xs, ∃ k : Nat, x = k ∧ k < nn) := Lib.hid (by rw [← HX.out, ← hlc]; exact fun x hx => Hps.order_nat hx)
  have HND : Hid xs.Nodup := Lib.hid (by rw [← HX.out]; exact Hps.order_nodup hh)
  have HLC := Lib.hid hlc
  have x0 : w6.cell? ⟨b, 0, none⟩ = some (.slice A1 nn c1) := bx6.cell 0
  have hmk := makeO w6 nn (by omega)
  have ow := own_madeO w6 nn (by omega)
  have bM : Below w6.heap.size w6 (w6.alloc (.cells (Array.replicate nn (.bool false)) 4)) := (Below.refl _ _).alloc (Nat.le_refl _) _
  obtain ⟨w7, hw7⟩ : ∃ w7, w6.alloc (.cells (Array.replicate nn (.bool false)) 4) = w7 := ⟨_, rfl⟩
  rw [hw7] at hmk ow bM
  have HS6 := Lib.hid hs6
  have HR6 := Lib.hid hr6
  have BX := Lib.hid bx6
  have hbb := bx6.lt
  clear hw7 hs5 bx5 b6 bb5 hr5 y0 y1 hv hs6 hr6 bx6 hlr
  go_wp2_with fail
  clear hmk x0
  have hwm : w6.heap.size < w7.heap.size := (World.ownsRow.lt ow w6.heap.size (by rfl)).2
  go_loopw [6] (fun i wr => ∃ (k : Nat) (outs : List Bool), k ≤ xs.length ∧ i = .int .i64 k ∧ OwnO wr w6.heap.size (.slice (some ⟨w6.heap.size, 0, none⟩) nn nn) outs ∧ outs.length = nn ∧ Hid (∀ j : Nat, outs[j]? = some true ↔ (j : Int) ∈ xs.take k) ∧ Below w6.heap.size w6 wr) (fun i _ => xs.length - (intOf i).toNat)
  case atStart => exact ⟨0, _, Nat.zero_le _, rfl, ow, by simp, Lib.hid (fun j => by simp [List.getElem?_replicate]), bM⟩
  case round =>
    clear ow bM
    obtain ⟨k, outs, hk, rfl, ow, hol, HM, bw⟩ := hrel
    by_cases hlt : k < xs.length
    · have hlt' : (k : Int) < xs.length := by omega
      obtain ⟨gl, ol, x, e1, hgl, hx, d1⟩ := (HR6.out.below bw).at_ hlt
      subst e1
      obtain ⟨y, rfl, hy⟩ := HIN.out x (List.mem_of_getElem? hx)
      have hyt : (y : Int) ∉ xs.take k := Hps.take_notin HND.out hx
      obtain ⟨g', o', bo, e2, _, hbk, d2⟩ := ow.reads.at_ (k := y) hy
      injection e2 with e2
      injection e2 with e3 e4
      subst e3 e4
      rw [Nat.zero_add] at d2
      have hbo : bo = false := by
        cases bo
        · rfl
        · exact absurd ((HM.out y).1 hbk) hyt
      subst hbo
      have fz : wr.frozen? ⟨w6.heap.size, y, none⟩ = false := ow.frozen hol y
      have hneg : decide ((y : Int) < 0) = false := decide_eq_false (by omega)
      have hge : decide ((nn : Int) ≤ (y : Int)) = false := decide_eq_false (by omega)
      have hyn : (y : Int) < nn := by omega
      have ow2 := ow.put' (j := y) hol true
      have HM2 : Hid (∀ j : Nat, (outs.set y true)[j]? = some true ↔ (j : Int) ∈ xs.take (k + 1)) := Lib.hid (fun j => by
        rw [List.take_add_one, hx, List.mem_append, ← HM.out j, List.getElem?_set]
        by_cases e : y = j
        · subst e
          simp [hol, hy]
        · rw [if_neg e]
          simp
          omega)
      have bw2 := bw.setCell (p := ⟨w6.heap.size, y, none⟩) (Nat.le_refl _) (.bool true)
      clear hx hbk hyt ow
      go_wp2_with fail
      go_roundw
      case rel => exact ⟨k + 1, _, by omega, by go_num, ow2, by simp [hol], HM2, bw2⟩
      case measure => simp [intOf]; omega
    · obtain rfl : k = xs.length := by omega
      have HE := Lib.hid (show outs = Hps.reachH hh from Hps.order_marks HV.out (by rw [hol, HLC.out]) (fun j => by
        have := HM.out j
        rw [List.take_of_length_le (Nat.le_refl _)] at this
        rw [HX.out]
        exact this))
      have hs7 := HS6.out.up bw
      have hr7 := HR6.out.up bw
      have bx7 := BX.out.keep bw hbb
      have bb7 := bb6.trans (bw.mono bb6.size)
      have x0 : wr.cell? ⟨b, 0, none⟩ = some (.slice A1 nn c1) := bx7.cell 0
      have x1 : wr.cell? ⟨b, 1, none⟩ = some (.slice R1 m d1) := bx7.cell 1
      have hbw := bx7.lt
      have ro := ow.reads
      obtain ⟨gR, oR, x, eR, hgR, hxR, dR⟩ := hs7.roots.at_ (k := 0) (by have := HM4.out; omega)
      subst eR
      rw [Nat.add_zero] at dR
      have HFI := Lib.hid (fun (h0 : 0 ≤ x) => show xs[0]? = some x by rw [← HX.out]; exact Hps.order_first HV.out hxR h0)
      have h0n : 0 < m := by have := HM4.out; omega
      obtain ⟨rm, hrm⟩ : ∃ rm, Hps.reachH hh = rm := ⟨_, rfl⟩
      have HRM := Lib.hid hrm
      rw [hrm] at HE
      have HRL := Lib.hid (show rm.length = nn by rw [← HE.out]; exact hol)
      clear hrm ow HM bw HS6 HR6 BX HIN HND
      go_upto_region 16 with fail
      by_cases hx0 : 0 ≤ x
      · have hnx : decide (x < 0) = false := decide_eq_false (by omega)
        have hfx := HFI.out hx0
        obtain ⟨gl, ol, x9, e9, hgl, h9, dl⟩ := hr7.at_ (k := 0) (List.getElem?_eq_some_iff.1 hfx).1
        subst e9
        rw [hfx] at h9
        obtain rfl := Option.some.inj h9
        rw [Nat.add_zero] at dl
        have h0x : (0 : Int) < xs.length := by have := (List.getElem?_eq_some_iff.1 hfx).1; omega
        have h0y : 0 < xs.length := by omega
        clear hfx h9 hxR
        refine wp_region_inv (by kernel_rfl) (by kernel_rfl) (fun L ac ww => ∃ t2 t67 t68 t69 t70 t71 t72 t73 t74 t75 t76 t77 t78 t79 t80 t81 t82 t83 t84 t85 t86 t87 : Value, ac = { tmps := #[Value.slice A n c, undef, t2, Value.pointer (some { block := b, off := 0 }), Value.slice (some { block := gl, off := ol }) xs.length cv, Value.slice (some { block := w6.heap.size, off := 0 }) nn nn, Value.int IntKind.i64 ↑xs.length, Value.slice A n c, Value.int IntKind.i64 ↑n, Value.bool false, Value.slice A n c, heapV A1 nn c1 (some { block := gR, off := oR }) m d1, Value.agg #[Value.slice A1 nn c1, Value.slice (some { block := gR, off := oR }) m d1], Value.slice (some { block := gl, off := ol }) xs.length cv, Value.slice (some { block := gl, off := ol }) xs.length cv, Value.agg #[Value.slice A1 nn c1, Value.slice (some { block := gR, off := oR }) m d1], Value.slice Aw xs.length cw, Value.bool true, Value.bool false, Value.agg #[Value.slice A1 nn c1, Value.slice (some { block := gR, off := oR }) m d1], Value.bool true, Value.bool false, undef, undef, undef, undef, undef, undef, Value.pointer (some { block := b, off := 0 }), Value.slice A1 nn c1, Value.int IntKind.i64 ↑nn, Value.slice (some { block := w6.heap.size, off := 0 }) nn nn, Value.int IntKind.i64 ↑xs.length, Value.slice (some { block := gl, off := ol }) xs.length cv, Value.int IntKind.i64 ↑xs.length, Value.bool false, u36, u37, u38, u39, u40, u41, u42, u43, u44, u45, u46, u47, u48, u49, u50, u51, u52, u53, u54, u55, u56, u57, u58, u59, u60, u61, u62, u63, u64, u65, u66, t67, t68, t69, t70, t71, t72, t73, t74, t75, t76, t77, t78, t79, t80, t81, t82, t83, t84, t85, t86, t87], defers := [] } ∧ (Below wr.heap.size wr ww) ∧ (L 0 = true → t67 = .slice (some ⟨w6.heap.size, 0, none⟩) nn nn) ∧ (L 1 = true → t68 = .agg #[.slice A1 nn c1, .slice (some ⟨gR, oR, none⟩) m d1]) ∧ (L 2 = true → ∃ (Ar : Option Addr) (cr : Nat), t69 = .slice Ar nn cr ∧ OS ww ww.heap.size Ar nn rm) ∧ (L 3 = true → t70 = .bool true) ∧ (L 4 = true → t71 = .bool true) ∧ (L 5 = true → t72 = .pointer (some ⟨b, 1, none⟩)) ∧ (L 6 = true → t73 = .slice (some ⟨gR, oR, none⟩) m d1) ∧ (L 7 = true → t74 = .pointer (some ⟨gR, oR, none⟩)) ∧ (L 8 = true → t75 = .int .i64 x) ∧ (L 9 = true → t76 = .bool false) ∧ (L 10 = true → t77 = .bool false) ∧ (L 11 = true → t78 = .slice (some ⟨gl, ol, none⟩) xs.length cv) ∧ (L 12 = true → t79 = .pointer (some ⟨gl, ol, none⟩)) ∧ (L 13 = true → t80 = .int .i64 x) ∧ (L 14 = true → t81 = .pointer (some ⟨b, 1, none⟩)) ∧ (L 15 = true → t82 = .slice (some ⟨gR, oR, none⟩) m d1) ∧ (L 16 = true → t83 = .pointer (some ⟨gR, oR, none⟩)) ∧ (L 17 = true → t84 = .int .i64 x) ∧ (L 18 = true → t85 = .bool true) ∧ (L 19 = true → t86 = .bool true) ∧ (L 20 = true → t87 = .bool true) ∧ (L 21 = true → t2 = .bool true)) ?h0 ?hstep ?hdone
        case h0 => exact ⟨_, _, _, _, _, _, _, _, _, _, _, _, _, _, _, _, _, _, _, _, _, _, rfl, (Below.refl _ _).drew, (fun h => absurd h Bool.false_ne_true), (fun h => absurd h Bool.false_ne_true), (fun h => absurd h Bool.false_ne_true), (fun h => absurd h Bool.false_ne_true), (fun h => absurd h Bool.false_ne_true), (fun h => absurd h Bool.false_ne_true), (fun h => absurd h Bool.false_ne_true), (fun h => absurd h Bool.false_ne_true), (fun h => absurd h Bool.false_ne_true), (fun h => absurd h Bool.false_ne_true), (fun h => absurd h Bool.false_ne_true), (fun h => absurd h Bool.false_ne_true), (fun h => absurd h Bool.false_ne_true), (fun h => absurd h Bool.false_ne_true), (fun h => absurd h Bool.false_ne_true), (fun h => absurd h Bool.false_ne_true), (fun h => absurd h Bool.false_ne_true), (fun h => absurd h Bool.false_ne_true), (fun h => absurd h Bool.false_ne_true), (fun h => absurd h Bool.false_ne_true), (fun h => absurd h Bool.false_ne_true), (fun h => absurd h Bool.false_ne_true)⟩
        case hstep =>
          rintro L ac ww i o ho hL hd ⟨t2, t67, t68, t69, t70, t71, t72, t73, t74, t75, t76, t77, t78, t79, t80, t81, t82, t83, t84, t85, t86, t87, rfl, I0, f0, f1, f2, f3, f4, f5, f6, f7, f8, f9, f10, f11, f12, f13, f14, f15, f16, f17, f18, f19, f20, f21⟩
          have hi : i < 22 := (Array.getElem?_eq_some_iff.1 ho).1
          obtain rfl | rfl | rfl | rfl | rfl | rfl | rfl | rfl | rfl | rfl | rfl | rfl | rfl | rfl | rfl | rfl | rfl | rfl | rfl | rfl | rfl | rfl : i = 0 ∨ i = 1 ∨ i = 2 ∨ i = 3 ∨ i = 4 ∨ i = 5 ∨ i = 6 ∨ i = 7 ∨ i = 8 ∨ i = 9 ∨ i = 10 ∨ i = 11 ∨ i = 12 ∨ i = 13 ∨ i = 14 ∨ i = 15 ∨ i = 16 ∨ i = 17 ∨ i = 18 ∨ i = 19 ∨ i = 20 ∨ i = 21 := by omega
          · obtain rfl := Option.some.inj ho
            refine wpOp_step rfl (fun K' hK => ?_)
            go_simp
            refine hK _ _ ?_
            exact ⟨_, _, _, _, _, _, _, _, _, _, _, _, _, _, _, _, _, _, _, _, _, _, rfl, (I0), (fun _ => rfl), (kp f1), (kp f2), (kp f3), (kp f4), (kp f5), (kp f6), (kp f7), (kp f8), (kp f9), (kp f10), (kp f11), (kp f12), (kp f13), (kp f14), (kp f15), (kp f16), (kp f17), (kp f18), (kp f19), (kp f20), (kp f21)⟩
          · obtain rfl := Option.some.inj ho
            have z0 : ww.cell? ⟨b, 0, none⟩ = some (.slice A1 nn c1) := (I0.cell (p := ⟨b, 0, none⟩) hbw).trans x0
            have z1 : ww.cell? ⟨b, 1, none⟩ = some (.slice (some ⟨gR, oR, none⟩) m d1) := (I0.cell (p := ⟨b, 1, none⟩) hbw).trans x1
            refine wpOp_step rfl (fun K' hK => ?_)
            go_simp
            refine hK _ _ ?_
            exact ⟨_, _, _, _, _, _, _, _, _, _, _, _, _, _, _, _, _, _, _, _, _, _, rfl, (I0), (kp f0), (fun _ => rfl), (kp f2), (kp f3), (kp f4), (kp f5), (kp f6), (kp f7), (kp f8), (kp f9), (kp f10), (kp f11), (kp f12), (kp f13), (kp f14), (kp f15), (kp f16), (kp f17), (kp f18), (kp f19), (kp f20), (kp f21)⟩
          · obtain rfl := Option.some.inj ho
            have g1 := f1 (hd ⟨1, .data⟩ (by simp) rfl)
            subst g1
            refine wpOp_step rfl (fun K' hK => ?_)
            go_simp
            refine (reachable_any _ _ _ _ _ _ hh ww (hs7.up I0) (by omega) (by omega) hc1 hd1).mono ?_
            rw [HRM.out]
            rintro e w' ⟨v1, rfl, o1, b5⟩
            obtain ⟨Ar, cr, rfl, -⟩ := o1.form
            have r1 := o1.reads
            rw [HRL.out] at r1 ⊢
            refine hK _ _ ?_
            exact ⟨_, _, _, _, _, _, _, _, _, _, _, _, _, _, _, _, _, _, _, _, _, _, rfl, (I0.trans (b5.mono I0.size)), (kp f0), (kp f1), (fun _ => ⟨Ar, cr, rfl, r1⟩), (kp f3), (kp f4), (kp f5), (kp f6), (kp f7), (kp f8), (kp f9), (kp f10), (kp f11), (kp f12), (kp f13), (kp f14), (kp f15), (kp f16), (kp f17), (kp f18), (kp f19), (kp f20), (kp f21)⟩
          · obtain rfl := Option.some.inj ho
            have g0 := f0 (hd ⟨0, .data⟩ (by simp) rfl)
            have g2 := f2 (hd ⟨2, .data⟩ (by simp) rfl)
            subst g0
            obtain ⟨Ar, cr, rfl, r1⟩ := g2
            refine wpOp_step rfl (fun K' hK => ?_)
            go_simp
            refine (sameFlags_any _ _ _ _ _ _ outs rm ww (ro.up I0) r1 (by omega) (by omega)).mono ?_
            rw [decide_eq_true HE.out]
            rintro e w' ⟨rfl, b5⟩
            refine hK _ _ ?_
            exact ⟨_, _, _, _, _, _, _, _, _, _, _, _, _, _, _, _, _, _, _, _, _, _, rfl, (I0.trans (b5.mono I0.size)), (kp f0), (kp f1), (fun _ => ⟨Ar, cr, rfl, r1.up b5⟩), (fun _ => rfl), (kp f4), (kp f5), (kp f6), (kp f7), (kp f8), (kp f9), (kp f10), (kp f11), (kp f12), (kp f13), (kp f14), (kp f15), (kp f16), (kp f17), (kp f18), (kp f19), (kp f20), (kp f21)⟩
          · obtain rfl := Option.some.inj ho
            have g3 := f3 (hd ⟨3, .data⟩ (by simp) rfl)
            subst g3
            refine wpOp_step rfl (fun K' hK => ?_)
            go_simp
            refine hK _ _ ?_
            exact ⟨_, _, _, _, _, _, _, _, _, _, _, _, _, _, _, _, _, _, _, _, _, _, rfl, (I0), (kp f0), (kp f1), (kp f2), (kp f3), (fun _ => rfl), (kp f5), (kp f6), (kp f7), (kp f8), (kp f9), (kp f10), (kp f11), (kp f12), (kp f13), (kp f14), (kp f15), (kp f16), (kp f17), (kp f18), (kp f19), (kp f20), (kp f21)⟩
          · obtain rfl := Option.some.inj ho
            have g4 := f4 (hd ⟨4, .guard⟩ (by simp) rfl)
            subst g4
            refine wpOp_step rfl (fun K' hK => ?_)
            go_simp
            refine hK _ _ ?_
            exact ⟨_, _, _, _, _, _, _, _, _, _, _, _, _, _, _, _, _, _, _, _, _, _, rfl, (I0), (kp f0), (kp f1), (kp f2), (kp f3), (kp f4), (fun _ => rfl), (kp f6), (kp f7), (kp f8), (kp f9), (kp f10), (kp f11), (kp f12), (kp f13), (kp f14), (kp f15), (kp f16), (kp f17), (kp f18), (kp f19), (kp f20), (kp f21)⟩
          · obtain rfl := Option.some.inj ho
            have g5 := f5 (hd ⟨5, .data⟩ (by simp) rfl)
            subst g5
            have g4 := f4 (hd ⟨4, .guard⟩ (by simp) rfl)
            subst g4
            have z1 : ww.cell? ⟨b, 1, none⟩ = some (.slice (some ⟨gR, oR, none⟩) m d1) := (I0.cell (p := ⟨b, 1, none⟩) hbw).trans x1
            refine wpOp_step rfl (fun K' hK => ?_)
            go_simp
            refine hK _ _ ?_
            exact ⟨_, _, _, _, _, _, _, _, _, _, _, _, _, _, _, _, _, _, _, _, _, _, rfl, (I0), (kp f0), (kp f1), (kp f2), (kp f3), (kp f4), (kp f5), (fun _ => rfl), (kp f7), (kp f8), (kp f9), (kp f10), (kp f11), (kp f12), (kp f13), (kp f14), (kp f15), (kp f16), (kp f17), (kp f18), (kp f19), (kp f20), (kp f21)⟩
          · obtain rfl := Option.some.inj ho
            have g6 := f6 (hd ⟨6, .data⟩ (by simp) rfl)
            subst g6
            have g4 := f4 (hd ⟨4, .guard⟩ (by simp) rfl)
            subst g4
            refine wpOp_step rfl (fun K' hK => ?_)
            go_simp
            refine hK _ _ ?_
            exact ⟨_, _, _, _, _, _, _, _, _, _, _, _, _, _, _, _, _, _, _, _, _, _, rfl, (I0), (kp f0), (kp f1), (kp f2), (kp f3), (kp f4), (kp f5), (kp f6), (fun _ => rfl), (kp f8), (kp f9), (kp f10), (kp f11), (kp f12), (kp f13), (kp f14), (kp f15), (kp f16), (kp f17), (kp f18), (kp f19), (kp f20), (kp f21)⟩
          · obtain rfl := Option.some.inj ho
            have g7 := f7 (hd ⟨7, .data⟩ (by simp) rfl)
            subst g7
            have g4 := f4 (hd ⟨4, .guard⟩ (by simp) rfl)
            subst g4
            have zr : ww.cell? ⟨gR, oR, none⟩ = some (.int .i64 x) := (I0.cell (p := ⟨gR, oR, none⟩) hgR).trans dR
            refine wpOp_step rfl (fun K' hK => ?_)
            go_simp
            refine hK _ _ ?_
            exact ⟨_, _, _, _, _, _, _, _, _, _, _, _, _, _, _, _, _, _, _, _, _, _, rfl, (I0), (kp f0), (kp f1), (kp f2), (kp f3), (kp f4), (kp f5), (kp f6), (kp f7), (fun _ => rfl), (kp f9), (kp f10), (kp f11), (kp f12), (kp f13), (kp f14), (kp f15), (kp f16), (kp f17), (kp f18), (kp f19), (kp f20), (kp f21)⟩
          · obtain rfl := Option.some.inj ho
            have g8 := f8 (hd ⟨8, .data⟩ (by simp) rfl)
            subst g8
            have g4 := f4 (hd ⟨4, .guard⟩ (by simp) rfl)
            subst g4
            refine wpOp_step rfl (fun K' hK => ?_)
            go_simp
            refine hK _ _ ?_
            exact ⟨_, _, _, _, _, _, _, _, _, _, _, _, _, _, _, _, _, _, _, _, _, _, rfl, (I0), (kp f0), (kp f1), (kp f2), (kp f3), (kp f4), (kp f5), (kp f6), (kp f7), (kp f8), (fun _ => rfl), (kp f10), (kp f11), (kp f12), (kp f13), (kp f14), (kp f15), (kp f16), (kp f17), (kp f18), (kp f19), (kp f20), (kp f21)⟩
          · obtain rfl := Option.some.inj ho
            have g9 := f9 (hd ⟨9, .data⟩ (by simp) rfl)
            subst g9
            have g4 := f4 (hd ⟨4, .guard⟩ (by simp) rfl)
            subst g4
            refine wpOp_step rfl (fun K' hK => ?_)
            go_simp
            refine hK _ _ ?_
            exact ⟨_, _, _, _, _, _, _, _, _, _, _, _, _, _, _, _, _, _, _, _, _, _, rfl, (I0), (kp f0), (kp f1), (kp f2), (kp f3), (kp f4), (kp f5), (kp f6), (kp f7), (kp f8), (kp f9), (fun _ => rfl), (kp f11), (kp f12), (kp f13), (kp f14), (kp f15), (kp f16), (kp f17), (kp f18), (kp f19), (kp f20), (kp f21)⟩
          · obtain rfl := Option.some.inj ho
            have g10 := f10 (hd ⟨10, .guard⟩ (by simp) rfl)
            subst g10
            refine wpOp_step rfl (fun K' hK => ?_)
            go_simp
            refine hK _ _ ?_
            exact ⟨_, _, _, _, _, _, _, _, _, _, _, _, _, _, _, _, _, _, _, _, _, _, rfl, (I0), (kp f0), (kp f1), (kp f2), (kp f3), (kp f4), (kp f5), (kp f6), (kp f7), (kp f8), (kp f9), (kp f10), (fun _ => rfl), (kp f12), (kp f13), (kp f14), (kp f15), (kp f16), (kp f17), (kp f18), (kp f19), (kp f20), (kp f21)⟩
          · obtain rfl := Option.some.inj ho
            have g11 := f11 (hd ⟨11, .data⟩ (by simp) rfl)
            subst g11
            have g10 := f10 (hd ⟨10, .guard⟩ (by simp) rfl)
            subst g10
            refine wpOp_step rfl (fun K' hK => ?_)
            go_simp
            refine hK _ _ ?_
            exact ⟨_, _, _, _, _, _, _, _, _, _, _, _, _, _, _, _, _, _, _, _, _, _, rfl, (I0), (kp f0), (kp f1), (kp f2), (kp f3), (kp f4), (kp f5), (kp f6), (kp f7), (kp f8), (kp f9), (kp f10), (kp f11), (fun _ => rfl), (kp f13), (kp f14), (kp f15), (kp f16), (kp f17), (kp f18), (kp f19), (kp f20), (kp f21)⟩
          · obtain rfl := Option.some.inj ho
            have g12 := f12 (hd ⟨12, .data⟩ (by simp) rfl)
            subst g12
            have g10 := f10 (hd ⟨10, .guard⟩ (by simp) rfl)
            subst g10
            have zl : ww.cell? ⟨gl, ol, none⟩ = some (.int .i64 x) := (I0.cell (p := ⟨gl, ol, none⟩) hgl).trans dl
            refine wpOp_step rfl (fun K' hK => ?_)
            go_simp
            refine hK _ _ ?_
            exact ⟨_, _, _, _, _, _, _, _, _, _, _, _, _, _, _, _, _, _, _, _, _, _, rfl, (I0), (kp f0), (kp f1), (kp f2), (kp f3), (kp f4), (kp f5), (kp f6), (kp f7), (kp f8), (kp f9), (kp f10), (kp f11), (kp f12), (fun _ => rfl), (kp f14), (kp f15), (kp f16), (kp f17), (kp f18), (kp f19), (kp f20), (kp f21)⟩
          · obtain rfl := Option.some.inj ho
            have g10 := f10 (hd ⟨10, .guard⟩ (by simp) rfl)
            subst g10
            refine wpOp_step rfl (fun K' hK => ?_)
            go_simp
            refine hK _ _ ?_
            exact ⟨_, _, _, _, _, _, _, _, _, _, _, _, _, _, _, _, _, _, _, _, _, _, rfl, (I0), (kp f0), (kp f1), (kp f2), (kp f3), (kp f4), (kp f5), (kp f6), (kp f7), (kp f8), (kp f9), (kp f10), (kp f11), (kp f12), (kp f13), (fun _ => rfl), (kp f15), (kp f16), (kp f17), (kp f18), (kp f19), (kp f20), (kp f21)⟩
          · obtain rfl := Option.some.inj ho
            have g14 := f14 (hd ⟨14, .data⟩ (by simp) rfl)
            subst g14
            have g10 := f10 (hd ⟨10, .guard⟩ (by simp) rfl)
            subst g10
            have z1 : ww.cell? ⟨b, 1, none⟩ = some (.slice (some ⟨gR, oR, none⟩) m d1) := (I0.cell (p := ⟨b, 1, none⟩) hbw).trans x1
            refine wpOp_step rfl (fun K' hK => ?_)
            go_simp
            refine hK _ _ ?_
            exact ⟨_, _, _, _, _, _, _, _, _, _, _, _, _, _, _, _, _, _, _, _, _, _, rfl, (I0), (kp f0), (kp f1), (kp f2), (kp f3), (kp f4), (kp f5), (kp f6), (kp f7), (kp f8), (kp f9), (kp f10), (kp f11), (kp f12), (kp f13), (kp f14), (fun _ => rfl), (kp f16), (kp f17), (kp f18), (kp f19), (kp f20), (kp f21)⟩
          · obtain rfl := Option.some.inj ho
            have g15 := f15 (hd ⟨15, .data⟩ (by simp) rfl)
            subst g15
            have g10 := f10 (hd ⟨10, .guard⟩ (by simp) rfl)
            subst g10
            refine wpOp_step rfl (fun K' hK => ?_)
            go_simp
            refine hK _ _ ?_
            exact ⟨_, _, _, _, _, _, _, _, _, _, _, _, _, _, _, _, _, _, _, _, _, _, rfl, (I0), (kp f0), (kp f1), (kp f2), (kp f3), (kp f4), (kp f5), (kp f6), (kp f7), (kp f8), (kp f9), (kp f10), (kp f11), (kp f12), (kp f13), (kp f14), (kp f15), (fun _ => rfl), (kp f17), (kp f18), (kp f19), (kp f20), (kp f21)⟩
          · obtain rfl := Option.some.inj ho
            have g16 := f16 (hd ⟨16, .data⟩ (by simp) rfl)
            subst g16
            have g10 := f10 (hd ⟨10, .guard⟩ (by simp) rfl)
            subst g10
            have zr : ww.cell? ⟨gR, oR, none⟩ = some (.int .i64 x) := (I0.cell (p := ⟨gR, oR, none⟩) hgR).trans dR
            refine wpOp_step rfl (fun K' hK => ?_)
            go_simp
            refine hK _ _ ?_
            exact ⟨_, _, _, _, _, _, _, _, _, _, _, _, _, _, _, _, _, _, _, _, _, _, rfl, (I0), (kp f0), (kp f1), (kp f2), (kp f3), (kp f4), (kp f5), (kp f6), (kp f7), (kp f8), (kp f9), (kp f10), (kp f11), (kp f12), (kp f13), (kp f14), (kp f15), (kp f16), (fun _ => rfl), (kp f18), (kp f19), (kp f20), (kp f21)⟩
          · obtain rfl := Option.some.inj ho
            have g13 := f13 (hd ⟨13, .data⟩ (by simp) rfl)
            have g17 := f17 (hd ⟨17, .data⟩ (by simp) rfl)
            subst g13
            subst g17
            have g10 := f10 (hd ⟨10, .guard⟩ (by simp) rfl)
            subst g10
            refine wpOp_step rfl (fun K' hK => ?_)
            go_simp
            refine hK _ _ ?_
            exact ⟨_, _, _, _, _, _, _, _, _, _, _, _, _, _, _, _, _, _, _, _, _, _, rfl, (I0), (kp f0), (kp f1), (kp f2), (kp f3), (kp f4), (kp f5), (kp f6), (kp f7), (kp f8), (kp f9), (kp f10), (kp f11), (kp f12), (kp f13), (kp f14), (kp f15), (kp f16), (kp f17), (fun _ => rfl), (kp f19), (kp f20), (kp f21)⟩
          · obtain rfl := Option.some.inj ho
            have g10 := f10 (hd ⟨10, .data⟩ (by simp) rfl)
            have g18 := f18 (hd ⟨18, .data⟩ (by simp) rfl)
            subst g10
            subst g18
            have g4 := f4 (hd ⟨4, .guard⟩ (by simp) rfl)
            subst g4
            refine wpOp_step rfl (fun K' hK => ?_)
            go_simp
            refine hK _ _ ?_
            exact ⟨_, _, _, _, _, _, _, _, _, _, _, _, _, _, _, _, _, _, _, _, _, _, rfl, (I0), (kp f0), (kp f1), (kp f2), (kp f3), (kp f4), (kp f5), (kp f6), (kp f7), (kp f8), (kp f9), (kp f10), (kp f11), (kp f12), (kp f13), (kp f14), (kp f15), (kp f16), (kp f17), (kp f18), (fun _ => rfl), (kp f20), (kp f21)⟩
          · obtain rfl := Option.some.inj ho
            have g4 := f4 (hd ⟨4, .data⟩ (by simp) rfl)
            have g19 := f19 (hd ⟨19, .data⟩ (by simp) rfl)
            subst g4
            subst g19
            refine wpOp_step rfl (fun K' hK => ?_)
            go_simp
            refine hK _ _ ?_
            exact ⟨_, _, _, _, _, _, _, _, _, _, _, _, _, _, _, _, _, _, _, _, _, _, rfl, (I0), (kp f0), (kp f1), (kp f2), (kp f3), (kp f4), (kp f5), (kp f6), (kp f7), (kp f8), (kp f9), (kp f10), (kp f11), (kp f12), (kp f13), (kp f14), (kp f15), (kp f16), (kp f17), (kp f18), (kp f19), (fun _ => rfl), (kp f21)⟩
          · obtain rfl := Option.some.inj ho
            have g20 := f20 (hd ⟨20, .data⟩ (by simp) rfl)
            subst g20
            refine wpOp_step rfl (fun K' hK => ?_)
            go_simp
            refine hK _ _ ?_
            exact ⟨_, _, _, _, _, _, _, _, _, _, _, _, _, _, _, _, _, _, _, _, _, _, rfl, (I0), (kp f0), (kp f1), (kp f2), (kp f3), (kp f4), (kp f5), (kp f6), (kp f7), (kp f8), (kp f9), (kp f10), (kp f11), (kp f12), (kp f13), (kp f14), (kp f15), (kp f16), (kp f17), (kp f18), (kp f19), (kp f20), (fun _ => rfl)⟩
        case hdone =>
          rintro L ac ww hall ⟨t2, t67, t68, t69, t70, t71, t72, t73, t74, t75, t76, t77, t78, t79, t80, t81, t82, t83, t84, t85, t86, t87, rfl, I0, f0, f1, f2, f3, f4, f5, f6, f7, f8, f9, f10, f11, f12, f13, f14, f15, f16, f17, f18, f19, f20, f21⟩
          have e0 := f0 (hall 0 (by decide))
          have e1 := f1 (hall 1 (by decide))
          have e2 := f2 (hall 2 (by decide))
          have e3 := f3 (hall 3 (by decide))
          have e4 := f4 (hall 4 (by decide))
          have e5 := f5 (hall 5 (by decide))
          have e6 := f6 (hall 6 (by decide))
          have e7 := f7 (hall 7 (by decide))
          have e8 := f8 (hall 8 (by decide))
          have e9 := f9 (hall 9 (by decide))
          have e10 := f10 (hall 10 (by decide))
          have e11 := f11 (hall 11 (by decide))
          have e12 := f12 (hall 12 (by decide))
          have e13 := f13 (hall 13 (by decide))
          have e14 := f14 (hall 14 (by decide))
          have e15 := f15 (hall 15 (by decide))
          have e16 := f16 (hall 16 (by decide))
          have e17 := f17 (hall 17 (by decide))
          have e18 := f18 (hall 18 (by decide))
          have e19 := f19 (hall 19 (by decide))
          have e20 := f20 (hall 20 (by decide))
          have e21 := f21 (hall 21 (by decide))
          clear f0 f1 f2 f3 f4 f5 f6 f7 f8 f9 f10 f11 f12 f13 f14 f15 f16 f17 f18 f19 f20 f21
          subst e21
          have bbf := bb7.trans (I0.mono bb7.size)
          clear e0 e1 e2 e3 e4 e5 e6 e7 e8 e9 e10 e11 e12 e13 e14 e15 e16 e17 e18 e19 e20
          go_wp2_with fail
          go_ret
          exact ⟨rfl, bbf⟩
      · have hnx : decide (x < 0) = true := decide_eq_true (by omega)
        refine wp_region_inv (by kernel_rfl) (by kernel_rfl) (fun L ac ww => ∃ t2 t67 t68 t69 t70 t71 t72 t73 t74 t75 t76 t77 t78 t79 t80 t81 t82 t83 t84 t85 t86 t87 : Value, ac = { tmps := #[Value.slice A n c, undef, t2, Value.pointer (some { block := b, off := 0 }), Value.slice Av xs.length cv, Value.slice (some { block := w6.heap.size, off := 0 }) nn nn, Value.int IntKind.i64 ↑xs.length, Value.slice A n c, Value.int IntKind.i64 ↑n, Value.bool false, Value.slice A n c, heapV A1 nn c1 (some { block := gR, off := oR }) m d1, Value.agg #[Value.slice A1 nn c1, Value.slice (some { block := gR, off := oR }) m d1], Value.slice Av xs.length cv, Value.slice Av xs.length cv, Value.agg #[Value.slice A1 nn c1, Value.slice (some { block := gR, off := oR }) m d1], Value.slice Aw xs.length cw, Value.bool true, Value.bool false, Value.agg #[Value.slice A1 nn c1, Value.slice (some { block := gR, off := oR }) m d1], Value.bool true, Value.bool false, undef, undef, undef, undef, undef, undef, Value.pointer (some { block := b, off := 0 }), Value.slice A1 nn c1, Value.int IntKind.i64 ↑nn, Value.slice (some { block := w6.heap.size, off := 0 }) nn nn, Value.int IntKind.i64 ↑xs.length, Value.slice Av xs.length cv, Value.int IntKind.i64 ↑xs.length, Value.bool false, u36, u37, u38, u39, u40, u41, u42, u43, u44, u45, u46, u47, u48, u49, u50, u51, u52, u53, u54, u55, u56, u57, u58, u59, u60, u61, u62, u63, u64, u65, u66, t67, t68, t69, t70, t71, t72, t73, t74, t75, t76, t77, t78, t79, t80, t81, t82, t83, t84, t85, t86, t87], defers := [] } ∧ (Below wr.heap.size wr ww) ∧ (L 0 = true → t67 = .slice (some ⟨w6.heap.size, 0, none⟩) nn nn) ∧ (L 1 = true → t68 = .agg #[.slice A1 nn c1, .slice (some ⟨gR, oR, none⟩) m d1]) ∧ (L 2 = true → ∃ (Ar : Option Addr) (cr : Nat), t69 = .slice Ar nn cr ∧ OS ww ww.heap.size Ar nn rm) ∧ (L 3 = true → t70 = .bool true) ∧ (L 4 = true → t71 = .bool true) ∧ (L 5 = true → t72 = .pointer (some ⟨b, 1, none⟩)) ∧ (L 6 = true → t73 = .slice (some ⟨gR, oR, none⟩) m d1) ∧ (L 7 = true → t74 = .pointer (some ⟨gR, oR, none⟩)) ∧ (L 8 = true → t75 = .int .i64 x) ∧ (L 9 = true → t76 = .bool true) ∧ (L 10 = true → t77 = .bool true) ∧ (L 11 = true → True) ∧ (L 12 = true → True) ∧ (L 13 = true → True) ∧ (L 14 = true → True) ∧ (L 15 = true → True) ∧ (L 16 = true → True) ∧ (L 17 = true → True) ∧ (L 18 = true → True) ∧ (L 19 = true → t86 = .bool true) ∧ (L 20 = true → t87 = .bool true) ∧ (L 21 = true → t2 = .bool true)) ?h0 ?hstep ?hdone
        case h0 => exact ⟨_, _, _, _, _, _, _, _, _, _, _, _, _, _, _, _, _, _, _, _, _, _, rfl, (Below.refl _ _).drew, (fun h => absurd h Bool.false_ne_true), (fun h => absurd h Bool.false_ne_true), (fun h => absurd h Bool.false_ne_true), (fun h => absurd h Bool.false_ne_true), (fun h => absurd h Bool.false_ne_true), (fun h => absurd h Bool.false_ne_true), (fun h => absurd h Bool.false_ne_true), (fun h => absurd h Bool.false_ne_true), (fun h => absurd h Bool.false_ne_true), (fun h => absurd h Bool.false_ne_true), (fun h => absurd h Bool.false_ne_true), (fun h => absurd h Bool.false_ne_true), (fun h => absurd h Bool.false_ne_true), (fun h => absurd h Bool.false_ne_true), (fun h => absurd h Bool.false_ne_true), (fun h => absurd h Bool.false_ne_true), (fun h => absurd h Bool.false_ne_true), (fun h => absurd h Bool.false_ne_true), (fun h => absurd h Bool.false_ne_true), (fun h => absurd h Bool.false_ne_true), (fun h => absurd h Bool.false_ne_true), (fun h => absurd h Bool.false_ne_true)⟩
        case hstep =>
          rintro L ac ww i o ho hL hd ⟨t2, t67, t68, t69, t70, t71, t72, t73, t74, t75, t76, t77, t78, t79, t80, t81, t82, t83, t84, t85, t86, t87, rfl, I0, f0, f1, f2, f3, f4, f5, f6, f7, f8, f9, f10, f11, f12, f13, f14, f15, f16, f17, f18, f19, f20, f21⟩
          have hi : i < 22 := (Array.getElem?_eq_some_iff.1 ho).1
          obtain rfl | rfl | rfl | rfl | rfl | rfl | rfl | rfl | rfl | rfl | rfl | rfl | rfl | rfl | rfl | rfl | rfl | rfl | rfl | rfl | rfl | rfl : i = 0 ∨ i = 1 ∨ i = 2 ∨ i = 3 ∨ i = 4 ∨ i = 5 ∨ i = 6 ∨ i = 7 ∨ i = 8 ∨ i = 9 ∨ i = 10 ∨ i = 11 ∨ i = 12 ∨ i = 13 ∨ i = 14 ∨ i = 15 ∨ i = 16 ∨ i = 17 ∨ i = 18 ∨ i = 19 ∨ i = 20 ∨ i = 21 := by omega
          · obtain rfl := Option.some.inj ho
            refine wpOp_step rfl (fun K' hK => ?_)
            go_simp
            refine hK _ _ ?_
            exact ⟨_, _, _, _, _, _, _, _, _, _, _, _, _, _, _, _, _, _, _, _, _, _, rfl, (I0), (fun _ => rfl), (kp f1), (kp f2), (kp f3), (kp f4), (kp f5), (kp f6), (kp f7), (kp f8), (kp f9), (kp f10), (kp f11), (kp f12), (kp f13), (kp f14), (kp f15), (kp f16), (kp f17), (kp f18), (kp f19), (kp f20), (kp f21)⟩
          · obtain rfl := Option.some.inj ho
            have z0 : ww.cell? ⟨b, 0, none⟩ = some (.slice A1 nn c1) := (I0.cell (p := ⟨b, 0, none⟩) hbw).trans x0
            have z1 : ww.cell? ⟨b, 1, none⟩ = some (.slice (some ⟨gR, oR, none⟩) m d1) := (I0.cell (p := ⟨b, 1, none⟩) hbw).trans x1
            refine wpOp_step rfl (fun K' hK => ?_)
            go_simp
            refine hK _ _ ?_
            exact ⟨_, _, _, _, _, _, _, _, _, _, _, _, _, _, _, _, _, _, _, _, _, _, rfl, (I0), (kp f0), (fun _ => rfl), (kp f2), (kp f3), (kp f4), (kp f5), (kp f6), (kp f7), (kp f8), (kp f9), (kp f10), (kp f11), (kp f12), (kp f13), (kp f14), (kp f15), (kp f16), (kp f17), (kp f18), (kp f19), (kp f20), (kp f21)⟩
          · obtain rfl := Option.some.inj ho
            have g1 := f1 (hd ⟨1, .data⟩ (by simp) rfl)
            subst g1
            refine wpOp_step rfl (fun K' hK => ?_)
            go_simp
            refine (reachable_any _ _ _ _ _ _ hh ww (hs7.up I0) (by omega) (by omega) hc1 hd1).mono ?_
            rw [HRM.out]
            rintro e w' ⟨v1, rfl, o1, b5⟩
            obtain ⟨Ar, cr, rfl, -⟩ := o1.form
            have r1 := o1.reads
            rw [HRL.out] at r1 ⊢
            refine hK _ _ ?_
            exact ⟨_, _, _, _, _, _, _, _, _, _, _, _, _, _, _, _, _, _, _, _, _, _, rfl, (I0.trans (b5.mono I0.size)), (kp f0), (kp f1), (fun _ => ⟨Ar, cr, rfl, r1⟩), (kp f3), (kp f4), (kp f5), (kp f6), (kp f7), (kp f8), (kp f9), (kp f10), (kp f11), (kp f12), (kp f13), (kp f14), (kp f15), (kp f16), (kp f17), (kp f18), (kp f19), (kp f20), (kp f21)⟩
          · obtain rfl := Option.some.inj ho
            have g0 := f0 (hd ⟨0, .data⟩ (by simp) rfl)
            have g2 := f2 (hd ⟨2, .data⟩ (by simp) rfl)
            subst g0
            obtain ⟨Ar, cr, rfl, r1⟩ := g2
            refine wpOp_step rfl (fun K' hK => ?_)
            go_simp
            refine (sameFlags_any _ _ _ _ _ _ outs rm ww (ro.up I0) r1 (by omega) (by omega)).mono ?_
            rw [decide_eq_true HE.out]
            rintro e w' ⟨rfl, b5⟩
            refine hK _ _ ?_
            exact ⟨_, _, _, _, _, _, _, _, _, _, _, _, _, _, _, _, _, _, _, _, _, _, rfl, (I0.trans (b5.mono I0.size)), (kp f0), (kp f1), (fun _ => ⟨Ar, cr, rfl, r1.up b5⟩), (fun _ => rfl), (kp f4), (kp f5), (kp f6), (kp f7), (kp f8), (kp f9), (kp f10), (kp f11), (kp f12), (kp f13), (kp f14), (kp f15), (kp f16), (kp f17), (kp f18), (kp f19), (kp f20), (kp f21)⟩
          · obtain rfl := Option.some.inj ho
            have g3 := f3 (hd ⟨3, .data⟩ (by simp) rfl)
            subst g3
            refine wpOp_step rfl (fun K' hK => ?_)
            go_simp
            refine hK _ _ ?_
            exact ⟨_, _, _, _, _, _, _, _, _, _, _, _, _, _, _, _, _, _, _, _, _, _, rfl, (I0), (kp f0), (kp f1), (kp f2), (kp f3), (fun _ => rfl), (kp f5), (kp f6), (kp f7), (kp f8), (kp f9), (kp f10), (kp f11), (kp f12), (kp f13), (kp f14), (kp f15), (kp f16), (kp f17), (kp f18), (kp f19), (kp f20), (kp f21)⟩
          · obtain rfl := Option.some.inj ho
            have g4 := f4 (hd ⟨4, .guard⟩ (by simp) rfl)
            subst g4
            refine wpOp_step rfl (fun K' hK => ?_)
            go_simp
            refine hK _ _ ?_
            exact ⟨_, _, _, _, _, _, _, _, _, _, _, _, _, _, _, _, _, _, _, _, _, _, rfl, (I0), (kp f0), (kp f1), (kp f2), (kp f3), (kp f4), (fun _ => rfl), (kp f6), (kp f7), (kp f8), (kp f9), (kp f10), (kp f11), (kp f12), (kp f13), (kp f14), (kp f15), (kp f16), (kp f17), (kp f18), (kp f19), (kp f20), (kp f21)⟩
          · obtain rfl := Option.some.inj ho
            have g5 := f5 (hd ⟨5, .data⟩ (by simp) rfl)
            subst g5
            have g4 := f4 (hd ⟨4, .guard⟩ (by simp) rfl)
            subst g4
            have z1 : ww.cell? ⟨b, 1, none⟩ = some (.slice (some ⟨gR, oR, none⟩) m d1) := (I0.cell (p := ⟨b, 1, none⟩) hbw).trans x1
            refine wpOp_step rfl (fun K' hK => ?_)
            go_simp
            refine hK _ _ ?_
            exact ⟨_, _, _, _, _, _, _, _, _, _, _, _, _, _, _, _, _, _, _, _, _, _, rfl, (I0), (kp f0), (kp f1), (kp f2), (kp f3), (kp f4), (kp f5), (fun _ => rfl), (kp f7), (kp f8), (kp f9), (kp f10), (kp f11), (kp f12), (kp f13), (kp f14), (kp f15), (kp f16), (kp f17), (kp f18), (kp f19), (kp f20), (kp f21)⟩
          · obtain rfl := Option.some.inj ho
            have g6 := f6 (hd ⟨6, .data⟩ (by simp) rfl)
            subst g6
            have g4 := f4 (hd ⟨4, .guard⟩ (by simp) rfl)
            subst g4
            refine wpOp_step rfl (fun K' hK => ?_)
            go_simp
            refine hK _ _ ?_
            exact ⟨_, _, _, _, _, _, _, _, _, _, _, _, _, _, _, _, _, _, _, _, _, _, rfl, (I0), (kp f0), (kp f1), (kp f2), (kp f3), (kp f4), (kp f5), (kp f6), (fun _ => rfl), (kp f8), (kp f9), (kp f10), (kp f11), (kp f12), (kp f13), (kp f14), (kp f15), (kp f16), (kp f17), (kp f18), (kp f19), (kp f20), (kp f21)⟩
          · obtain rfl := Option.some.inj ho
            have g7 := f7 (hd ⟨7, .data⟩ (by simp) rfl)
            subst g7
            have g4 := f4 (hd ⟨4, .guard⟩ (by simp) rfl)
            subst g4
            have zr : ww.cell? ⟨gR, oR, none⟩ = some (.int .i64 x) := (I0.cell (p := ⟨gR, oR, none⟩) hgR).trans dR
            refine wpOp_step rfl (fun K' hK => ?_)
            go_simp
            refine hK _ _ ?_
            exact ⟨_, _, _, _, _, _, _, _, _, _, _, _, _, _, _, _, _, _, _, _, _, _, rfl, (I0), (kp f0), (kp f1), (kp f2), (kp f3), (kp f4), (kp f5), (kp f6), (kp f7), (fun _ => rfl), (kp f9), (kp f10), (kp f11), (kp f12), (kp f13), (kp f14), (kp f15), (kp f16), (kp f17), (kp f18), (kp f19), (kp f20), (kp f21)⟩
          · obtain rfl := Option.some.inj ho
            have g8 := f8 (hd ⟨8, .data⟩ (by simp) rfl)
            subst g8
            have g4 := f4 (hd ⟨4, .guard⟩ (by simp) rfl)
            subst g4
            refine wpOp_step rfl (fun K' hK => ?_)
            go_simp
            refine hK _ _ ?_
            exact ⟨_, _, _, _, _, _, _, _, _, _, _, _, _, _, _, _, _, _, _, _, _, _, rfl, (I0), (kp f0), (kp f1), (kp f2), (kp f3), (kp f4), (kp f5), (kp f6), (kp f7), (kp f8), (fun _ => rfl), (kp f10), (kp f11), (kp f12), (kp f13), (kp f14), (kp f15), (kp f16), (kp f17), (kp f18), (kp f19), (kp f20), (kp f21)⟩
          · obtain rfl := Option.some.inj ho
            have g9 := f9 (hd ⟨9, .data⟩ (by simp) rfl)
            subst g9
            have g4 := f4 (hd ⟨4, .guard⟩ (by simp) rfl)
            subst g4
            refine wpOp_step rfl (fun K' hK => ?_)
            go_simp
            refine hK _ _ ?_
            exact ⟨_, _, _, _, _, _, _, _, _, _, _, _, _, _, _, _, _, _, _, _, _, _, rfl, (I0), (kp f0), (kp f1), (kp f2), (kp f3), (kp f4), (kp f5), (kp f6), (kp f7), (kp f8), (kp f9), (fun _ => rfl), (kp f11), (kp f12), (kp f13), (kp f14), (kp f15), (kp f16), (kp f17), (kp f18), (kp f19), (kp f20), (kp f21)⟩
          · obtain rfl := Option.some.inj ho
            have g10 := f10 (hd ⟨10, .guard⟩ (by simp) rfl)
            subst g10
            refine wpOp_step rfl (fun K' hK => ?_)
            go_simp
            refine hK _ _ ?_
            exact ⟨_, _, _, _, _, _, _, _, _, _, _, _, _, _, _, _, _, _, _, _, _, _, rfl, (I0), (kp f0), (kp f1), (kp f2), (kp f3), (kp f4), (kp f5), (kp f6), (kp f7), (kp f8), (kp f9), (kp f10), (fun _ => trivial), (kp f12), (kp f13), (kp f14), (kp f15), (kp f16), (kp f17), (kp f18), (kp f19), (kp f20), (kp f21)⟩
          · obtain rfl := Option.some.inj ho
            have g11 := f11 (hd ⟨11, .data⟩ (by simp) rfl)
            have g10 := f10 (hd ⟨10, .guard⟩ (by simp) rfl)
            subst g10
            refine wpOp_step rfl (fun K' hK => ?_)
            go_simp
            refine hK _ _ ?_
            exact ⟨_, _, _, _, _, _, _, _, _, _, _, _, _, _, _, _, _, _, _, _, _, _, rfl, (I0), (kp f0), (kp f1), (kp f2), (kp f3), (kp f4), (kp f5), (kp f6), (kp f7), (kp f8), (kp f9), (kp f10), (kp f11), (fun _ => trivial), (kp f13), (kp f14), (kp f15), (kp f16), (kp f17), (kp f18), (kp f19), (kp f20), (kp f21)⟩
          · obtain rfl := Option.some.inj ho
            have g12 := f12 (hd ⟨12, .data⟩ (by simp) rfl)
            have g10 := f10 (hd ⟨10, .guard⟩ (by simp) rfl)
            subst g10
            refine wpOp_step rfl (fun K' hK => ?_)
            go_simp
            refine hK _ _ ?_
            exact ⟨_, _, _, _, _, _, _, _, _, _, _, _, _, _, _, _, _, _, _, _, _, _, rfl, (I0), (kp f0), (kp f1), (kp f2), (kp f3), (kp f4), (kp f5), (kp f6), (kp f7), (kp f8), (kp f9), (kp f10), (kp f11), (kp f12), (fun _ => trivial), (kp f14), (kp f15), (kp f16), (kp f17), (kp f18), (kp f19), (kp f20), (kp f21)⟩
          · obtain rfl := Option.some.inj ho
            have g10 := f10 (hd ⟨10, .guard⟩ (by simp) rfl)
            subst g10
            refine wpOp_step rfl (fun K' hK => ?_)
            go_simp
            refine hK _ _ ?_
            exact ⟨_, _, _, _, _, _, _, _, _, _, _, _, _, _, _, _, _, _, _, _, _, _, rfl, (I0), (kp f0), (kp f1), (kp f2), (kp f3), (kp f4), (kp f5), (kp f6), (kp f7), (kp f8), (kp f9), (kp f10), (kp f11), (kp f12), (kp f13), (fun _ => trivial), (kp f15), (kp f16), (kp f17), (kp f18), (kp f19), (kp f20), (kp f21)⟩
          · obtain rfl := Option.some.inj ho
            have g14 := f14 (hd ⟨14, .data⟩ (by simp) rfl)
            have g10 := f10 (hd ⟨10, .guard⟩ (by simp) rfl)
            subst g10
            refine wpOp_step rfl (fun K' hK => ?_)
            go_simp
            refine hK _ _ ?_
            exact ⟨_, _, _, _, _, _, _, _, _, _, _, _, _, _, _, _, _, _, _, _, _, _, rfl, (I0), (kp f0), (kp f1), (kp f2), (kp f3), (kp f4), (kp f5), (kp f6), (kp f7), (kp f8), (kp f9), (kp f10), (kp f11), (kp f12), (kp f13), (kp f14), (fun _ => trivial), (kp f16), (kp f17), (kp f18), (kp f19), (kp f20), (kp f21)⟩
          · obtain rfl := Option.some.inj ho
            have g15 := f15 (hd ⟨15, .data⟩ (by simp) rfl)
            have g10 := f10 (hd ⟨10, .guard⟩ (by simp) rfl)
            subst g10
            refine wpOp_step rfl (fun K' hK => ?_)
            go_simp
            refine hK _ _ ?_
            exact ⟨_, _, _, _, _, _, _, _, _, _, _, _, _, _, _, _, _, _, _, _, _, _, rfl, (I0), (kp f0), (kp f1), (kp f2), (kp f3), (kp f4), (kp f5), (kp f6), (kp f7), (kp f8), (kp f9), (kp f10), (kp f11), (kp f12), (kp f13), (kp f14), (kp f15), (fun _ => trivial), (kp f17), (kp f18), (kp f19), (kp f20), (kp f21)⟩
          · obtain rfl := Option.some.inj ho
            have g16 := f16 (hd ⟨16, .data⟩ (by simp) rfl)
            have g10 := f10 (hd ⟨10, .guard⟩ (by simp) rfl)
            subst g10
            refine wpOp_step rfl (fun K' hK => ?_)
            go_simp
            refine hK _ _ ?_
            exact ⟨_, _, _, _, _, _, _, _, _, _, _, _, _, _, _, _, _, _, _, _, _, _, rfl, (I0), (kp f0), (kp f1), (kp f2), (kp f3), (kp f4), (kp f5), (kp f6), (kp f7), (kp f8), (kp f9), (kp f10), (kp f11), (kp f12), (kp f13), (kp f14), (kp f15), (kp f16), (fun _ => trivial), (kp f18), (kp f19), (kp f20), (kp f21)⟩
          · obtain rfl := Option.some.inj ho
            have g13 := f13 (hd ⟨13, .data⟩ (by simp) rfl)
            have g17 := f17 (hd ⟨17, .data⟩ (by simp) rfl)
            have g10 := f10 (hd ⟨10, .guard⟩ (by simp) rfl)
            subst g10
            refine wpOp_step rfl (fun K' hK => ?_)
            go_simp
            refine hK _ _ ?_
            exact ⟨_, _, _, _, _, _, _, _, _, _, _, _, _, _, _, _, _, _, _, _, _, _, rfl, (I0), (kp f0), (kp f1), (kp f2), (kp f3), (kp f4), (kp f5), (kp f6), (kp f7), (kp f8), (kp f9), (kp f10), (kp f11), (kp f12), (kp f13), (kp f14), (kp f15), (kp f16), (kp f17), (fun _ => trivial), (kp f19), (kp f20), (kp f21)⟩
          · obtain rfl := Option.some.inj ho
            have g10 := f10 (hd ⟨10, .data⟩ (by simp) rfl)
            have g18 := f18 (hd ⟨18, .data⟩ (by simp) rfl)
            subst g10
            have g4 := f4 (hd ⟨4, .guard⟩ (by simp) rfl)
            subst g4
            refine wpOp_step rfl (fun K' hK => ?_)
            go_simp
            refine hK _ _ ?_
            exact ⟨_, _, _, _, _, _, _, _, _, _, _, _, _, _, _, _, _, _, _, _, _, _, rfl, (I0), (kp f0), (kp f1), (kp f2), (kp f3), (kp f4), (kp f5), (kp f6), (kp f7), (kp f8), (kp f9), (kp f10), (kp f11), (kp f12), (kp f13), (kp f14), (kp f15), (kp f16), (kp f17), (kp f18), (fun _ => rfl), (kp f20), (kp f21)⟩
          · obtain rfl := Option.some.inj ho
            have g4 := f4 (hd ⟨4, .data⟩ (by simp) rfl)
            have g19 := f19 (hd ⟨19, .data⟩ (by simp) rfl)
            subst g4
            subst g19
            refine wpOp_step rfl (fun K' hK => ?_)
            go_simp
            refine hK _ _ ?_
            exact ⟨_, _, _, _, _, _, _, _, _, _, _, _, _, _, _, _, _, _, _, _, _, _, rfl, (I0), (kp f0), (kp f1), (kp f2), (kp f3), (kp f4), (kp f5), (kp f6), (kp f7), (kp f8), (kp f9), (kp f10), (kp f11), (kp f12), (kp f13), (kp f14), (kp f15), (kp f16), (kp f17), (kp f18), (kp f19), (fun _ => rfl), (kp f21)⟩
          · obtain rfl := Option.some.inj ho
            have g20 := f20 (hd ⟨20, .data⟩ (by simp) rfl)
            subst g20
            refine wpOp_step rfl (fun K' hK => ?_)
            go_simp
            refine hK _ _ ?_
            exact ⟨_, _, _, _, _, _, _, _, _, _, _, _, _, _, _, _, _, _, _, _, _, _, rfl, (I0), (kp f0), (kp f1), (kp f2), (kp f3), (kp f4), (kp f5), (kp f6), (kp f7), (kp f8), (kp f9), (kp f10), (kp f11), (kp f12), (kp f13), (kp f14), (kp f15), (kp f16), (kp f17), (kp f18), (kp f19), (kp f20), (fun _ => rfl)⟩
        case hdone =>
          rintro L ac ww hall ⟨t2, t67, t68, t69, t70, t71, t72, t73, t74, t75, t76, t77, t78, t79, t80, t81, t82, t83, t84, t85, t86, t87, rfl, I0, f0, f1, f2, f3, f4, f5, f6, f7, f8, f9, f10, f11, f12, f13, f14, f15, f16, f17, f18, f19, f20, f21⟩
          have e0 := f0 (hall 0 (by decide))
          have e1 := f1 (hall 1 (by decide))
          have e2 := f2 (hall 2 (by decide))
          have e3 := f3 (hall 3 (by decide))
          have e4 := f4 (hall 4 (by decide))
          have e5 := f5 (hall 5 (by decide))
          have e6 := f6 (hall 6 (by decide))
          have e7 := f7 (hall 7 (by decide))
          have e8 := f8 (hall 8 (by decide))
          have e9 := f9 (hall 9 (by decide))
          have e10 := f10 (hall 10 (by decide))
          have e11 := f11 (hall 11 (by decide))
          have e12 := f12 (hall 12 (by decide))
          have e13 := f13 (hall 13 (by decide))
          have e14 := f14 (hall 14 (by decide))
          have e15 := f15 (hall 15 (by decide))
          have e16 := f16 (hall 16 (by decide))
          have e17 := f17 (hall 17 (by decide))
          have e18 := f18 (hall 18 (by decide))
          have e19 := f19 (hall 19 (by decide))
          have e20 := f20 (hall 20 (by decide))
          have e21 := f21 (hall 21 (by decide))
          clear f0 f1 f2 f3 f4 f5 f6 f7 f8 f9 f10 f11 f12 f13 f14 f15 f16 f17 f18 f19 f20 f21
          subst e21
          have bbf := bb7.trans (I0.mono bb7.size)
          clear e0 e1 e2 e3 e4 e5 e6 e7 e8 e9 e10 e11 e12 e13 e14 e15 e16 e17 e18 e19 e20
          go_wp2_with fail
          go_ret
          exact ⟨rfl, bbf⟩
end Go.Proofs.Ytnhgibbcggegmaa
