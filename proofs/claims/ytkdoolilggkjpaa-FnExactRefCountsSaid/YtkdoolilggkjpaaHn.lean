/- Writing into several of a call's own slices; what markCellS, markHeap, heldCellS and heldHeap of the exact laws return. No conditions. -/
import Derived.Test.YtkdoolilggkjpaaHm
namespace Go.Proofs.Ytkdoolilggkjpaa
open Go.RowKit
set_option maxRecDepth 100000

/-- only blocks of the values l have been written -/
structure Touched (w w' : World) (l : List Value) : Prop where
  os : w'.os = w.os
  tape : w'.tape = w.tape
  output : w'.output = w.output
  size : w.heap.size ≤ w'.heap.size
  block : ∀ j, j < w.heap.size → (∀ v ∈ l, v.ownBlock ≠ some j) → w'.heap[j]? = w.heap[j]?
theorem Touched.refl (w : World) (l : List Value) : Touched w w l := ⟨rfl, rfl, rfl, Nat.le_refl _, fun _ _ _ => rfl⟩
theorem Touched.grown {w w1 w2 : World} {l : List Value} {v : Value} (h : Touched w w1 l) (hg : w1.grownBy w2 v.ownBlock) (hv : v ∈ l) : Touched w w2 l :=
  ⟨hg.os.trans h.os, hg.tape.trans h.tape, hg.output.trans h.output, Nat.le_trans h.size hg.size, fun j hj hn => (hg.block j (Nat.lt_of_lt_of_le hj h.size) (fun e => hn v hv e.symm)).trans (h.block j hj hn)⟩
theorem Touched.put {w w1 : World} {l : List Value} {g : Nat} {v : Value} (h : Touched w w1 l) (hv : v ∈ l) (hg : v.ownBlock = some g) (i : Nat) (u : Value) : Touched w (w1.setCell ⟨g, i, none⟩ u) l :=
  h.grown (v := v) (by rw [hg]; exact put_any w1 g i u) hv
theorem Touched.below {w0 w w' : World} {B : Nat} {l : List Value} (h : Touched w w' l) (hb : Below B w0 w) (hB : B ≤ w.heap.size) (hl : ∀ v ∈ l, ∀ k, v.ownBlock = some k → B ≤ k) : Below B w0 w' :=
  ⟨h.os.trans hb.os, h.tape.trans hb.tape, h.output.trans hb.output, Nat.le_trans hb.size h.size, fun j hj => (h.block j (by omega) (fun v hv e => by have := hl v hv j e; omega)).trans (hb.block j hj)⟩
theorem Touched.first {w w' : World} {o : Obj} {l : List Value} (h : Touched (w.alloc o) w' l) : Touched w w' l :=
  ⟨h.os, h.tape, h.output, Nat.le_trans (by simp) h.size, fun j hj hn => (h.block j (by simp; omega) hn).trans (Below.heap_alloc w o j hj)⟩
theorem Touched.more {w w' : World} {l l' : List Value} (h : Touched w w' l) (hl : ∀ v ∈ l, v ∈ l') : Touched w w' l' :=
  ⟨h.os, h.tape, h.output, h.size, fun j hj hn => h.block j hj fun v hv => hn v (hl v hv)⟩
theorem Rw.touched {w w' : World} {g : Nat} {t : TypeId} {cs : Array Value} {l : List Value} (h : Rw w g t cs) (ht : Touched w w' l) (hn : ∀ v ∈ l, v.ownBlock ≠ some g) : Rw w' g t cs := (ht.block g h.lt hn).trans h
theorem row_touched {w w' : World} {base n s : Nat} {e : TypeId} {v : Value} {xs : List Value} {l : List Value} (h : w.ownsRow base e s v n xs) (ht : Touched w w' l) (hne : ∀ u ∈ l, v.ownBlock = none ∨ v.ownBlock ≠ u.ownBlock) : w'.ownsRow base e s v n xs := by
  refine ⟨h.1, ?_⟩
  rcases h.2 with h0 | ⟨g, cap, cur, e, hb', hh, hr⟩
  · exact .inl h0
  · refine .inr ⟨g, cap, cur, e, hb', (ht.block g (Array.getElem?_eq_some_iff.1 hh).1 (fun u hu eu => ?_)).trans hh, hr⟩
    rcases hne u hu with h1 | h1
    · rw [e] at h1; simp [Value.ownBlock] at h1
    · apply h1; rw [e, eu]; simp [Value.ownBlock]

/-- whether a cell is used is written -/
theorem OwnHx.used {w : World} {base g c k : Nat} {vr : Value} {rvs : List Value} {h : Hp} {cl : Cl} (S : OwnHx w base (.slice (some ⟨g, 0, none⟩) h.cs.length c) vr rvs h) (hc : h.cs[k]? = some cl) (b : Bool) :
    OwnHx (w.setCell ⟨g, k * 3, none⟩ (.bool b)) base (.slice (some ⟨g, 0, none⟩) h.cs.length c) vr rvs ⟨h.cs.set k ⟨b, cl.d, cl.r⟩, h.rt⟩ := by
  have ap : ∀ v ∈ vr :: rvs, v.ownBlock = none ∨ v.ownBlock ≠ some g := S.apart_cells
  refine ⟨by simp [S.len], ?_, fun j c' v hc' hv => ?_, S.roots.far (put_any w g _ _) (ap vr (by simp)), S.sep⟩
  · have := (World.ownsRow.stored S.row (k * 3) (.bool b)).1
    rw [flatC_set_u _ _ _ _ _ S.len hc] at this
    simpa using this
  · rw [List.getElem?_set] at hc'
    have hmem := List.mem_of_getElem? hv
    by_cases hj : k = j
    · subst hj
      rw [if_pos rfl, if_pos (List.getElem?_eq_some_iff.1 hc).1] at hc'
      injection hc' with hc'
      subst hc'
      exact (S.refs k cl v hc hv).far (put_any w g _ _) (ap v (by simp [hmem]))
    · rw [if_neg hj] at hc'
      exact (S.refs j c' v hc' hv).far (put_any w g _ _) (ap v (by simp [hmem]))
/-- all references of a cell are written -/
theorem OwnHx.refAll {w w' : World} {base k : Nat} {vc vr v : Value} {rvs : List Value} {h : Hp} {cl : Cl} {xs : List Int} (S : OwnHx w base vc vr rvs h) (hc : h.cs[k]? = some cl) (hv : rvs[k]? = some v) (o : OwnI w' base v xs) (hg : w.grownBy w' v.ownBlock) :
    OwnHx w' base vc vr rvs ⟨h.cs.set k ⟨cl.u, cl.d, xs⟩, h.rt⟩ := by
  have hmem := List.mem_of_getElem? hv
  have hvc : vc.ownBlock = none ∨ vc.ownBlock ≠ v.ownBlock := sep_back (S.apart_cells v (List.mem_cons_of_mem _ hmem))
  have hvr : vr.ownBlock = none ∨ vr.ownBlock ≠ v.ownBlock := sep_back (S.apart_roots v (List.mem_cons_of_mem _ hmem))
  have hgt : ∀ (j : Nat) (u : Value), j ≠ k → rvs[j]? = some u → u.ownBlock = none ∨ u.ownBlock ≠ v.ownBlock := fun j u hj hvj => by
    have hs := S.sep
    unfold Sep at hs
    rw [List.pairwise_cons, List.pairwise_cons] at hs
    rcases Nat.lt_or_ge j k with h1 | h1
    · exact Sep.get hs.2.2 hvj hv h1
    · exact sep_back (Sep.get hs.2.2 hv hvj (by omega))
  refine ⟨by simp [S.len], ?_, fun j c' u hc' hvj => ?_, S.roots.far hg hvr, S.sep⟩
  · have := World.ownsRow.kept S.row hg hvc
    rw [List.length_set, flatC_refs _ _ _ _ _ hc]
    exact this
  · rw [List.getElem?_set] at hc'
    by_cases hj : k = j
    · subst hj
      rw [if_pos rfl, if_pos (List.getElem?_eq_some_iff.1 hc).1] at hc'
      injection hc' with hc'
      subst hc'
      rw [hv] at hvj
      injection hvj with hvj
      subst hvj
      exact o
    · rw [if_neg hj] at hc'
      exact (S.refs j c' u hc' hvj).far hg (hgt j u (by omega) hvj)

/-- the mark before cell i -/
def mkK (k : Int) (cs : List Cl) (i : Nat) : Int := k + 2 * i + refN cs i
def mkCl (k : Int) (c : Cl) : Cl := ⟨k % 3 == 0, k + 1, marksI (k + 1 + 1) c.r.length⟩
/-- the first i cells marked -/
def mkTo (k : Int) (cs : List Cl) : Nat → List Cl
  | 0 => cs
  | i + 1 => match cs[i]? with
    | some c => (mkTo k cs i).set i (mkCl (mkK k cs i) c)
    | none => mkTo k cs i
theorem mkTo_len (k : Int) (cs : List Cl) : ∀ i, (mkTo k cs i).length = cs.length
  | 0 => rfl
  | i + 1 => by
    simp only [mkTo]
    split
    · rw [List.length_set, mkTo_len k cs i]
    · exact mkTo_len k cs i
theorem mkTo_succ {k : Int} {cs : List Cl} {i : Nat} {c : Cl} (h : cs[i]? = some c) : mkTo k cs (i + 1) = (mkTo k cs i).set i (mkCl (mkK k cs i) c) := by simp [mkTo, h]
theorem mkTo_later {k : Int} {cs : List Cl} : ∀ {i j : Nat}, i ≤ j → (mkTo k cs i)[j]? = cs[j]?
  | 0, _, _ => rfl
  | i + 1, j, h => by
    simp only [mkTo]
    split
    · rw [List.getElem?_set, if_neg (by omega), mkTo_later (by omega)]
    · exact mkTo_later (by omega)
theorem mkTo_done {k : Int} {cs : List Cl} {j : Nat} {c : Cl} (hc : cs[j]? = some c) : ∀ {i : Nat}, j < i → (mkTo k cs i)[j]? = some (mkCl (mkK k cs j) c)
  | 0, h => by omega
  | i + 1, h => by
    have hj := (List.getElem?_eq_some_iff.1 hc).1
    rcases Nat.eq_or_lt_of_le (show j ≤ i by omega) with e | e
    · subst e
      rw [mkTo_succ hc, List.getElem?_set, if_pos rfl, if_pos (by rw [mkTo_len]; exact hj)]
    · have ih := mkTo_done (k := k) hc e
      simp only [mkTo]
      split
      · rw [List.getElem?_set, if_neg (by omega)]
        exact ih
      · exact ih
theorem mkK_succ {k : Int} {cs : List Cl} {i : Nat} {c : Cl} (h : cs[i]? = some c) : mkK k cs (i + 1) = mkK k cs i + 1 + 1 + c.r.length := by
  simp only [mkK]
  rw [refN_succ h]
  omega

set_option maxHeartbeats 2000000 in
theorem markCellS_any (vc vr : Value) (rvs : List Value) (h : Hp) (k : Int) (base : Nat) (w : World) (S : OwnHx w base vc vr rvs h) (hk : 0 ≤ k) (hk2 : k ≤ 1000000000) (hn : sizeH h ≤ 1000000000) :
    Calls Try.prog 60 #[vc, .int .i64 k] w fun e w' => e = .returned (.int .i64 (mkK k h.cs h.cs.length)) ∧ OwnHx w' base vc vr rvs ⟨mkTo k h.cs h.cs.length, h.rt⟩ ∧ Touched w w' (vc :: rvs) := by
  obtain ⟨A, c, R, d, rfl, rfl, _, _, fA, _⟩ := S.form
  obtain ⟨n, hn'⟩ : ∃ n, h.cs.length = n := ⟨_, rfl⟩
  have hsz : n + refN h.cs n ≤ 1000000000 := by unfold sizeH at hn; rw [hn'] at hn; omega
  obtain ⟨v0, hv0⟩ : ∃ v0, Value.slice R h.rt.length d = v0 := ⟨_, rfl⟩
  rw [hv0] at S ⊢
  rw [hn'] at S fA ⊢
  clear hv0 hn
  go_enter Try.func60, Try.ntmps60
  go_wp2_with fail
  go_loopw [1, 5] (fun q a wr => ∃ i : Nat, i ≤ n ∧ a = .int .i64 i ∧ q = .int .i64 (mkK k h.cs i) ∧ OwnHx wr base (.slice A n c) v0 rvs ⟨mkTo k h.cs i, h.rt⟩ ∧ Touched w wr (.slice A n c :: rvs)) (fun _ a _ => n - (intOf a).toNat)
  case atStart => exact ⟨0, Nat.zero_le _, rfl, by simp [mkK, refN], S, Touched.refl _ _⟩
  case round =>
    clear S
    obtain ⟨i, hi, rfl, rfl, S, T⟩ := hrel
    have hml := mkTo_len k h.cs i
    rw [hn'] at hml
    by_cases hlt : i < n
    · obtain ⟨g, rfl, hbg, hgl⟩ := fA (by omega)
      have hlt' : (i : Int) < n := by omega
      obtain ⟨cl, hcl⟩ : ∃ cl, h.cs[i]? = some cl := ⟨_, List.getElem?_eq_getElem (by omega)⟩
      have hcm : (mkTo k h.cs i)[i]? = some cl := by rw [mkTo_later (Nat.le_refl _)]; exact hcl
      obtain ⟨rv, hrv, hro⟩ := S.ref (k := i) (c := cl) hcm
      obtain ⟨A8, c8, e8, f8⟩ := hro.form
      subst e8
      have hrs := refN_succ hcl
      have hrm := refN_mono h.cs (j := i + 1) (k := n) (by omega)
      have hri := refN_mono h.cs (j := i) (k := i + 1) (by omega)
      obtain ⟨q, hq⟩ : ∃ q, mkK k h.cs i = q := ⟨_, rfl⟩
      have hq0 : 0 ≤ q := by rw [← hq]; simp only [mkK]; omega
      have hq1 : q + cl.r.length + 2 ≤ 4000000100 := by rw [← hq]; simp only [mkK]; omega
      have HQS := Lib.hid (mkK_succ (k := k) hcl)
      have HTS := Lib.hid (mkTo_succ (k := k) hcl)
      rw [hq] at HQS HTS ⊢
      -- the two numbers of the cell
      have ST : OwnHx wr base (.slice (some ⟨g, 0, none⟩) (Hp.mk (mkTo k h.cs i) h.rt).cs.length c) v0 rvs ⟨mkTo k h.cs i, h.rt⟩ := by
        show OwnHx wr base (.slice (some ⟨g, 0, none⟩) (mkTo k h.cs i).length c) v0 rvs ⟨mkTo k h.cs i, h.rt⟩
        rw [hml]
        exact S
      have S1 := ST.used hcm (q % 3 == 0)
      have hc1 : ((mkTo k h.cs i).set i ⟨q % 3 == 0, cl.d, cl.r⟩)[i]? = some ⟨q % 3 == 0, cl.d, cl.r⟩ := by simp [hml, hlt]
      have S1' : OwnHx (wr.setCell ⟨g, i * 3, none⟩ (.bool (q % 3 == 0))) base (.slice (some ⟨g, 0, none⟩) (Hp.mk ((mkTo k h.cs i).set i ⟨q % 3 == 0, cl.d, cl.r⟩) h.rt).cs.length c) v0 rvs ⟨(mkTo k h.cs i).set i ⟨q % 3 == 0, cl.d, cl.r⟩, h.rt⟩ := by
        simpa using S1
      have S2 := S1'.data hc1 (q + 1)
      have row := S.row
      simp only [hml] at row
      obtain ⟨p1, p2, p3⟩ := flatC_at _ _ _ _ _ hcm hrv
      have x1 := (World.ownsRow.cellAt row (i * 3) (by omega)).trans p1
      have x2 := (World.ownsRow.cellAt row (i * 3 + 1) (by omega)).trans p2
      have z1 := World.ownsRow.frozenAt row (i * 3)
      have row2 := S2.row
      have hl2 : (Hp.mk (((mkTo k h.cs i).set i ⟨q % 3 == 0, cl.d, cl.r⟩).set i ⟨q % 3 == 0, q + 1, cl.r⟩) h.rt).cs.length = n := by simp [hml]
      have T2 := (T.put (v := .slice (some ⟨g, 0, none⟩) n c) (by simp) rfl (i * 3) (.bool (q % 3 == 0))).put (v := .slice (some ⟨g, 0, none⟩) n c) (by simp) rfl (i * 3 + 1) (.int .i64 (q + 1))
      have hro2 := S2.refs i ⟨q % 3 == 0, q + 1, cl.r⟩ (.slice A8 cl.r.length c8) (by simp [hml, hlt]) hrv
      have hl1 : (Hp.mk ((mkTo k h.cs i).set i ⟨q % 3 == 0, cl.d, cl.r⟩) h.rt).cs.length = n := by simp [hml]
      have row1 := S1'.row
      simp only [hl1] at row1
      obtain ⟨_, p2', _⟩ := flatC_at _ _ _ _ _ hc1 hrv
      have y2 := (World.ownsRow.cellAt row1 (i * 3 + 1) (by omega)).trans p2'
      have z2 := World.ownsRow.frozenAt row1 (i * 3 + 1)
      simp only [hl1, hl2] at row2
      have hc2 : (((mkTo k h.cs i).set i ⟨q % 3 == 0, cl.d, cl.r⟩).set i ⟨q % 3 == 0, q + 1, cl.r⟩)[i]? = some ⟨q % 3 == 0, q + 1, cl.r⟩ := by simp [hml, hlt]
      obtain ⟨_, _, p3'⟩ := flatC_at _ _ _ _ _ hc2 hrv
      have y3 := (World.ownsRow.cellAt row2 (i * 3 + 2) (by omega)).trans p3'
      simp only [hl1] at S2
      have FIN := Lib.hid (fun w' (o : OwnI w' base (.slice A8 cl.r.length c8) (marksI (q + 1 + 1) cl.r.length)) hg => S2.refAll (w' := w') hc2 hrv o hg)
      have HRO := Lib.hid hro2
      have hwr : ∀ W : World, W = W := fun _ => rfl
      clear ST S S1 S1' S2 row row1 row2 hc1 hc2 p1 p2 p3 p2' p3' hro hro2 f8 hcm hcl hrs hrm hri hq hwr
      go_wp2_with fail
      refine (markIntS_any _ cl.r _ _ _ HRO.out (by omega) (by omega) (by omega)).mono ?_
      rintro e w3 ⟨rfl, o3, g3⟩
      have T3 := T2.grown g3 (List.mem_cons_of_mem _ (List.mem_of_getElem? hrv))
      have F := FIN.out w3 o3 g3
      simp only [List.set_set] at F
      have NN := Lib.hid F
      clear F FIN HRO
      go_wp2_with fail
      go_roundw
      case rel => exact ⟨i + 1, by omega, by go_num, int_eq (by rw [HQS.out]), by rw [HTS.out]; exact NN.out, T3⟩
      case measure => simp [intOf]; omega
    · obtain rfl : i = n := by omega
      clear hml
      go_wp2_with fail
      go_ret
      exact ⟨rfl, S, T⟩

/-- a heap, marked; the mark behind it -/
def markH (k : Int) (h : Hp) : Hp := ⟨mkTo k h.cs h.cs.length, marksI (mkK k h.cs h.cs.length) h.rt.length⟩
def markKH (k : Int) (h : Hp) : Int := mkK k h.cs h.cs.length + h.rt.length
set_option maxHeartbeats 1000000 in
theorem markHeap_any (vc vr : Value) (rvs : List Value) (h : Hp) (k : Int) (base : Nat) (w : World) (S : OwnHx w base vc vr rvs h) (hk : 0 ≤ k) (hk2 : k ≤ 1000000000) (hn : sizeH h ≤ 1000000000) :
    Calls Try.prog 31 #[.agg #[vc, vr], .int .i64 k] w fun e w' => e = .returned (.int .i64 (markKH k h)) ∧ OwnHx w' base vc vr rvs (markH k h) ∧ Touched w w' (vc :: vr :: rvs) := by
  have b1 : Below w.heap.size w (w.alloc (.cells #[vc, vr] 26)) := (Below.refl _ _).alloc (Nat.le_refl _) _
  have S1 := S.below b1 (Nat.le_refl _)
  have r1 := Rw.new w 26 #[vc, vr]
  have hfar : ∀ v ∈ vc :: vr :: rvs, v.ownBlock ≠ some w.heap.size := fun v hv e => by have := (S.blocks hv e).2; omega
  have hs1 : h.cs.length + refN h.cs h.cs.length + h.rt.length ≤ 1000000000 := hn
  have hk0 : 0 ≤ mkK k h.cs h.cs.length := by simp only [mkK]; omega
  have hk1 : mkK k h.cs h.cs.length ≤ 1099511627776 := by simp only [mkK]; omega
  obtain ⟨q, hq⟩ : ∃ q, mkK k h.cs h.cs.length = q := ⟨_, rfl⟩
  have HQ := Lib.hid hq
  have HKH := Lib.hid (show markKH k h = q + h.rt.length by rw [markKH, hq])
  have HMH := Lib.hid (show markH k h = ⟨mkTo k h.cs h.cs.length, marksI q h.rt.length⟩ by rw [markH, hq])
  rw [hq] at hk0 hk1
  clear hq
  go_enter Try.func31, Try.ntmps31
  go_wp2_with fail
  refine (markCellS_any vc vr rvs h k base _ S1 hk hk2 hn).mono ?_
  rw [HQ.out]
  rintro e w2 ⟨rfl, S2, T2⟩
  have z1 : w2.cell? ⟨w.heap.size, 1, none⟩ = some vr := (Rw.touched r1 T2 (fun v hv => hfar v (by simp only [List.mem_cons] at hv ⊢; rcases hv with e | e <;> simp [e]))).cell 1
  have T2' : Touched w w2 (vc :: vr :: rvs) := T2.first.more (fun v hv => by simp only [List.mem_cons] at hv ⊢; rcases hv with e | e <;> simp [e])
  have hro : OwnI w2 base vr h.rt := S2.roots
  go_wp2_with fail
  refine (markIntS_any vr h.rt q base _ hro hk0 hk1 (by omega)).mono ?_
  rintro e w3 ⟨rfl, o3, g3⟩
  have T3 := T2'.grown g3 (by simp)
  have hapr := S2.apart_roots
  have S3 : OwnHx w3 base vc vr rvs (markH k h) := by
    rw [HMH.out]
    exact ⟨S2.len, World.ownsRow.kept S2.row g3 (hapr vc (by simp)), fun j c v hc hv => (S2.refs j c v hc hv).far g3 (hapr v (by simp [List.mem_of_getElem? hv])), o3, S2.sep⟩
  clear S2 T2 T2' hro hapr o3 g3
  go_wp2_with fail
  go_ret
  exact ⟨by rw [HKH.out]; rfl, S3, T3⟩
end Go.Proofs.Ytkdoolilggkjpaa
