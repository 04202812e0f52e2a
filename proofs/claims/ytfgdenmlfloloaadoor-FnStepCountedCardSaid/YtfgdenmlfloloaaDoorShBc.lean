/- What the claim DStepCounted stands on, part 3 of 6: texts of one seat put together, with what the claim needs of them. No conditions. -/
import Derived.Test.YtfgdenmlfloloaaDoorShBb
namespace Go.Proofs.YtfgdenmlfloloaaDoor
open Go.RowKit
set_option maxRecDepth 100000
namespace Hps
theorem idleTo_yes {h : Hp} {k : Nat} (hu : usedAt h.cs k = true) (hm : (k : Int) ∉ refsOf h) : idleTo h (k + 1) = k := by rw [idleTo, if_pos ⟨hu, hm⟩]
theorem idleTo_no {h : Hp} {k : Nat} (hn : usedAt h.cs k = false ∨ (k : Int) ∈ refsOf h) : idleTo h (k + 1) = idleTo h k := by
  rw [idleTo, if_neg]
  rintro ⟨a, b⟩
  rcases hn with e | e
  · rw [a] at e; cases e
  · exact b e
theorem usedAt_of2 {cs : List Cl} {k : Nat} {c : Cl} (hc : cs[k]? = some c) : usedAt cs k = c.u := by rw [usedAt, hc]
theorem count_iff {h : Hp} {k : Nat} {y : Int} (hk : k < h.cs.length) (hy : (countsL h)[k]? = some y) : y = 0 ↔ (k : Int) ∉ refsOf h := by
  rw [counts_at hk] at hy
  obtain rfl := Option.some.inj hy
  rw [← counts_pos]
  omega
theorem counts_len (h : Hp) : (countsL h).length = h.cs.length := by simp [countsL]
end Hps
open Classical in
/-- how many cells of a row that lies at A are used -/
noncomputable def usedW (w : World) (A : Option Addr) (n : Nat) : Nat := (List.range n).countP fun k => decide (∃ g o, A = some ⟨g, o, none⟩ ∧ w.cell? ⟨g, o + k * 3, none⟩ = some (.bool true))
open Classical in
theorem usedW_eq {w : World} {B n : Nat} {A : Option Addr} {h : Hp} (hc : CS w B A n h.cs) : usedW w A n = Hps.usedN h := by
  have hl : h.cs.length = n := hc.1
  have hp : ∀ m, m ≤ n → ((List.range m).countP fun k => decide (∃ g o, A = some ⟨g, o, none⟩ ∧ w.cell? ⟨g, o + k * 3, none⟩ = some (.bool true))) = (h.cs.take m).countP (·.u) := by
    intro m
    induction m with
    | zero => intro _; simp
    | succ m ih =>
      intro hm
      obtain ⟨g, o, cl, A', m', cc, e1, hg, hcl, d1, _⟩ := hc.at_ (k := m) (by omega)
      rw [List.range_succ, List.countP_append, ih (by omega), List.take_add_one, hcl, Option.toList_some, List.countP_append]
      congr 1
      have hd : (∃ g o, A = some ⟨g, o, none⟩ ∧ w.cell? ⟨g, o + m * 3, none⟩ = some (.bool true)) ↔ cl.u = true := by
        constructor
        · rintro ⟨g', o', e2, e3⟩
          rw [e1] at e2
          injection e2 with e2
          injection e2 with e4 e5
          subst e4; subst e5
          rw [d1] at e3
          injection e3 with e3
          injection e3
        · intro e
          exact ⟨g, o, e1, by rw [d1, e]⟩
      cases hu : cl.u
      · simp [hd, hu]
      · simp [hd, hu]
  have := hp n (Nat.le_refl _)
  rw [List.take_of_length_le (by omega)] at this
  rw [Hps.usedN_eq, usedW]
  exact this
set_option maxHeartbeats 4000000 in
theorem l10Free_any (A R : Option Addr) (n c m d : Nat) (h : Hp) (w : World) (hs : HS w w.heap.size A n R m h) (hv : Hps.validH h = true) :
    Calls Tryd.prog 67 #[heapV A n c R m d] w (GaveCt w (Hps.freeH h) (Hps.countsL (Hps.freeH h))) := by
  have hlc := hs.cells.1
  have hlr := hs.roots.1
  obtain ⟨V1, V2, V3, V4⟩ := Hps.valid_iff.1 hv
  have hn40 : n ≤ 40 := by omega
  have HM := Lib.hid (show m = 4 by omega)
  have h3 : ∀ cl ∈ h.cs, cl.r.length ≤ 1000000 := fun cl hcl => by have := (Hps.okCell_iff.1 (V1 cl hcl)).2.2.1; omega
  clear V1 V2 V3 V4
  have b2 : Below w.heap.size w ((w.alloc (.cells #[.slice A n c, .slice R m d] 26)).alloc (.cells #[.slice none 0 0, .slice none 0 0, .slice none 0 0] 34)) := ((Below.refl w.heap.size w).alloc (Nat.le_refl _) _).alloc (by simp) _
  have s2 := hs.up b2
  have q2 := Rw.new (w.alloc (.cells #[.slice A n c, .slice R m d] 26)) 34 #[.slice none 0 0, .slice none 0 0, .slice none 0 0]
  simp only [World.size_alloc] at q2
  have q1 := (Rw.new w 26 #[.slice A n c, .slice R m d]).alloc (.cells #[.slice none 0 0, .slice none 0 0, .slice none 0 0] 34)
  have hz : ((w.alloc (.cells #[.slice A n c, .slice R m d] 26)).alloc (.cells #[.slice none 0 0, .slice none 0 0, .slice none 0 0] 34)).heap.size = w.heap.size + 1 + 1 := by simp
  go_enter Tryd.func67, Tryd.ntmps67
  go_upto_region 1 with fail
  generalize (w.alloc (.cells #[.slice A n c, .slice R m d] 26)).alloc (.cells #[.slice none 0 0, .slice none 0 0, .slice none 0 0] 34) = w0 at b2 s2 q1 q2 hz ⊢
  have HZ := Lib.hid hz
  clear hz
  have y0 : w0.cell? ⟨w.heap.size, 0, none⟩ = some (.slice A n c) := q1.cell 0
  have y1 : w0.cell? ⟨w.heap.size, 1, none⟩ = some (.slice R m d) := q1.cell 1
  go_wp2_with fail
  clear y0 y1 q1
  refine (l7Copy_any _ _ _ _ _ _ h _ s2 (by omega) (by have := HM.out; omega) h3).mono ?_
  rintro e w1 ⟨vc, vr, rfl, oh, b1⟩
  obtain ⟨rvs, S0⟩ := BoxSt.of oh b1
  obtain ⟨Ac, cc, Rc, dc, rfl, rfl, -⟩ := oh.form
  rw [hlc, hlr] at S0 ⊢
  have HV := Lib.hid hv
  have HN := Lib.hid hn40
  clear oh b1 s2 h3 hv hn40
  go_upto_block 0 with fail
  generalize w1.alloc (.cells #[.slice Ac n cc, .slice Rc m dc] 26) = w3 at S0 ⊢
  generalize w1.heap.size = b at S0 ⊢
  clear w1
  have HLC := Lib.hid hlc
  have HLR := Lib.hid hlr
  clear hlc hlr
  go_wp2_with fail
  go_loopw [5] (fun i wr => ∃ (x : Hp) (rvs : List Value), BoxSt w0 wr b (.slice Ac n cc) (.slice Rc m dc) rvs x ∧ Hid (Hps.Frees h x) ∧ Hid (Hps.validH x = true)) (fun _ wr => usedW wr Ac n)
  case atStart => exact ⟨h, rvs, S0, Lib.hid (Hps.Frees.refl h), HV⟩
  case round =>
    clear S0 rvs
    obtain ⟨x, rvs, S, F, HX⟩ := hrel
    have bw := b2.trans (S.low.mono b2.size)
    have hxl : x.cs.length = n := S.own.reads.cells.1
    have x0 : wr.cell? ⟨b, 0, none⟩ = some (.slice Ac n cc) := S.box.cell 0
    have x1 : wr.cell? ⟨b, 1, none⟩ = some (.slice Rc m dc) := S.box.cell 1
    obtain ⟨X1, X2, X3, X4⟩ := Hps.valid_iff.1 HX.out
    have HX1 := Lib.hid X1
    clear X1 X2 X3
    go_wp2_with fail
    refine (l7Counts_any _ _ _ _ _ _ x _ S.own.reads (by have := HN.out; omega) (by have := HM.out; omega) X4 (fun cl hcl => (Hps.okCell_iff.1 (HX1.out cl hcl)).2.2.2) (fun cl hcl => by have := (Hps.okCell_iff.1 (HX1.out cl hcl)).2.2.1; omega)).mono ?_
    rintro e w2 ⟨v2, rfl, o2, bk⟩
    have S2 := S.up bk
    obtain ⟨A2, c2, rfl, -⟩ := o2.form
    have HO := Lib.hid (OwnC.of ⟨rvs, S.own⟩ bk o2 S.low.size)
    have HCI := Lib.hid (fun (k : Nat) (y : Int) (hk : k < x.cs.length) (hy : (Hps.countsL x)[k]? = some y) => Hps.count_iff hk hy)
    have hyl := Hps.counts_len x
    rw [hxl] at hyl
    have HU := Lib.hid (show usedW wr Ac n = Hps.usedN x from usedW_eq S.own.reads.cells)
    have R2 := o2.reads
    obtain ⟨ys, hys⟩ : ∃ ys, Hps.countsL x = ys := ⟨_, rfl⟩
    have HYS := Lib.hid hys
    rw [hys] at R2 hyl HO HCI ⊢
    rw [hyl] at HO R2 ⊢
    have HXL := Lib.hid hxl
    clear hys x0 x1 X4 S o2 hxl hyl bw
    go_wp2_with fail
    go_loopw [5, 6] (fun i kk ww => ∃ k : Nat, k ≤ n ∧ kk = .int .i64 k ∧ i = .int .i64 (Hps.idleTo x k) ∧ ww = w2) (fun _ kk _ => n - (intOf kk).toNat)
    case atStart => exact ⟨0, Nat.zero_le _, rfl, rfl, rfl⟩
    case round =>
      obtain ⟨k, hk, rfl, rfl, rfl⟩ := hrel
      have x0 : wr.cell? ⟨b, 0, none⟩ = some (.slice Ac n cc) := S2.box.cell 0
      by_cases hlt : k < n
      · have hlt' : (k : Int) < n := by omega
        have hk40 : k < 40 := by have := HN.out; omega
        obtain ⟨g, o, cl, A', m', c3, e1, hg, hcl, d1, _, _, _, _⟩ := S2.own.reads.cells.at_ hlt
        subst e1
        obtain ⟨g2, o2, y, e2, hg2, hy, d2⟩ := R2.at_ hlt
        subst e2
        have hu := Hps.usedAt_of2 hcl
        have hci := HCI.out k y (by rw [HXL.out]; exact hlt) hy
        clear hcl hy
        cases hcu : cl.u <;> rw [hcu] at d1 hu
        · have HI := Lib.hid (Hps.idleTo_no (h := x) (k := k) (.inl hu))
          clear hu hci hcu
          go_wp2_with fail
          go_roundw
          case rel => exact ⟨k + 1, by omega, by go_num, by rw [HI.out], trivial⟩
          case measure => simp [intOf]; omega
        · by_cases hy0 : y = 0
          · subst hy0
            have HI := Lib.hid (Hps.idleTo_yes (h := x) (k := k) hu (hci.1 rfl))
            clear hu hci hcu
            go_wp2_with fail
            go_roundw
            case rel => exact ⟨k + 1, by omega, by go_num, by rw [HI.out], trivial⟩
            case measure => simp [intOf]; omega
          · have HI := Lib.hid (Hps.idleTo_no (h := x) (k := k) (.inr (Classical.not_not.1 fun q => hy0 (hci.2 q))))
            have hne : (y == 0) = false := by rw [beq_eq_false_iff_ne]; exact hy0
            clear hu hci hcu
            go_wp2_with fail
            go_roundw
            case rel => exact ⟨k + 1, by omega, by go_num, by rw [HI.out], trivial⟩
            case measure => simp [intOf]; omega
      · obtain rfl : k = n := by omega
        rcases Hps.idleTo_cases x k with ⟨hi, hd⟩ | ⟨j, hi, hj, hju, hjn⟩
        · have x1 : wr.cell? ⟨b, 1, none⟩ = some (.slice Rc m dc) := S2.box.cell 1
          have HE := Lib.hid (F.out.fin HV.out (fun j hj => hd j (by have := Hps.usedAt_lt hj; have := HXL.out; omega) hj))
          have q3 := q2.keep S2.low (by have := HZ.out; omega)
          have hsz := HZ.out
          have D := Lib.hid (OwnC.out (w := w) (g := w.heap.size + 1) HO.out (by omega) (b2.trans (S2.low.mono b2.size)) (by omega))
          have r2 : wr.frozen? ⟨w.heap.size + 1, 0, none⟩ = false := q3.frozen 0
          have r3 : wr.frozen? ⟨w.heap.size + 1, 1, none⟩ = false := q3.frozen 1
          have r4 : wr.frozen? ⟨w.heap.size + 1, 2, none⟩ = false := q3.frozen 2
          have r5 : wr.cell? ⟨w.heap.size + 1, 0, none⟩ = some (.slice none 0 0) := q3.cell 0
          have r6 : wr.cell? ⟨w.heap.size + 1, 1, none⟩ = some (.slice none 0 0) := q3.cell 1
          have r7 : wr.cell? ⟨w.heap.size + 1, 2, none⟩ = some (.slice none 0 0) := q3.cell 2
          have q4 := ((q3.put 0 (.slice Ac k cc)).put 1 (.slice Rc m dc)).put 2 (.slice A2 k c2)
          have r8 : (((wr.setCell ⟨w.heap.size + 1, 0, none⟩ (.slice Ac k cc)).setCell ⟨w.heap.size + 1, 1, none⟩ (.slice Rc m dc)).setCell ⟨w.heap.size + 1, 2, none⟩ (.slice A2 k c2)).cell? ⟨w.heap.size + 1, 0, none⟩ = some (.slice Ac k cc) := q4.cell 0
          have r9 : (((wr.setCell ⟨w.heap.size + 1, 0, none⟩ (.slice Ac k cc)).setCell ⟨w.heap.size + 1, 1, none⟩ (.slice Rc m dc)).setCell ⟨w.heap.size + 1, 2, none⟩ (.slice A2 k c2)).cell? ⟨w.heap.size + 1, 1, none⟩ = some (.slice Rc m dc) := q4.cell 1
          have r10 : (((wr.setCell ⟨w.heap.size + 1, 0, none⟩ (.slice Ac k cc)).setCell ⟨w.heap.size + 1, 1, none⟩ (.slice Rc m dc)).setCell ⟨w.heap.size + 1, 2, none⟩ (.slice A2 k c2)).cell? ⟨w.heap.size + 1, 2, none⟩ = some (.slice A2 k c2) := q4.cell 2
          rw [hi]
          clear hi hd S2 hsz q3 q4 q2 b2 bk R2
          go_wp2_with fail
          exact bodyPost_ret (v := .agg #[.slice Ac k cc, .slice Rc m dc, .slice A2 k c2]) (by simp [results, Tryd.results67, go_sem, *]) rfl ⟨_, _, _, rfl, by rw [← HE.out, HYS.out]; exact D.out.1, D.out.2⟩
        · rw [hi]
          have hjx : j < x.cs.length := by have := HXL.out; omega
          have hneg : ¬ ((j : Int) < 0) := by omega
          obtain ⟨old, hold⟩ : ∃ old, x.cs[j]? = some old := ⟨_, List.getElem?_eq_getElem hjx⟩
          obtain ⟨gc, v, e4, hgc1, hgc2, -, -, y0, y1, y2, fz⟩ := S2.own.cell_at hold
          subst e4
          have f0 := fz (j * 3)
          have f1 := fz (j * 3 + 1)
          have f2 := fz (j * 3 + 2)
          have SN := S2.cell (cl := Hps.freeCl) (rv := .slice none 0 0) HXL.out hold (World.ownsRow_nil _ _ _ _) (fun _ _ => .inl rfl) (.inl rfl)
          have HF := Lib.hid (F.out.free hjx hjn)
          have HVN := Lib.hid (Hps.freeK_valid HX.out hjn)
          have HMs := Lib.hid (usedW_eq SN.own.reads.cells)
          have HLT := Lib.hid (Hps.usedN_free hju)
          have SH := Lib.hid SN
          have hj' : (j : Int) < k := by omega
          clear hi hold S2 SN fz hju hjn hjx HO HCI R2
          go_wp2_with fail
          go_roundw
          case rel => exact ⟨_, _, SH.out, HF, HVN⟩
          case measure =>
            have h1 := HMs.out
            have h2 := HLT.out
            have h3 := HU.out
            refine Nat.lt_of_lt_of_eq (m := Hps.usedN x) ?_ h3.symm
            refine Nat.lt_of_le_of_lt (Nat.le_of_eq h1) ?_
            change Hps.usedN (Hps.freeK x j) < _
            omega
end Go.Proofs.YtfgdenmlfloloaaDoor

namespace Go.Proofs.YtfgdenmlfloloaaDoor
open Go.RowKit
set_option maxRecDepth 100000
section
variable {w w' : World} {bs : Nat} {vc vr vk : Value} {h : Hp} {l : List Int}
theorem OwnC.new (ho : OwnH w bs vc vr h) (hb : bs ≤ w.heap.size) : OwnC (w.alloc (.cells #[] 3)) bs vc vr (.slice (some ⟨w.heap.size, 0, none⟩) 0 0) h [] :=
  OwnC.of ho ((Below.refl _ _).alloc (Nat.le_refl _) _) (own_noneI w w.heap.size (Nat.le_refl _)) hb
/-- a heap that is made behind the counts -/
theorem OwnC.of2 (k : OwnI w bs vk l) (hb : bs ≤ w.heap.size) (hB : Below w.heap.size w w') (ho : OwnH w' w.heap.size vc vr h) : OwnC w' bs vc vr vk h l := by
  obtain ⟨rvs, o⟩ := ho
  refine ⟨rvs, o.base hb, k.below hB (Nat.le_refl _), fun u hu => ?_⟩
  cases e : u.ownBlock with
  | none => exact .inl rfl
  | some j =>
    right
    intro e'
    have h1 := (o.blocks hu e).1
    have h2 := (World.ownsRow.lt k j e'.symm).2
    omega
/-- the counts become longer -/
theorem OwnC.app {v' : Value} {l' : List Int} (ho : OwnC w bs vc vr vk h l) (o1 : OwnI w' bs v' l') (g1 : w.grownBy w' vk.ownBlock) (s1 : v'.ownBlock = vk.ownBlock ∨ v'.ownBlock = some w.heap.size) : OwnC w' bs vc vr v' h l' := by
  obtain ⟨rvs, o⟩ := ho
  refine ⟨rvs, o.heap.far g1 (fun u hu => o.sep u hu), o1, fun u hu => ?_⟩
  rcases s1 with e | e
  · rw [e]; exact o.sep u hu
  · cases e2 : u.ownBlock with
    | none => exact .inl rfl
    | some j =>
      right
      rw [e]
      intro e3
      have h1 := (o.heap.blocks hu e2).2
      have := Option.some.inj e3
      omega
end
set_option maxHeartbeats 8000000 in
theorem mStepCounted_any (A R K : Option Addr) (n c m d p q : Nat) (h : Hp) (l : List Int) (o : Cm) (w : World) (hs : HS w w.heap.size A n R m h) (hk : IS w w.heap.size K p l) (hn : n ≤ 1099511627776) (hm : m ≤ 1099511627776) (hp : p ≤ 1099511627776) :
    Calls Tryd.prog 17 #[ctV A n c R m d K p q, cmV o] w (GaveCt2 w (Hps.stepCt h l o).1.1 (Hps.stepCt h l o).1.2 (Hps.stepCt h l o).2) := by
  have b2 : Below w.heap.size w (((w.alloc (.cells #[.slice A n c, .slice R m d, .slice K p q] 34)).alloc (.cells #[.int .i64 o.op, .int .i64 o.a, .int .i64 o.b, .int .i64 o.c] 36)).alloc (.cells #[.slice none 0 0, .slice none 0 0, .slice none 0 0] 34)) := (((Below.refl w.heap.size w).alloc (Nat.le_refl _) _).alloc (by simp) _).alloc (by simp; omega) _
  have s2 := hs.up b2
  have k2 := hk.up b2
  have q1 := ((Rw.new w 34 #[.slice A n c, .slice R m d, .slice K p q]).alloc (.cells #[.int .i64 o.op, .int .i64 o.a, .int .i64 o.b, .int .i64 o.c] 36)).alloc (.cells #[.slice none 0 0, .slice none 0 0, .slice none 0 0] 34)
  have q2 := (Rw.new (w.alloc (.cells #[.slice A n c, .slice R m d, .slice K p q] 34)) 36 #[.int .i64 o.op, .int .i64 o.a, .int .i64 o.b, .int .i64 o.c]).alloc (.cells #[.slice none 0 0, .slice none 0 0, .slice none 0 0] 34)
  have q3 := Rw.new ((w.alloc (.cells #[.slice A n c, .slice R m d, .slice K p q] 34)).alloc (.cells #[.int .i64 o.op, .int .i64 o.a, .int .i64 o.b, .int .i64 o.c] 36)) 34 #[.slice none 0 0, .slice none 0 0, .slice none 0 0]
  simp only [World.size_alloc] at q2 q3
  go_enter Tryd.func17, Tryd.ntmps17
  go_upto_region 1 with fail
  generalize ((w.alloc (.cells #[.slice A n c, .slice R m d, .slice K p q] 34)).alloc (.cells #[.int .i64 o.op, .int .i64 o.a, .int .i64 o.b, .int .i64 o.c] 36)).alloc (.cells #[.slice none 0 0, .slice none 0 0, .slice none 0 0] 34) = w0 at b2 s2 k2 q1 q2 q3 ⊢
  have x0 : w0.cell? ⟨w.heap.size, 0, none⟩ = some (.slice A n c) := q1.cell 0
  have x1 : w0.cell? ⟨w.heap.size, 1, none⟩ = some (.slice R m d) := q1.cell 1
  have x2 : w0.cell? ⟨w.heap.size, 2, none⟩ = some (.slice K p q) := q1.cell 2
  go_wp2_with fail
  refine (mCountedValid_any _ _ _ _ _ _ _ _ _ h l _ s2 k2 hn hm hp).mono ?_
  rintro e w1 ⟨rfl, b1⟩
  replace q1 := q1.keep b1 q1.lt
  replace q2 := q2.keep b1 q2.lt
  replace q3 := q3.keep b1 q3.lt
  replace b2 := b2.trans (b1.mono b2.size)
  clear b1
  clear s2 k2 x0 x1 x2
  cases hv : Hps.okCt h l
  · have HF := Lib.hid (Hps.stepCt_no (o := o) (.inl hv))
    have r2 : (w1).frozen? ⟨w.heap.size + 1 + 1, 0, none⟩ = false := q3.frozen 0
    have r3 : (w1).frozen? ⟨w.heap.size + 1 + 1, 1, none⟩ = false := q3.frozen 1
    have r4 : (w1).frozen? ⟨w.heap.size + 1 + 1, 2, none⟩ = false := q3.frozen 2
    have r5 : (w1).cell? ⟨w.heap.size + 1 + 1, 0, none⟩ = some (.slice none 0 0) := q3.cell 0
    have r6 : (w1).cell? ⟨w.heap.size + 1 + 1, 1, none⟩ = some (.slice none 0 0) := q3.cell 1
    have r7 : (w1).cell? ⟨w.heap.size + 1 + 1, 2, none⟩ = some (.slice none 0 0) := q3.cell 2
    have q4 := ((q3.put 0 (.slice none 0 0)).put 1 (.slice none 0 0)).put 2 (.slice none 0 0)
    have r8 : (((w1.setCell ⟨w.heap.size + 1 + 1, 0, none⟩ (.slice none 0 0)).setCell ⟨w.heap.size + 1 + 1, 1, none⟩ (.slice none 0 0)).setCell ⟨w.heap.size + 1 + 1, 2, none⟩ (.slice none 0 0)).cell? ⟨w.heap.size + 1 + 1, 0, none⟩ = some (.slice none 0 0) := q4.cell 0
    have r9 : (((w1.setCell ⟨w.heap.size + 1 + 1, 0, none⟩ (.slice none 0 0)).setCell ⟨w.heap.size + 1 + 1, 1, none⟩ (.slice none 0 0)).setCell ⟨w.heap.size + 1 + 1, 2, none⟩ (.slice none 0 0)).cell? ⟨w.heap.size + 1 + 1, 1, none⟩ = some (.slice none 0 0) := q4.cell 1
    have r10 : (((w1.setCell ⟨w.heap.size + 1 + 1, 0, none⟩ (.slice none 0 0)).setCell ⟨w.heap.size + 1 + 1, 1, none⟩ (.slice none 0 0)).setCell ⟨w.heap.size + 1 + 1, 2, none⟩ (.slice none 0 0)).cell? ⟨w.heap.size + 1 + 1, 2, none⟩ = some (.slice none 0 0) := q4.cell 2
    have D := Lib.hid (OwnC.out (w := w) (own_zeroC w1 w1.heap.size (Nat.le_refl _)) q3.lt b2 (Nat.le_trans (Nat.le_succ _) (Nat.le_succ _)))
    clear q1 q2 q3 q4 b2
    go_wp2_with fail
    exact bodyPost_ret (v := .tuple #[.agg #[.slice none 0 0, .slice none 0 0, .slice none 0 0], .bool false]) (by simp [results, Tryd.results17, go_sem, *]) rfl ⟨_, _, _, by rw [HF.out], by rw [HF.out]; exact D.out.1, D.out.2⟩
  have z0 : w1.cell? ⟨w.heap.size + 1, 0, none⟩ = some (.int .i64 o.op) := q2.cell 0
  have z1 : w1.cell? ⟨w.heap.size + 1, 1, none⟩ = some (.int .i64 o.a) := q2.cell 1
  have z2 : w1.cell? ⟨w.heap.size + 1, 2, none⟩ = some (.int .i64 o.b) := q2.cell 2
  have z3 : w1.cell? ⟨w.heap.size + 1, 3, none⟩ = some (.int .i64 o.c) := q2.cell 3
  go_wp2_with fail
  refine (mCommandValid_any o _).mono ?_
  rintro e w3 ⟨rfl, b1⟩
  replace q1 := q1.keep b1 q1.lt
  replace q2 := q2.keep b1 q2.lt
  replace q3 := q3.keep b1 q3.lt
  replace b2 := b2.trans (b1.mono b2.size)
  clear b1
  clear z0 z1 z2 z3
  cases ho : Hps.okCm o
  · have HF := Lib.hid (Hps.stepCt_no (h := h) (l := l) (.inr ho))
    have r2 : (w3).frozen? ⟨w.heap.size + 1 + 1, 0, none⟩ = false := q3.frozen 0
    have r3 : (w3).frozen? ⟨w.heap.size + 1 + 1, 1, none⟩ = false := q3.frozen 1
    have r4 : (w3).frozen? ⟨w.heap.size + 1 + 1, 2, none⟩ = false := q3.frozen 2
    have r5 : (w3).cell? ⟨w.heap.size + 1 + 1, 0, none⟩ = some (.slice none 0 0) := q3.cell 0
    have r6 : (w3).cell? ⟨w.heap.size + 1 + 1, 1, none⟩ = some (.slice none 0 0) := q3.cell 1
    have r7 : (w3).cell? ⟨w.heap.size + 1 + 1, 2, none⟩ = some (.slice none 0 0) := q3.cell 2
    have q4 := ((q3.put 0 (.slice none 0 0)).put 1 (.slice none 0 0)).put 2 (.slice none 0 0)
    have r8 : (((w3.setCell ⟨w.heap.size + 1 + 1, 0, none⟩ (.slice none 0 0)).setCell ⟨w.heap.size + 1 + 1, 1, none⟩ (.slice none 0 0)).setCell ⟨w.heap.size + 1 + 1, 2, none⟩ (.slice none 0 0)).cell? ⟨w.heap.size + 1 + 1, 0, none⟩ = some (.slice none 0 0) := q4.cell 0
    have r9 : (((w3.setCell ⟨w.heap.size + 1 + 1, 0, none⟩ (.slice none 0 0)).setCell ⟨w.heap.size + 1 + 1, 1, none⟩ (.slice none 0 0)).setCell ⟨w.heap.size + 1 + 1, 2, none⟩ (.slice none 0 0)).cell? ⟨w.heap.size + 1 + 1, 1, none⟩ = some (.slice none 0 0) := q4.cell 1
    have r10 : (((w3.setCell ⟨w.heap.size + 1 + 1, 0, none⟩ (.slice none 0 0)).setCell ⟨w.heap.size + 1 + 1, 1, none⟩ (.slice none 0 0)).setCell ⟨w.heap.size + 1 + 1, 2, none⟩ (.slice none 0 0)).cell? ⟨w.heap.size + 1 + 1, 2, none⟩ = some (.slice none 0 0) := q4.cell 2
    have D := Lib.hid (OwnC.out (w := w) (own_zeroC w3 w3.heap.size (Nat.le_refl _)) q3.lt b2 (Nat.le_trans (Nat.le_succ _) (Nat.le_succ _)))
    clear q1 q2 q3 q4 b2
    go_wp2_with fail
    exact bodyPost_ret (v := .tuple #[.agg #[.slice none 0 0, .slice none 0 0, .slice none 0 0], .bool false]) (by simp [results, Tryd.results17, go_sem, *]) rfl ⟨_, _, _, by rw [HF.out], by rw [HF.out]; exact D.out.1, D.out.2⟩
  have s2 := hs.up b2
  have x0 : w3.cell? ⟨w.heap.size, 0, none⟩ = some (.slice A n c) := q1.cell 0
  have x1 : w3.cell? ⟨w.heap.size, 1, none⟩ = some (.slice R m d) := q1.cell 1
  have x2 : w3.cell? ⟨w.heap.size, 2, none⟩ = some (.slice K p q) := q1.cell 2
  go_wp2_with fail
  refine (mPlace_any _ _ _ _ _ _ h _ s2 hn).mono ?_
  rintro e w4 ⟨rfl, b1⟩
  replace q1 := q1.keep b1 q1.lt
  replace q2 := q2.keep b1 q2.lt
  replace q3 := q3.keep b1 q3.lt
  replace b2 := b2.trans (b1.mono b2.size)
  clear b1
  clear s2 x0 x1 x2
  obtain ⟨hvh, hll⟩ := Hps.okCt_iff.1 hv
  have HVC := Lib.hid hv
  have HOK := Lib.hid ho
  have HVH := Lib.hid hvh
  obtain ⟨nb, hnb⟩ : ∃ nb, (!Hps.canH h o || (decide (o.op = 1) && decide (Hps.gapH h = 40))) = nb := ⟨_, rfl⟩
  have HNB := Lib.hid hnb
  obtain ⟨gp, hgp⟩ : ∃ gp, Hps.gapH h = gp := ⟨_, rfl⟩
  have HGP := Lib.hid hgp
  rw [hgp]
  clear hv ho hvh hll hnb hgp
  have s2 := hs.up b2
  have x0 : w4.cell? ⟨w.heap.size, 0, none⟩ = some (.slice A n c) := q1.cell 0
  have x1 : w4.cell? ⟨w.heap.size, 1, none⟩ = some (.slice R m d) := q1.cell 1
  have x2 : w4.cell? ⟨w.heap.size, 2, none⟩ = some (.slice K p q) := q1.cell 2
  have z0 : w4.cell? ⟨w.heap.size + 1, 0, none⟩ = some (.int .i64 o.op) := q2.cell 0
  have z1 : w4.cell? ⟨w.heap.size + 1, 1, none⟩ = some (.int .i64 o.a) := q2.cell 1
  have z2 : w4.cell? ⟨w.heap.size + 1, 2, none⟩ = some (.int .i64 o.b) := q2.cell 2
  have z3 : w4.cell? ⟨w.heap.size + 1, 3, none⟩ = some (.int .i64 o.c) := q2.cell 3
  go_upto_region 4 with fail
  go_cut [32] from 7 (fun v wc => v = .bool nb ∧ Below w4.heap.size w4 wc)
  case first =>
    go_wp2_with fail
    refine (mCommandPossible_any _ _ _ _ _ _ h o _ s2 hn hm).mono ?_
    rintro e w5 ⟨rfl, b1⟩
    have z0 : w5.cell? ⟨w.heap.size + 1, 0, none⟩ = some (.int .i64 o.op) := (q2.keep b1 q2.lt).cell 0
    cases hc : Hps.canH h o
    · have HN := Lib.hid (show true = nb by rw [← HNB.out, hc]; rfl)
      clear hc
      go_wp2_with fail
      go_meet
      case rel => exact ⟨by rw [← HN.out], by first | exact b1 | exact below_drewN b1 _⟩
    · by_cases h1 : o.op = 1
      · have ht : (o.op == (1 : Int)) = true := by rw [h1]; rfl
        have HN := Lib.hid (show decide (gp = 40) = nb by rw [← HNB.out, hc, HGP.out, h1]; simp)
        clear hc h1
        by_cases hf : gp = 40
        · subst hf
          go_wp2_with fail
          go_meet
          case rel => exact ⟨by rw [← HN.out]; rfl, by first | exact b1 | exact below_drewN b1 _⟩
        · have hf' : ¬ (gp : Int) = 40 := by omega
          have hf2 : ((gp : Int) == 40) = false := by rw [beq_eq_false_iff_ne]; exact hf'
          have HF2 := Lib.hid (decide_eq_false hf)
          clear hf
          go_wp2_with fail
          go_meet
          case rel => exact ⟨by rw [← HN.out, HF2.out], by first | exact b1 | exact below_drewN b1 _⟩
      · have ht : (o.op == (1 : Int)) = false := by rw [beq_eq_false_iff_ne]; exact h1
        have HN := Lib.hid (show false = nb by rw [← HNB.out, hc, decide_eq_false h1]; simp)
        clear hc h1
        go_wp2_with fail
        go_meet
        case rel => exact ⟨by rw [← HN.out], by first | exact b1 | exact below_drewN b1 _⟩
  case rest =>
  obtain ⟨rfl, b1⟩ := hcut
  replace q1 := q1.keep b1 q1.lt
  replace q2 := q2.keep b1 q2.lt
  replace q3 := q3.keep b1 q3.lt
  replace b2 := b2.trans (b1.mono b2.size)
  clear b1
  clear s2 x0 x1 x2 z0 z1 z2 z3 w1 w3
  have s2 := hs.up b2
  have k2 := hk.up b2
  have x0 : wc.cell? ⟨w.heap.size, 0, none⟩ = some (.slice A n c) := q1.cell 0
  have x1 : wc.cell? ⟨w.heap.size, 1, none⟩ = some (.slice R m d) := q1.cell 1
  have x2 : wc.cell? ⟨w.heap.size, 2, none⟩ = some (.slice K p q) := q1.cell 2
  have z0 : wc.cell? ⟨w.heap.size + 1, 0, none⟩ = some (.int .i64 o.op) := q2.cell 0
  have z1 : wc.cell? ⟨w.heap.size + 1, 1, none⟩ = some (.int .i64 o.a) := q2.cell 1
  have z2 : wc.cell? ⟨w.heap.size + 1, 2, none⟩ = some (.int .i64 o.b) := q2.cell 2
  have z3 : wc.cell? ⟨w.heap.size + 1, 3, none⟩ = some (.int .i64 o.c) := q2.cell 3
  have hsz : w.heap.size + 1 + 1 < wc.heap.size := q3.lt
  cases nb
  · have hcan : Hps.canH h o = true := by
      have := HNB.out
      rw [Bool.or_eq_false_iff] at this
      simpa using this.1
    have hgo : ¬ (o.op = 1 ∧ Hps.gapH h = 40) := by
      have := HNB.out
      rw [Bool.or_eq_false_iff] at this
      have h2 := this.2
      rintro ⟨e1, e2⟩
      rw [decide_eq_true e1, decide_eq_true e2] at h2
      cases h2
    have HF := Lib.hid (Hps.stepCt_does HVC.out HOK.out hcan hgo)
    have hgl := Hps.gapH_le h
    have DO := Lib.hid (l8Do_any A R n c m d h o gp wc s2 hcan (fun _ => by have := hs.cells.1; have := HGP.out; omega))
    have HDV := Lib.hid (Hps.doH_valid hcan (Hps.gap_room HVH.out hgo))
    rw [HGP.out] at HF HDV
    clear hcan hgo hgl s2 k2
    go_wp2_with fail
    refine DO.out.mono ?_
    rintro e w5 ⟨vc, vr, rfl, oh, b1⟩
    obtain ⟨A5, c5, R5, d5, rfl, rfl, hs5⟩ := oh.form
    obtain ⟨h5, hh5⟩ : ∃ h5, Hps.doH h o gp = h5 := ⟨_, rfl⟩
    rw [hh5] at hs5 HF HDV ⊢
    obtain ⟨n5, hn5⟩ : ∃ n5, h5.cs.length = n5 := ⟨_, rfl⟩
    obtain ⟨m5, hm5⟩ : ∃ m5, h5.rt.length = m5 := ⟨_, rfl⟩
    rw [hn5, hm5] at hs5 ⊢
    clear oh hh5 hn5 hm5
    replace q3 := q3.keep b1 q3.lt
    have b3 := b2.trans (b1.mono b2.size)
    clear DO x0 x1 x2 z0 z1 z2 z3 q1 q2
    go_wp2_with fail
    refine (l10Free_any _ _ _ _ _ _ _ _ hs5 HDV.out).mono ?_
    rintro e w6 ⟨vc, vr, vk, rfl, oc, b4⟩
    obtain ⟨A6, n6, c6, R6, m6, d6, K6, p6, q6, rfl, rfl, rfl⟩ := oc.slices
    replace q3 := q3.keep b4 q3.lt
    have b5 := b3.trans (b4.mono b3.size)
    replace oc := oc.base (bs' := wc.heap.size) b1.size
    have r2 : (w6).frozen? ⟨w.heap.size + 1 + 1, 0, none⟩ = false := q3.frozen 0
    have r3 : (w6).frozen? ⟨w.heap.size + 1 + 1, 1, none⟩ = false := q3.frozen 1
    have r4 : (w6).frozen? ⟨w.heap.size + 1 + 1, 2, none⟩ = false := q3.frozen 2
    have r5 : (w6).cell? ⟨w.heap.size + 1 + 1, 0, none⟩ = some (.slice none 0 0) := q3.cell 0
    have r6 : (w6).cell? ⟨w.heap.size + 1 + 1, 1, none⟩ = some (.slice none 0 0) := q3.cell 1
    have r7 : (w6).cell? ⟨w.heap.size + 1 + 1, 2, none⟩ = some (.slice none 0 0) := q3.cell 2
    have q4 := ((q3.put 0 (.slice A6 n6 c6)).put 1 (.slice R6 m6 d6)).put 2 (.slice K6 p6 q6)
    have r8 : (((w6.setCell ⟨w.heap.size + 1 + 1, 0, none⟩ (.slice A6 n6 c6)).setCell ⟨w.heap.size + 1 + 1, 1, none⟩ (.slice R6 m6 d6)).setCell ⟨w.heap.size + 1 + 1, 2, none⟩ (.slice K6 p6 q6)).cell? ⟨w.heap.size + 1 + 1, 0, none⟩ = some (.slice A6 n6 c6) := q4.cell 0
    have r9 : (((w6.setCell ⟨w.heap.size + 1 + 1, 0, none⟩ (.slice A6 n6 c6)).setCell ⟨w.heap.size + 1 + 1, 1, none⟩ (.slice R6 m6 d6)).setCell ⟨w.heap.size + 1 + 1, 2, none⟩ (.slice K6 p6 q6)).cell? ⟨w.heap.size + 1 + 1, 1, none⟩ = some (.slice R6 m6 d6) := q4.cell 1
    have r10 : (((w6.setCell ⟨w.heap.size + 1 + 1, 0, none⟩ (.slice A6 n6 c6)).setCell ⟨w.heap.size + 1 + 1, 1, none⟩ (.slice R6 m6 d6)).setCell ⟨w.heap.size + 1 + 1, 2, none⟩ (.slice K6 p6 q6)).cell? ⟨w.heap.size + 1 + 1, 2, none⟩ = some (.slice K6 p6 q6) := q4.cell 2
    have D := Lib.hid (OwnC.out (w := w) oc hsz b5 (Nat.le_trans (Nat.le_succ _) (Nat.le_succ _)))
    clear oc hs5 b1 b2 b3 b4 b5 q3 q4
    go_wp2_with fail
    exact bodyPost_ret (v := .tuple #[.agg #[.slice A6 n6 c6, .slice R6 m6 d6, .slice K6 p6 q6], .bool true]) (by simp [results, Tryd.results17, go_sem, *]) rfl ⟨_, _, _, by rw [HF.out], by rw [HF.out]; exact D.out.1, D.out.2⟩
  · have hcan : Hps.canH h o = false ∨ (o.op = 1 ∧ Hps.gapH h = 40) := by
      have := HNB.out
      rw [Bool.or_eq_true, Bool.and_eq_true, decide_eq_true_iff, decide_eq_true_iff] at this
      rcases this with e | e
      · exact .inl (by simpa using e)
      · exact .inr e
    have HF := Lib.hid (Hps.stepCt_cannot HVC.out HOK.out hcan)
    have hlc := hs.cells.1
    have hlr := hs.roots.1
    obtain ⟨V1, V2, V3, V4⟩ := Hps.valid_iff.1 HVH.out
    have H3 := Lib.hid (fun cl (hcl : cl ∈ h.cs) => show cl.r.length ≤ 1000000 by have := (Hps.okCell_iff.1 (V1 cl hcl)).2.2.1; omega)
    have CALL := Lib.hid (fun (ww : World) (hB : Below wc.heap.size wc ww) => l7Copy_any A R n c m d h ww (s2.up hB) (by omega) (by omega) H3.out)
    have KS := Lib.hid (fun (ww : World) (hB : Below wc.heap.size wc ww) => k2.up hB)
    have hll := hk.1
    have HLL := Lib.hid hll
    have HQ := Lib.hid q3
    have HB2 := Lib.hid b2
    clear hcan hlc hlr V1 V2 V3 V4 s2 k2 hll z0 z1 z2 z3
    go_upto_region 5 with fail
    refine wp_region_inv (by kernel_rfl) (by kernel_rfl) (fun L ac ww => ∃ t5 t33 t34 t35 t36 t37 t38 t39 t40 : Value, ac = { tmps := #[ctV A n c R m d K p q, cmV o, Value.pointer (some { block := w.heap.size, off := 0 }), Value.pointer (some { block := w.heap.size + 1, off := 0 }), Value.pointer (some { block := w.heap.size + 1 + 1, off := 0 }), t5, Value.int IntKind.i64 ↑gp, u7, u8, u9, u10, u11, u12, u13, u14, u15, u16, u17, u18, u19, u20, u21, u22, u23, u24, u25, u26, u27, u28, u29, u30, u31, Value.bool true, t33, t34, t35, t36, t37, t38, t39, t40, u41, u42, u43, u44, u45, u46], defers := [] } ∧ (L 8 = false → Below wc.heap.size wc ww) ∧ (L 6 = true → L 2 = true) ∧ (L 6 = true → L 3 = true) ∧ (L 7 = true → L 6 = true) ∧ (L 8 = true → L 7 = true) ∧ (L 9 = true → L 8 = true) ∧ (L 2 = true → L 1 = true) ∧ (L 6 = true → L 5 = true) ∧ (L 5 = true → L 4 = true) ∧ (L 1 = true → L 0 = true) ∧ (L 0 = true → t33 = .pointer (some ⟨w.heap.size, 0, none⟩)) ∧ (L 1 = true → t34 = .agg #[.slice A n c, .slice R m d]) ∧ (L 2 = true → ∃ (A5 : Option Addr) (n5 c5 : Nat) (R5 : Option Addr) (m5 d5 : Nat), t35 = .agg #[.slice A5 n5 c5, .slice R5 m5 d5] ∧ (L 6 = false → (L 3 = false → OwnH ww wc.heap.size (.slice A5 n5 c5) (.slice R5 m5 d5) h) ∧ (L 3 = true → OwnC ww wc.heap.size (.slice A5 n5 c5) (.slice R5 m5 d5) t36 h []))) ∧ (L 3 = true → ∃ gs, t36 = .slice (some ⟨gs, 0, none⟩) 0 0 ∧ (L 6 = false → OwnI ww wc.heap.size t36 [])) ∧ (L 4 = true → t37 = .pointer (some ⟨w.heap.size, 2, none⟩)) ∧ (L 5 = true → t38 = .slice K p q) ∧ (L 6 = true → ∃ (A5 : Option Addr) (n5 c5 : Nat) (R5 : Option Addr) (m5 d5 : Nat) (A9 : Option Addr) (c9 : Nat), t35 = .agg #[.slice A5 n5 c5, .slice R5 m5 d5] ∧ t39 = .slice A9 p c9 ∧ (L 8 = false → OwnC ww wc.heap.size (.slice A5 n5 c5) (.slice R5 m5 d5) t39 h l)) ∧ (L 7 = true → ∃ (A5 : Option Addr) (n5 c5 : Nat) (R5 : Option Addr) (m5 d5 : Nat) (A9 : Option Addr) (c9 : Nat), t35 = .agg #[.slice A5 n5 c5, .slice R5 m5 d5] ∧ t39 = .slice A9 p c9 ∧ t40 = .agg #[.slice A5 n5 c5, .slice R5 m5 d5, .slice A9 p c9]) ∧ (L 8 = true → ∃ (A5 : Option Addr) (n5 c5 : Nat) (R5 : Option Addr) (m5 d5 : Nat) (A9 : Option Addr) (c9 : Nat) (w1 : World), ww = ((w1.setCell ⟨w.heap.size + 1 + 1, 0, none⟩ (.slice A5 n5 c5)).setCell ⟨w.heap.size + 1 + 1, 1, none⟩ (.slice R5 m5 d5)).setCell ⟨w.heap.size + 1 + 1, 2, none⟩ (.slice A9 p c9) ∧ OwnC w1 wc.heap.size (.slice A5 n5 c5) (.slice R5 m5 d5) (.slice A9 p c9) h l ∧ Below wc.heap.size wc w1) ∧ (L 9 = true → t5 = .bool false)) ?h0 ?hstep ?hdone
    case h0 => exact ⟨_, _, _, _, _, _, _, _, _, rfl, fun _ => (Below.refl _ _).drew, fun h => absurd h Bool.false_ne_true, fun h => absurd h Bool.false_ne_true, fun h => absurd h Bool.false_ne_true, fun h => absurd h Bool.false_ne_true, fun h => absurd h Bool.false_ne_true, fun h => absurd h Bool.false_ne_true, fun h => absurd h Bool.false_ne_true, fun h => absurd h Bool.false_ne_true, fun h => absurd h Bool.false_ne_true, (fun h => absurd h Bool.false_ne_true), (fun h => absurd h Bool.false_ne_true), (fun h => absurd h Bool.false_ne_true), (fun h => absurd h Bool.false_ne_true), (fun h => absurd h Bool.false_ne_true), (fun h => absurd h Bool.false_ne_true), (fun h => absurd h Bool.false_ne_true), (fun h => absurd h Bool.false_ne_true), (fun h => absurd h Bool.false_ne_true), (fun h => absurd h Bool.false_ne_true)⟩
    case hstep =>
      rintro L ac ww i o ho hL hd ⟨t5, t33, t34, t35, t36, t37, t38, t39, t40, rfl, I0, I1, I2, I3, I4, I5, I6, I7, I8, I9, f0, f1, f2, f3, f4, f5, f6, f7, f8, f9⟩
      have hi : i < 10 := (Array.getElem?_eq_some_iff.1 ho).1
      obtain rfl | rfl | rfl | rfl | rfl | rfl | rfl | rfl | rfl | rfl : i = 0 ∨ i = 1 ∨ i = 2 ∨ i = 3 ∨ i = 4 ∨ i = 5 ∨ i = 6 ∨ i = 7 ∨ i = 8 ∨ i = 9 := by omega
      · obtain rfl := Option.some.inj ho
        have h8 : L 8 = false := by
          cases hh : L 8
          · rfl
          · exact absurd (I9 (I6 (I1 (I3 (I4 hh))))) (by rw [hL]; decide)
        have hB := I0 h8
        refine wpOp_step rfl (fun K' hK => ?_)
        go_simp
        refine hK _ _ ?_
        exact ⟨_, _, _, _, _, _, _, _, _, rfl, (fun h => I0 (by rw [upd_other (by decide)] at h; exact h)), (fun h => upd_mono (I1 (upd_ne h (by decide)))), (fun h => upd_mono (I2 (upd_ne h (by decide)))), (fun h => upd_mono (I3 (upd_ne h (by decide)))), (fun h => upd_mono (I4 (upd_ne h (by decide)))), (fun h => upd_mono (I5 (upd_ne h (by decide)))), (fun h => upd_mono (I6 (upd_ne h (by decide)))), (fun h => upd_mono (I7 (upd_ne h (by decide)))), (fun h => upd_mono (I8 (upd_ne h (by decide)))), (fun h => upd_mono (I9 (upd_ne h (by decide)))), (fun _ => rfl), (kp f1), (fun h => by
          obtain ⟨A5, n5, c5, R5, m5, d5, e, oo⟩ := f2 (upd_ne h (by decide))
          exact ⟨A5, n5, c5, R5, m5, d5, e, fun h6 => by
            rw [upd_other (by decide)] at h6
            rw [upd_other (by decide)]
            exact oo h6⟩), (fun h => by
          obtain ⟨gs, e, oo⟩ := f3 (upd_ne h (by decide))
          exact ⟨gs, e, fun h6 => by
            rw [upd_other (by decide)] at h6
            exact oo h6⟩), (kp f4), (kp f5), (fun h => by
          obtain ⟨A5, n5, c5, R5, m5, d5, A9, c9, e, e2, oo⟩ := f6 (upd_ne h (by decide))
          exact ⟨A5, n5, c5, R5, m5, d5, A9, c9, e, e2, fun h8 => by
            rw [upd_other (by decide)] at h8
            exact oo h8⟩), (kp f7), (fun h => absurd ((upd_ne h (by decide)).symm.trans h8) (by decide)), (kp f9)⟩
      · obtain rfl := Option.some.inj ho
        have g0 := f0 (hd ⟨0, .data⟩ (by simp) rfl)
        subst g0
        have h8 : L 8 = false := by
          cases hh : L 8
          · rfl
          · exact absurd (I6 (I1 (I3 (I4 hh)))) (by rw [hL]; decide)
        have hB := I0 h8
        have y0 : ww.cell? ⟨w.heap.size, 0, none⟩ = some (.slice A n c) := (hB.cell (p := ⟨w.heap.size, 0, none⟩) (by show w.heap.size < wc.heap.size; omega)).trans x0
        have y1 : ww.cell? ⟨w.heap.size, 1, none⟩ = some (.slice R m d) := (hB.cell (p := ⟨w.heap.size, 1, none⟩) (by show w.heap.size < wc.heap.size; omega)).trans x1
        refine wpOp_step rfl (fun K' hK => ?_)
        go_simp
        refine hK _ _ ?_
        exact ⟨_, _, _, _, _, _, _, _, _, rfl, (fun h => I0 (by rw [upd_other (by decide)] at h; exact h)), (fun h => upd_mono (I1 (upd_ne h (by decide)))), (fun h => upd_mono (I2 (upd_ne h (by decide)))), (fun h => upd_mono (I3 (upd_ne h (by decide)))), (fun h => upd_mono (I4 (upd_ne h (by decide)))), (fun h => upd_mono (I5 (upd_ne h (by decide)))), (fun h => upd_mono (I6 (upd_ne h (by decide)))), (fun h => upd_mono (I7 (upd_ne h (by decide)))), (fun h => upd_mono (I8 (upd_ne h (by decide)))), (fun _ => upd_mono (hd ⟨0, .data⟩ (by simp) rfl)), (kp f0), (fun _ => rfl), (fun h => by
          obtain ⟨A5, n5, c5, R5, m5, d5, e, oo⟩ := f2 (upd_ne h (by decide))
          exact ⟨A5, n5, c5, R5, m5, d5, e, fun h6 => by
            rw [upd_other (by decide)] at h6
            rw [upd_other (by decide)]
            exact oo h6⟩), (fun h => by
          obtain ⟨gs, e, oo⟩ := f3 (upd_ne h (by decide))
          exact ⟨gs, e, fun h6 => by
            rw [upd_other (by decide)] at h6
            exact oo h6⟩), (kp f4), (kp f5), (fun h => by
          obtain ⟨A5, n5, c5, R5, m5, d5, A9, c9, e, e2, oo⟩ := f6 (upd_ne h (by decide))
          exact ⟨A5, n5, c5, R5, m5, d5, A9, c9, e, e2, fun h8 => by
            rw [upd_other (by decide)] at h8
            exact oo h8⟩), (kp f7), (fun h => absurd ((upd_ne h (by decide)).symm.trans h8) (by decide)), (kp f9)⟩
      · obtain rfl := Option.some.inj ho
        have g1 := f1 (hd ⟨1, .data⟩ (by simp) rfl)
        subst g1
        have h8 : L 8 = false := by
          cases hh : L 8
          · rfl
          · exact absurd (I1 (I3 (I4 hh))) (by rw [hL]; decide)
        have hB := I0 h8
        have h6 : L 6 = false := by
          cases hh : L 6
          · rfl
          · exact absurd (I1 hh) (by rw [hL]; decide)
        refine wpOp_step rfl (fun K' hK => ?_)
        go_simp
        refine (CALL.out ww hB).mono ?_
        rintro e w' ⟨v1, v2, rfl, oh, b5⟩
        obtain ⟨A5, n5, c5, R5, m5, d5, rfl, rfl⟩ := oh.slices
        refine hK _ _ ?_
        exact ⟨_, _, _, _, _, _, _, _, _, rfl, (fun _ => hB.trans (b5.mono hB.size)), (fun h => upd_mono (I1 (upd_ne h (by decide)))), (fun h => upd_mono (I2 (upd_ne h (by decide)))), (fun h => upd_mono (I3 (upd_ne h (by decide)))), (fun h => upd_mono (I4 (upd_ne h (by decide)))), (fun h => upd_mono (I5 (upd_ne h (by decide)))), (fun _ => upd_mono (hd ⟨1, .data⟩ (by simp) rfl)), (fun h => upd_mono (I7 (upd_ne h (by decide)))), (fun h => upd_mono (I8 (upd_ne h (by decide)))), (fun h => upd_mono (I9 (upd_ne h (by decide)))), (kp f0), (kp f1), (fun _ => ⟨A5, n5, c5, R5, m5, d5, rfl, fun _ => ⟨fun _ => oh.base hB.size, fun hl3 => by
          obtain ⟨gs, e, o3⟩ := f3 (by rw [upd_other (by decide)] at hl3; exact hl3)
          exact OwnC.of2 (o3 h6) hB.size b5 oh⟩⟩), (fun h => by
          obtain ⟨gs, e, oo⟩ := f3 (upd_ne h (by decide))
          exact ⟨gs, e, fun _ => (oo h6).below b5 (Nat.le_refl _)⟩), (kp f4), (kp f5), (fun h => absurd ((upd_ne h (by decide)).symm.trans h6) (by decide)), (fun h => absurd (I3 (upd_ne h (by decide))) (by rw [h6]; decide)), (fun h => absurd ((upd_ne h (by decide)).symm.trans h8) (by decide)), (kp f9)⟩
      · obtain rfl := Option.some.inj ho
        have h8 : L 8 = false := by
          cases hh : L 8
          · rfl
          · exact absurd (I2 (I3 (I4 hh))) (by rw [hL]; decide)
        have hB := I0 h8
        have h6 : L 6 = false := by
          cases hh : L 6
          · rfl
          · exact absurd (I2 hh) (by rw [hL]; decide)
        refine wpOp_step rfl (fun K' hK => ?_)
        go_simp
        refine hK _ _ ?_
        exact ⟨_, _, _, _, _, _, _, _, _, rfl, (fun _ => hB.alloc hB.size _), (fun h => upd_mono (I1 (upd_ne h (by decide)))), (fun h => upd_mono (I2 (upd_ne h (by decide)))), (fun h => upd_mono (I3 (upd_ne h (by decide)))), (fun h => upd_mono (I4 (upd_ne h (by decide)))), (fun h => upd_mono (I5 (upd_ne h (by decide)))), (fun h => upd_mono (I6 (upd_ne h (by decide)))), (fun h => upd_mono (I7 (upd_ne h (by decide)))), (fun h => upd_mono (I8 (upd_ne h (by decide)))), (fun h => upd_mono (I9 (upd_ne h (by decide)))), (kp f0), (kp f1), (fun h => by
          obtain ⟨A5, n5, c5, R5, m5, d5, e, oo⟩ := f2 (upd_ne h (by decide))
          exact ⟨A5, n5, c5, R5, m5, d5, e, fun _ => ⟨fun h3 => absurd (upd_self.symm.trans h3) (by decide), fun _ => OwnC.new ((oo h6).1 hL) hB.size⟩⟩), (fun _ => ⟨_, rfl, fun _ => own_noneI ww wc.heap.size hB.size⟩), (kp f4), (kp f5), (fun h => absurd ((upd_ne h (by decide)).symm.trans h6) (by decide)), (fun h => absurd (I3 (upd_ne h (by decide))) (by rw [h6]; decide)), (fun h => absurd ((upd_ne h (by decide)).symm.trans h8) (by decide)), (kp f9)⟩
      · obtain rfl := Option.some.inj ho
        have h8 : L 8 = false := by
          cases hh : L 8
          · rfl
          · exact absurd (I8 (I7 (I3 (I4 hh)))) (by rw [hL]; decide)
        have hB := I0 h8
        refine wpOp_step rfl (fun K' hK => ?_)
        go_simp
        refine hK _ _ ?_
        exact ⟨_, _, _, _, _, _, _, _, _, rfl, (fun h => I0 (by rw [upd_other (by decide)] at h; exact h)), (fun h => upd_mono (I1 (upd_ne h (by decide)))), (fun h => upd_mono (I2 (upd_ne h (by decide)))), (fun h => upd_mono (I3 (upd_ne h (by decide)))), (fun h => upd_mono (I4 (upd_ne h (by decide)))), (fun h => upd_mono (I5 (upd_ne h (by decide)))), (fun h => upd_mono (I6 (upd_ne h (by decide)))), (fun h => upd_mono (I7 (upd_ne h (by decide)))), (fun h => upd_mono (I8 (upd_ne h (by decide)))), (fun h => upd_mono (I9 (upd_ne h (by decide)))), (kp f0), (kp f1), (fun h => by
          obtain ⟨A5, n5, c5, R5, m5, d5, e, oo⟩ := f2 (upd_ne h (by decide))
          exact ⟨A5, n5, c5, R5, m5, d5, e, fun h6 => by
            rw [upd_other (by decide)] at h6
            rw [upd_other (by decide)]
            exact oo h6⟩), (fun h => by
          obtain ⟨gs, e, oo⟩ := f3 (upd_ne h (by decide))
          exact ⟨gs, e, fun h6 => by
            rw [upd_other (by decide)] at h6
            exact oo h6⟩), (fun _ => rfl), (kp f5), (fun h => by
          obtain ⟨A5, n5, c5, R5, m5, d5, A9, c9, e, e2, oo⟩ := f6 (upd_ne h (by decide))
          exact ⟨A5, n5, c5, R5, m5, d5, A9, c9, e, e2, fun h8 => by
            rw [upd_other (by decide)] at h8
            exact oo h8⟩), (kp f7), (fun h => absurd ((upd_ne h (by decide)).symm.trans h8) (by decide)), (kp f9)⟩
      · obtain rfl := Option.some.inj ho
        have g4 := f4 (hd ⟨4, .data⟩ (by simp) rfl)
        subst g4
        have h8 : L 8 = false := by
          cases hh : L 8
          · rfl
          · exact absurd (I7 (I3 (I4 hh))) (by rw [hL]; decide)
        have hB := I0 h8
        have y2 : ww.cell? ⟨w.heap.size, 2, none⟩ = some (.slice K p q) := (hB.cell (p := ⟨w.heap.size, 2, none⟩) (by show w.heap.size < wc.heap.size; omega)).trans x2
        refine wpOp_step rfl (fun K' hK => ?_)
        go_simp
        refine hK _ _ ?_
        exact ⟨_, _, _, _, _, _, _, _, _, rfl, (fun h => I0 (by rw [upd_other (by decide)] at h; exact h)), (fun h => upd_mono (I1 (upd_ne h (by decide)))), (fun h => upd_mono (I2 (upd_ne h (by decide)))), (fun h => upd_mono (I3 (upd_ne h (by decide)))), (fun h => upd_mono (I4 (upd_ne h (by decide)))), (fun h => upd_mono (I5 (upd_ne h (by decide)))), (fun h => upd_mono (I6 (upd_ne h (by decide)))), (fun h => upd_mono (I7 (upd_ne h (by decide)))), (fun _ => upd_mono (hd ⟨4, .data⟩ (by simp) rfl)), (fun h => upd_mono (I9 (upd_ne h (by decide)))), (kp f0), (kp f1), (fun h => by
          obtain ⟨A5, n5, c5, R5, m5, d5, e, oo⟩ := f2 (upd_ne h (by decide))
          exact ⟨A5, n5, c5, R5, m5, d5, e, fun h6 => by
            rw [upd_other (by decide)] at h6
            rw [upd_other (by decide)]
            exact oo h6⟩), (fun h => by
          obtain ⟨gs, e, oo⟩ := f3 (upd_ne h (by decide))
          exact ⟨gs, e, fun h6 => by
            rw [upd_other (by decide)] at h6
            exact oo h6⟩), (kp f4), (fun _ => rfl), (fun h => by
          obtain ⟨A5, n5, c5, R5, m5, d5, A9, c9, e, e2, oo⟩ := f6 (upd_ne h (by decide))
          exact ⟨A5, n5, c5, R5, m5, d5, A9, c9, e, e2, fun h8 => by
            rw [upd_other (by decide)] at h8
            exact oo h8⟩), (kp f7), (fun h => absurd ((upd_ne h (by decide)).symm.trans h8) (by decide)), (kp f9)⟩
      · obtain rfl := Option.some.inj ho
        have g3 := f3 (hd ⟨3, .data⟩ (by simp) rfl)
        have g5 := f5 (hd ⟨5, .data⟩ (by simp) rfl)
        subst g5
        have h8 : L 8 = false := by
          cases hh : L 8
          · rfl
          · exact absurd (I3 (I4 hh)) (by rw [hL]; decide)
        have hB := I0 h8
        have h3 := hd ⟨3, .data⟩ (by simp) rfl
        have h2 := hd ⟨2, .chain⟩ (by simp) rfl
        obtain ⟨gs, rfl, o3⟩ := g3
        obtain ⟨A5, n5, c5, R5, m5, d5, rfl, o2⟩ := f2 h2
        have oc := (o2 hL).2 h3
        have o3i := o3 hL
        refine wpOp_step rfl (fun K' hK => ?_)
        refine app_stepI rfl (.tmp 36) (.tmp 38) rfl wc.heap.size _ [] rfl o3i K p q ww.heap.size l rfl (KS.out ww hB) (by simp <;> omega) hB.size ?_
        intro v' w' o1 g1 s1
        rw [List.nil_append] at o1
        have hrow := fun kk hk => (World.ownsRow.lt o3i kk hk).1
        have hB2 := hB.grown g1 hB.size hrow
        have oc2 := oc.app o1 g1 s1
        obtain ⟨A9, c9, e9, x9⟩ := o1.form
        rw [HLL.out] at e9
        subst e9
        refine hK _ _ ?_
        exact ⟨_, _, _, _, _, _, _, _, _, rfl, (fun _ => hB2), (fun _ => upd_mono h2), (fun _ => upd_mono h3), (fun h => upd_mono (I3 (upd_ne h (by decide)))), (fun h => upd_mono (I4 (upd_ne h (by decide)))), (fun h => upd_mono (I5 (upd_ne h (by decide)))), (fun h => upd_mono (I6 (upd_ne h (by decide)))), (fun _ => upd_mono (hd ⟨5, .data⟩ (by simp) rfl)), (fun h => upd_mono (I8 (upd_ne h (by decide)))), (fun h => upd_mono (I9 (upd_ne h (by decide)))), (kp f0), (kp f1), (fun _ => ⟨_, _, _, _, _, _, rfl, fun h6 => absurd (upd_self.symm.trans h6) (by decide)⟩), (fun _ => ⟨gs, rfl, fun h6 => absurd (upd_self.symm.trans h6) (by decide)⟩), (kp f4), (kp f5), (fun _ => ⟨_, _, _, _, _, _, A9, c9, rfl, rfl, fun _ => oc2⟩), (fun h => absurd (I3 (upd_ne h (by decide))) (by rw [hL]; decide)), (fun h => absurd ((upd_ne h (by decide)).symm.trans h8) (by decide)), (kp f9)⟩
      · obtain rfl := Option.some.inj ho
        have g2 := f2 (hd ⟨2, .data⟩ (by simp) rfl)
        have g6 := f6 (hd ⟨6, .data⟩ (by simp) rfl)
        have h8 : L 8 = false := by
          cases hh : L 8
          · rfl
          · exact absurd (I4 hh) (by rw [hL]; decide)
        have hB := I0 h8
        obtain ⟨A5, n5, c5, R5, m5, d5, A9, c9, rfl, rfl, o6⟩ := g6
        refine wpOp_step rfl (fun K' hK => ?_)
        go_simp
        refine hK _ _ ?_
        exact ⟨_, _, _, _, _, _, _, _, _, rfl, (fun h => I0 (by rw [upd_other (by decide)] at h; exact h)), (fun h => upd_mono (I1 (upd_ne h (by decide)))), (fun h => upd_mono (I2 (upd_ne h (by decide)))), (fun _ => upd_mono (hd ⟨6, .data⟩ (by simp) rfl)), (fun h => upd_mono (I4 (upd_ne h (by decide)))), (fun h => upd_mono (I5 (upd_ne h (by decide)))), (fun h => upd_mono (I6 (upd_ne h (by decide)))), (fun h => upd_mono (I7 (upd_ne h (by decide)))), (fun h => upd_mono (I8 (upd_ne h (by decide)))), (fun h => upd_mono (I9 (upd_ne h (by decide)))), (kp f0), (kp f1), (fun h => by
          obtain ⟨A5, n5, c5, R5, m5, d5, e, oo⟩ := f2 (upd_ne h (by decide))
          exact ⟨A5, n5, c5, R5, m5, d5, e, fun h6 => by
            rw [upd_other (by decide)] at h6
            rw [upd_other (by decide)]
            exact oo h6⟩), (fun h => by
          obtain ⟨gs, e, oo⟩ := f3 (upd_ne h (by decide))
          exact ⟨gs, e, fun h6 => by
            rw [upd_other (by decide)] at h6
            exact oo h6⟩), (kp f4), (kp f5), (fun _ => ⟨_, _, _, _, _, _, A9, c9, rfl, rfl, fun h8 => by
            rw [upd_other (by decide)] at h8
            exact o6 h8⟩), (fun _ => ⟨_, _, _, _, _, _, _, _, rfl, rfl, rfl⟩), (fun h => absurd ((upd_ne h (by decide)).symm.trans h8) (by decide)), (kp f9)⟩
      · obtain rfl := Option.some.inj ho
        have g7 := f7 (hd ⟨7, .data⟩ (by simp) rfl)
        have H6 := Lib.hid (I3 (hd ⟨7, .data⟩ (by simp) rfl))
        have H7 := Lib.hid (hd ⟨7, .data⟩ (by simp) rfl)
        obtain ⟨A5, n5, c5, R5, m5, d5, A9, c9, rfl, rfl, rfl⟩ := g7
        obtain ⟨A6, n6, c6, R6, m6, d6, A8, c8, e6, e7, o6⟩ := f6 H6.out
        simp at e6 e7
        obtain ⟨⟨rfl, rfl, rfl⟩, rfl, rfl, rfl⟩ := e6
        obtain ⟨rfl, rfl⟩ := e7
        have oc := o6 hL
        have hB := I0 hL
        have q5 := HQ.out.keep hB HQ.out.lt
        have u0 := q5.cell 0
        have v0 := q5.frozen 0
        have u1 := q5.cell 1
        have v1 := q5.frozen 1
        have u2 := q5.cell 2
        have v2 := q5.frozen 2
        simp at u0 u1 u2
        refine wpOp_step rfl (fun K' hK => ?_)
        go_simp
        refine hK _ _ ?_
        exact ⟨_, _, _, _, _, _, _, _, _, rfl, (fun h => absurd (upd_self.symm.trans h) (by decide)), (fun h => upd_mono (I1 (upd_ne h (by decide)))), (fun h => upd_mono (I2 (upd_ne h (by decide)))), (fun h => upd_mono (I3 (upd_ne h (by decide)))), (fun _ => upd_mono H7.out), (fun h => upd_mono (I5 (upd_ne h (by decide)))), (fun h => upd_mono (I6 (upd_ne h (by decide)))), (fun h => upd_mono (I7 (upd_ne h (by decide)))), (fun h => upd_mono (I8 (upd_ne h (by decide)))), (fun h => upd_mono (I9 (upd_ne h (by decide)))), (kp f0), (kp f1), (fun h => ⟨_, _, _, _, _, _, rfl, fun hh => absurd (H6.out.symm.trans ((upd_other (by decide)).symm.trans hh)) (by decide)⟩), (fun h => by
          obtain ⟨gs, e, oo⟩ := f3 (upd_ne h (by decide))
          exact ⟨gs, e, fun hh => absurd (H6.out.symm.trans ((upd_other (by decide)).symm.trans hh)) (by decide)⟩), (kp f4), (kp f5), (fun _ => ⟨_, _, _, _, _, _, _, _, rfl, rfl, fun hh => absurd (upd_self.symm.trans hh) (by decide)⟩), (kp f7), (fun _ => ⟨_, _, _, _, _, _, _, _, ww, rfl, oc, hB⟩), (kp f9)⟩
      · obtain rfl := Option.some.inj ho
        have h8 := hd ⟨8, .chain⟩ (by simp) rfl
        refine wpOp_step rfl (fun K' hK => ?_)
        go_simp
        refine hK _ _ ?_
        exact ⟨_, _, _, _, _, _, _, _, _, rfl, (fun h => absurd (h8.symm.trans ((upd_other (by decide)).symm.trans h)) (by decide)), (fun h => upd_mono (I1 (upd_ne h (by decide)))), (fun h => upd_mono (I2 (upd_ne h (by decide)))), (fun h => upd_mono (I3 (upd_ne h (by decide)))), (fun h => upd_mono (I4 (upd_ne h (by decide)))), (fun _ => upd_mono h8), (fun h => upd_mono (I6 (upd_ne h (by decide)))), (fun h => upd_mono (I7 (upd_ne h (by decide)))), (fun h => upd_mono (I8 (upd_ne h (by decide)))), (fun h => upd_mono (I9 (upd_ne h (by decide)))), (kp f0), (kp f1), (fun h => by
          obtain ⟨A5, n5, c5, R5, m5, d5, e, oo⟩ := f2 (upd_ne h (by decide))
          exact ⟨A5, n5, c5, R5, m5, d5, e, fun h6 => by
            rw [upd_other (by decide)] at h6
            rw [upd_other (by decide)]
            exact oo h6⟩), (fun h => by
          obtain ⟨gs, e, oo⟩ := f3 (upd_ne h (by decide))
          exact ⟨gs, e, fun h6 => by
            rw [upd_other (by decide)] at h6
            exact oo h6⟩), (kp f4), (kp f5), (fun h => by
          obtain ⟨A5, n5, c5, R5, m5, d5, A9, c9, e, e2, oo⟩ := f6 (upd_ne h (by decide))
          exact ⟨A5, n5, c5, R5, m5, d5, A9, c9, e, e2, fun h8 => by
            rw [upd_other (by decide)] at h8
            exact oo h8⟩), (kp f7), (kp f8), (fun _ => rfl)⟩
    case hdone =>
      rintro L ac ww hall ⟨t5, t33, t34, t35, t36, t37, t38, t39, t40, rfl, I0, I1, I2, I3, I4, I5, I6, I7, I8, I9, f0, f1, f2, f3, f4, f5, f6, f7, f8, f9⟩
      have e0 := f0 (hall 0 (by decide))
      have e1 := f1 (hall 1 (by decide))
      have e2 := f2 (hall 2 (by decide))
      have e3 := f3 (hall 3 (by decide))
      have e4 := f4 (hall 4 (by decide))
      have e5 := f5 (hall 5 (by decide))
      have e6 := f6 (hall 6 (by decide))
      have e7 := f7 (hall 7 (by decide))
      have e8 := f8 (hall 8 (by decide))
      have e9 := f9 (hall 9 (by decide))
      clear f0 f1 f2 f3 f4 f5 f6 f7 f8 f9
      obtain ⟨A5, n5, c5, R5, m5, d5, A9, c9, w1, rfl, oc, hB⟩ := e8
      have q3 := HQ.out.keep hB HQ.out.lt
      have bw := HB2.out.trans (hB.mono HB2.out.size)
      have r2 : (w1).frozen? ⟨w.heap.size + 1 + 1, 0, none⟩ = false := q3.frozen 0
      have r3 : (w1).frozen? ⟨w.heap.size + 1 + 1, 1, none⟩ = false := q3.frozen 1
      have r4 : (w1).frozen? ⟨w.heap.size + 1 + 1, 2, none⟩ = false := q3.frozen 2
      have r5 : (w1).cell? ⟨w.heap.size + 1 + 1, 0, none⟩ = some (.slice none 0 0) := q3.cell 0
      have r6 : (w1).cell? ⟨w.heap.size + 1 + 1, 1, none⟩ = some (.slice none 0 0) := q3.cell 1
      have r7 : (w1).cell? ⟨w.heap.size + 1 + 1, 2, none⟩ = some (.slice none 0 0) := q3.cell 2
      have q4 := ((q3.put 0 (.slice A5 n5 c5)).put 1 (.slice R5 m5 d5)).put 2 (.slice A9 p c9)
      have r8 : (((w1.setCell ⟨w.heap.size + 1 + 1, 0, none⟩ (.slice A5 n5 c5)).setCell ⟨w.heap.size + 1 + 1, 1, none⟩ (.slice R5 m5 d5)).setCell ⟨w.heap.size + 1 + 1, 2, none⟩ (.slice A9 p c9)).cell? ⟨w.heap.size + 1 + 1, 0, none⟩ = some (.slice A5 n5 c5) := q4.cell 0
      have r9 : (((w1.setCell ⟨w.heap.size + 1 + 1, 0, none⟩ (.slice A5 n5 c5)).setCell ⟨w.heap.size + 1 + 1, 1, none⟩ (.slice R5 m5 d5)).setCell ⟨w.heap.size + 1 + 1, 2, none⟩ (.slice A9 p c9)).cell? ⟨w.heap.size + 1 + 1, 1, none⟩ = some (.slice R5 m5 d5) := q4.cell 1
      have r10 : (((w1.setCell ⟨w.heap.size + 1 + 1, 0, none⟩ (.slice A5 n5 c5)).setCell ⟨w.heap.size + 1 + 1, 1, none⟩ (.slice R5 m5 d5)).setCell ⟨w.heap.size + 1 + 1, 2, none⟩ (.slice A9 p c9)).cell? ⟨w.heap.size + 1 + 1, 2, none⟩ = some (.slice A9 p c9) := q4.cell 2
      have D := Lib.hid (OwnC.out (w := w) oc hsz bw (Nat.le_trans (Nat.le_succ _) (Nat.le_succ _)))
      clear e0 e1 e2 e3 e4 e5 e6 e7 I0 I1 I2 I3 I4 I5 I6 I7 I8 I9 oc hB q3 q4 bw q1 q2 b2 x0 x1 x2
      subst e9
      go_wp2_with fail
      exact bodyPost_ret (v := .tuple #[.agg #[.slice A5 n5 c5, .slice R5 m5 d5, .slice A9 p c9], .bool false]) (by simp [results, Tryd.results17, go_sem, *]) rfl ⟨_, _, _, by rw [HF.out], by rw [HF.out]; exact D.out.1, D.out.2⟩
end Go.Proofs.YtfgdenmlfloloaaDoor

namespace Go.Proofs.YtfgdenmlfloloaaDoor
open Go.RowKit
set_option maxRecDepth 100000
/-- a heap with counts of the call's own, and what a pointer v leads to lies apart, once l -/
def OwnFC (w : World) (base : Nat) (v : Value) (l : Bool) (vc vr vk : Value) (h : Hp) (ct : List Int) : Prop := ∃ rvs, OwnCt w base vc vr vk rvs h ct ∧ ∀ g, l = true → v = .pointer (some ⟨g, 0, none⟩) → Apart (some g) (vc :: vr :: vk :: rvs)
section
variable {w w' : World} {base : Nat} {v vc vr vk : Value} {l l' : Bool} {h : Hp} {ct : List Int}
theorem OwnFC.own (ho : OwnFC w base v l vc vr vk h ct) : OwnC w base vc vr vk h ct := by
  obtain ⟨rvs, o, _⟩ := ho
  exact ⟨rvs, o⟩
theorem OwnFC.eq (ho : OwnFC w base v l vc vr vk h ct) (e : l' = l) : OwnFC w base v l' vc vr vk h ct := e ▸ ho
theorem OwnFC.below (ho : OwnFC w base v l vc vr vk h ct) (hb : Below w.heap.size w w') : OwnFC w' base v l vc vr vk h ct := by
  obtain ⟨rvs, o, a⟩ := ho
  exact ⟨rvs, o.below hb (Nat.le_refl _), a⟩
theorem OwnFC.alloc (ho : OwnFC w base v l vc vr vk h ct) (ob : Obj) : OwnFC (w.alloc ob) base (.pointer (some ⟨w.heap.size, 0, none⟩)) l' vc vr vk h ct := by
  obtain ⟨rvs, o, a⟩ := ho
  refine ⟨rvs, o.below ((Below.refl _ _).alloc (Nat.le_refl _) _) (Nat.le_refl _), fun g _ e => ?_⟩
  injection e with e
  injection e with e
  injection e with e
  subst e
  exact o.apart_new (Nat.le_refl _)
theorem OwnFC.baseC {base' : Nat} (hb : base' ≤ base) (ho : OwnC w base vc vr vk h ct) (hv : ∀ g, l = true → v = .pointer (some ⟨g, 0, none⟩) → g < base) : OwnFC w base' v l vc vr vk h ct := by
  obtain ⟨rvs, o⟩ := ho
  exact ⟨rvs, o.base hb, fun g hl e => o.apart_below (hv g hl e)⟩
theorem OwnFC.put {g : Nat} (ho : OwnFC w base (.pointer (some ⟨g, 0, none⟩)) l vc vr vk h ct) (hl : l = true) (u u' u2 : Value) : OwnFC (((w.setCell ⟨g, 0, none⟩ u).setCell ⟨g, 1, none⟩ u').setCell ⟨g, 2, none⟩ u2) base (.pointer (some ⟨g, 0, none⟩)) l vc vr vk h ct := by
  obtain ⟨rvs, o, a⟩ := ho
  exact ⟨rvs, ((o.put (a g hl rfl) 0 u).put (a g hl rfl) 1 u').put (a g hl rfl) 2 u2, a⟩
end
namespace Hps
theorem runCtFrom_snoc (x : Hp × List Int) (l : List Cm) (o : Cm) : runCtFrom x (l ++ [o]) = (stepCt (runCtFrom x l).1 (runCtFrom x l).2 o).1 := by simp [runCtFrom]
end Hps
/-- while a program runs: the heap with counts so far in the box b -/
structure RunStC (w wr : World) (b : Nat) (vc vr vk : Value) (h : Hp) (ct : List Int) : Prop where
  own : ∃ rvs, OwnCt wr (w.heap.size + 1) vc vr vk rvs h ct ∧ Apart (some b) (vc :: vr :: vk :: rvs)
  box : Rw wr b 34 #[vc, vr, vk]
  res : Rw wr w.heap.size 34 #[.slice none 0 0, .slice none 0 0, .slice none 0 0]
  bel : Below w.heap.size w wr
  lo : w.heap.size + 1 ≤ b
theorem RunStC.next {w wr w5 : World} {b : Nat} {vc vr vk vc' vr' vk' : Value} {h h' : Hp} {ct ct' : List Int} (S : RunStC w wr b vc vr vk h ct) (B : Below wr.heap.size wr w5) (o : OwnC w5 wr.heap.size vc' vr' vk' h' ct') :
    RunStC w (((w5.setCell ⟨b, 0, none⟩ vc').setCell ⟨b, 1, none⟩ vr').setCell ⟨b, 2, none⟩ vk') b vc' vr' vk' h' ct' := by
  have hb := S.box.lt
  have hlo := S.lo
  obtain ⟨rvs, own⟩ := o
  have ap : Apart (some b) (vc' :: vr' :: vk' :: rvs) := own.apart_below hb
  have x1 := S.box.keep B hb
  have x2 := S.res.keep B S.res.lt
  refine ⟨⟨rvs, (((own.put ap 0 vc').put ap 1 vr').put ap 2 vk').base (by omega), ap⟩, ((x1.put 0 vc').put 1 vr').put 2 vk', ((x2.other (by omega) _).other (by omega) _).other (by omega) _, ?_, hlo⟩
  exact (((S.bel.trans (B.mono S.bel.size)).setCell (p := ⟨b, 0, none⟩) (by show w.heap.size ≤ b; omega) _).setCell (p := ⟨b, 1, none⟩) (by show w.heap.size ≤ b; omega) _).setCell (p := ⟨b, 2, none⟩) (by show w.heap.size ≤ b; omega) _
set_option maxRecDepth 100000 in
set_option maxHeartbeats 4000000 in
theorem mRunCounted_any (A : Option Addr) (n c : Nat) (l : List Cm) (w : World) (h : MS w w.heap.size A n l) (hn : n ≤ 1099511627776) :
    Calls Tryd.prog 24 #[.slice A n c] w (GaveCt w (Hps.runCt l).1 (Hps.runCt l).2) := by
  have b1 : Below w.heap.size w (w.alloc (.cells #[.slice none 0 0, .slice none 0 0, .slice none 0 0] 34)) := (Below.refl _ _).alloc (Nat.le_refl _) _
  have m1 := h.up b1
  have q3 := Rw.new w 34 #[.slice none 0 0, .slice none 0 0, .slice none 0 0]
  go_enter Tryd.func24, Tryd.ntmps24
  go_wp2_with fail
  refine (mCommandsValid_any _ _ _ l _ m1 hn).mono ?_
  rintro e w1 ⟨rfl, b2⟩
  replace q3 := q3.keep b2 q3.lt
  replace b1 := b1.trans (b2.mono b1.size)
  clear m1 b2
  cases hv : Hps.okCms l
  · have HF := Lib.hid (show Hps.runCt l = (Hps.zeroH, []) by rw [Hps.runCt, if_neg (by rw [hv]; simp)])
    have r2 : w1.frozen? ⟨w.heap.size, 0, none⟩ = false := q3.frozen 0
    have r3 : w1.frozen? ⟨w.heap.size, 1, none⟩ = false := q3.frozen 1
    have r4 : w1.frozen? ⟨w.heap.size, 2, none⟩ = false := q3.frozen 2
    have r5 : w1.cell? ⟨w.heap.size, 0, none⟩ = some (.slice none 0 0) := q3.cell 0
    have r6 : w1.cell? ⟨w.heap.size, 1, none⟩ = some (.slice none 0 0) := q3.cell 1
    have r7 : w1.cell? ⟨w.heap.size, 2, none⟩ = some (.slice none 0 0) := q3.cell 2
    have q4 := ((q3.put 0 (.slice none 0 0)).put 1 (.slice none 0 0)).put 2 (.slice none 0 0)
    have r8 : (((w1.setCell ⟨w.heap.size, 0, none⟩ (.slice none 0 0)).setCell ⟨w.heap.size, 1, none⟩ (.slice none 0 0)).setCell ⟨w.heap.size, 2, none⟩ (.slice none 0 0)).cell? ⟨w.heap.size, 0, none⟩ = some (.slice none 0 0) := q4.cell 0
    have r9 : (((w1.setCell ⟨w.heap.size, 0, none⟩ (.slice none 0 0)).setCell ⟨w.heap.size, 1, none⟩ (.slice none 0 0)).setCell ⟨w.heap.size, 2, none⟩ (.slice none 0 0)).cell? ⟨w.heap.size, 1, none⟩ = some (.slice none 0 0) := q4.cell 1
    have r10 : (((w1.setCell ⟨w.heap.size, 0, none⟩ (.slice none 0 0)).setCell ⟨w.heap.size, 1, none⟩ (.slice none 0 0)).setCell ⟨w.heap.size, 2, none⟩ (.slice none 0 0)).cell? ⟨w.heap.size, 2, none⟩ = some (.slice none 0 0) := q4.cell 2
    have D := Lib.hid (OwnC.out (own_zeroC w1 w1.heap.size (Nat.le_refl _)) q3.lt b1 (Nat.le_refl _))
    clear q3 q4 b1 hv
    go_wp2_with fail
    exact bodyPost_ret (v := .agg #[.slice none 0 0, .slice none 0 0, .slice none 0 0]) (by simp [results, Tryd.results24, go_sem, *]) rfl ⟨_, _, _, rfl, by rw [HF.out]; exact D.out.1, D.out.2⟩
  have HF := Lib.hid (show Hps.runCt l = Hps.runCtFrom (Hps.emptyH, []) l by rw [Hps.runCt, if_pos hv])
  have HV := Lib.hid ((Hps.okCms_iff.1 hv).1)
  clear hv
  go_wp2_with fail
  refine (mEmptyHeap_any _).mono ?_
  rintro e w2 ⟨vc, vr, rfl, own, b2⟩
  have hsz : w.heap.size + 1 ≤ w1.heap.size := q3.lt
  replace q3 := q3.keep b2 q3.lt
  have hsz2 := b2.size
  obtain ⟨Ac, cc, Rc, dc, rfl, rfl, -⟩ := own.form
  have b3 := b1.trans (b2.mono b1.size)
  obtain ⟨rvs, own3⟩ := OwnC.new own b2.size
  have hq := Rw.new (w2.alloc (.cells #[] 3)) 34 #[.slice Ac Hps.emptyH.cs.length cc, .slice Rc Hps.emptyH.rt.length dc, .slice (some ⟨w2.heap.size, 0, none⟩) 0 0]
  have S0 : RunStC w ((w2.alloc (.cells #[] 3)).alloc (.cells #[.slice Ac Hps.emptyH.cs.length cc, .slice Rc Hps.emptyH.rt.length dc, .slice (some ⟨w2.heap.size, 0, none⟩) 0 0] 34)) (w2.alloc (.cells #[] 3)).heap.size (.slice Ac Hps.emptyH.cs.length cc) (.slice Rc Hps.emptyH.rt.length dc) (.slice (some ⟨w2.heap.size, 0, none⟩) 0 0) Hps.emptyH [] :=
    ⟨⟨rvs, (own3.base (bs' := w.heap.size + 1) hsz).below ((Below.refl _ _).alloc (Nat.le_refl _) _) (Nat.le_refl _), own3.apart_new (Nat.le_refl _)⟩, hq, (q3.alloc _).alloc _, (b3.alloc b3.size _).alloc (by simp; omega) _, by simp; omega⟩
  clear hq own3 own q3 b2 b3 rvs
  go_upto_region 4 with fail
  have hw2 : (w2.alloc (.cells #[] 3)).heap.size = w2.heap.size + 1 := by simp
  rw [hw2] at S0
  generalize hw3 : (w2.alloc (.cells #[] 3)).alloc (.cells #[.slice Ac Hps.emptyH.cs.length cc, .slice Rc Hps.emptyH.rt.length dc, .slice (some ⟨w2.heap.size, 0, none⟩) 0 0] 34) = w3 at S0 ⊢
  clear hw3 hw2
  obtain ⟨k0, hk0⟩ : ∃ k0, (Value.slice (some ⟨w2.heap.size, 0, none⟩) 0 0) = .slice k0 0 0 := ⟨_, rfl⟩
  rw [hk0] at S0
  clear hk0
  obtain ⟨b, hb⟩ : ∃ b, w2.heap.size + 1 = b := ⟨_, rfl⟩
  rw [hb] at S0 ⊢
  clear hb hsz hsz2 b1 w1
  go_wp2_with fail
  go_loopw [4] (fun i wr => ∃ (k : Nat) (A1 : Option Addr) (c1 : Nat) (R1 : Option Addr) (d1 : Nat) (K1 : Option Addr) (q1 : Nat) (hh : Hp) (ct : List Int), k ≤ n ∧ i = .int .i64 k ∧ (hh, ct) = Hps.runCtFrom (Hps.emptyH, []) (l.take k) ∧ Hps.okCt hh ct = true ∧ RunStC w wr b (.slice A1 hh.cs.length c1) (.slice R1 hh.rt.length d1) (.slice K1 ct.length q1) hh ct) (fun i _ => n - (intOf i).toNat)
  case atStart => exact ⟨0, Ac, cc, Rc, dc, k0, 0, Hps.emptyH, [], by omega, rfl, by simp [Hps.runCtFrom], Hps.empty_ok, S0⟩
  case round =>
    clear S0
    obtain ⟨k, A1, c1, R1, d1, K1, q1, hh, ct, hk, rfl, hhe, hhv, S⟩ := hrel
    have hlo := S.lo
    have x0 : wr.cell? ⟨b, 0, none⟩ = some (.slice A1 hh.cs.length c1) := S.box.cell 0
    have x1 : wr.cell? ⟨b, 1, none⟩ = some (.slice R1 hh.rt.length d1) := S.box.cell 1
    have x2 : wr.cell? ⟨b, 2, none⟩ = some (.slice K1 ct.length q1) := S.box.cell 2
    have hml := h.1
    by_cases hlt : k < n
    · obtain ⟨g, o, x, rfl, hg, hx, c0, c1', c2, c3⟩ := (h.below S.bel).at_ hlt
      have hlt' : (k : Int) < n := by omega
      obtain ⟨h2, hh2⟩ : ∃ h2, (Hps.stepCt hh ct x).1.1 = h2 := ⟨_, rfl⟩
      obtain ⟨l2, hl2⟩ : ∃ l2, (Hps.stepCt hh ct x).1.2 = l2 := ⟨_, rfl⟩
      obtain ⟨ok, hok⟩ : ∃ ok, (Hps.stepCt hh ct x).2 = ok := ⟨_, rfl⟩
      have HX := Lib.hid hx
      have HNX := Lib.hid (show (h2, l2) = Hps.runCtFrom (Hps.emptyH, []) (l.take (k + 1)) by
        rw [List.take_add_one, HX.out, Option.toList, Hps.runCtFrom_snoc, ← hhe, ← hh2, ← hl2])
      have HVX := Lib.hid (show Hps.okCt h2 l2 = true by rw [← hh2, ← hl2]; exact Hps.stepCt_ok hhv (HV.out x (List.mem_of_getElem? HX.out)))
      have hn40 := (Hps.valid_iff.1 (Hps.okCt_iff.1 hhv).1).2.1
      have hm4 := (Hps.valid_iff.1 (Hps.okCt_iff.1 hhv).1).2.2.1
      have hp40 : ct.length ≤ 40 := by rw [(Hps.okCt_iff.1 hhv).2, Hps.counts_len]; exact hn40
      have CALL := Lib.hid (fun (ww : World) (hB : Below wr.heap.size wr ww) => by
        obtain ⟨rvs, own, _⟩ := S.own
        have own2 := own.below hB (Nat.le_refl _)
        have := mStepCounted_any A1 R1 K1 hh.cs.length c1 hh.rt.length d1 ct.length q1 hh ct x ww own2.heap.reads own2.cnts.reads (by omega) (by omega) (by omega)
        rw [hh2, hl2, hok] at this
        exact this)
      have SS := Lib.hid S
      clear S hx hhe hhv hh2 hl2 hok hn40 hm4 hp40 hml
      go_wp2_with fail
      refine wp_region_inv (by kernel_rfl) (by kernel_rfl) (fun L ac ww => ∃ t5 t6 t20 t21 t22 t23 t24 t25 t26 t27 t28 : Value, ac = { tmps := #[Value.slice (some { block := g, off := o }) n c, undef, Value.pointer (some { block := w.heap.size, off := 0 }), Value.pointer (some { block := b, off := 0 }), Value.int IntKind.i64 ↑k, t5, t6, Value.slice (some { block := g, off := o }) n c, Value.bool true, Value.bool false, undef, Value.agg #[Value.slice Ac Hps.emptyH.cs.length cc, Value.slice Rc Hps.emptyH.rt.length dc], Value.slice (some { block := w2.heap.size, off := 0 }) 0 0, Value.agg #[Value.slice Ac Hps.emptyH.cs.length cc, Value.slice Rc Hps.emptyH.rt.length dc, Value.slice (some { block := w2.heap.size, off := 0 }) 0 0], Value.int IntKind.i64 ↑k, Value.slice (some { block := g, off := o }) n c, Value.int IntKind.i64 ↑n, Value.bool true, u18, u19, t20, t21, t22, t23, t24, t25, t26, t27, t28, u29, undef], defers := [] } ∧ (Below wr.heap.size wr ww) ∧ (L 10 = true → L 9 = true) ∧ (L 6 = true → L 5 = true) ∧ (L 7 = true → L 5 = true) ∧ (L 0 = true → t21 = .agg #[(.slice A1 hh.cs.length c1), (.slice R1 hh.rt.length d1), (.slice K1 ct.length q1)]) ∧ (L 1 = true → t22 = .slice (some ⟨g, o, none⟩) n c) ∧ (L 2 = true → t23 = .int .i64 k) ∧ (L 3 = true → t24 = .pointer (some ⟨g, o + k * 4, none⟩)) ∧ (L 4 = true → t25 = .agg #[.int .i64 x.op, .int .i64 x.a, .int .i64 x.b, .int .i64 x.c]) ∧ (L 5 = true → ∃ (A5 : Option Addr) (n5 c5 : Nat) (R5 : Option Addr) (m5 d5 : Nat) (K5 : Option Addr) (p5 y5 : Nat), t26 = .tuple #[.agg #[.slice A5 n5 c5, .slice R5 m5 d5, .slice K5 p5 y5], .bool ok] ∧ OwnFC ww wr.heap.size t5 (L 9) (.slice A5 n5 c5) (.slice R5 m5 d5) (.slice K5 p5 y5) h2 l2) ∧ (L 6 = true → ∃ (A5 : Option Addr) (n5 c5 : Nat) (R5 : Option Addr) (m5 d5 : Nat) (K5 : Option Addr) (p5 y5 : Nat), t26 = .tuple #[.agg #[.slice A5 n5 c5, .slice R5 m5 d5, .slice K5 p5 y5], .bool ok] ∧ t20 = .tuple #[.agg #[.slice A5 n5 c5, .slice R5 m5 d5, .slice K5 p5 y5], .bool ok]) ∧ (L 7 = true → ∃ (A5 : Option Addr) (n5 c5 : Nat) (R5 : Option Addr) (m5 d5 : Nat) (K5 : Option Addr) (p5 y5 : Nat), t26 = .tuple #[.agg #[.slice A5 n5 c5, .slice R5 m5 d5, .slice K5 p5 y5], .bool ok] ∧ t27 = .agg #[.slice A5 n5 c5, .slice R5 m5 d5, .slice K5 p5 y5]) ∧ (L 8 = true → t28 = .bool ok) ∧ (L 9 = true → ∃ (g5 : Nat) (z0 z1 z2 : Value), t5 = .pointer (some ⟨g5, 0, none⟩) ∧ wr.heap.size ≤ g5 ∧ Rw ww g5 34 #[z0, z1, z2]) ∧ (L 10 = true → ∃ (g5 : Nat) (A5 : Option Addr) (n5 c5 : Nat) (R5 : Option Addr) (m5 d5 : Nat) (K5 : Option Addr) (p5 y5 : Nat), t5 = .pointer (some ⟨g5, 0, none⟩) ∧ wr.heap.size ≤ g5 ∧ Rw ww g5 34 #[.slice A5 n5 c5, .slice R5 m5 d5, .slice K5 p5 y5] ∧ OwnC ww wr.heap.size (.slice A5 n5 c5) (.slice R5 m5 d5) (.slice K5 p5 y5) h2 l2) ∧ (L 11 = true → t6 = .bool ok)) ?h0 ?hstep ?hdone
      case h0 => exact ⟨_, _, _, _, _, _, _, _, _, _, _, rfl, (Below.refl _ _).drew, fun h => absurd h Bool.false_ne_true, fun h => absurd h Bool.false_ne_true, fun h => absurd h Bool.false_ne_true, (fun h => absurd h Bool.false_ne_true), (fun h => absurd h Bool.false_ne_true), (fun h => absurd h Bool.false_ne_true), (fun h => absurd h Bool.false_ne_true), (fun h => absurd h Bool.false_ne_true), (fun h => absurd h Bool.false_ne_true), (fun h => absurd h Bool.false_ne_true), (fun h => absurd h Bool.false_ne_true), (fun h => absurd h Bool.false_ne_true), (fun h => absurd h Bool.false_ne_true), (fun h => absurd h Bool.false_ne_true), (fun h => absurd h Bool.false_ne_true)⟩
      case hstep =>
        rintro L ac ww i o ho hL hd ⟨t5, t6, t20, t21, t22, t23, t24, t25, t26, t27, t28, rfl, I0, I1, I2, I3, f0, f1, f2, f3, f4, f5, f6, f7, f8, f9, f10, f11⟩
        have hi : i < 12 := (Array.getElem?_eq_some_iff.1 ho).1
        obtain rfl | rfl | rfl | rfl | rfl | rfl | rfl | rfl | rfl | rfl | rfl | rfl : i = 0 ∨ i = 1 ∨ i = 2 ∨ i = 3 ∨ i = 4 ∨ i = 5 ∨ i = 6 ∨ i = 7 ∨ i = 8 ∨ i = 9 ∨ i = 10 ∨ i = 11 := by omega
        · obtain rfl := Option.some.inj ho
          have y0 : ww.cell? ⟨b, 0, none⟩ = some (.slice A1 hh.cs.length c1) := (I0.cell (p := ⟨b, 0, none⟩) SS.out.box.lt).trans x0
          have y1 : ww.cell? ⟨b, 1, none⟩ = some (.slice R1 hh.rt.length d1) := (I0.cell (p := ⟨b, 1, none⟩) SS.out.box.lt).trans x1
          have y2 : ww.cell? ⟨b, 2, none⟩ = some (.slice K1 ct.length q1) := (I0.cell (p := ⟨b, 2, none⟩) SS.out.box.lt).trans x2
          refine wpOp_step rfl (fun K' hK => ?_)
          go_simp
          refine hK _ _ ?_
          exact ⟨_, _, _, _, _, _, _, _, _, _, _, rfl, (I0), (fun h => by rw [upd_other (by decide)]; exact I1 (upd_ne h (by decide))), (fun h => upd_mono (I2 (upd_ne h (by decide)))), (fun h => upd_mono (I3 (upd_ne h (by decide)))), (fun _ => rfl), (kp f1), (kp f2), (kp f3), (kp f4), (fun h => by
            obtain ⟨A5, n5, c5, R5, m5, d5, K5, p5, y5, e, oo⟩ := f5 (upd_ne h (by decide))
            exact ⟨A5, n5, c5, R5, m5, d5, K5, p5, y5, e, oo.eq (upd_other (by decide))⟩), (kp f6), (kp f7), (kp f8), (kp f9), (kp f10), (kp f11)⟩
        · obtain rfl := Option.some.inj ho
          refine wpOp_step rfl (fun K' hK => ?_)
          go_simp
          refine hK _ _ ?_
          exact ⟨_, _, _, _, _, _, _, _, _, _, _, rfl, (I0), (fun h => by rw [upd_other (by decide)]; exact I1 (upd_ne h (by decide))), (fun h => upd_mono (I2 (upd_ne h (by decide)))), (fun h => upd_mono (I3 (upd_ne h (by decide)))), (kp f0), (fun _ => rfl), (kp f2), (kp f3), (kp f4), (fun h => by
            obtain ⟨A5, n5, c5, R5, m5, d5, K5, p5, y5, e, oo⟩ := f5 (upd_ne h (by decide))
            exact ⟨A5, n5, c5, R5, m5, d5, K5, p5, y5, e, oo.eq (upd_other (by decide))⟩), (kp f6), (kp f7), (kp f8), (kp f9), (kp f10), (kp f11)⟩
        · obtain rfl := Option.some.inj ho
          refine wpOp_step rfl (fun K' hK => ?_)
          go_simp
          refine hK _ _ ?_
          exact ⟨_, _, _, _, _, _, _, _, _, _, _, rfl, (I0), (fun h => by rw [upd_other (by decide)]; exact I1 (upd_ne h (by decide))), (fun h => upd_mono (I2 (upd_ne h (by decide)))), (fun h => upd_mono (I3 (upd_ne h (by decide)))), (kp f0), (kp f1), (fun _ => rfl), (kp f3), (kp f4), (fun h => by
            obtain ⟨A5, n5, c5, R5, m5, d5, K5, p5, y5, e, oo⟩ := f5 (upd_ne h (by decide))
            exact ⟨A5, n5, c5, R5, m5, d5, K5, p5, y5, e, oo.eq (upd_other (by decide))⟩), (kp f6), (kp f7), (kp f8), (kp f9), (kp f10), (kp f11)⟩
        · obtain rfl := Option.some.inj ho
          have g1 := f1 (hd ⟨1, .data⟩ (by simp) rfl)
          have g2 := f2 (hd ⟨2, .data⟩ (by simp) rfl)
          subst g1
          subst g2
          refine wpOp_step rfl (fun K' hK => ?_)
          go_simp
          refine hK _ _ ?_
          exact ⟨_, _, _, _, _, _, _, _, _, _, _, rfl, (I0), (fun h => by rw [upd_other (by decide)]; exact I1 (upd_ne h (by decide))), (fun h => upd_mono (I2 (upd_ne h (by decide)))), (fun h => upd_mono (I3 (upd_ne h (by decide)))), (kp f0), (kp f1), (kp f2), (fun _ => rfl), (kp f4), (fun h => by
            obtain ⟨A5, n5, c5, R5, m5, d5, K5, p5, y5, e, oo⟩ := f5 (upd_ne h (by decide))
            exact ⟨A5, n5, c5, R5, m5, d5, K5, p5, y5, e, oo.eq (upd_other (by decide))⟩), (kp f6), (kp f7), (kp f8), (kp f9), (kp f10), (kp f11)⟩
        · obtain rfl := Option.some.inj ho
          have g3 := f3 (hd ⟨3, .data⟩ (by simp) rfl)
          subst g3
          have y0 : ww.cell? ⟨g, o + k * 4, none⟩ = some (.int .i64 x.op) := (I0.cell (p := ⟨g, o + k * 4, none⟩) (Nat.lt_of_lt_of_le hg SS.out.bel.size)).trans c0
          have y1 : ww.cell? ⟨g, o + k * 4 + 1, none⟩ = some (.int .i64 x.a) := (I0.cell (p := ⟨g, o + k * 4 + 1, none⟩) (Nat.lt_of_lt_of_le hg SS.out.bel.size)).trans c1'
          have y2 : ww.cell? ⟨g, o + k * 4 + 2, none⟩ = some (.int .i64 x.b) := (I0.cell (p := ⟨g, o + k * 4 + 2, none⟩) (Nat.lt_of_lt_of_le hg SS.out.bel.size)).trans c2
          have y3 : ww.cell? ⟨g, o + k * 4 + 3, none⟩ = some (.int .i64 x.c) := (I0.cell (p := ⟨g, o + k * 4 + 3, none⟩) (Nat.lt_of_lt_of_le hg SS.out.bel.size)).trans c3
          refine wpOp_step rfl (fun K' hK => ?_)
          go_simp
          refine hK _ _ ?_
          exact ⟨_, _, _, _, _, _, _, _, _, _, _, rfl, (I0), (fun h => by rw [upd_other (by decide)]; exact I1 (upd_ne h (by decide))), (fun h => upd_mono (I2 (upd_ne h (by decide)))), (fun h => upd_mono (I3 (upd_ne h (by decide)))), (kp f0), (kp f1), (kp f2), (kp f3), (fun _ => rfl), (fun h => by
            obtain ⟨A5, n5, c5, R5, m5, d5, K5, p5, y5, e, oo⟩ := f5 (upd_ne h (by decide))
            exact ⟨A5, n5, c5, R5, m5, d5, K5, p5, y5, e, oo.eq (upd_other (by decide))⟩), (kp f6), (kp f7), (kp f8), (kp f9), (kp f10), (kp f11)⟩
        · obtain rfl := Option.some.inj ho
          have g0 := f0 (hd ⟨0, .data⟩ (by simp) rfl)
          have g4 := f4 (hd ⟨4, .data⟩ (by simp) rfl)
          subst g0
          subst g4
          refine wpOp_step rfl (fun K' hK => ?_)
          go_simp
          refine (CALL.out ww I0).mono ?_
          rintro e w' ⟨v1, v2, v3, rfl, oh, b5⟩
          obtain ⟨A5, n5, c5, R5, m5, d5, K5, p5, y5, rfl, rfl, rfl⟩ := oh.slices
          have hsz := I0.size
          refine hK _ _ ?_
          exact ⟨_, _, _, _, _, _, _, _, _, _, _, rfl, (I0.trans (b5.mono I0.size)), (fun h => by rw [upd_other (by decide)]; exact I1 (upd_ne h (by decide))), (fun h => upd_mono (I2 (upd_ne h (by decide)))), (fun h => upd_mono (I3 (upd_ne h (by decide)))), (kp f0), (kp f1), (kp f2), (kp f3), (kp f4), (fun _ => ⟨A5, n5, c5, R5, m5, d5, K5, p5, y5, rfl, OwnFC.baseC hsz oh (fun g5 hl e => by
            obtain ⟨g6, z0, z1, z2, e', hg5, hz⟩ := f9 (by rw [upd_other (by decide)] at hl; exact hl)
            rw [e'] at e
            injection e with e
            injection e with e
            injection e with e
            rw [← e]
            exact hz.lt) ⟩), (fun h => absurd (I2 (upd_ne h (by decide))) (by rw [hL]; simp)), (fun h => absurd (I3 (upd_ne h (by decide))) (by rw [hL]; simp)), (kp f8), (fun h => by
            obtain ⟨g5, z0, z1, z2, e, hg5, hz⟩ := f9 (upd_ne h (by decide))
            exact ⟨g5, z0, z1, z2, e, hg5, hz.keep b5 hz.lt⟩), (fun h => by
            obtain ⟨g5, A5, n5, c5, R5, m5, d5, K5, p5, y5, e, hg5, hz, oo⟩ := f10 (upd_ne h (by decide))
            exact ⟨g5, A5, n5, c5, R5, m5, d5, K5, p5, y5, e, hg5, hz.keep b5 hz.lt, oo.below b5 (Nat.le_refl _)⟩), (kp f11)⟩
        · obtain rfl := Option.some.inj ho
          have g5 := f5 (hd ⟨5, .data⟩ (by simp) rfl)
          obtain ⟨A5, n5, c5, R5, m5, d5, K5, p5, y5, rfl, o5⟩ := g5
          refine wpOp_step rfl (fun K' hK => ?_)
          go_simp
          refine hK _ _ ?_
          exact ⟨_, _, _, _, _, _, _, _, _, _, _, rfl, (I0), (fun h => by rw [upd_other (by decide)]; exact I1 (upd_ne h (by decide))), (fun _ => upd_mono (hd ⟨5, .data⟩ (by simp) rfl)), (fun h => upd_mono (I3 (upd_ne h (by decide)))), (kp f0), (kp f1), (kp f2), (kp f3), (kp f4), (fun h => by
            obtain ⟨A5, n5, c5, R5, m5, d5, K5, p5, y5, e, oo⟩ := f5 (upd_ne h (by decide))
            exact ⟨A5, n5, c5, R5, m5, d5, K5, p5, y5, e, oo.eq (upd_other (by decide))⟩), (fun _ => ⟨_, _, _, _, _, _, _, _, _, rfl, rfl⟩), (kp f7), (kp f8), (kp f9), (kp f10), (kp f11)⟩
        · obtain rfl := Option.some.inj ho
          have g6 := f6 (hd ⟨6, .data⟩ (by simp) rfl)
          obtain ⟨A5, n5, c5, R5, m5, d5, K5, p5, y5, rfl, rfl⟩ := g6
          refine wpOp_step rfl (fun K' hK => ?_)
          go_simp
          refine hK _ _ ?_
          exact ⟨_, _, _, _, _, _, _, _, _, _, _, rfl, (I0), (fun h => by rw [upd_other (by decide)]; exact I1 (upd_ne h (by decide))), (fun h => upd_mono (I2 (upd_ne h (by decide)))), (fun _ => upd_mono (I2 (hd ⟨6, .data⟩ (by simp) rfl))), (kp f0), (kp f1), (kp f2), (kp f3), (kp f4), (fun h => by
            obtain ⟨A5, n5, c5, R5, m5, d5, K5, p5, y5, e, oo⟩ := f5 (upd_ne h (by decide))
            exact ⟨A5, n5, c5, R5, m5, d5, K5, p5, y5, e, oo.eq (upd_other (by decide))⟩), (kp f6), (fun _ => ⟨_, _, _, _, _, _, _, _, _, rfl, rfl⟩), (kp f8), (kp f9), (kp f10), (kp f11)⟩
        · obtain rfl := Option.some.inj ho
          have g6 := f6 (hd ⟨6, .data⟩ (by simp) rfl)
          obtain ⟨A5, n5, c5, R5, m5, d5, K5, p5, y5, rfl, rfl⟩ := g6
          refine wpOp_step rfl (fun K' hK => ?_)
          go_simp
          refine hK _ _ ?_
          exact ⟨_, _, _, _, _, _, _, _, _, _, _, rfl, (I0), (fun h => by rw [upd_other (by decide)]; exact I1 (upd_ne h (by decide))), (fun h => upd_mono (I2 (upd_ne h (by decide)))), (fun h => upd_mono (I3 (upd_ne h (by decide)))), (kp f0), (kp f1), (kp f2), (kp f3), (kp f4), (fun h => by
            obtain ⟨A5, n5, c5, R5, m5, d5, K5, p5, y5, e, oo⟩ := f5 (upd_ne h (by decide))
            exact ⟨A5, n5, c5, R5, m5, d5, K5, p5, y5, e, oo.eq (upd_other (by decide))⟩), (kp f6), (kp f7), (fun _ => rfl), (kp f9), (kp f10), (kp f11)⟩
        · obtain rfl := Option.some.inj ho
          refine wpOp_step rfl (fun K' hK => ?_)
          go_simp
          refine hK _ _ ?_
          exact ⟨_, _, _, _, _, _, _, _, _, _, _, rfl, (I0.alloc I0.size _), (fun _ => upd_self), (fun h => upd_mono (I2 (upd_ne h (by decide)))), (fun h => upd_mono (I3 (upd_ne h (by decide)))), (kp f0), (kp f1), (kp f2), (kp f3), (kp f4), (fun h => by
            obtain ⟨A5, n5, c5, R5, m5, d5, K5, p5, y5, e, oo⟩ := f5 (upd_ne h (by decide))
            exact ⟨A5, n5, c5, R5, m5, d5, K5, p5, y5, e, oo.alloc _⟩), (kp f6), (kp f7), (kp f8), (fun _ => ⟨ww.heap.size, _, _, _, rfl, I0.size, Rw.new _ _ _⟩), (fun h => absurd (I1 (upd_ne h (by decide))) (by rw [hL]; simp)), (kp f11)⟩
        · obtain rfl := Option.some.inj ho
          have g7 := f7 (hd ⟨7, .data⟩ (by simp) rfl)
          have g9 := f9 (hd ⟨9, .data⟩ (by simp) rfl)
          have g5 := f5 (hd ⟨5, .chain⟩ (by simp) rfl)
          have hL9 := hd ⟨9, .data⟩ (by simp) rfl
          obtain ⟨q5, z0, z1, z2, rfl, hq5, hz⟩ := g9
          obtain ⟨A5, n5, c5, R5, m5, d5, K5, p5, y5, rfl, rfl⟩ := g7
          obtain ⟨A6, n6, c6, R6, m6, d6, K6, p6, y6, e6, oo⟩ := g5
          injection e6 with e6
          simp at e6
          obtain ⟨⟨rfl, rfl, rfl⟩, ⟨rfl, rfl, rfl⟩, rfl, rfl, rfl⟩ := e6
          have u0 := hz.cell 0
          have u1 := hz.cell 1
          have u2 := hz.frozen 0
          have u3 := hz.frozen 1
          have u4 := hz.cell 2
          have u5 := hz.frozen 2
          simp at u0 u1 u4
          refine wpOp_step rfl (fun K' hK => ?_)
          go_simp
          refine hK _ _ ?_
          exact ⟨_, _, _, _, _, _, _, _, _, _, _, rfl, (((I0.setCell (p := ⟨q5, 0, none⟩) hq5 _).setCell (p := ⟨q5, 1, none⟩) hq5 _).setCell (p := ⟨q5, 2, none⟩) hq5 _), (fun _ => by rw [upd_other (by decide)]; exact hL9), (fun h => upd_mono (I2 (upd_ne h (by decide)))), (fun h => upd_mono (I3 (upd_ne h (by decide)))), (kp f0), (kp f1), (kp f2), (kp f3), (kp f4), (fun h => ⟨_, _, _, _, _, _, _, _, _, rfl, (oo.put hL9 _ _ _).eq (upd_other (by decide))⟩), (kp f6), (kp f7), (kp f8), (fun h => ⟨_, _, _, _, rfl, hq5, ((hz.put 0 _).put 1 _).put 2 _⟩), (fun _ => ⟨_, _, _, _, _, _, _, _, _, _, rfl, hq5, ((hz.put 0 _).put 1 _).put 2 _, (oo.put hL9 _ _ _).own⟩), (kp f11)⟩
        · obtain rfl := Option.some.inj ho
          have g8 := f8 (hd ⟨8, .data⟩ (by simp) rfl)
          subst g8
          refine wpOp_step rfl (fun K' hK => ?_)
          go_simp
          refine hK _ _ ?_
          exact ⟨_, _, _, _, _, _, _, _, _, _, _, rfl, (I0), (fun h => by rw [upd_other (by decide)]; exact I1 (upd_ne h (by decide))), (fun h => upd_mono (I2 (upd_ne h (by decide)))), (fun h => upd_mono (I3 (upd_ne h (by decide)))), (kp f0), (kp f1), (kp f2), (kp f3), (kp f4), (fun h => by
            obtain ⟨A5, n5, c5, R5, m5, d5, K5, p5, y5, e, oo⟩ := f5 (upd_ne h (by decide))
            exact ⟨A5, n5, c5, R5, m5, d5, K5, p5, y5, e, oo.eq (upd_other (by decide))⟩), (kp f6), (kp f7), (kp f8), (kp f9), (kp f10), (fun _ => rfl)⟩
      case hdone =>
        rintro L ac ww hall ⟨t5, t6, t20, t21, t22, t23, t24, t25, t26, t27, t28, rfl, I0, I1, I2, I3, f0, f1, f2, f3, f4, f5, f6, f7, f8, f9, f10, f11⟩
        have e0 := f0 (hall 0 (by decide))
        have e1 := f1 (hall 1 (by decide))
        have e2 := f2 (hall 2 (by decide))
        have e3 := f3 (hall 3 (by decide))
        have e4 := f4 (hall 4 (by decide))
        have e5 := f5 (hall 5 (by decide))
        have e6 := f6 (hall 6 (by decide))
        have e7 := f7 (hall 7 (by decide))
        have e8 := f8 (hall 8 (by decide))
        have e9 := f9 (hall 9 (by decide))
        have e10 := f10 (hall 10 (by decide))
        have e11 := f11 (hall 11 (by decide))
        clear f0 f1 f2 f3 f4 f5 f6 f7 f8 f9 f10 f11
        obtain ⟨g5, A5, n5, c5, R5, m5, d5, K5, p5, y5, rfl, hg5, hz, oo⟩ := e10
        obtain ⟨nn, hnn⟩ : ∃ nn, h2.cs.length = nn := ⟨_, rfl⟩
        obtain ⟨mm, hmm⟩ : ∃ mm, h2.rt.length = mm := ⟨_, rfl⟩
        obtain ⟨pp, hpp⟩ : ∃ pp, l2.length = pp := ⟨_, rfl⟩
        obtain ⟨Ax, cx, Rx, dx, Kx, yx, ex1, ex2, ex3⟩ := oo.choose_spec.slices
        injection ex1 with ea1 ea2 ea3
        injection ex2 with eb1 eb2 eb3
        injection ex3 with ec1 ec2 ec3
        subst ea1 ea2 ea3 eb1 eb2 eb3 ec1 ec2 ec3
        have NX := SS.out.next I0 oo
        have z0 := hz.cell 0
        have z1 := hz.cell 1
        have z2 := hz.cell 2
        simp at z0 z1 z2
        have f0 : ww.frozen? ⟨b, 0, none⟩ = false := (SS.out.box.keep I0 SS.out.box.lt).frozen 0
        have f1 : ww.frozen? ⟨b, 1, none⟩ = false := (SS.out.box.keep I0 SS.out.box.lt).frozen 1
        have f2 : ww.frozen? ⟨b, 2, none⟩ = false := (SS.out.box.keep I0 SS.out.box.lt).frozen 2
        have x0' : ww.cell? ⟨b, 0, none⟩ = some (.slice A1 hh.cs.length c1) := (SS.out.box.keep I0 SS.out.box.lt).cell 0
        have x1' : ww.cell? ⟨b, 1, none⟩ = some (.slice R1 hh.rt.length d1) := (SS.out.box.keep I0 SS.out.box.lt).cell 1
        have x2' : ww.cell? ⟨b, 2, none⟩ = some (.slice K1 ct.length q1) := (SS.out.box.keep I0 SS.out.box.lt).cell 2
        clear e0 e1 e2 e3 e4 e5 e6 e7 e8 e9 e11 I1 I2 I3 hz oo hnn hmm hpp x0 x1 x2 c0 c1' c2 c3
        go_wp2_with fail
        go_roundw
        case rel => exact ⟨k + 1, A5, c5, R5, d5, K5, y5, h2, l2, by omega, by go_num, HNX.out, HVX.out, NX⟩
        case measure => simp [intOf]; omega
    · obtain rfl : k = n := by omega
      have HE := Lib.hid (show Hps.runCt l = (hh, ct) by rw [HF.out, hhe, List.take_of_length_le (by omega)])
      obtain ⟨nn, hnn⟩ : ∃ nn, hh.cs.length = nn := ⟨_, rfl⟩
      obtain ⟨mm, hmm⟩ : ∃ mm, hh.rt.length = mm := ⟨_, rfl⟩
      obtain ⟨pp, hpp⟩ : ∃ pp, ct.length = pp := ⟨_, rfl⟩
      rw [hnn, hmm, hpp] at S
      rw [hnn] at x0
      rw [hmm] at x1
      rw [hpp] at x2
      have r2 : wr.frozen? ⟨w.heap.size, 0, none⟩ = false := S.res.frozen 0
      have r3 : wr.frozen? ⟨w.heap.size, 1, none⟩ = false := S.res.frozen 1
      have r4 : wr.frozen? ⟨w.heap.size, 2, none⟩ = false := S.res.frozen 2
      have r5 : wr.cell? ⟨w.heap.size, 0, none⟩ = some (.slice none 0 0) := S.res.cell 0
      have r6 : wr.cell? ⟨w.heap.size, 1, none⟩ = some (.slice none 0 0) := S.res.cell 1
      have r7 : wr.cell? ⟨w.heap.size, 2, none⟩ = some (.slice none 0 0) := S.res.cell 2
      have q4 := ((S.res.put 0 (.slice A1 nn c1)).put 1 (.slice R1 mm d1)).put 2 (.slice K1 pp q1)
      have r8 : (((wr.setCell ⟨w.heap.size, 0, none⟩ (.slice A1 nn c1)).setCell ⟨w.heap.size, 1, none⟩ (.slice R1 mm d1)).setCell ⟨w.heap.size, 2, none⟩ (.slice K1 pp q1)).cell? ⟨w.heap.size, 0, none⟩ = some (.slice A1 nn c1) := q4.cell 0
      have r9 : (((wr.setCell ⟨w.heap.size, 0, none⟩ (.slice A1 nn c1)).setCell ⟨w.heap.size, 1, none⟩ (.slice R1 mm d1)).setCell ⟨w.heap.size, 2, none⟩ (.slice K1 pp q1)).cell? ⟨w.heap.size, 1, none⟩ = some (.slice R1 mm d1) := q4.cell 1
      have r10 : (((wr.setCell ⟨w.heap.size, 0, none⟩ (.slice A1 nn c1)).setCell ⟨w.heap.size, 1, none⟩ (.slice R1 mm d1)).setCell ⟨w.heap.size, 2, none⟩ (.slice K1 pp q1)).cell? ⟨w.heap.size, 2, none⟩ = some (.slice K1 pp q1) := q4.cell 2
      have D := Lib.hid (by
        obtain ⟨rvs, own, _⟩ := S.own
        exact OwnC.out (w := w) (g := w.heap.size) ⟨rvs, own⟩ (by omega) S.bel (Nat.le_refl _))
      clear S hhe hhv hnn hmm hpp hml q4
      go_wp2_with fail
      exact bodyPost_ret (v := .agg #[.slice A1 nn c1, .slice R1 mm d1, .slice K1 pp q1]) (by simp [results, Tryd.results24, go_sem, *]) rfl ⟨_, _, _, rfl, by rw [HE.out]; exact D.out.1, D.out.2⟩
end Go.Proofs.YtfgdenmlfloloaaDoor

namespace Go.Proofs.YtfgdenmlfloloaaDoor
open Go.RowKit
set_option maxRecDepth 100000
theorem upd_keep {L : Nat → Bool} {i k : Nat} (h : L k = true) : upd L i k = true := by
  unfold upd
  split
  · rfl
  · exact h
abbrev cmCs (o : Cm) : Array Value := #[.int .i64 o.op, .int .i64 o.a, .int .i64 o.b, .int .i64 o.c]
/-- what is known while an instruction is drawn: it lies in the box b, the reader in gr -/
structure CmSt (w wr : World) (gr N b : Nat) (o : Cm) : Prop where
  rd : Rd wr gr N
  grown : w.grownBy wr (some gr)
  box : Rw wr b 36 (cmCs o)
  res : Rw wr w.heap.size 36 (cmCs ⟨0, 0, 0, 0⟩)
  lo : w.heap.size < b
  old : gr < w.heap.size
section
variable {w wr w' : World} {gr N b : Nat} {o : Cm}
theorem CmSt.pick (S : CmSt w wr gr N b o) (hr : Rd w' gr (N + 1)) (hg : wr.grownBy w' (some gr)) : CmSt w w' gr (N + 1) b o := by
  have h1 := S.lo
  have h2 := S.old
  exact ⟨hr, World.grownBy.trans S.grown hg, S.box.far hg (fun e => by injection e with e; omega), S.res.far hg (fun e => by injection e with e; omega), h1, h2⟩
theorem CmSt.alloc (S : CmSt w wr gr N b o) (ob : Obj) : CmSt w (wr.alloc ob) gr N b o :=
  ⟨S.rd.below ((Below.refl wr.heap.size wr).alloc (Nat.le_refl _) ob) S.rd.lt, World.grownBy.trans S.grown (World.grownBy_alloc wr ob _), S.box.alloc ob, S.res.alloc ob, S.lo, S.old⟩
theorem CmSt.more {N' : Nat} (S : CmSt w wr gr N b o) (h : N ≤ N') : CmSt w wr gr N' b o := ⟨S.rd.more h, S.grown, S.box, S.res, S.lo, S.old⟩
theorem CmSt.put (S : CmSt w wr gr N b o) (i : Nat) (u : Value) {o' : Cm} (h : (cmCs o).setIfInBounds i u = cmCs o') : CmSt w (wr.setCell ⟨b, i, none⟩ u) gr N b o' := by
  have h1 := S.lo
  have h2 := S.old
  have hb : Below b wr (wr.setCell ⟨b, i, none⟩ u) := (Below.refl b wr).setCell (p := ⟨b, i, none⟩) (Nat.le_refl _) u
  exact ⟨S.rd.below hb (by omega), grown_below S.grown (hb.mono (by omega)), h ▸ S.box.put i u, S.res.other (by omega) u, h1, h2⟩
end
/-- numbers of an instruction that is drawn -/
def SmallCm (o : Cm) : Prop := (0 ≤ o.op ∧ o.op ≤ 7) ∧ (-1 ≤ o.a ∧ o.a ≤ 4) ∧ (-1 ≤ o.b ∧ o.b ≤ 100) ∧ (-1 ≤ o.c ∧ o.c ≤ 100)
theorem small_of_ok {o : Cm} (h : Hps.okCm o = true) : SmallCm o := by
  have ha := Hps.okCm_a h
  rcases Hps.okCm_op h with e | e | e | e | e | e
  · have := (Hps.okCm_new e).1 h; exact ⟨by omega, by omega, by omega, by omega⟩
  · have := (Hps.okCm_get (.inl e)).1 h; exact ⟨by omega, by omega, by omega, by omega⟩
  · have := (Hps.okCm_get (.inr e)).1 h; exact ⟨by omega, by omega, by omega, by omega⟩
  · have := (Hps.okCm_copy e).1 h; exact ⟨by omega, by omega, by omega, by omega⟩
  · have := (Hps.okCm_drop e).1 h; exact ⟨by omega, by omega, by omega, by omega⟩
  · have := (Hps.okCm_data e).1 h; exact ⟨by omega, by omega, by omega, by omega⟩
/-- an instruction has been drawn -/
def DrewC (w : World) (gr N : Nat) (n : Int) (e : Ending) (w' : World) : Prop :=
  ∃ o : Cm, e = .returned (cmV o) ∧ (n = 0 → Hps.okCm o = true) ∧ SmallCm o ∧ Rd w' gr (N + 12) ∧ w.grownBy w' (some gr)
theorem odd_zero' (g N : Nat) (w : World) (_h : Rd w g N) : Calls Tryd.prog 92 #[.pointer (some ⟨g, 0, none⟩), .int .i64 0] w fun e w' => e = .returned (.bool false) ∧ w = w' := by
  go_enter Tryd.func92, Tryd.ntmps92
  go_wp2_with fail
  go_ret
  exact ⟨rfl, rfl⟩
/-- a number out of a table, at any index -/
theorem Tbl.two (w : World) (_gr : Nat) (t : TypeId) (x y : Int) : Rw (w.alloc (.cells #[.int .i64 x, .int .i64 y] t)) w.heap.size t #[.int .i64 x, .int .i64 y] := Rw.new _ _ _
set_option maxRecDepth 100000 in
set_option maxHeartbeats 8000000 in
theorem l20Command_any (gr N : Nat) (n : Int) (w : World) (h : Rd w gr N) (hN : N ≤ 1000000) (hn0 : 0 ≤ n) (hn : n ≤ 1000000) :
    Calls Tryd.prog 57 #[.pointer (some ⟨gr, 0, none⟩), .int .i64 n] w (DrewC w gr N n) := by
  have hgl := h.lt
  have h0 : Rd (w.alloc (.cells (cmCs ⟨0, 0, 0, 0⟩) 36)) gr N := h.below ((Below.refl w.heap.size w).alloc (Nat.le_refl _) _) hgl
  have r0 := Rw.new w 36 (cmCs ⟨0, 0, 0, 0⟩)
  have g0 : w.grownBy (w.alloc (.cells (cmCs ⟨0, 0, 0, 0⟩) 36)) (some gr) := World.grownBy_alloc _ _ _
  have z0 : w.heap.size + 1 = (w.alloc (.cells (cmCs ⟨0, 0, 0, 0⟩) 36)).heap.size := by simp
  go_enter Tryd.func57, Tryd.ntmps57
  go_upto_region 1 with fail
  generalize w.alloc (.cells (cmCs ⟨0, 0, 0, 0⟩) 36) = w0 at h0 r0 g0 z0 ⊢
  have HZ := Lib.hid z0
  clear z0
  refine wp_region_inv (by kernel_rfl) (by kernel_rfl) (fun L ac ww => ∃ t5 t6 t7 t8 t9 t10 t11 t12 t13 : Value, ac = { tmps := #[Value.pointer (some { block := gr, off := 0 }), Value.int IntKind.i64 n, undef, undef, Value.pointer (some { block := w.heap.size, off := 0 }), t5, t6, t7, t8, t9, t10, t11, t12, t13, undef, undef, undef, undef, undef, undef, undef, undef, undef, undef, undef, undef, undef, undef, undef, undef, undef, undef, undef, undef, undef, undef, undef, undef, undef, undef, undef, undef, undef, undef, undef, undef, undef, undef, undef, undef, undef, undef, undef, undef, undef, undef, undef, undef, undef, undef, undef, undef, undef, undef, undef, undef, undef, undef, undef, undef, undef, undef, undef, undef, undef, undef, undef, undef, undef, undef, undef, undef, undef, undef, undef, undef, undef, undef, undef, undef], defers := [] } ∧ (Rd ww gr (N + (L 2).toNat + (L 6).toNat)) ∧ (w0.grownBy ww (some gr)) ∧ (L 9 = true → L 6 = true) ∧ (L 9 = true → L 2 = true) ∧ (L 9 = true → L 8 = true) ∧ (L 9 = true → L 3 = true) ∧ (L 9 = true → L 4 = true) ∧ (L 0 = true → L 9 = true ∨ TblOf ww gr 10 1 6 t6) ∧ (L 1 = true → t7 = .pointer (some ⟨gr, 0, none⟩)) ∧ (L 2 = true → IntIn 0 9 t8) ∧ (L 3 = true → L 9 = true ∨ PtrOf ww gr 10 1 6 t9) ∧ (L 4 = true → IntIn 1 6 t10) ∧ (L 5 = true → t11 = .pointer (some ⟨gr, 0, none⟩)) ∧ (L 6 = true → IntIn 0 3 t12) ∧ (L 7 = true → ∃ op a : Int, t13 = .agg #[.int .i64 op, .int .i64 a, .int .i64 0, .int .i64 0] ∧ 1 ≤ op ∧ op ≤ 6 ∧ 0 ≤ a ∧ a ≤ 3) ∧ (L 8 = true → ∃ (g5 : Nat) (z0 z1 z2 z3 : Value), t5 = .pointer (some ⟨g5, 0, none⟩) ∧ w.heap.size < g5 ∧ Rw ww g5 36 #[z0, z1, z2, z3]) ∧ (L 9 = true → ∃ (g5 : Nat) (op a : Int), t5 = .pointer (some ⟨g5, 0, none⟩) ∧ CmSt w ww gr (N + 2) g5 ⟨op, a, 0, 0⟩ ∧ 1 ≤ op ∧ op ≤ 6 ∧ 0 ≤ a ∧ a ≤ 3)) ?h0 ?hstep ?hdone
  case h0 => exact ⟨_, _, _, _, _, _, _, _, _, rfl, by simpa using h0.below (Below.refl _ _).drew h0.lt, grown_below (World.grownBy.refl _ _) (Below.refl _ _).drew, fun h => absurd h Bool.false_ne_true, fun h => absurd h Bool.false_ne_true, fun h => absurd h Bool.false_ne_true, fun h => absurd h Bool.false_ne_true, fun h => absurd h Bool.false_ne_true, (fun h => absurd h Bool.false_ne_true), (fun h => absurd h Bool.false_ne_true), (fun h => absurd h Bool.false_ne_true), (fun h => absurd h Bool.false_ne_true), (fun h => absurd h Bool.false_ne_true), (fun h => absurd h Bool.false_ne_true), (fun h => absurd h Bool.false_ne_true), (fun h => absurd h Bool.false_ne_true), (fun h => absurd h Bool.false_ne_true), (fun h => absurd h Bool.false_ne_true)⟩
  case hstep =>
    rintro L ac ww i o ho hL hd ⟨t5, t6, t7, t8, t9, t10, t11, t12, t13, rfl, I0, I1, I2, I3, I4, I5, I6, f0, f1, f2, f3, f4, f5, f6, f7, f8, f9⟩
    have hi : i < 10 := (Array.getElem?_eq_some_iff.1 ho).1
    obtain rfl | rfl | rfl | rfl | rfl | rfl | rfl | rfl | rfl | rfl : i = 0 ∨ i = 1 ∨ i = 2 ∨ i = 3 ∨ i = 4 ∨ i = 5 ∨ i = 6 ∨ i = 7 ∨ i = 8 ∨ i = 9 := by omega
    · obtain rfl := Option.some.inj ho
      refine wpOp_step rfl (fun K' hK => ?_)
      go_simp
      refine hK _ _ ?_
      exact ⟨_, _, _, _, _, _, _, _, _, rfl, (by rw [upd_other (by decide), upd_other (by decide)]; exact I0.below ((Below.refl ww.heap.size ww).alloc (Nat.le_refl _) _) I0.lt), (World.grownBy.trans I1 (World.grownBy_alloc _ _ _)), (fun h => upd_keep (I2 (upd_ne h (by decide)))), (fun h => upd_keep (I3 (upd_ne h (by decide)))), (fun h => upd_keep (I4 (upd_ne h (by decide)))), (fun h => upd_keep (I5 (upd_ne h (by decide)))), (fun h => upd_keep (I6 (upd_ne h (by decide)))), (fun _ => .inr ⟨_, rfl, Tbl.new ww gr _ [1, 1, 1, 2, 3, 3, 3, 4, 5, 6] 1 6 I0.lt (by intro q hq; simp at hq; omega) _ rfl⟩), (kp f1), (kp f2), (fun h => (f3 (upd_ne h (by decide))).imp (fun e => upd_keep e) (fun T => T.alloc _)), (kp f4), (kp f5), (kp f6), (kp f7), (fun h => by
        obtain ⟨g5, z0, z1, z2, z3, e, hg5, hz⟩ := f8 (upd_ne h (by decide))
        exact ⟨g5, z0, z1, z2, z3, e, hg5, hz.alloc _⟩), (fun h => by
        obtain ⟨g5, op, a, e, S, q⟩ := f9 (upd_ne h (by decide))
        exact ⟨g5, op, a, e, S.alloc _, q⟩)⟩
    · obtain rfl := Option.some.inj ho
      refine wpOp_step rfl (fun K' hK => ?_)
      go_simp
      refine hK _ _ ?_
      exact ⟨_, _, _, _, _, _, _, _, _, rfl, (by rw [upd_other (by decide), upd_other (by decide)]; exact I0), (I1), (fun h => upd_keep (I2 (upd_ne h (by decide)))), (fun h => upd_keep (I3 (upd_ne h (by decide)))), (fun h => upd_keep (I4 (upd_ne h (by decide)))), (fun h => upd_keep (I5 (upd_ne h (by decide)))), (fun h => upd_keep (I6 (upd_ne h (by decide)))), (fun h => (f0 (upd_ne h (by decide))).imp (fun e => upd_keep e) id), (fun _ => rfl), (kp f2), (fun h => (f3 (upd_ne h (by decide))).imp (fun e => upd_keep e) id), (kp f4), (kp f5), (kp f6), (kp f7), (kp f8), (kp f9)⟩
    · obtain rfl := Option.some.inj ho
      have g1 := f1 (hd ⟨1, .data⟩ (by simp) rfl)
      subst g1
      refine wpOp_step rfl (fun K' hK => ?_)
      go_simp
      refine (pick_any gr (N + (L 2).toNat + (L 6).toNat) 10 ww I0 (by have := Bool.toNat_le (L 2); have := Bool.toNat_le (L 6); omega) (by omega)).mono ?_
      rintro e w' ⟨r, rfl, r0', r1', hr, G⟩
      refine hK _ _ ?_
      exact ⟨_, _, _, _, _, _, _, _, _, rfl, (by rw [upd_self, upd_other (by decide)]; rw [hL] at hr; exact hr.more (by simp; omega)), (World.grownBy.trans I1 G), (fun h => upd_keep (I2 (upd_ne h (by decide)))), (fun h => upd_keep (I3 (upd_ne h (by decide)))), (fun h => upd_keep (I4 (upd_ne h (by decide)))), (fun h => upd_keep (I5 (upd_ne h (by decide)))), (fun h => upd_keep (I6 (upd_ne h (by decide)))), (fun h => (f0 (upd_ne h (by decide))).imp (fun e => upd_keep e) (fun T => T.pick G)), (kp f1), (fun _ => ⟨r, rfl, r0', by omega⟩), (fun h => (f3 (upd_ne h (by decide))).imp (fun e => upd_keep e) (fun T => T.pick G)), (kp f4), (kp f5), (kp f6), (kp f7), (fun h => by
        obtain ⟨g5, z0, z1, z2, z3, e, hg5, hz⟩ := f8 (upd_ne h (by decide))
        exact ⟨g5, z0, z1, z2, z3, e, hg5, hz.far G (fun e => by injection e with e; omega)⟩), (fun h => absurd (I3 (upd_ne h (by decide))) (by rw [hL]; simp))⟩
    · obtain rfl := Option.some.inj ho
      have g0 := f0 (hd ⟨0, .data⟩ (by simp) rfl)
      have g2 := f2 (hd ⟨2, .data⟩ (by simp) rfl)
      have g0' := g0.resolve_left (fun e => absurd (I5 e) (by rw [hL]; simp))
      clear g0
      obtain ⟨g6, rfl, T6⟩ := g0'
      obtain ⟨q8, rfl, q81, q82⟩ := g2
      obtain ⟨n8, rfl⟩ := Int.eq_ofNat_of_zero_le (show 0 ≤ q8 by omega)
      have l8 : n8 < 10 := by omega
      have l8' : (n8 : Int) < 10 := by omega
      refine wpOp_step rfl (fun K' hK => ?_)
      go_simp
      refine hK _ _ ?_
      exact ⟨_, _, _, _, _, _, _, _, _, rfl, (by rw [upd_other (by decide), upd_other (by decide)]; exact I0), (I1), (fun h => upd_keep (I2 (upd_ne h (by decide)))), (fun h => upd_keep (I3 (upd_ne h (by decide)))), (fun h => upd_keep (I4 (upd_ne h (by decide)))), (fun h => upd_keep (I5 (upd_ne h (by decide)))), (fun h => upd_keep (I6 (upd_ne h (by decide)))), (fun _ => .inr ⟨g6, rfl, T6⟩), (kp f1), (fun _ => ⟨(n8 : Int), rfl, by omega, by omega⟩), (fun _ => .inr ⟨g6, n8, by simp, l8, T6⟩), (kp f4), (kp f5), (kp f6), (kp f7), (kp f8), (kp f9)⟩
    · obtain rfl := Option.some.inj ho
      have g3 := f3 (hd ⟨3, .data⟩ (by simp) rfl)
      have g3' := g3.resolve_left (fun e => absurd (I6 e) (by rw [hL]; simp))
      clear g3
      obtain ⟨g9, n9, rfl, l9, T9⟩ := g3'
      obtain ⟨q9, hq9, q91, q92⟩ := T9.2.2 n9 l9
      refine wpOp_step rfl (fun K' hK => ?_)
      go_simp
      refine hK _ _ ?_
      exact ⟨_, _, _, _, _, _, _, _, _, rfl, (by rw [upd_other (by decide), upd_other (by decide)]; exact I0), (I1), (fun h => upd_keep (I2 (upd_ne h (by decide)))), (fun h => upd_keep (I3 (upd_ne h (by decide)))), (fun h => upd_keep (I4 (upd_ne h (by decide)))), (fun h => upd_keep (I5 (upd_ne h (by decide)))), (fun h => upd_keep (I6 (upd_ne h (by decide)))), (fun h => (f0 (upd_ne h (by decide))).imp (fun e => upd_keep e) id), (kp f1), (kp f2), (fun _ => .inr ⟨g9, n9, rfl, l9, T9⟩), (fun _ => ⟨q9, rfl, q91, q92⟩), (kp f5), (kp f6), (kp f7), (kp f8), (kp f9)⟩
    · obtain rfl := Option.some.inj ho
      refine wpOp_step rfl (fun K' hK => ?_)
      go_simp
      refine hK _ _ ?_
      exact ⟨_, _, _, _, _, _, _, _, _, rfl, (by rw [upd_other (by decide), upd_other (by decide)]; exact I0), (I1), (fun h => upd_keep (I2 (upd_ne h (by decide)))), (fun h => upd_keep (I3 (upd_ne h (by decide)))), (fun h => upd_keep (I4 (upd_ne h (by decide)))), (fun h => upd_keep (I5 (upd_ne h (by decide)))), (fun h => upd_keep (I6 (upd_ne h (by decide)))), (fun h => (f0 (upd_ne h (by decide))).imp (fun e => upd_keep e) id), (kp f1), (kp f2), (fun h => (f3 (upd_ne h (by decide))).imp (fun e => upd_keep e) id), (kp f4), (fun _ => rfl), (kp f6), (kp f7), (kp f8), (kp f9)⟩
    · obtain rfl := Option.some.inj ho
      have g5 := f5 (hd ⟨5, .data⟩ (by simp) rfl)
      subst g5
      refine wpOp_step rfl (fun K' hK => ?_)
      go_simp
      refine (pick_any gr (N + (L 2).toNat + (L 6).toNat) 4 ww I0 (by have := Bool.toNat_le (L 2); have := Bool.toNat_le (L 6); omega) (by omega)).mono ?_
      rintro e w' ⟨r, rfl, r0', r1', hr, G⟩
      refine hK _ _ ?_
      exact ⟨_, _, _, _, _, _, _, _, _, rfl, (by rw [upd_self, upd_other (by decide)]; rw [hL] at hr; exact hr.more (by simp)), (World.grownBy.trans I1 G), (fun h => upd_keep (I2 (upd_ne h (by decide)))), (fun h => upd_keep (I3 (upd_ne h (by decide)))), (fun h => upd_keep (I4 (upd_ne h (by decide)))), (fun h => upd_keep (I5 (upd_ne h (by decide)))), (fun h => upd_keep (I6 (upd_ne h (by decide)))), (fun h => (f0 (upd_ne h (by decide))).imp (fun e => upd_keep e) (fun T => T.pick G)), (kp f1), (kp f2), (fun h => (f3 (upd_ne h (by decide))).imp (fun e => upd_keep e) (fun T => T.pick G)), (kp f4), (kp f5), (fun _ => ⟨r, rfl, r0', by omega⟩), (kp f7), (fun h => by
        obtain ⟨g5, z0, z1, z2, z3, e, hg5, hz⟩ := f8 (upd_ne h (by decide))
        exact ⟨g5, z0, z1, z2, z3, e, hg5, hz.far G (fun e => by injection e with e; omega)⟩), (fun h => absurd (I2 (upd_ne h (by decide))) (by rw [hL]; simp))⟩
    · obtain rfl := Option.some.inj ho
      have g4 := f4 (hd ⟨4, .data⟩ (by simp) rfl)
      have g6 := f6 (hd ⟨6, .data⟩ (by simp) rfl)
      obtain ⟨op, rfl, p1, p2⟩ := g4
      obtain ⟨aa, rfl, p3, p4⟩ := g6
      refine wpOp_step rfl (fun K' hK => ?_)
      go_simp
      refine hK _ _ ?_
      exact ⟨_, _, _, _, _, _, _, _, _, rfl, (by rw [upd_other (by decide), upd_other (by decide)]; exact I0), (I1), (fun h => upd_keep (I2 (upd_ne h (by decide)))), (fun h => upd_keep (I3 (upd_ne h (by decide)))), (fun h => upd_keep (I4 (upd_ne h (by decide)))), (fun h => upd_keep (I5 (upd_ne h (by decide)))), (fun h => upd_keep (I6 (upd_ne h (by decide)))), (fun h => (f0 (upd_ne h (by decide))).imp (fun e => upd_keep e) id), (kp f1), (kp f2), (fun h => (f3 (upd_ne h (by decide))).imp (fun e => upd_keep e) id), (fun _ => ⟨op, rfl, p1, p2⟩), (kp f5), (fun _ => ⟨aa, rfl, p3, p4⟩), (fun _ => ⟨op, aa, rfl, p1, p2, p3, p4⟩), (kp f8), (kp f9)⟩
    · obtain rfl := Option.some.inj ho
      refine wpOp_step rfl (fun K' hK => ?_)
      go_simp
      refine hK _ _ ?_
      exact ⟨_, _, _, _, _, _, _, _, _, rfl, (by rw [upd_other (by decide), upd_other (by decide)]; exact I0.below ((Below.refl ww.heap.size ww).alloc (Nat.le_refl _) _) I0.lt), (World.grownBy.trans I1 (World.grownBy_alloc _ _ _)), (fun h => upd_keep (I2 (upd_ne h (by decide)))), (fun h => upd_keep (I3 (upd_ne h (by decide)))), (fun h => upd_keep (I4 (upd_ne h (by decide)))), (fun h => upd_keep (I5 (upd_ne h (by decide)))), (fun h => upd_keep (I6 (upd_ne h (by decide)))), (fun h => (f0 (upd_ne h (by decide))).imp (fun e => upd_keep e) (fun T => T.alloc _)), (kp f1), (kp f2), (fun h => (f3 (upd_ne h (by decide))).imp (fun e => upd_keep e) (fun T => T.alloc _)), (kp f4), (kp f5), (kp f6), (kp f7), (fun _ => ⟨ww.heap.size, _, _, _, _, rfl, by have := I1.size; have := HZ.out; omega, Rw.new _ _ _⟩), (fun h => absurd (I4 (upd_ne h (by decide))) (by rw [hL]; simp))⟩
    · obtain rfl := Option.some.inj ho
      have g7 := f7 (hd ⟨7, .data⟩ (by simp) rfl)
      have g8 := f8 (hd ⟨8, .data⟩ (by simp) rfl)
      obtain ⟨g5, z0, z1, z2, z3, rfl, hg5, hz⟩ := g8
      obtain ⟨op, aa, rfl, p1, p2, p3, p4⟩ := g7
      have u0 := hz.cell 0
      have u1 := hz.cell 1
      have u2 := hz.cell 2
      have u3 := hz.cell 3
      have v0 := hz.frozen 0
      have v1 := hz.frozen 1
      have v2 := hz.frozen 2
      have v3 := hz.frozen 3
      simp at u0 u1 u2 u3
      have L2 := hd ⟨2, .phase⟩ (by simp) rfl
      have L6 := hd ⟨6, .chain⟩ (by simp) rfl
      have hgo : gr < w.heap.size := hgl
      have hB : Below g5 ww ((((ww.setCell ⟨g5, 0, none⟩ (.int .i64 op)).setCell ⟨g5, 1, none⟩ (.int .i64 aa)).setCell ⟨g5, 2, none⟩ (.int .i64 0)).setCell ⟨g5, 3, none⟩ (.int .i64 0)) := ((((Below.refl g5 ww).setCell (p := ⟨g5, 0, none⟩) (Nat.le_refl _) _).setCell (p := ⟨g5, 1, none⟩) (Nat.le_refl _) _).setCell (p := ⟨g5, 2, none⟩) (Nat.le_refl _) _).setCell (p := ⟨g5, 3, none⟩) (Nat.le_refl _) _
      have RDN := I0.below hB (by omega)
      have G1 := World.grownBy.trans g0 I1
      have RES := (r0.far I1 (fun e => by injection e with e; omega)).keep hB hg5
      have HB0 := hB
      refine wpOp_step rfl (fun K' hK => ?_)
      go_simp
      refine hK _ _ ?_
      exact ⟨_, _, _, _, _, _, _, _, _, rfl, (by rw [upd_other (by decide), upd_other (by decide)]; exact RDN), (grown_below I1 (hB.mono (by have := HZ.out; omega))), (fun _ => upd_keep (hd ⟨6, .chain⟩ (by simp) rfl)), (fun _ => upd_keep (hd ⟨2, .phase⟩ (by simp) rfl)), (fun _ => upd_keep (hd ⟨8, .data⟩ (by simp) rfl)), (fun _ => upd_keep (hd ⟨3, .phase⟩ (by simp) rfl)), (fun _ => upd_keep (hd ⟨4, .phase⟩ (by simp) rfl)), (fun _ => .inl upd_self), (kp f1), (kp f2), (fun _ => .inl upd_self), (kp f4), (kp f5), (kp f6), (kp f7), (fun _ => ⟨g5, _, _, _, _, rfl, hg5, (((hz.put 0 _).put 1 _).put 2 _).put 3 _⟩), (fun _ => ⟨g5, op, aa, rfl, ⟨RDN.more (by rw [L2, L6]; simp), grown_below G1 (hB.mono (by omega)), (((hz.put 0 _).put 1 _).put 2 _).put 3 _, RES, hg5, hgo⟩, p1, p2, p3, p4⟩)⟩
  case hdone =>
    rintro L ac ww hall ⟨t5, t6, t7, t8, t9, t10, t11, t12, t13, rfl, I0, I1, I2, I3, I4, I5, I6, f0, f1, f2, f3, f4, f5, f6, f7, f8, f9⟩
    have e0 := f0 (hall 0 (by decide))
    have e1 := f1 (hall 1 (by decide))
    have e2 := f2 (hall 2 (by decide))
    have e3 := f3 (hall 3 (by decide))
    have e4 := f4 (hall 4 (by decide))
    have e5 := f5 (hall 5 (by decide))
    have e6 := f6 (hall 6 (by decide))
    have e7 := f7 (hall 7 (by decide))
    have e8 := f8 (hall 8 (by decide))
    have e9 := f9 (hall 9 (by decide))
    clear f0 f1 f2 f3 f4 f5 f6 f7 f8 f9
    obtain ⟨b, op, aa, rfl, S, p1, p2, p3, p4⟩ := e9
    clear e0 e1 e2 e3 e4 e5 e6 e7 e8 I0 I1 I2 I3 I4 I5 I6 h0 r0 g0 HZ
    have y0 : ww.cell? ⟨b, 0, none⟩ = some (.int .i64 op) := S.box.cell 0
    have hlo := S.lo
    have hold := S.old
    clear hgl h
    go_upto_block 0 with fail
    go_cut [] from 14 (fun wc => ∃ o : Cm, Hps.okCm o = true ∧ CmSt w wc gr (N + 7) b o)
    case first =>
      have hcases : op = 1 ∨ op = 2 ∨ op = 3 ∨ op = 4 ∨ op = 5 ∨ op = 6 := by omega
      rcases hcases with rfl | rfl | rfl | rfl | rfl | rfl
      · go_wp2_with fail
        refine (pick_any _ _ _ _ S.rd (by omega) (by omega)).mono ?_
        rintro e w1 ⟨x1, rfl, ax1, cx1, hrx1, gx1⟩
        replace S := S.pick hrx1 gx1
        have cx1' : x1 < 4 := by omega
        clear cx1 hrx1 gx1
        go_wp2_with fail
        refine (pick_any _ _ _ _ S.rd (by omega) (by omega)).mono ?_
        rintro e w2 ⟨x2, rfl, ax2, cx2, hrx2, gx2⟩
        replace S := S.pick hrx2 gx2
        have cx2' : x2 < 3 := by omega
        clear cx2 hrx2 gx2
        have hsz := S.box.lt
        have T := Rw.new w2 3 #[.int .i64 x1, .int .i64 (1 + x2)]
        replace S := S.alloc (.cells #[.int .i64 x1, .int .i64 (1 + x2)] 3)
        go_wp2_with fail
        refine (pick_any _ _ _ _ S.rd (by omega) (by omega)).mono ?_
        rintro e w3 ⟨j, rfl, aj, cj, hrj, gj⟩
        have T3 := T.far gj (fun e => by injection e with e; omega)
        have t0 := T3.cell 0
        have t1 := T3.cell 1
        simp at t0 t1
        replace S := S.pick hrj gj
        have hjj : j = 0 ∨ j = 1 := by omega
        clear aj cj hrj gj T T3 hsz
        rcases hjj with rfl | rfl
        · have v2 := S.box.cell 2
          have fz2 := S.box.frozen 2
          replace S := S.put 2 (.int .i64 x1) (o' := ⟨1, aa, x1, 0⟩) rfl
          go_wp2_with fail
          refine (pick_any _ _ _ _ S.rd (by omega) (by omega)).mono ?_
          rintro e w4 ⟨x4, rfl, ax4, cx4, hrx4, gx4⟩
          replace S := S.pick hrx4 gx4
          have cx4' : x4 < 100 := by omega
          clear cx4 hrx4 gx4
          have v3 := S.box.cell 3
          have fz3 := S.box.frozen 3
          replace S := S.put 3 (.int .i64 x4) (o' := ⟨1, aa, x1, x4⟩) rfl
          go_wp2_with fail
          go_meet
          case rel => exact ⟨⟨1, aa, x1, x4⟩, (Hps.okCm_new rfl).2 ⟨⟨p3, p4⟩, ⟨by show (0 : Int) ≤ x1; omega, by show x1 ≤ (3 : Int); omega⟩, ⟨ax4, by show x4 ≤ 99; omega⟩⟩, S.more (by omega)⟩
        · have v2 := S.box.cell 2
          have fz2 := S.box.frozen 2
          replace S := S.put 2 (.int .i64 (1 + x2)) (o' := ⟨1, aa, (1 + x2), 0⟩) rfl
          go_wp2_with fail
          refine (pick_any _ _ _ _ S.rd (by omega) (by omega)).mono ?_
          rintro e w4 ⟨x4, rfl, ax4, cx4, hrx4, gx4⟩
          replace S := S.pick hrx4 gx4
          have cx4' : x4 < 100 := by omega
          clear cx4 hrx4 gx4
          have v3 := S.box.cell 3
          have fz3 := S.box.frozen 3
          replace S := S.put 3 (.int .i64 x4) (o' := ⟨1, aa, (1 + x2), x4⟩) rfl
          go_wp2_with fail
          go_meet
          case rel => exact ⟨⟨1, aa, (1 + x2), x4⟩, (Hps.okCm_new rfl).2 ⟨⟨p3, p4⟩, ⟨by show (0 : Int) ≤ (1 + x2); omega, by show (1 + x2) ≤ (3 : Int); omega⟩, ⟨ax4, by show x4 ≤ 99; omega⟩⟩, S.more (by omega)⟩
      · go_wp2_with fail
        refine (pick_any _ _ _ _ S.rd (by omega) (by omega)).mono ?_
        rintro e w1 ⟨x1, rfl, ax1, cx1, hrx1, gx1⟩
        replace S := S.pick hrx1 gx1
        have cx1' : x1 < 4 := by omega
        clear cx1 hrx1 gx1
        have v2 := S.box.cell 2
        have fz2 := S.box.frozen 2
        replace S := S.put 2 (.int .i64 x1) (o' := ⟨2, aa, x1, 0⟩) rfl
        go_wp2_with fail
        refine (pick_any _ _ _ _ S.rd (by omega) (by omega)).mono ?_
        rintro e w2 ⟨x2, rfl, ax2, cx2, hrx2, gx2⟩
        replace S := S.pick hrx2 gx2
        have cx2' : x2 < 3 := by omega
        clear cx2 hrx2 gx2
        have hw : IntKind.i64.wrap (1 + x2) = 1 + x2 := IntWalk.i64_in _ (by omega)
        go_wp2_with fail
        refine (pick_any _ _ _ _ S.rd (by omega) (by omega)).mono ?_
        rintro e w3 ⟨x3, rfl, ax3, cx3, hrx3, gx3⟩
        replace S := S.pick hrx3 gx3
        have cx3' : x3 < 3 := by omega
        clear cx3 hrx3 gx3
        have v3 := S.box.cell 3
        have fz3 := S.box.frozen 3
        replace S := S.put 3 (.int .i64 x3) (o' := ⟨2, aa, x1, x3⟩) rfl
        go_wp2_with fail
        go_meet
        case rel => exact ⟨⟨2, aa, x1, x3⟩, (Hps.okCm_get (.inl rfl)).2 ⟨⟨p3, p4⟩, ⟨ax1, by show x1 ≤ 3; omega⟩, ⟨ax3, by show x3 ≤ 2; omega⟩⟩, S.more (by omega)⟩
      · go_wp2_with fail
        refine (pick_any _ _ _ _ S.rd (by omega) (by omega)).mono ?_
        rintro e w1 ⟨x1, rfl, ax1, cx1, hrx1, gx1⟩
        replace S := S.pick hrx1 gx1
        have cx1' : x1 < 4 := by omega
        clear cx1 hrx1 gx1
        have v2 := S.box.cell 2
        have fz2 := S.box.frozen 2
        replace S := S.put 2 (.int .i64 x1) (o' := ⟨3, aa, x1, 0⟩) rfl
        go_wp2_with fail
        refine (pick_any _ _ _ _ S.rd (by omega) (by omega)).mono ?_
        rintro e w2 ⟨x2, rfl, ax2, cx2, hrx2, gx2⟩
        replace S := S.pick hrx2 gx2
        have cx2' : x2 < 3 := by omega
        clear cx2 hrx2 gx2
        have hw : IntKind.i64.wrap (1 + x2) = 1 + x2 := IntWalk.i64_in _ (by omega)
        go_wp2_with fail
        refine (pick_any _ _ _ _ S.rd (by omega) (by omega)).mono ?_
        rintro e w3 ⟨x3, rfl, ax3, cx3, hrx3, gx3⟩
        replace S := S.pick hrx3 gx3
        have cx3' : x3 < 3 := by omega
        clear cx3 hrx3 gx3
        have v3 := S.box.cell 3
        have fz3 := S.box.frozen 3
        replace S := S.put 3 (.int .i64 x3) (o' := ⟨3, aa, x1, x3⟩) rfl
        go_wp2_with fail
        go_meet
        case rel => exact ⟨⟨3, aa, x1, x3⟩, (Hps.okCm_get (.inr rfl)).2 ⟨⟨p3, p4⟩, ⟨ax1, by show x1 ≤ 3; omega⟩, ⟨ax3, by show x3 ≤ 2; omega⟩⟩, S.more (by omega)⟩
      · go_wp2_with fail
        refine (pick_any _ _ _ _ S.rd (by omega) (by omega)).mono ?_
        rintro e w1 ⟨x1, rfl, ax1, cx1, hrx1, gx1⟩
        replace S := S.pick hrx1 gx1
        have cx1' : x1 < 4 := by omega
        clear cx1 hrx1 gx1
        have v2 := S.box.cell 2
        have fz2 := S.box.frozen 2
        replace S := S.put 2 (.int .i64 x1) (o' := ⟨4, aa, x1, 0⟩) rfl
        go_wp2_with fail
        go_meet
        case rel => exact ⟨⟨4, aa, x1, 0⟩, (Hps.okCm_copy rfl).2 ⟨⟨p3, p4⟩, ⟨ax1, by show x1 ≤ 3; omega⟩, rfl⟩, S.more (by omega)⟩
      · go_wp2_with fail
        go_meet
        case rel => exact ⟨⟨5, aa, 0, 0⟩, (Hps.okCm_drop rfl).2 ⟨⟨p3, p4⟩, rfl, rfl⟩, S.more (by omega)⟩
      · go_wp2_with fail
        refine (pick_any _ _ _ _ S.rd (by omega) (by omega)).mono ?_
        rintro e w1 ⟨x1, rfl, ax1, cx1, hrx1, gx1⟩
        replace S := S.pick hrx1 gx1
        have cx1' : x1 < 100 := by omega
        clear cx1 hrx1 gx1
        have v2 := S.box.cell 2
        have fz2 := S.box.frozen 2
        replace S := S.put 2 (.int .i64 x1) (o' := ⟨6, aa, x1, 0⟩) rfl
        go_wp2_with fail
        go_meet
        case rel => exact ⟨⟨6, aa, x1, 0⟩, (Hps.okCm_data rfl).2 ⟨⟨p3, p4⟩, ⟨ax1, by show x1 ≤ 99; omega⟩, rfl⟩, S.more (by omega)⟩
    case rest =>
      clear y0 S p1 p2 p3 p4
      obtain ⟨o, ho, S⟩ := hcut
      have so := small_of_ok ho
      by_cases hn1 : n = 0
      · subst hn1
        have SS := Lib.hid S
        have HO := Lib.hid ho
        have SO := Lib.hid so
        have b0 : wc.cell? ⟨b, 0, none⟩ = some (.int .i64 o.op) := S.box.cell 0
        have b1 : wc.cell? ⟨b, 1, none⟩ = some (.int .i64 o.a) := S.box.cell 1
        have b2 : wc.cell? ⟨b, 2, none⟩ = some (.int .i64 o.b) := S.box.cell 2
        have b3 : wc.cell? ⟨b, 3, none⟩ = some (.int .i64 o.c) := S.box.cell 3
        have R := Lib.hid S.rd
        clear S ho so
        go_wp2_with fail
        refine (odd_zero' _ _ _ R.out).mono ?_
        rintro e w' ⟨rfl, rfl⟩
        have S9 := SS.out
        have rr := S9.res
        have r2 : (wc).frozen? ⟨w.heap.size, 0, none⟩ = false := rr.frozen 0
        have r3 : (wc).frozen? ⟨w.heap.size, 1, none⟩ = false := rr.frozen 1
        have r4 : (wc).frozen? ⟨w.heap.size, 2, none⟩ = false := rr.frozen 2
        have r5 : (wc).frozen? ⟨w.heap.size, 3, none⟩ = false := rr.frozen 3
        have s2 : (wc).cell? ⟨w.heap.size, 0, none⟩ = some (.int .i64 0) := rr.cell 0
        have s3 : (wc).cell? ⟨w.heap.size, 1, none⟩ = some (.int .i64 0) := rr.cell 1
        have s4 : (wc).cell? ⟨w.heap.size, 2, none⟩ = some (.int .i64 0) := rr.cell 2
        have s5 : (wc).cell? ⟨w.heap.size, 3, none⟩ = some (.int .i64 0) := rr.cell 3
        have bN : Below w.heap.size (wc) (((((wc).setCell ⟨w.heap.size, 0, none⟩ (.int .i64 (o.op))).setCell ⟨w.heap.size, 1, none⟩ (.int .i64 (o.a))).setCell ⟨w.heap.size, 2, none⟩ (.int .i64 (o.b))).setCell ⟨w.heap.size, 3, none⟩ (.int .i64 (o.c))) := ((((Below.refl _ _).setCell (p := ⟨w.heap.size, 0, none⟩) (Nat.le_refl _) _).setCell (p := ⟨w.heap.size, 1, none⟩) (Nat.le_refl _) _).setCell (p := ⟨w.heap.size, 2, none⟩) (Nat.le_refl _) _).setCell (p := ⟨w.heap.size, 3, none⟩) (Nat.le_refl _) _
        have RN := (((rr.put 0 (.int .i64 (o.op))).put 1 (.int .i64 (o.a))).put 2 (.int .i64 (o.b))).put 3 (.int .i64 (o.c))
        have n0 := RN.cell 0
        have n1 := RN.cell 1
        have n2 := RN.cell 2
        have n3 := RN.cell 3
        simp at n0 n1 n2 n3
        have rdN := (S9.rd.below bN hold).more (N' := N + 12) (by omega)
        have gN := grown_below S9.grown bN
        clear rr RN bN
        clear S9
        go_wp2_with fail
        exact bodyPost_ret (v := cmV o) (by simp [results, Tryd.results57, go_sem, *]) rfl ⟨o, rfl, (fun _ => HO.out), SO.out, rdN, gN⟩
      · have hn2 : 1 ≤ n := by omega
        have SO := Lib.hid so
        have R := Lib.hid S.rd
        clear ho so
        go_wp2_with fail
        refine (odd_any _ _ _ _ R.out (by omega) hn2 (by omega)).mono ?_
        rintro e w1 ⟨bb, rfl, hr1, g1⟩
        replace S := S.pick hr1 g1
        clear hr1 g1 R wc
        cases bb
        · have SS := Lib.hid S
          have b0 : w1.cell? ⟨b, 0, none⟩ = some (.int .i64 o.op) := S.box.cell 0
          have b1 : w1.cell? ⟨b, 1, none⟩ = some (.int .i64 o.a) := S.box.cell 1
          have b2 : w1.cell? ⟨b, 2, none⟩ = some (.int .i64 o.b) := S.box.cell 2
          have b3 : w1.cell? ⟨b, 3, none⟩ = some (.int .i64 o.c) := S.box.cell 3
          clear S
          have S9 := SS.out
          have rr := S9.res
          have r2 : (w1).frozen? ⟨w.heap.size, 0, none⟩ = false := rr.frozen 0
          have r3 : (w1).frozen? ⟨w.heap.size, 1, none⟩ = false := rr.frozen 1
          have r4 : (w1).frozen? ⟨w.heap.size, 2, none⟩ = false := rr.frozen 2
          have r5 : (w1).frozen? ⟨w.heap.size, 3, none⟩ = false := rr.frozen 3
          have s2 : (w1).cell? ⟨w.heap.size, 0, none⟩ = some (.int .i64 0) := rr.cell 0
          have s3 : (w1).cell? ⟨w.heap.size, 1, none⟩ = some (.int .i64 0) := rr.cell 1
          have s4 : (w1).cell? ⟨w.heap.size, 2, none⟩ = some (.int .i64 0) := rr.cell 2
          have s5 : (w1).cell? ⟨w.heap.size, 3, none⟩ = some (.int .i64 0) := rr.cell 3
          have bN : Below w.heap.size (w1) (((((w1).setCell ⟨w.heap.size, 0, none⟩ (.int .i64 (o.op))).setCell ⟨w.heap.size, 1, none⟩ (.int .i64 (o.a))).setCell ⟨w.heap.size, 2, none⟩ (.int .i64 (o.b))).setCell ⟨w.heap.size, 3, none⟩ (.int .i64 (o.c))) := ((((Below.refl _ _).setCell (p := ⟨w.heap.size, 0, none⟩) (Nat.le_refl _) _).setCell (p := ⟨w.heap.size, 1, none⟩) (Nat.le_refl _) _).setCell (p := ⟨w.heap.size, 2, none⟩) (Nat.le_refl _) _).setCell (p := ⟨w.heap.size, 3, none⟩) (Nat.le_refl _) _
          have RN := (((rr.put 0 (.int .i64 (o.op))).put 1 (.int .i64 (o.a))).put 2 (.int .i64 (o.b))).put 3 (.int .i64 (o.c))
          have n0 := RN.cell 0
          have n1 := RN.cell 1
          have n2 := RN.cell 2
          have n3 := RN.cell 3
          simp at n0 n1 n2 n3
          have rdN := (S9.rd.below bN hold).more (N' := N + 12) (by omega)
          have gN := grown_below S9.grown bN
          clear rr RN bN
          clear S9
          go_wp2_with fail
          exact bodyPost_ret (v := cmV o) (by simp [results, Tryd.results57, go_sem, *]) rfl ⟨o, rfl, (fun h => absurd h hn1), SO.out, rdN, gN⟩
        · go_wp2_with fail
          refine (pick_any _ _ _ _ S.rd (by omega) (by omega)).mono ?_
          rintro e w2 ⟨j, rfl, a2, c2, hr2, g2⟩
          replace S := S.pick hr2 g2
          clear hr2 g2
          have hj : j = 0 ∨ j = 1 ∨ j = 2 ∨ j = 3 := by omega
          clear a2 c2
          rcases hj with rfl | rfl | rfl | rfl
          · have hsz := S.box.lt
            have T := Rw.new w2 3 #[.int .i64 0, .int .i64 7]
            replace S := S.alloc (.cells #[.int .i64 0, .int .i64 7] 3)
            go_wp2_with fail
            refine (pick_any _ _ _ _ S.rd (by omega) (by omega)).mono ?_
            rintro e w3 ⟨j, rfl, aj, cj, hrj, gj⟩
            have T3 := T.far gj (fun e => by injection e with e; omega)
            have t0 := T3.cell 0
            have t1 := T3.cell 1
            simp at t0 t1
            replace S := S.pick hrj gj
            have hjj : j = 0 ∨ j = 1 := by omega
            clear aj cj hrj gj T T3 hsz
            obtain ⟨q, hq, q1, q2⟩ : ∃ q : Int, (j = 0 ∧ q = 0 ∨ j = 1 ∧ q = 7) ∧ -1 ≤ q ∧ q ≤ 100 := by
              rcases hjj with e | e
              · exact ⟨_, .inl ⟨e, rfl⟩, by omega, by omega⟩
              · exact ⟨_, .inr ⟨e, rfl⟩, by omega, by omega⟩
            have S8 := S.put 0 (.int .i64 q) (o' := ⟨q, o.a, o.b, o.c⟩) rfl
            have v0 := S.box.cell 0
            have fz0 := S.box.frozen 0
            have sm : SmallCm ⟨q, o.a, o.b, o.c⟩ := by
              obtain ⟨k1, k2, k3, k4⟩ := SO.out
              refine ⟨?_, ?_, ?_, ?_⟩ <;> first | assumption | (simp only; omega)
            obtain ⟨o', ho'⟩ : ∃ o' : Cm, o' = ⟨q, o.a, o.b, o.c⟩ := ⟨_, rfl⟩
            have W8 : ∃ w8, w3.setCell ⟨b, 0, none⟩ (.int .i64 q) = w8 := ⟨_, rfl⟩
            rw [← ho'] at S8 sm
            have b0 : (w3.setCell ⟨b, 0, none⟩ (.int .i64 q)).cell? ⟨b, 0, none⟩ = some (.int .i64 o'.op) := S8.box.cell 0
            have b1 : (w3.setCell ⟨b, 0, none⟩ (.int .i64 q)).cell? ⟨b, 1, none⟩ = some (.int .i64 o'.a) := S8.box.cell 1
            have b2 : (w3.setCell ⟨b, 0, none⟩ (.int .i64 q)).cell? ⟨b, 2, none⟩ = some (.int .i64 o'.b) := S8.box.cell 2
            have b3 : (w3.setCell ⟨b, 0, none⟩ (.int .i64 q)).cell? ⟨b, 3, none⟩ = some (.int .i64 o'.c) := S8.box.cell 3
            have S9 := S8
            have rr := S9.res
            have r2 : (w3.setCell ⟨b, 0, none⟩ (.int .i64 q)).frozen? ⟨w.heap.size, 0, none⟩ = false := rr.frozen 0
            have r3 : (w3.setCell ⟨b, 0, none⟩ (.int .i64 q)).frozen? ⟨w.heap.size, 1, none⟩ = false := rr.frozen 1
            have r4 : (w3.setCell ⟨b, 0, none⟩ (.int .i64 q)).frozen? ⟨w.heap.size, 2, none⟩ = false := rr.frozen 2
            have r5 : (w3.setCell ⟨b, 0, none⟩ (.int .i64 q)).frozen? ⟨w.heap.size, 3, none⟩ = false := rr.frozen 3
            have s2 : (w3.setCell ⟨b, 0, none⟩ (.int .i64 q)).cell? ⟨w.heap.size, 0, none⟩ = some (.int .i64 0) := rr.cell 0
            have s3 : (w3.setCell ⟨b, 0, none⟩ (.int .i64 q)).cell? ⟨w.heap.size, 1, none⟩ = some (.int .i64 0) := rr.cell 1
            have s4 : (w3.setCell ⟨b, 0, none⟩ (.int .i64 q)).cell? ⟨w.heap.size, 2, none⟩ = some (.int .i64 0) := rr.cell 2
            have s5 : (w3.setCell ⟨b, 0, none⟩ (.int .i64 q)).cell? ⟨w.heap.size, 3, none⟩ = some (.int .i64 0) := rr.cell 3
            have bN : Below w.heap.size (w3.setCell ⟨b, 0, none⟩ (.int .i64 q)) (((((w3.setCell ⟨b, 0, none⟩ (.int .i64 q)).setCell ⟨w.heap.size, 0, none⟩ (.int .i64 (o'.op))).setCell ⟨w.heap.size, 1, none⟩ (.int .i64 (o'.a))).setCell ⟨w.heap.size, 2, none⟩ (.int .i64 (o'.b))).setCell ⟨w.heap.size, 3, none⟩ (.int .i64 (o'.c))) := ((((Below.refl _ _).setCell (p := ⟨w.heap.size, 0, none⟩) (Nat.le_refl _) _).setCell (p := ⟨w.heap.size, 1, none⟩) (Nat.le_refl _) _).setCell (p := ⟨w.heap.size, 2, none⟩) (Nat.le_refl _) _).setCell (p := ⟨w.heap.size, 3, none⟩) (Nat.le_refl _) _
            have RN := (((rr.put 0 (.int .i64 (o'.op))).put 1 (.int .i64 (o'.a))).put 2 (.int .i64 (o'.b))).put 3 (.int .i64 (o'.c))
            have n0 := RN.cell 0
            have n1 := RN.cell 1
            have n2 := RN.cell 2
            have n3 := RN.cell 3
            simp at n0 n1 n2 n3
            have rdN := (S9.rd.below bN hold).more (N' := N + 12) (by omega)
            have gN := grown_below S9.grown bN
            clear rr RN bN
            have SM := Lib.hid sm
            clear S9 S8 S sm W8 ho' hjj
            rcases hq with ⟨rfl, rfl⟩ | ⟨rfl, rfl⟩ <;>
            · go_wp2_with fail
              exact bodyPost_ret (v := cmV o') (by simp [results, Tryd.results57, go_sem, *]) rfl ⟨o', rfl, fun h => absurd h hn1, SM.out, rdN, gN⟩
          · have hsz := S.box.lt
            have T := Rw.new w2 3 #[.int .i64 (-1), .int .i64 4]
            replace S := S.alloc (.cells #[.int .i64 (-1), .int .i64 4] 3)
            go_wp2_with fail
            refine (pick_any _ _ _ _ S.rd (by omega) (by omega)).mono ?_
            rintro e w3 ⟨j, rfl, aj, cj, hrj, gj⟩
            have T3 := T.far gj (fun e => by injection e with e; omega)
            have t0 := T3.cell 0
            have t1 := T3.cell 1
            simp at t0 t1
            replace S := S.pick hrj gj
            have hjj : j = 0 ∨ j = 1 := by omega
            clear aj cj hrj gj T T3 hsz
            obtain ⟨q, hq, q1, q2⟩ : ∃ q : Int, (j = 0 ∧ q = (-1) ∨ j = 1 ∧ q = 4) ∧ -1 ≤ q ∧ q ≤ 100 := by
              rcases hjj with e | e
              · exact ⟨_, .inl ⟨e, rfl⟩, by omega, by omega⟩
              · exact ⟨_, .inr ⟨e, rfl⟩, by omega, by omega⟩
            have S8 := S.put 1 (.int .i64 q) (o' := ⟨o.op, q, o.b, o.c⟩) rfl
            have v1 := S.box.cell 1
            have fz1 := S.box.frozen 1
            have sm : SmallCm ⟨o.op, q, o.b, o.c⟩ := by
              obtain ⟨k1, k2, k3, k4⟩ := SO.out
              refine ⟨?_, ?_, ?_, ?_⟩ <;> first | assumption | (simp only; omega)
            obtain ⟨o', ho'⟩ : ∃ o' : Cm, o' = ⟨o.op, q, o.b, o.c⟩ := ⟨_, rfl⟩
            have W8 : ∃ w8, w3.setCell ⟨b, 1, none⟩ (.int .i64 q) = w8 := ⟨_, rfl⟩
            rw [← ho'] at S8 sm
            have b0 : (w3.setCell ⟨b, 1, none⟩ (.int .i64 q)).cell? ⟨b, 0, none⟩ = some (.int .i64 o'.op) := S8.box.cell 0
            have b1 : (w3.setCell ⟨b, 1, none⟩ (.int .i64 q)).cell? ⟨b, 1, none⟩ = some (.int .i64 o'.a) := S8.box.cell 1
            have b2 : (w3.setCell ⟨b, 1, none⟩ (.int .i64 q)).cell? ⟨b, 2, none⟩ = some (.int .i64 o'.b) := S8.box.cell 2
            have b3 : (w3.setCell ⟨b, 1, none⟩ (.int .i64 q)).cell? ⟨b, 3, none⟩ = some (.int .i64 o'.c) := S8.box.cell 3
            have S9 := S8
            have rr := S9.res
            have r2 : (w3.setCell ⟨b, 1, none⟩ (.int .i64 q)).frozen? ⟨w.heap.size, 0, none⟩ = false := rr.frozen 0
            have r3 : (w3.setCell ⟨b, 1, none⟩ (.int .i64 q)).frozen? ⟨w.heap.size, 1, none⟩ = false := rr.frozen 1
            have r4 : (w3.setCell ⟨b, 1, none⟩ (.int .i64 q)).frozen? ⟨w.heap.size, 2, none⟩ = false := rr.frozen 2
            have r5 : (w3.setCell ⟨b, 1, none⟩ (.int .i64 q)).frozen? ⟨w.heap.size, 3, none⟩ = false := rr.frozen 3
            have s2 : (w3.setCell ⟨b, 1, none⟩ (.int .i64 q)).cell? ⟨w.heap.size, 0, none⟩ = some (.int .i64 0) := rr.cell 0
            have s3 : (w3.setCell ⟨b, 1, none⟩ (.int .i64 q)).cell? ⟨w.heap.size, 1, none⟩ = some (.int .i64 0) := rr.cell 1
            have s4 : (w3.setCell ⟨b, 1, none⟩ (.int .i64 q)).cell? ⟨w.heap.size, 2, none⟩ = some (.int .i64 0) := rr.cell 2
            have s5 : (w3.setCell ⟨b, 1, none⟩ (.int .i64 q)).cell? ⟨w.heap.size, 3, none⟩ = some (.int .i64 0) := rr.cell 3
            have bN : Below w.heap.size (w3.setCell ⟨b, 1, none⟩ (.int .i64 q)) (((((w3.setCell ⟨b, 1, none⟩ (.int .i64 q)).setCell ⟨w.heap.size, 0, none⟩ (.int .i64 (o'.op))).setCell ⟨w.heap.size, 1, none⟩ (.int .i64 (o'.a))).setCell ⟨w.heap.size, 2, none⟩ (.int .i64 (o'.b))).setCell ⟨w.heap.size, 3, none⟩ (.int .i64 (o'.c))) := ((((Below.refl _ _).setCell (p := ⟨w.heap.size, 0, none⟩) (Nat.le_refl _) _).setCell (p := ⟨w.heap.size, 1, none⟩) (Nat.le_refl _) _).setCell (p := ⟨w.heap.size, 2, none⟩) (Nat.le_refl _) _).setCell (p := ⟨w.heap.size, 3, none⟩) (Nat.le_refl _) _
            have RN := (((rr.put 0 (.int .i64 (o'.op))).put 1 (.int .i64 (o'.a))).put 2 (.int .i64 (o'.b))).put 3 (.int .i64 (o'.c))
            have n0 := RN.cell 0
            have n1 := RN.cell 1
            have n2 := RN.cell 2
            have n3 := RN.cell 3
            simp at n0 n1 n2 n3
            have rdN := (S9.rd.below bN hold).more (N' := N + 12) (by omega)
            have gN := grown_below S9.grown bN
            clear rr RN bN
            have SM := Lib.hid sm
            clear S9 S8 S sm W8 ho' hjj
            rcases hq with ⟨rfl, rfl⟩ | ⟨rfl, rfl⟩ <;>
            · go_wp2_with fail
              exact bodyPost_ret (v := cmV o') (by simp [results, Tryd.results57, go_sem, *]) rfl ⟨o', rfl, fun h => absurd h hn1, SM.out, rdN, gN⟩
          · have hsz := S.box.lt
            have T := Rw.new w2 3 #[.int .i64 (-1), .int .i64 100]
            replace S := S.alloc (.cells #[.int .i64 (-1), .int .i64 100] 3)
            go_wp2_with fail
            refine (pick_any _ _ _ _ S.rd (by omega) (by omega)).mono ?_
            rintro e w3 ⟨j, rfl, aj, cj, hrj, gj⟩
            have T3 := T.far gj (fun e => by injection e with e; omega)
            have t0 := T3.cell 0
            have t1 := T3.cell 1
            simp at t0 t1
            replace S := S.pick hrj gj
            have hjj : j = 0 ∨ j = 1 := by omega
            clear aj cj hrj gj T T3 hsz
            obtain ⟨q, hq, q1, q2⟩ : ∃ q : Int, (j = 0 ∧ q = (-1) ∨ j = 1 ∧ q = 100) ∧ -1 ≤ q ∧ q ≤ 100 := by
              rcases hjj with e | e
              · exact ⟨_, .inl ⟨e, rfl⟩, by omega, by omega⟩
              · exact ⟨_, .inr ⟨e, rfl⟩, by omega, by omega⟩
            have S8 := S.put 2 (.int .i64 q) (o' := ⟨o.op, o.a, q, o.c⟩) rfl
            have v2 := S.box.cell 2
            have fz2 := S.box.frozen 2
            have sm : SmallCm ⟨o.op, o.a, q, o.c⟩ := by
              obtain ⟨k1, k2, k3, k4⟩ := SO.out
              refine ⟨?_, ?_, ?_, ?_⟩ <;> first | assumption | (simp only; omega)
            obtain ⟨o', ho'⟩ : ∃ o' : Cm, o' = ⟨o.op, o.a, q, o.c⟩ := ⟨_, rfl⟩
            have W8 : ∃ w8, w3.setCell ⟨b, 2, none⟩ (.int .i64 q) = w8 := ⟨_, rfl⟩
            rw [← ho'] at S8 sm
            have b0 : (w3.setCell ⟨b, 2, none⟩ (.int .i64 q)).cell? ⟨b, 0, none⟩ = some (.int .i64 o'.op) := S8.box.cell 0
            have b1 : (w3.setCell ⟨b, 2, none⟩ (.int .i64 q)).cell? ⟨b, 1, none⟩ = some (.int .i64 o'.a) := S8.box.cell 1
            have b2 : (w3.setCell ⟨b, 2, none⟩ (.int .i64 q)).cell? ⟨b, 2, none⟩ = some (.int .i64 o'.b) := S8.box.cell 2
            have b3 : (w3.setCell ⟨b, 2, none⟩ (.int .i64 q)).cell? ⟨b, 3, none⟩ = some (.int .i64 o'.c) := S8.box.cell 3
            have S9 := S8
            have rr := S9.res
            have r2 : (w3.setCell ⟨b, 2, none⟩ (.int .i64 q)).frozen? ⟨w.heap.size, 0, none⟩ = false := rr.frozen 0
            have r3 : (w3.setCell ⟨b, 2, none⟩ (.int .i64 q)).frozen? ⟨w.heap.size, 1, none⟩ = false := rr.frozen 1
            have r4 : (w3.setCell ⟨b, 2, none⟩ (.int .i64 q)).frozen? ⟨w.heap.size, 2, none⟩ = false := rr.frozen 2
            have r5 : (w3.setCell ⟨b, 2, none⟩ (.int .i64 q)).frozen? ⟨w.heap.size, 3, none⟩ = false := rr.frozen 3
            have s2 : (w3.setCell ⟨b, 2, none⟩ (.int .i64 q)).cell? ⟨w.heap.size, 0, none⟩ = some (.int .i64 0) := rr.cell 0
            have s3 : (w3.setCell ⟨b, 2, none⟩ (.int .i64 q)).cell? ⟨w.heap.size, 1, none⟩ = some (.int .i64 0) := rr.cell 1
            have s4 : (w3.setCell ⟨b, 2, none⟩ (.int .i64 q)).cell? ⟨w.heap.size, 2, none⟩ = some (.int .i64 0) := rr.cell 2
            have s5 : (w3.setCell ⟨b, 2, none⟩ (.int .i64 q)).cell? ⟨w.heap.size, 3, none⟩ = some (.int .i64 0) := rr.cell 3
            have bN : Below w.heap.size (w3.setCell ⟨b, 2, none⟩ (.int .i64 q)) (((((w3.setCell ⟨b, 2, none⟩ (.int .i64 q)).setCell ⟨w.heap.size, 0, none⟩ (.int .i64 (o'.op))).setCell ⟨w.heap.size, 1, none⟩ (.int .i64 (o'.a))).setCell ⟨w.heap.size, 2, none⟩ (.int .i64 (o'.b))).setCell ⟨w.heap.size, 3, none⟩ (.int .i64 (o'.c))) := ((((Below.refl _ _).setCell (p := ⟨w.heap.size, 0, none⟩) (Nat.le_refl _) _).setCell (p := ⟨w.heap.size, 1, none⟩) (Nat.le_refl _) _).setCell (p := ⟨w.heap.size, 2, none⟩) (Nat.le_refl _) _).setCell (p := ⟨w.heap.size, 3, none⟩) (Nat.le_refl _) _
            have RN := (((rr.put 0 (.int .i64 (o'.op))).put 1 (.int .i64 (o'.a))).put 2 (.int .i64 (o'.b))).put 3 (.int .i64 (o'.c))
            have n0 := RN.cell 0
            have n1 := RN.cell 1
            have n2 := RN.cell 2
            have n3 := RN.cell 3
            simp at n0 n1 n2 n3
            have rdN := (S9.rd.below bN hold).more (N' := N + 12) (by omega)
            have gN := grown_below S9.grown bN
            clear rr RN bN
            have SM := Lib.hid sm
            clear S9 S8 S sm W8 ho' hjj
            rcases hq with ⟨rfl, rfl⟩ | ⟨rfl, rfl⟩ <;>
            · go_wp2_with fail
              exact bodyPost_ret (v := cmV o') (by simp [results, Tryd.results57, go_sem, *]) rfl ⟨o', rfl, fun h => absurd h hn1, SM.out, rdN, gN⟩
          · have hsz := S.box.lt
            have T := Rw.new w2 3 #[.int .i64 (-1), .int .i64 100]
            replace S := S.alloc (.cells #[.int .i64 (-1), .int .i64 100] 3)
            go_wp2_with fail
            refine (pick_any _ _ _ _ S.rd (by omega) (by omega)).mono ?_
            rintro e w3 ⟨j, rfl, aj, cj, hrj, gj⟩
            have T3 := T.far gj (fun e => by injection e with e; omega)
            have t0 := T3.cell 0
            have t1 := T3.cell 1
            simp at t0 t1
            replace S := S.pick hrj gj
            have hjj : j = 0 ∨ j = 1 := by omega
            clear aj cj hrj gj T T3 hsz
            obtain ⟨q, hq, q1, q2⟩ : ∃ q : Int, (j = 0 ∧ q = (-1) ∨ j = 1 ∧ q = 100) ∧ -1 ≤ q ∧ q ≤ 100 := by
              rcases hjj with e | e
              · exact ⟨_, .inl ⟨e, rfl⟩, by omega, by omega⟩
              · exact ⟨_, .inr ⟨e, rfl⟩, by omega, by omega⟩
            have S8 := S.put 3 (.int .i64 q) (o' := ⟨o.op, o.a, o.b, q⟩) rfl
            have v3 := S.box.cell 3
            have fz3 := S.box.frozen 3
            have sm : SmallCm ⟨o.op, o.a, o.b, q⟩ := by
              obtain ⟨k1, k2, k3, k4⟩ := SO.out
              refine ⟨?_, ?_, ?_, ?_⟩ <;> first | assumption | (simp only; omega)
            obtain ⟨o', ho'⟩ : ∃ o' : Cm, o' = ⟨o.op, o.a, o.b, q⟩ := ⟨_, rfl⟩
            have W8 : ∃ w8, w3.setCell ⟨b, 3, none⟩ (.int .i64 q) = w8 := ⟨_, rfl⟩
            rw [← ho'] at S8 sm
            have b0 : (w3.setCell ⟨b, 3, none⟩ (.int .i64 q)).cell? ⟨b, 0, none⟩ = some (.int .i64 o'.op) := S8.box.cell 0
            have b1 : (w3.setCell ⟨b, 3, none⟩ (.int .i64 q)).cell? ⟨b, 1, none⟩ = some (.int .i64 o'.a) := S8.box.cell 1
            have b2 : (w3.setCell ⟨b, 3, none⟩ (.int .i64 q)).cell? ⟨b, 2, none⟩ = some (.int .i64 o'.b) := S8.box.cell 2
            have b3 : (w3.setCell ⟨b, 3, none⟩ (.int .i64 q)).cell? ⟨b, 3, none⟩ = some (.int .i64 o'.c) := S8.box.cell 3
            have S9 := S8
            have rr := S9.res
            have r2 : (w3.setCell ⟨b, 3, none⟩ (.int .i64 q)).frozen? ⟨w.heap.size, 0, none⟩ = false := rr.frozen 0
            have r3 : (w3.setCell ⟨b, 3, none⟩ (.int .i64 q)).frozen? ⟨w.heap.size, 1, none⟩ = false := rr.frozen 1
            have r4 : (w3.setCell ⟨b, 3, none⟩ (.int .i64 q)).frozen? ⟨w.heap.size, 2, none⟩ = false := rr.frozen 2
            have r5 : (w3.setCell ⟨b, 3, none⟩ (.int .i64 q)).frozen? ⟨w.heap.size, 3, none⟩ = false := rr.frozen 3
            have s2 : (w3.setCell ⟨b, 3, none⟩ (.int .i64 q)).cell? ⟨w.heap.size, 0, none⟩ = some (.int .i64 0) := rr.cell 0
            have s3 : (w3.setCell ⟨b, 3, none⟩ (.int .i64 q)).cell? ⟨w.heap.size, 1, none⟩ = some (.int .i64 0) := rr.cell 1
            have s4 : (w3.setCell ⟨b, 3, none⟩ (.int .i64 q)).cell? ⟨w.heap.size, 2, none⟩ = some (.int .i64 0) := rr.cell 2
            have s5 : (w3.setCell ⟨b, 3, none⟩ (.int .i64 q)).cell? ⟨w.heap.size, 3, none⟩ = some (.int .i64 0) := rr.cell 3
            have bN : Below w.heap.size (w3.setCell ⟨b, 3, none⟩ (.int .i64 q)) (((((w3.setCell ⟨b, 3, none⟩ (.int .i64 q)).setCell ⟨w.heap.size, 0, none⟩ (.int .i64 (o'.op))).setCell ⟨w.heap.size, 1, none⟩ (.int .i64 (o'.a))).setCell ⟨w.heap.size, 2, none⟩ (.int .i64 (o'.b))).setCell ⟨w.heap.size, 3, none⟩ (.int .i64 (o'.c))) := ((((Below.refl _ _).setCell (p := ⟨w.heap.size, 0, none⟩) (Nat.le_refl _) _).setCell (p := ⟨w.heap.size, 1, none⟩) (Nat.le_refl _) _).setCell (p := ⟨w.heap.size, 2, none⟩) (Nat.le_refl _) _).setCell (p := ⟨w.heap.size, 3, none⟩) (Nat.le_refl _) _
            have RN := (((rr.put 0 (.int .i64 (o'.op))).put 1 (.int .i64 (o'.a))).put 2 (.int .i64 (o'.b))).put 3 (.int .i64 (o'.c))
            have n0 := RN.cell 0
            have n1 := RN.cell 1
            have n2 := RN.cell 2
            have n3 := RN.cell 3
            simp at n0 n1 n2 n3
            have rdN := (S9.rd.below bN hold).more (N' := N + 12) (by omega)
            have gN := grown_below S9.grown bN
            clear rr RN bN
            have SM := Lib.hid sm
            clear S9 S8 S sm W8 ho' hjj
            rcases hq with ⟨rfl, rfl⟩ | ⟨rfl, rfl⟩ <;>
            · go_wp2_with fail
              exact bodyPost_ret (v := cmV o') (by simp [results, Tryd.results57, go_sem, *]) rfl ⟨o', rfl, fun h => absurd h hn1, SM.out, rdN, gN⟩
end Go.Proofs.YtfgdenmlfloloaaDoor

namespace Go.Proofs.YtfgdenmlfloloaaDoor
open Go.RowKit
set_option maxRecDepth 100000
/-- a valid program has been drawn -/
def DrewP0 (w : World) (gr N : Nat) (e : Ending) (w' : World) : Prop :=
  ∃ (v : Value) (l : List Cm), e = .returned v ∧ OwnM w' w.heap.size v l ∧ Hps.okCms l = true ∧ Rd w' gr (N + 600) ∧ w.grownBy w' (some gr)
/-- what is known while instructions are drawn -/
structure DrawSM (w : World) (gr N : Nat) (wr : World) (v : Value) (l : List Cm) : Prop where
  own : OwnM wr w.heap.size v l
  rd : Rd wr gr N
  grown : w.grownBy wr (some gr)
theorem DrawSM.pick {w wr w' : World} {gr N N' : Nat} {v : Value} {l : List Cm} (h : DrawSM w gr N wr v l) (hgr : gr < w.heap.size) (hr : Rd w' gr N') (hg : wr.grownBy w' (some gr)) : DrawSM w gr N' w' v l := by
  refine ⟨h.own.far hg ?_, hr, World.grownBy.trans h.grown hg⟩
  right
  intro e
  have := (World.ownsRow.lt h.own gr e).1
  omega
theorem DrawSM.more {w wr : World} {gr N N' : Nat} {v : Value} {l : List Cm} (h : DrawSM w gr N wr v l) (hN : N ≤ N') : DrawSM w gr N' wr v l := ⟨h.own, h.rd.more hN, h.grown⟩
theorem DrawSM.next {w wr w' : World} {gr N : Nat} {v v' : Value} {l m : List Cm} (h : DrawSM w gr N wr v l) (hgr : gr < w.heap.size) (ho : OwnM w' w.heap.size v' m) (hb : Below w.heap.size wr w') : DrawSM w gr N w' v' m :=
  ⟨ho, h.rd.below hb hgr, grown_below h.grown hb⟩
set_option maxHeartbeats 2000000 in
theorem l20Program_zero (gr N : Nat) (w : World) (h : Rd w gr N) (hN : N ≤ 100000) :
    Calls Tryd.prog 76 #[.pointer (some ⟨gr, 0, none⟩), .int .i64 0] w (DrewP0 w gr N) := by
  have hgl := h.lt
  have b0 : Below w.heap.size w (w.alloc (.cells #[] 36)) := (Below.refl _ _).alloc (Nat.le_refl _) _
  have st0 : DrawSM w gr N (w.alloc (.cells #[] 36)) (.slice (some ⟨w.heap.size, 0, none⟩) 0 0) [] := ⟨own_noneM w w.heap.size (Nat.le_refl _), h.below b0 hgl, World.grownBy_alloc _ _ _⟩
  clear b0
  go_enter Tryd.func76, Tryd.ntmps76
  go_wp2_with fail
  refine (pick_any _ _ _ _ st0.rd (by omega) (by omega)).mono ?_
  rintro e w1 ⟨r1, rfl, a1, c1, hr1, g1⟩
  have c1' : r1 < 41 := by omega
  have st1 := (st0.pick hgl hr1 g1).more (N' := N + 1 + 12 * (40 - r1.toNat)) (by omega)
  clear st0 hr1 g1 c1
  obtain ⟨q, rfl⟩ := Int.eq_ofNat_of_zero_le a1
  simp only [Int.toNat_natCast] at st1
  clear a1
  go_wp2_with fail
  go_loopw [5, 6] (fun v i wr => ∃ (k : Nat) (l : List Cm), k ≤ 40 ∧ i = .int .i64 k ∧ l.length + k ≤ 40 ∧ Hid (∀ o ∈ l, Hps.okCm o = true) ∧ DrawSM w gr (N + 1 + 12 * (40 - k)) wr v l) (fun _ i _ => (intOf i).toNat)
  case atStart => exact ⟨q, [], by omega, rfl, by simp; omega, Lib.hid (by simp), st1⟩
  case round =>
    clear st1
    obtain ⟨k, l, hk, rfl, hl, HL, st⟩ := hrel
    by_cases hk0 : 0 < k
    · have hk0' : (0 : Int) < k := by omega
      have S := Lib.hid st
      clear st
      go_wp2_with fail
      refine (l20Command_any _ _ 0 _ S.out.rd (by omega) (by omega) (by omega)).mono ?_
      rintro e w2 ⟨o, rfl, ho, -, hr2, g2⟩
      have st2 := (S.out.pick hgl hr2 g2).more (N' := N + 1 + 12 * (40 - (k - 1))) (by omega)
      have HO := Lib.hid (ho rfl)
      clear S hr2 g2 ho
      have hs4 := st2.grown.size
      have ow := World.ownsRow.alloc st2.own (.cells #[.int .i64 o.op, .int .i64 o.a, .int .i64 o.b, .int .i64 o.c] 36)
      have rr : MS (w2.alloc (.cells #[.int .i64 o.op, .int .i64 o.a, .int .i64 o.b, .int .i64 o.c] 36)) (w2.alloc (.cells #[.int .i64 o.op, .int .i64 o.a, .int .i64 o.b, .int .i64 o.c] 36)).heap.size (some ⟨w2.heap.size, 0, none⟩) 1 [o] := (own_oneM w2 o 0 (Nat.zero_le _)).reads
      have hln : l.length + 1 ≤ 1099511627776 := by omega
      go_wp2_with (at_builtin; refine wpList_appendM rfl (.tmp 14) (.tmp 17) rfl w.heap.size _ l rfl ow (some ⟨w2.heap.size, 0, none⟩) 1 1 _ [o] rfl rr hln (by simp; omega) ?_; intro v5 w5 o5 g5 s5)
      have bn : Below w.heap.size w2 w5 := ((Below.refl w.heap.size w2).alloc hs4 _).grown g5 (by simp; omega) (fun k hk => (World.ownsRow.lt st2.own k hk).1)
      have st5 := st2.next hgl o5 bn
      clear ow rr g5 s5 o5 bn st2
      go_roundw
      case rel => exact ⟨k - 1, l ++ [o], by omega, int_eq (by omega), by simp; omega, Lib.hid (by intro x hx; rcases List.mem_append.1 hx with hx | hx; exact HL.out x hx; rw [List.mem_singleton] at hx; rw [hx]; exact HO.out), st5⟩
      case measure => simp [intOf]; omega
    · obtain rfl : k = 0 := by omega
      have S := Lib.hid st
      have R := Lib.hid st.rd
      have hok := Lib.hid (Hps.okCms_iff.2 ⟨HL.out, by omega⟩)
      clear st HL
      go_wp2_with fail
      refine (odd_zero' _ _ _ R.out).mono ?_
      rintro e w' ⟨rfl, rfl⟩
      go_wp2_with fail
      go_ret
      exact ⟨_, l, rfl, S.out.own, hok.out, S.out.rd.more (by omega), S.out.grown⟩
end Go.Proofs.YtfgdenmlfloloaaDoor

namespace Go.Proofs.YtfgdenmlfloloaaDoor
open Go.RowKit
set_option maxRecDepth 100000
/-- a heap whose blocks from lo on may be read in every later world that has left them alone -/
def HF (w : World) (lo : Nat) (A : Option Addr) (n : Nat) (R : Option Addr) (m : Nat) (h : Hp) : Prop :=
  ∀ w', w.heap.size ≤ w'.heap.size → (∀ j, lo ≤ j → j < w.heap.size → w'.heap[j]? = w.heap[j]?) → HS w' w'.heap.size A n R m h
theorem row_same {w w' : World} {base lo n : Nat} {e : TypeId} {s : Nat} {v : Value} {xs : List Value} (h : w.ownsRow base e s v n xs) (hl : lo ≤ base) (hb : ∀ j, lo ≤ j → j < w.heap.size → w'.heap[j]? = w.heap[j]?) : w'.ownsRow base e s v n xs := by
  refine ⟨h.1, ?_⟩
  rcases h.2 with h0 | ⟨g, cap, cur, e, hb', hh, hr⟩
  · exact .inl h0
  · exact .inr ⟨g, cap, cur, e, hb', (hb g (by omega) (Array.getElem?_eq_some_iff.1 hh).1).trans hh, hr⟩
theorem OwnHx.same {w w' : World} {base lo : Nat} {vc vr : Value} {rvs : List Value} {h : Hp} (o : OwnHx w base vc vr rvs h) (hl : lo ≤ base) (hb : ∀ j, lo ≤ j → j < w.heap.size → w'.heap[j]? = w.heap[j]?) : OwnHx w' base vc vr rvs h :=
  ⟨o.len, row_same o.row hl hb, fun k c v hc hv => row_same (o.refs k c v hc hv) hl hb, row_same o.roots hl hb, o.sep⟩
theorem OwnHx.hf {w : World} {base lo n c m d : Nat} {A R : Option Addr} {rvs : List Value} {h : Hp} (o : OwnHx w base (.slice A n c) (.slice R m d) rvs h) (hl : lo ≤ base) : HF w lo A n R m h := fun _ _ hb => (o.same hl hb).reads
theorem OwnHx.caps {w : World} {base n c m d : Nat} {A R : Option Addr} {rvs : List Value} {h : Hp} (o : OwnHx w base (.slice A n c) (.slice R m d) rvs h) : n = h.cs.length ∧ m = h.rt.length ∧ n ≤ c ∧ m ≤ d := by
  obtain ⟨A', c', R', d', e1, e2, h1, h2, _⟩ := o.form
  injection e1 with e1 e3 e4
  injection e2 with e5 e6 e7
  subst e3 e4 e6 e7
  exact ⟨rfl, rfl, h1, h2⟩
theorem OwnHx.rootAddr {w : World} {base m d : Nat} {vc : Value} {R : Option Addr} {rvs : List Value} {h : Hp} (o : OwnHx w base vc (.slice R m d) rvs h) (hm : 0 < m) : ∃ g, R = some ⟨g, 0, none⟩ ∧ base ≤ g ∧ g < w.heap.size := by
  obtain ⟨A', c', R', d', e1, e2, h1, h2, _, fR⟩ := o.form
  injection e2 with e5 e6 e7
  subst e5 e6 e7
  exact fR hm
theorem IS.drop1 {w : World} {B m : Nat} {g : Nat} {xs : List Int} (h : IS w B (some ⟨g, 0, none⟩) (m + 1) xs) : IS w B (some ⟨g, 1, none⟩) m (xs.drop 1) := by
  refine ⟨by rw [List.length_drop, h.1]; omega, fun h0 => ?_⟩
  obtain ⟨g', o', e, hb, hc⟩ := h.2 (by omega)
  injection e with e
  injection e with e1 e2
  subst e1 e2
  refine ⟨g, 1, rfl, hb, fun k x hx => ?_⟩
  rw [List.getElem?_drop] at hx
  have := hc (1 + k) x hx
  rwa [Nat.zero_add] at this
theorem HF.more {w : World} {lo lo' n m : Nat} {A R : Option Addr} {h : Hp} (H : HF w lo A n R m h) (hl : lo' ≤ lo) : HF w lo' A n R m h := fun w' hs hb => H w' hs fun j hj hk => hb j (by omega) hk
theorem HF.reads {w : World} {lo n m : Nat} {A R : Option Addr} {h : Hp} (H : HF w lo A n R m h) : HS w w.heap.size A n R m h := H w (Nat.le_refl _) fun _ _ _ => rfl
theorem HF.below {w w' : World} {lo n m B : Nat} {A R : Option Addr} {h : Hp} (H : HF w lo A n R m h) (hb : Below B w w') (hB : w.heap.size ≤ B) : HF w' lo A n R m h := fun w'' hs hh =>
  H w'' (Nat.le_trans hb.size hs) fun j hj hk => (hh j hj (Nat.lt_of_lt_of_le hk hb.size)).trans (hb.block j (by omega))
theorem HF.far {w w' : World} {lo n m gr : Nat} {A R : Option Addr} {h : Hp} (H : HF w lo A n R m h) (hg : w.grownBy w' (some gr)) (hl : gr < lo) : HF w' lo A n R m h := fun w'' hs hh =>
  H w'' (Nat.le_trans hg.size hs) fun j hj hk => (hh j hj (Nat.lt_of_lt_of_le hk hg.size)).trans (hg.block j hk (fun e => by injection e with e; omega))
/-- a heap that is drawn is small -/
def SmallH (h : Hp) : Prop := h.cs.length ≤ 41 ∧ h.rt.length ≤ 4 ∧ (∀ c ∈ h.cs, c.r.length ≤ 3 ∧ (-1 ≤ c.d ∧ c.d ≤ 100) ∧ ∀ x ∈ c.r, -2 ≤ x ∧ x ≤ 100) ∧ ∀ x ∈ h.rt, -2 ≤ x ∧ x ≤ 100
theorem small_valid {h : Hp} (hv : Hps.validH h = true) : SmallH h := by
  obtain ⟨h1, h2, h3, h4⟩ := Hps.valid_iff.1 hv
  refine ⟨by omega, by omega, fun c hc => ?_, fun x hx => ?_⟩
  · have ok := Hps.okCell_iff.1 (h1 c hc)
    refine ⟨ok.2.2.1, ⟨by omega, by omega⟩, fun x hx => ?_⟩
    have := Hps.okRef_lo (Hps.okRefs_iff.1 ok.2.2.2 x hx)
    omega
  · have := Hps.okRef_lo (Hps.okRefs_iff.1 h4 x hx)
    omega
theorem SmallH.snoc {h : Hp} {cl : Cl} (hs : SmallH h) (hn : h.cs.length ≤ 40) (h1 : cl.r.length ≤ 3) (h2 : -1 ≤ cl.d ∧ cl.d ≤ 100) (h3 : ∀ x ∈ cl.r, -2 ≤ x ∧ x ≤ 100) : SmallH ⟨h.cs ++ [cl], h.rt⟩ := by
  obtain ⟨_, s2, s3, s4⟩ := hs
  refine ⟨by simp; omega, s2, fun c hc => ?_, s4⟩
  rcases List.mem_append.1 hc with hc | hc
  · exact s3 c hc
  · rw [List.mem_singleton] at hc
    subst hc
    exact ⟨h1, h2, h3⟩
theorem SmallH.setRoot {h : Hp} {i : Nat} {x : Int} (hs : SmallH h) (hx : -2 ≤ x ∧ x ≤ 100) : SmallH ⟨h.cs, h.rt.set i x⟩ := by
  obtain ⟨s1, s2, s3, s4⟩ := hs
  refine ⟨s1, by simpa using s2, s3, fun y hy => ?_⟩
  rcases List.mem_or_eq_of_mem_set hy with hy | rfl
  · exact s4 y hy
  · exact hx
theorem SmallH.drop1 {h : Hp} (hs : SmallH h) : SmallH ⟨h.cs, h.rt.drop 1⟩ := by
  obtain ⟨s1, s2, s3, s4⟩ := hs
  exact ⟨s1, by simp; omega, s3, fun y hy => s4 y (List.mem_of_mem_drop hy)⟩
theorem Hps.mutate_valid {h : Hp} (hv : Hps.validH h = true) {k j t : Nat} {c c' : Cl} (hc : h.cs[k]? = some c) (hu : c.u = true) (hc' : h.cs[t]? = some c') (hu' : c'.u = true) : Hps.validH ⟨h.cs.set k ⟨c.u, c.d, c.r.set j (t : Int)⟩, h.rt⟩ = true := by
  have ok := Hps.okCell_iff.1 (Hps.valid_cell hv hc)
  have hm := Hps.used_set (c' := ⟨c.u, c.d, c.r.set j (t : Int)⟩) hc (fun h => h)
  refine Hps.set_cell_valid hv hc (fun h => h) (Hps.okCell_iff.2 ⟨.inl hu, ok.2.1, by simpa using ok.2.2.1, Hps.okRefs_mono hm (Hps.okRefs_set ok.2.2.2 ?_)⟩)
  exact Hps.okRef_iff.2 (.inr ⟨by omega, Hps.usedAt_iff.2 ⟨c', by simpa using hc', hu'⟩⟩)
/-- a heap has been drawn -/
def DrewH (w : World) (gr N : Nat) (n : Int) (e : Ending) (w' : World) : Prop :=
  ∃ (A : Option Addr) (nn c : Nat) (R : Option Addr) (m d : Nat) (h : Hp), e = .returned (heapV A nn c R m d) ∧ nn ≤ c ∧ m ≤ d ∧ HF w' w.heap.size A nn R m h ∧ (n = 0 → Hps.validH h = true) ∧ SmallH h ∧ Rd w' gr (N + 700) ∧ w.grownBy w' (some gr)
/-- while a heap is drawn: the heap in the box b, the reader in gr -/
structure HpSt (w wr : World) (gr N b : Nat) (vc vr : Value) (rvs : List Value) (h : Hp) : Prop where
  own : OwnHx wr (w.heap.size + 1) vc vr rvs h
  apart : Apart (some b) (vc :: vr :: rvs)
  box : Rw wr b 26 #[vc, vr]
  res : Rw wr w.heap.size 26 #[.slice none 0 0, .slice none 0 0]
  rd : Rd wr gr N
  grown : w.grownBy wr (some gr)
  lo : w.heap.size + 1 ≤ b
  old : gr < w.heap.size
section
variable {w wr w1 : World} {gr N b g c d i k : Nat} {vc vr : Value} {rvs : List Value} {h : Hp} {cl : Cl}
theorem HpSt.pick {N' : Nat} (S : HpSt w wr gr N b vc vr rvs h) (hr : Rd w1 gr N') (hg : wr.grownBy w1 (some gr)) : HpSt w w1 gr N' b vc vr rvs h := by
  have h1 := S.lo
  have h2 := S.old
  exact ⟨S.own.far hg (S.own.apart_below (by omega)), S.apart, S.box.far hg (fun e => by injection e with e; omega), S.res.far hg (fun e => by injection e with e; omega), hr, World.grownBy.trans S.grown hg, h1, h2⟩
theorem HpSt.more {N' : Nat} (S : HpSt w wr gr N b vc vr rvs h) (hN : N ≤ N') : HpSt w wr gr N' b vc vr rvs h := ⟨S.own, S.apart, S.box, S.res, S.rd.more hN, S.grown, S.lo, S.old⟩
theorem HpSt.up (S : HpSt w wr gr N b vc vr rvs h) (hw : Below wr.heap.size wr w1) : HpSt w w1 gr N b vc vr rvs h :=
  ⟨S.own.below hw (Nat.le_refl _), S.apart, S.box.keep hw S.box.lt, S.res.keep hw S.res.lt, S.rd.below hw S.rd.lt, grown_below S.grown (hw.mono S.grown.size), S.lo, S.old⟩
theorem HpSt.alloc (S : HpSt w wr gr N b vc vr rvs h) (o : Obj) : HpSt w (wr.alloc o) gr N b vc vr rvs h := S.up ((Below.refl _ _).alloc (Nat.le_refl _) _)
theorem HpSt.into (S : HpSt w wr gr N b vc vr rvs h) {v : Value} (hv : v ∈ vc :: vr :: rvs) (hg : v.ownBlock = some g) {rvs' : List Value} {h' : Hp} (u : Value)
    (ho : OwnHx (wr.setCell ⟨g, i, none⟩ u) (w.heap.size + 1) vc vr rvs' h') (ha : ∀ v ∈ rvs', v.ownBlock = none ∨ v.ownBlock ≠ some b) : HpSt w (wr.setCell ⟨g, i, none⟩ u) gr N b vc vr rvs' h' := by
  have h1 := S.own.blocks hv hg
  have h3 := S.old
  have h2 : b ≠ g := by
    rcases S.apart v hv with e | e
    · rw [hg] at e; cases e
    · intro e'; rw [hg] at e; exact e (by rw [e'])
  have hb : Below g wr (wr.setCell ⟨g, i, none⟩ u) := (Below.refl g wr).setCell (p := ⟨g, i, none⟩) (Nat.le_refl _) u
  refine ⟨ho, ?_, S.box.other h2 u, S.res.other (by omega) u, S.rd.below hb (by omega), grown_below S.grown (hb.mono (by omega)), S.lo, h3⟩
  intro x hx
  simp only [List.mem_cons] at hx
  rcases hx with rfl | rfl | hx
  · exact S.apart x (by simp)
  · exact S.apart x (by simp)
  · exact ha x hx
theorem HpSt.root {m : Nat} (S : HpSt w wr gr N b vc (.slice (some ⟨g, 0, none⟩) m d) rvs h) (hm : h.rt.length = m) (x : Int) : HpSt w (wr.setCell ⟨g, i, none⟩ (.int .i64 x)) gr N b vc (.slice (some ⟨g, 0, none⟩) m d) rvs ⟨h.cs, h.rt.set i x⟩ := by
  subst hm
  exact S.into (v := .slice (some ⟨g, 0, none⟩) h.rt.length d) (by simp) rfl _ (S.own.root x) fun v hv => S.apart v (by simp [hv])
theorem HpSt.ref1 {m : Nat} (S : HpSt w wr gr N b vc vr rvs h) (hc : h.cs[k]? = some cl) (hv : rvs[k]? = some (.slice (some ⟨g, 0, none⟩) m d)) (hm : cl.r.length = m) (x : Int) : HpSt w (wr.setCell ⟨g, i, none⟩ (.int .i64 x)) gr N b vc vr rvs ⟨h.cs.set k ⟨cl.u, cl.d, cl.r.set i x⟩, h.rt⟩ := by
  subst hm
  exact S.into (v := .slice (some ⟨g, 0, none⟩) cl.r.length d) (by simp [List.mem_of_getElem? hv]) rfl _ (S.own.ref1 hc hv x) fun v hv => S.apart v (by simp [hv])
theorem HpSt.snoc {v9 v8 : Value} (S : HpSt w wr gr N b vc vr rvs h) (hG : wr.grownBy w1 vc.ownBlock)
    (o9 : w1.ownsRow (w.heap.size + 1) 43 3 v9 (h.cs.length + 1) (flatC h.cs rvs ++ [.bool cl.u, .int .i64 cl.d, v8])) (q : v9.ownBlock = vc.ownBlock ∨ v9.ownBlock = some wr.heap.size)
    (o8 : OwnI wr (w.heap.size + 1) v8 cl.r) (hap : ∀ v ∈ vc :: vr :: rvs, v8.ownBlock = none ∨ v8.ownBlock ≠ v.ownBlock) (h8b : v8.ownBlock ≠ some b) :
    HpSt w (w1.setCell ⟨b, 0, none⟩ v9) gr N b v9 vr (rvs ++ [v8]) ⟨h.cs ++ [cl], h.rt⟩ := by
  have hn := S.own.snoc hG o9 q o8 hap
  have hlo := S.lo
  have hbl := S.box.lt
  have hold := S.old
  have hvcb : some b ≠ vc.ownBlock := by
    rcases S.apart vc (by simp) with e | e
    · rw [e]; simp
    · exact fun h => e h.symm
  have ap : Apart (some b) (v9 :: vr :: (rvs ++ [v8])) := by
    intro v hv
    simp only [List.mem_cons, List.mem_append, List.not_mem_nil, or_false] at hv
    rcases hv with rfl | rfl | hv | rfl
    · right
      rcases q with e | e
      · rw [e]; exact fun h => hvcb h.symm
      · rw [e]; intro e'; injection e' with e'; omega
    · exact S.apart v (by simp)
    · exact S.apart v (by simp [hv])
    · exact .inr h8b
  have hB1 : Below (w.heap.size + 1) wr w1 := (Below.refl _ _).grown hG (by omega) (fun kk hk => (S.own.blocks (v := vc) (by simp) hk).1)
  have hB : Below (w.heap.size + 1) wr (w1.setCell ⟨b, 0, none⟩ v9) := hB1.setCell (p := ⟨b, 0, none⟩) hlo v9
  exact ⟨hn.far (put_any w1 b 0 v9) ap, ap, (Rw.far S.box hG hvcb).put 0 v9, S.res.keep hB (by omega), S.rd.below hB (by omega), grown_below S.grown (hB.mono (by omega)), hlo, hold⟩
/-- the end: the result's box is written -/
theorem HpSt.fin {n m : Nat} {A R : Option Addr} (S : HpSt w wr gr N b (.slice A n c) (.slice R m d) rvs h) (u u' : Value) :
    HF ((wr.setCell ⟨w.heap.size, 0, none⟩ u).setCell ⟨w.heap.size, 1, none⟩ u') w.heap.size A n R m h ∧ Rd ((wr.setCell ⟨w.heap.size, 0, none⟩ u).setCell ⟨w.heap.size, 1, none⟩ u') gr N ∧ w.grownBy ((wr.setCell ⟨w.heap.size, 0, none⟩ u).setCell ⟨w.heap.size, 1, none⟩ u') (some gr) := by
  have ap : Apart (some w.heap.size) (.slice A n c :: .slice R m d :: rvs) := S.own.apart_below (by omega)
  have hB : Below w.heap.size wr ((wr.setCell ⟨w.heap.size, 0, none⟩ u).setCell ⟨w.heap.size, 1, none⟩ u') := ((Below.refl w.heap.size wr).setCell (p := ⟨w.heap.size, 0, none⟩) (Nat.le_refl _) u).setCell (p := ⟨w.heap.size, 1, none⟩) (Nat.le_refl _) u'
  exact ⟨((S.own.far (put_any wr _ 0 u) ap).far (put_any _ _ 1 u') ap).hf (by omega), S.rd.below hB S.old, grown_below S.grown hB⟩
theorem HpSt.boxed (S : HpSt w wr gr N b vc vr rvs h) (u : Value) : OwnHx (wr.setCell ⟨b, 1, none⟩ u) (w.heap.size + 1) vc vr rvs h ∧ Rw (wr.setCell ⟨b, 1, none⟩ u) b 26 #[vc, u] ∧ Rw (wr.setCell ⟨b, 1, none⟩ u) w.heap.size 26 #[.slice none 0 0, .slice none 0 0] ∧ Rd (wr.setCell ⟨b, 1, none⟩ u) gr N ∧ w.grownBy (wr.setCell ⟨b, 1, none⟩ u) (some gr) := by
  have h1 := S.lo
  have h2 := S.old
  have hB : Below b wr (wr.setCell ⟨b, 1, none⟩ u) := (Below.refl b wr).setCell (p := ⟨b, 1, none⟩) (Nat.le_refl _) u
  exact ⟨S.own.far (put_any wr b 1 u) S.apart, S.box.put 1 u, S.res.keep hB (by omega), S.rd.below hB (by omega), grown_below S.grown (hB.mono (by omega))⟩
theorem fin_cut {n m : Nat} {A : Option Addr} (hold : gr < w.heap.size) (o : OwnHx wr (w.heap.size + 1) (.slice A n c) (.slice (some ⟨g, 0, none⟩) (m + 1) d) rvs h) (rd : Rd wr gr N) (gb : w.grownBy wr (some gr)) (u u' : Value) :
    HF ((wr.setCell ⟨w.heap.size, 0, none⟩ u).setCell ⟨w.heap.size, 1, none⟩ u') w.heap.size A n (some ⟨g, 1, none⟩) m ⟨h.cs, h.rt.drop 1⟩ ∧ Rd ((wr.setCell ⟨w.heap.size, 0, none⟩ u).setCell ⟨w.heap.size, 1, none⟩ u') gr N ∧ w.grownBy ((wr.setCell ⟨w.heap.size, 0, none⟩ u).setCell ⟨w.heap.size, 1, none⟩ u') (some gr) := by
  have ap : Apart (some w.heap.size) (.slice A n c :: .slice (some ⟨g, 0, none⟩) (m + 1) d :: rvs) := o.apart_below (by omega)
  have hB : Below w.heap.size wr ((wr.setCell ⟨w.heap.size, 0, none⟩ u).setCell ⟨w.heap.size, 1, none⟩ u') := ((Below.refl w.heap.size wr).setCell (p := ⟨w.heap.size, 0, none⟩) (Nat.le_refl _) u).setCell (p := ⟨w.heap.size, 1, none⟩) (Nat.le_refl _) u'
  have H := ((o.far (put_any wr _ 0 u) ap).far (put_any _ _ 1 u') ap).hf (lo := w.heap.size) (by omega)
  exact ⟨fun w' hs hb => ⟨(H w' hs hb).cells, (H w' hs hb).roots.drop1⟩, rd.below hB hold, grown_below gb hB⟩
/-- a new heap in the box -/
theorem HpSt.next {w5 : World} {vc' vr' : Value} {h' : Hp} (S : HpSt w wr gr N b vc vr rvs h) (B : Below wr.heap.size wr w5) (o : OwnH w5 wr.heap.size vc' vr' h') :
    ∃ rvs', HpSt w ((w5.setCell ⟨b, 0, none⟩ vc').setCell ⟨b, 1, none⟩ vr') gr N b vc' vr' rvs' h' := by
  have hb := S.box.lt
  have hlo := S.lo
  have hold := S.old
  obtain ⟨rvs', own⟩ := o
  have ap : Apart (some b) (vc' :: vr' :: rvs') := own.apart_below hb
  have hB0 : Below b w5 ((w5.setCell ⟨b, 0, none⟩ vc').setCell ⟨b, 1, none⟩ vr') := ((Below.refl b w5).setCell (p := ⟨b, 0, none⟩) (Nat.le_refl _) vc').setCell (p := ⟨b, 1, none⟩) (Nat.le_refl _) vr'
  have hB : Below b wr ((w5.setCell ⟨b, 0, none⟩ vc').setCell ⟨b, 1, none⟩ vr') := (B.mono (by omega)).trans hB0
  exact ⟨rvs', ((own.far (put_any w5 b 0 vc') ap).far (put_any _ b 1 vr') ap).base (by have := S.grown.size; omega), ap, ((S.box.keep B hb).put 0 vc').put 1 vr', S.res.keep hB (by omega), S.rd.below hB (by omega), grown_below S.grown (hB.mono (by omega)), hlo, hold⟩
end
set_option maxRecDepth 100000 in
set_option maxHeartbeats 16000000 in
theorem l20Heap_any (gr N : Nat) (n : Int) (w : World) (h : Rd w gr N) (hN : N ≤ 10000) (hn0 : 0 ≤ n) (hn : n ≤ 1000) :
    Calls Tryd.prog 45 #[.pointer (some ⟨gr, 0, none⟩), .int .i64 n] w (DrewH w gr N n) := by
  have hgl := h.lt
  have h0 : Rd (w.alloc (.cells #[.slice none 0 0, .slice none 0 0] 26)) gr N := h.below ((Below.refl w.heap.size w).alloc (Nat.le_refl _) _) hgl
  have r0 := Rw.new w 26 #[.slice none 0 0, .slice none 0 0]
  have g0 : w.grownBy (w.alloc (.cells #[.slice none 0 0, .slice none 0 0] 26)) (some gr) := World.grownBy_alloc _ _ _
  have z0 : w.heap.size + 1 = (w.alloc (.cells #[.slice none 0 0, .slice none 0 0] 26)).heap.size := by simp
  go_enter Tryd.func45, Tryd.ntmps45
  go_upto_region 1 with fail
  generalize w.alloc (.cells #[.slice none 0 0, .slice none 0 0] 26) = w0 at h0 r0 g0 z0 ⊢
  have HZ := Lib.hid z0
  clear z0
  go_wp2_with fail
  refine (l20Program_zero gr N _ h0 (by omega)).mono ?_
  rintro e w1 ⟨v, l, rfl, om, hok, hr1, g1⟩
  obtain ⟨A0, c0, rfl, -⟩ := om.form
  have hll := (Hps.okCms_iff.1 hok).2
  have rm := om.reads
  have hvl := Hps.runH_valid hok
  clear om hok h
  go_wp2_with fail
  refine (mRunHeap_any A0 l.length c0 l _ rm (by omega)).mono ?_
  rintro e w2 ⟨vc, vr, rfl, ⟨rvs, own⟩, b2⟩
  have s1 : w.heap.size + 1 ≤ w1.heap.size := by have := HZ.out; have := g1.size; omega
  have hq := Rw.new w2 26 #[vc, vr]
  have r1 := (r0.far g1 (fun e => by injection e with e; omega)).keep b2 (by omega)
  have bA : Below w2.heap.size w2 (w2.alloc (.cells #[vc, vr] 26)) := (Below.refl _ _).alloc (Nat.le_refl _) _
  have S : HpSt w (w2.alloc (.cells #[vc, vr] 26)) gr (N + 600) w2.heap.size vc vr rvs (Hps.runH l) :=
    ⟨(OwnHx.base (base' := w.heap.size + 1) own s1).below bA (Nat.le_refl _), own.apart_new (Nat.le_refl _), hq, r1.alloc _, (hr1.below b2 hr1.lt).below bA (by have := b2.size; omega), grown_below (World.grownBy.trans g0 g1) ((b2.mono (by omega)).trans (bA.mono (by have := b2.size; omega))), by have := b2.size; omega, hgl⟩
  obtain ⟨Ac, cc, Rc, dc, rfl, rfl, -⟩ := own.form
  obtain ⟨hh, ehh⟩ : ∃ hh, Hps.runH l = hh := ⟨_, rfl⟩
  rw [ehh] at S hvl ⊢
  have hvs := Hps.valid_iff.1 hvl
  obtain ⟨nn, hnn⟩ : ∃ nn, hh.cs.length = nn := ⟨_, rfl⟩
  have hn40 : nn ≤ 40 := by rw [← hnn]; exact hvs.2.1
  have hm4 := hvs.2.2.1
  rw [hnn, hm4] at S ⊢
  have HN := Lib.hid hnn
  have HM := Lib.hid hm4
  have HV := Lib.hid hvl
  clear hvs hnn hm4 hvl
  clear own ehh hq r1 bA s1 h0 r0 g0 HZ hr1 g1 rm hll hgl b2
  go_upto_region 2 with fail
  generalize w2.alloc (.cells #[.slice Ac nn cc, .slice Rc 4 dc] 26) = w3 at S ⊢
  generalize w2.heap.size = b at S ⊢
  go_wp2_with fail
  refine (pick_any _ _ _ _ S.rd (by omega) (by omega)).mono ?_
  rintro e w4 ⟨r, rfl, ar, cr, hr4, g4⟩
  replace S := S.pick hr4 g4
  clear hr4 g4 w3 w2 w1 w0
  go_upto_if 14 with fail
  go_cut [] from 9 (fun wc => ∃ (A1 : Option Addr) (n1 c1 : Nat) (R1 : Option Addr) (d1 : Nat) (rvs1 : List Value) (h1 : Hp), n1 ≤ 40 ∧ Hid (h1.cs.length = n1) ∧ Hid (h1.rt.length = 4) ∧ Hid (Hps.validH h1 = true) ∧ HpSt w wc gr (N + 601) b (.slice A1 n1 c1) (.slice R1 4 d1) rvs1 h1)
  case first =>
    by_cases hr0 : r = 0
    · have hs := S.own.reads
      have x0 : w4.cell? ⟨b, 0, none⟩ = some (.slice Ac nn cc) := S.box.cell 0
      have x1 : w4.cell? ⟨b, 1, none⟩ = some (.slice Rc 4 dc) := S.box.cell 1
      have HV2 := Lib.hid (Hps.collectH_valid HV.out)
      have SS := Lib.hid S
      subst hr0
      clear S ar cr
      go_wp2_with fail
      refine (mCollectSweep_any _ _ _ _ _ _ hh _ hs (by omega) (by omega)).mono ?_
      rintro e w5 ⟨vc, vr, rfl, oh, b5⟩
      obtain ⟨rvs', SN⟩ := SS.out.next b5 oh
      have bx := SS.out.box.keep b5 SS.out.box.lt
      obtain ⟨h2, eh2⟩ : ∃ h2, (Hps.collectH hh).1 = h2 := ⟨_, rfl⟩
      rw [eh2] at SN oh HV2
      have hvs := Hps.valid_iff.1 HV2.out
      obtain ⟨A2, c2, R2, d2, rfl, rfl, -⟩ := oh.form
      obtain ⟨n2, hn2⟩ : ∃ n2, h2.cs.length = n2 := ⟨_, rfl⟩
      have hn40' : n2 ≤ 40 := by rw [← hn2]; exact hvs.2.1
      have hm4' := hvs.2.2.1
      rw [hn2, hm4'] at SN ⊢
      have HN2 := Lib.hid hn2
      have HM2 := Lib.hid hm4'
      have y0 : w5.cell? ⟨b, 0, none⟩ = some (.slice Ac nn cc) := bx.cell 0
      have y1 : w5.cell? ⟨b, 1, none⟩ = some (.slice Rc 4 dc) := bx.cell 1
      have y2 : w5.frozen? ⟨b, 0, none⟩ = false := bx.frozen 0
      have y3 : w5.frozen? ⟨b, 1, none⟩ = false := bx.frozen 1
      have SH := Lib.hid SN
      clear oh eh2 bx hs x0 x1 b5 hvs hn2 hm4' SN
      go_wp2_with fail
      go_meet
      case rel => exact ⟨A2, n2, c2, R2, d2, rvs', h2, hn40', HN2, HM2, HV2, SH.out⟩
    · go_wp2_with fail
      go_meet
      case rel => exact ⟨Ac, nn, cc, Rc, dc, rvs, hh, hn40, HN, HM, HV, S⟩
  case rest =>
    clear S HV HN HM hn40 ar cr
    obtain ⟨A1, n1, c1, R1, d1, rvs1, h1, hn1, HN1, HM1, HV1, S⟩ := hcut
    clear hh rvs Ac cc Rc dc nn
    go_wp2_with fail
    refine (pick_any _ _ _ _ S.rd (by omega) (by omega)).mono ?_
    rintro e w5 ⟨r5, rfl, ar, cr, hr5, g5⟩
    replace S := S.pick hr5 g5
    have cr' : r5 < 6 := by omega
    obtain ⟨q, rfl⟩ := Int.eq_ofNat_of_zero_le ar
    clear hr5 g5 wc ar cr w4
    replace S := S.more (N' := N + 602 + 3 * (5 - q)) (by omega)
    go_upto_block 0 with fail
    go_cut [] from 9 (fun wc => ∃ (A1 : Option Addr) (nn c1 : Nat) (R1 : Option Addr) (d1 : Nat) (rvs1 : List Value) (h1 : Hp), nn ≤ 40 ∧ Hid (h1.cs.length = nn) ∧ Hid (h1.rt.length = 4) ∧ Hid (Hps.validH h1 = true) ∧ HpSt w wc gr (N + 617) b (.slice A1 nn c1) (.slice R1 4 d1) rvs1 h1)
    case first =>
      go_wp2_with fail
      go_loopw [6, 7, 8] (fun u6 u7 u8 wr => ∃ (k : Nat) (A1 : Option Addr) (nn c1 : Nat) (R1 : Option Addr) (d1 : Nat) (rvs1 : List Value) (h1 : Hp), k ≤ 5 ∧ u6 = .int .i64 k ∧ nn ≤ 40 ∧ Hid (h1.cs.length = nn) ∧ Hid (h1.rt.length = 4) ∧ Hid (Hps.validH h1 = true) ∧ HpSt w wr gr (N + 602 + 3 * (5 - k)) b (.slice A1 nn c1) (.slice R1 4 d1) rvs1 h1) (fun u6 _ _ _ => (intOf u6).toNat)
      case atStart => exact ⟨q, A1, n1, c1, R1, d1, rvs1, h1, by omega, rfl, hn1, HN1, HM1, HV1, S⟩
      case round =>
        clear S HN1 HM1 HV1 hn1 h1 rvs1 A1 c1 R1 d1 n1
        obtain ⟨k, A1, nn, c1, R1, d1, rvs1, h1, hk, rfl, hn40, HN, HM, HV, S⟩ := hrel
        have x0 : wr.cell? ⟨b, 0, none⟩ = some (.slice A1 nn c1) := S.box.cell 0
        have x1 : wr.cell? ⟨b, 1, none⟩ = some (.slice R1 4 d1) := S.box.cell 1
        by_cases hk0 : 0 < k
        · have hk0' : (0 : Int) < k := by omega
          by_cases hne : 0 < nn
          · have hne' : (0 : Int) < nn := by omega
            go_wp2_with fail
            refine (pick_any _ _ _ _ S.rd (by omega) (by omega)).mono ?_
            rintro e w5 ⟨i1, rfl, a1, cr1, hr1, g1⟩
            replace S := S.pick hr1 g1
            obtain ⟨ka, rfl⟩ := Int.eq_ofNat_of_zero_le a1
            have hka : ka < nn := by omega
            have x0' : w5.cell? ⟨b, 0, none⟩ = some (.slice A1 nn c1) := S.box.cell 0
            have x1' : w5.cell? ⟨b, 1, none⟩ = some (.slice R1 4 d1) := S.box.cell 1
            clear hr1 g1 a1 cr1 x0 x1
            go_wp2_with fail
            refine (pick_any _ _ _ _ S.rd (by omega) (by omega)).mono ?_
            rintro e w6 ⟨i2, rfl, a2, cr2, hr2, g2⟩
            replace S := S.pick hr2 g2
            obtain ⟨kt, rfl⟩ := Int.eq_ofNat_of_zero_le a2
            have hkt : kt < nn := by omega
            have x0 : w6.cell? ⟨b, 0, none⟩ = some (.slice A1 nn c1) := S.box.cell 0
            have x1 : w6.cell? ⟨b, 1, none⟩ = some (.slice R1 4 d1) := S.box.cell 1
            clear hr2 g2 a2 cr2 x0' x1'
            obtain ⟨ca, hca⟩ : ∃ ca, h1.cs[ka]? = some ca := ⟨_, List.getElem?_eq_getElem (by rw [HN.out]; exact hka)⟩
            obtain ⟨ct, hct⟩ : ∃ ct, h1.cs[kt]? = some ct := ⟨_, List.getElem?_eq_getElem (by rw [HN.out]; exact hkt)⟩
            obtain ⟨gc, va, e1, hgc1, hgc2, hra, hoa, d0, d1', d2, fzc⟩ := S.own.cell_at hca
            obtain ⟨gc', vt, e2, -, -, -, -, d0', -, -, -⟩ := S.own.cell_at hct
            subst e1
            injection e2 with e2
            injection e2 with e2
            subst e2
            obtain ⟨Av, cv, rfl, fv⟩ := hoa.form
            obtain ⟨mr, hmr⟩ : ∃ mr, ca.r.length = mr := ⟨_, rfl⟩
            have hmr3 : mr ≤ 3 := by rw [← hmr]; exact (Hps.okCell_iff.1 (Hps.valid_cell HV.out hca)).2.2.1
            rw [hmr] at d2 hra hoa fv
            have HA := Lib.hid hca
            have HT := Lib.hid hct
            have HR := Lib.hid hra
            have HL := Lib.hid hmr
            have hka' : (ka : Int) < nn := by omega
            have hkt' : (kt : Int) < nn := by omega
            clear hca hct hra hmr d1' hgc2 fzc hoa
            have SS := Lib.hid (S.more (N' := N + 602 + 3 * (5 - (k - 1))) (by omega))
            have SR := Lib.hid S
            clear S
            cases hua : ca.u
            · rw [hua] at d0
              go_wp2_with fail
              go_roundw
              case rel => exact ⟨k - 1, _, nn, c1, R1, d1, rvs1, h1, by omega, int_eq (by omega), hn40, HN, HM, HV, SS.out⟩
              case measure => simp [intOf]; omega
            rw [hua] at d0
            cases hut : ct.u
            · rw [hut] at d0'
              go_wp2_with fail
              go_roundw
              case rel => exact ⟨k - 1, _, nn, c1, R1, d1, rvs1, h1, by omega, int_eq (by omega), hn40, HN, HM, HV, SS.out⟩
              case measure => simp [intOf]; omega
            rw [hut] at d0'
            by_cases hmz : 0 < mr
            case neg =>
              obtain rfl : mr = 0 := by omega
              go_wp2_with fail
              go_roundw
              case rel => exact ⟨k - 1, _, nn, c1, R1, d1, rvs1, h1, by omega, int_eq (by omega), hn40, HN, HM, HV, SS.out⟩
              case measure => simp [intOf]; omega
            obtain ⟨gv, rfl, hgv1, hgv2⟩ := fv hmz
            have hmz' : (0 : Int) < mr := by omega
            have HUA := Lib.hid hua
            have HUT := Lib.hid hut
            have hlo := SR.out.lo
            have hold := SR.out.old
            clear hua hut fv SS
            go_wp2_with fail
            refine wp_region_inv (by kernel_rfl) (by kernel_rfl) (fun L ac ww => ∃ t66 t67 t68 t69 t70 t71 t72 t73 t74 t75 t76 t77 t78 t79 t80 t81 t82 : Value, ac = { tmps := #[Value.pointer (some { block := gr, off := 0 }), Value.int IntKind.i64 n, undef, undef, Value.pointer (some { block := w.heap.size, off := 0 }), Value.pointer (some { block := b, off := 0 }), Value.int IntKind.i64 ↑k, Value.int IntKind.i64 ↑ka, Value.int IntKind.i64 ↑kt, u9, u10, u11, u12, u13, u14, u15, u16, u17, u18, u19, Value.pointer (some { block := gr, off := 0 }), Value.int IntKind.i64 ↑q, Value.int IntKind.i64 ↑k, Value.bool true, Value.bool true, Value.pointer (some { block := b, off := 0 }), Value.slice (some { block := gc, off := 0 }) nn c1, Value.int IntKind.i64 ↑nn, Value.bool true, Value.bool true, u30, u31, Value.pointer (some { block := gr, off := 0 }), Value.pointer (some { block := b, off := 0 }), Value.slice (some { block := gc, off := 0 }) nn c1, Value.int IntKind.i64 ↑nn, Value.int IntKind.i64 ↑ka, Value.pointer (some { block := gr, off := 0 }), Value.pointer (some { block := b, off := 0 }), Value.slice (some { block := gc, off := 0 }) nn c1, Value.int IntKind.i64 ↑nn, Value.int IntKind.i64 ↑kt, Value.pointer (some { block := b, off := 0 }), Value.slice (some { block := gc, off := 0 }) nn c1, Value.int IntKind.i64 ↑ka, Value.pointer (some { block := gc, off := ka * 3 }), Value.pointer (some { block := gc, off := ka * 3 }), Value.bool true, Value.bool true, Value.pointer (some { block := b, off := 0 }), Value.slice (some { block := gc, off := 0 }) nn c1, Value.int IntKind.i64 ↑kt, Value.pointer (some { block := gc, off := kt * 3 }), Value.pointer (some { block := gc, off := kt * 3 }), Value.bool true, Value.bool true, Value.bool true, Value.pointer (some { block := b, off := 0 }), Value.slice (some { block := gc, off := 0 }) nn c1, Value.int IntKind.i64 ↑ka, Value.pointer (some { block := gc, off := ka * 3 }), Value.pointer (some { block := gc, off := ka * 3 + 2 }), Value.slice (some { block := gv, off := 0 }) mr cv, Value.int IntKind.i64 ↑mr, Value.bool true, Value.bool true, t66, t67, t68, t69, t70, t71, t72, t73, t74, t75, t76, t77, t78, t79, t80, t81, t82, u83, u84, u85, u86, u87, u88, u89, u90, u91, u92, u93, u94, u95, u96, u97, u98, u99, u100, u101, u102, u103, u104, u105, u106, u107, u108, u109, u110, u111, u112, u113, u114, u115, u116, u117, u118, u119, u120, u121, u122, u123, u124, u125, u126, u127, u128, u129, u130, u131, u132, u133, u134, u135, u136, u137, u138, u139, u140, u141], defers := [] } ∧ (L 17 = false → Rd ww gr (N + 602 + 3 * (5 - k) + 1 + 1 + (L 14).toNat) ∧ w6.grownBy ww (some gr)) ∧ (L 17 = true → ∀ q, q < 17 → L q = true) ∧ (L 0 = true → t66 = (.pointer (some ⟨b, 0, none⟩))) ∧ (L 1 = true → t67 = (.slice (some ⟨gc, 0, none⟩) nn c1)) ∧ (L 2 = true → t68 = .int .i64 ka) ∧ (L 3 = true → t69 = (.pointer (some ⟨gc, ka * 3, none⟩))) ∧ (L 4 = true → t70 = (.pointer (some ⟨gc, ka * 3 + 2, none⟩))) ∧ (L 5 = true → t71 = (.slice (some ⟨gv, 0, none⟩) mr cv)) ∧ (L 6 = true → t72 = (.pointer (some ⟨gr, 0, none⟩))) ∧ (L 7 = true → t73 = (.pointer (some ⟨b, 0, none⟩))) ∧ (L 8 = true → t74 = (.slice (some ⟨gc, 0, none⟩) nn c1)) ∧ (L 9 = true → t75 = .int .i64 ka) ∧ (L 10 = true → t76 = (.pointer (some ⟨gc, ka * 3, none⟩))) ∧ (L 11 = true → t77 = (.pointer (some ⟨gc, ka * 3 + 2, none⟩))) ∧ (L 12 = true → t78 = (.slice (some ⟨gv, 0, none⟩) mr cv)) ∧ (L 13 = true → t79 = .int .i64 mr) ∧ (L 14 = true → ∃ j : Nat, t80 = .int .i64 j ∧ j < mr) ∧ (L 15 = true → t81 = .int .i64 kt) ∧ (L 16 = true → ∃ j : Nat, t82 = .pointer (some ⟨gv, j, none⟩) ∧ j < mr) ∧ (L 17 = true → ∃ (j : Nat) (w1 : World), j < mr ∧ ww = w1.setCell ⟨gv, j, none⟩ (.int .i64 kt) ∧ Rd w1 gr (N + 602 + 3 * (5 - k) + 1 + 1 + 1) ∧ w6.grownBy w1 (some gr))) ?h0 ?hstep ?hdone
            case h0 => exact ⟨_, _, _, _, _, _, _, _, _, _, _, _, _, _, _, _, _, rfl, fun _ => ⟨by simpa using SR.out.rd.below (Below.refl _ _).drew SR.out.rd.lt, grown_below (World.grownBy.refl _ _) (Below.refl _ _).drew⟩, fun h => absurd h Bool.false_ne_true, (fun h => absurd h Bool.false_ne_true), (fun h => absurd h Bool.false_ne_true), (fun h => absurd h Bool.false_ne_true), (fun h => absurd h Bool.false_ne_true), (fun h => absurd h Bool.false_ne_true), (fun h => absurd h Bool.false_ne_true), (fun h => absurd h Bool.false_ne_true), (fun h => absurd h Bool.false_ne_true), (fun h => absurd h Bool.false_ne_true), (fun h => absurd h Bool.false_ne_true), (fun h => absurd h Bool.false_ne_true), (fun h => absurd h Bool.false_ne_true), (fun h => absurd h Bool.false_ne_true), (fun h => absurd h Bool.false_ne_true), (fun h => absurd h Bool.false_ne_true), (fun h => absurd h Bool.false_ne_true), (fun h => absurd h Bool.false_ne_true), (fun h => absurd h Bool.false_ne_true)⟩
            case hstep =>
              rintro L ac ww i o ho hL hd ⟨t66, t67, t68, t69, t70, t71, t72, t73, t74, t75, t76, t77, t78, t79, t80, t81, t82, rfl, I0, I1, f0, f1, f2, f3, f4, f5, f6, f7, f8, f9, f10, f11, f12, f13, f14, f15, f16, f17⟩
              have hi : i < 18 := (Array.getElem?_eq_some_iff.1 ho).1
              obtain rfl | rfl | rfl | rfl | rfl | rfl | rfl | rfl | rfl | rfl | rfl | rfl | rfl | rfl | rfl | rfl | rfl | rfl : i = 0 ∨ i = 1 ∨ i = 2 ∨ i = 3 ∨ i = 4 ∨ i = 5 ∨ i = 6 ∨ i = 7 ∨ i = 8 ∨ i = 9 ∨ i = 10 ∨ i = 11 ∨ i = 12 ∨ i = 13 ∨ i = 14 ∨ i = 15 ∨ i = 16 ∨ i = 17 := by omega
              · obtain rfl := Option.some.inj ho
                have h17 : L 17 = false := by
                  cases e : L 17
                  · rfl
                  · exact absurd (I1 e 0 (by decide)) (by rw [hL]; simp)
                obtain ⟨rd, gb⟩ := I0 h17
                refine wpOp_step rfl (fun K' hK => ?_)
                go_simp
                refine hK _ _ ?_
                exact ⟨_, _, _, _, _, _, _, _, _, _, _, _, _, _, _, _, _, rfl, (fun _ => ⟨by rw [upd_other (by decide)]; exact rd, gb⟩), (upd_all I1 (by decide)), (fun _ => by first | rfl | simp), (kp f1), (kp f2), (kp f3), (kp f4), (kp f5), (kp f6), (kp f7), (kp f8), (kp f9), (kp f10), (kp f11), (kp f12), (kp f13), (kp f14), (kp f15), (kp f16), (fun h => absurd (upd_ne h (by decide)) (by rw [h17]; simp))⟩
              · obtain rfl := Option.some.inj ho
                have g0 := f0 (hd ⟨0, .data⟩ (by simp) rfl)
                subst g0
                have h17 : L 17 = false := by
                  cases e : L 17
                  · rfl
                  · exact absurd (I1 e 1 (by decide)) (by rw [hL]; simp)
                obtain ⟨rd, gb⟩ := I0 h17
                have y0 : ww.cell? ⟨b, 0, none⟩ = some (.slice (some ⟨gc, 0, none⟩) nn c1) := gb.cell x0 (fun e => by injection e with e; simp only at e; omega)
                refine wpOp_step rfl (fun K' hK => ?_)
                go_simp
                refine hK _ _ ?_
                exact ⟨_, _, _, _, _, _, _, _, _, _, _, _, _, _, _, _, _, rfl, (fun _ => ⟨by rw [upd_other (by decide)]; exact rd, gb⟩), (upd_all I1 (by decide)), (kp f0), (fun _ => by first | rfl | simp), (kp f2), (kp f3), (kp f4), (kp f5), (kp f6), (kp f7), (kp f8), (kp f9), (kp f10), (kp f11), (kp f12), (kp f13), (kp f14), (kp f15), (kp f16), (fun h => absurd (upd_ne h (by decide)) (by rw [h17]; simp))⟩
              · obtain rfl := Option.some.inj ho
                have h17 : L 17 = false := by
                  cases e : L 17
                  · rfl
                  · exact absurd (I1 e 2 (by decide)) (by rw [hL]; simp)
                obtain ⟨rd, gb⟩ := I0 h17
                refine wpOp_step rfl (fun K' hK => ?_)
                go_simp
                refine hK _ _ ?_
                exact ⟨_, _, _, _, _, _, _, _, _, _, _, _, _, _, _, _, _, rfl, (fun _ => ⟨by rw [upd_other (by decide)]; exact rd, gb⟩), (upd_all I1 (by decide)), (kp f0), (kp f1), (fun _ => by first | rfl | simp), (kp f3), (kp f4), (kp f5), (kp f6), (kp f7), (kp f8), (kp f9), (kp f10), (kp f11), (kp f12), (kp f13), (kp f14), (kp f15), (kp f16), (fun h => absurd (upd_ne h (by decide)) (by rw [h17]; simp))⟩
              · obtain rfl := Option.some.inj ho
                have g1 := f1 (hd ⟨1, .data⟩ (by simp) rfl)
                have g2 := f2 (hd ⟨2, .data⟩ (by simp) rfl)
                subst g1
                subst g2
                have h17 : L 17 = false := by
                  cases e : L 17
                  · rfl
                  · exact absurd (I1 e 3 (by decide)) (by rw [hL]; simp)
                obtain ⟨rd, gb⟩ := I0 h17
                refine wpOp_step rfl (fun K' hK => ?_)
                go_simp
                refine hK _ _ ?_
                exact ⟨_, _, _, _, _, _, _, _, _, _, _, _, _, _, _, _, _, rfl, (fun _ => ⟨by rw [upd_other (by decide)]; exact rd, gb⟩), (upd_all I1 (by decide)), (kp f0), (kp f1), (kp f2), (fun _ => by first | rfl | simp), (kp f4), (kp f5), (kp f6), (kp f7), (kp f8), (kp f9), (kp f10), (kp f11), (kp f12), (kp f13), (kp f14), (kp f15), (kp f16), (fun h => absurd (upd_ne h (by decide)) (by rw [h17]; simp))⟩
              · obtain rfl := Option.some.inj ho
                have g3 := f3 (hd ⟨3, .data⟩ (by simp) rfl)
                subst g3
                have h17 : L 17 = false := by
                  cases e : L 17
                  · rfl
                  · exact absurd (I1 e 4 (by decide)) (by rw [hL]; simp)
                obtain ⟨rd, gb⟩ := I0 h17
                refine wpOp_step rfl (fun K' hK => ?_)
                go_simp
                refine hK _ _ ?_
                exact ⟨_, _, _, _, _, _, _, _, _, _, _, _, _, _, _, _, _, rfl, (fun _ => ⟨by rw [upd_other (by decide)]; exact rd, gb⟩), (upd_all I1 (by decide)), (kp f0), (kp f1), (kp f2), (kp f3), (fun _ => by first | rfl | simp), (kp f5), (kp f6), (kp f7), (kp f8), (kp f9), (kp f10), (kp f11), (kp f12), (kp f13), (kp f14), (kp f15), (kp f16), (fun h => absurd (upd_ne h (by decide)) (by rw [h17]; simp))⟩
              · obtain rfl := Option.some.inj ho
                have g4 := f4 (hd ⟨4, .data⟩ (by simp) rfl)
                subst g4
                have h17 : L 17 = false := by
                  cases e : L 17
                  · rfl
                  · exact absurd (I1 e 5 (by decide)) (by rw [hL]; simp)
                obtain ⟨rd, gb⟩ := I0 h17
                have y0 : ww.cell? ⟨gc, ka * 3 + 2, none⟩ = some (.slice (some ⟨gv, 0, none⟩) mr cv) := gb.cell d2 (fun e => by injection e with e; simp only at e; omega)
                refine wpOp_step rfl (fun K' hK => ?_)
                go_simp
                refine hK _ _ ?_
                exact ⟨_, _, _, _, _, _, _, _, _, _, _, _, _, _, _, _, _, rfl, (fun _ => ⟨by rw [upd_other (by decide)]; exact rd, gb⟩), (upd_all I1 (by decide)), (kp f0), (kp f1), (kp f2), (kp f3), (kp f4), (fun _ => by first | rfl | simp), (kp f6), (kp f7), (kp f8), (kp f9), (kp f10), (kp f11), (kp f12), (kp f13), (kp f14), (kp f15), (kp f16), (fun h => absurd (upd_ne h (by decide)) (by rw [h17]; simp))⟩
              · obtain rfl := Option.some.inj ho
                have h17 : L 17 = false := by
                  cases e : L 17
                  · rfl
                  · exact absurd (I1 e 6 (by decide)) (by rw [hL]; simp)
                obtain ⟨rd, gb⟩ := I0 h17
                refine wpOp_step rfl (fun K' hK => ?_)
                go_simp
                refine hK _ _ ?_
                exact ⟨_, _, _, _, _, _, _, _, _, _, _, _, _, _, _, _, _, rfl, (fun _ => ⟨by rw [upd_other (by decide)]; exact rd, gb⟩), (upd_all I1 (by decide)), (kp f0), (kp f1), (kp f2), (kp f3), (kp f4), (kp f5), (fun _ => by first | rfl | simp), (kp f7), (kp f8), (kp f9), (kp f10), (kp f11), (kp f12), (kp f13), (kp f14), (kp f15), (kp f16), (fun h => absurd (upd_ne h (by decide)) (by rw [h17]; simp))⟩
              · obtain rfl := Option.some.inj ho
                have h17 : L 17 = false := by
                  cases e : L 17
                  · rfl
                  · exact absurd (I1 e 7 (by decide)) (by rw [hL]; simp)
                obtain ⟨rd, gb⟩ := I0 h17
                refine wpOp_step rfl (fun K' hK => ?_)
                go_simp
                refine hK _ _ ?_
                exact ⟨_, _, _, _, _, _, _, _, _, _, _, _, _, _, _, _, _, rfl, (fun _ => ⟨by rw [upd_other (by decide)]; exact rd, gb⟩), (upd_all I1 (by decide)), (kp f0), (kp f1), (kp f2), (kp f3), (kp f4), (kp f5), (kp f6), (fun _ => by first | rfl | simp), (kp f8), (kp f9), (kp f10), (kp f11), (kp f12), (kp f13), (kp f14), (kp f15), (kp f16), (fun h => absurd (upd_ne h (by decide)) (by rw [h17]; simp))⟩
              · obtain rfl := Option.some.inj ho
                have g7 := f7 (hd ⟨7, .data⟩ (by simp) rfl)
                subst g7
                have h17 : L 17 = false := by
                  cases e : L 17
                  · rfl
                  · exact absurd (I1 e 8 (by decide)) (by rw [hL]; simp)
                obtain ⟨rd, gb⟩ := I0 h17
                have y0 : ww.cell? ⟨b, 0, none⟩ = some (.slice (some ⟨gc, 0, none⟩) nn c1) := gb.cell x0 (fun e => by injection e with e; simp only at e; omega)
                refine wpOp_step rfl (fun K' hK => ?_)
                go_simp
                refine hK _ _ ?_
                exact ⟨_, _, _, _, _, _, _, _, _, _, _, _, _, _, _, _, _, rfl, (fun _ => ⟨by rw [upd_other (by decide)]; exact rd, gb⟩), (upd_all I1 (by decide)), (kp f0), (kp f1), (kp f2), (kp f3), (kp f4), (kp f5), (kp f6), (kp f7), (fun _ => by first | rfl | simp), (kp f9), (kp f10), (kp f11), (kp f12), (kp f13), (kp f14), (kp f15), (kp f16), (fun h => absurd (upd_ne h (by decide)) (by rw [h17]; simp))⟩
              · obtain rfl := Option.some.inj ho
                have h17 : L 17 = false := by
                  cases e : L 17
                  · rfl
                  · exact absurd (I1 e 9 (by decide)) (by rw [hL]; simp)
                obtain ⟨rd, gb⟩ := I0 h17
                refine wpOp_step rfl (fun K' hK => ?_)
                go_simp
                refine hK _ _ ?_
                exact ⟨_, _, _, _, _, _, _, _, _, _, _, _, _, _, _, _, _, rfl, (fun _ => ⟨by rw [upd_other (by decide)]; exact rd, gb⟩), (upd_all I1 (by decide)), (kp f0), (kp f1), (kp f2), (kp f3), (kp f4), (kp f5), (kp f6), (kp f7), (kp f8), (fun _ => by first | rfl | simp), (kp f10), (kp f11), (kp f12), (kp f13), (kp f14), (kp f15), (kp f16), (fun h => absurd (upd_ne h (by decide)) (by rw [h17]; simp))⟩
              · obtain rfl := Option.some.inj ho
                have g8 := f8 (hd ⟨8, .data⟩ (by simp) rfl)
                have g9 := f9 (hd ⟨9, .data⟩ (by simp) rfl)
                subst g8
                subst g9
                have h17 : L 17 = false := by
                  cases e : L 17
                  · rfl
                  · exact absurd (I1 e 10 (by decide)) (by rw [hL]; simp)
                obtain ⟨rd, gb⟩ := I0 h17
                refine wpOp_step rfl (fun K' hK => ?_)
                go_simp
                refine hK _ _ ?_
                exact ⟨_, _, _, _, _, _, _, _, _, _, _, _, _, _, _, _, _, rfl, (fun _ => ⟨by rw [upd_other (by decide)]; exact rd, gb⟩), (upd_all I1 (by decide)), (kp f0), (kp f1), (kp f2), (kp f3), (kp f4), (kp f5), (kp f6), (kp f7), (kp f8), (kp f9), (fun _ => by first | rfl | simp), (kp f11), (kp f12), (kp f13), (kp f14), (kp f15), (kp f16), (fun h => absurd (upd_ne h (by decide)) (by rw [h17]; simp))⟩
              · obtain rfl := Option.some.inj ho
                have g10 := f10 (hd ⟨10, .data⟩ (by simp) rfl)
                subst g10
                have h17 : L 17 = false := by
                  cases e : L 17
                  · rfl
                  · exact absurd (I1 e 11 (by decide)) (by rw [hL]; simp)
                obtain ⟨rd, gb⟩ := I0 h17
                refine wpOp_step rfl (fun K' hK => ?_)
                go_simp
                refine hK _ _ ?_
                exact ⟨_, _, _, _, _, _, _, _, _, _, _, _, _, _, _, _, _, rfl, (fun _ => ⟨by rw [upd_other (by decide)]; exact rd, gb⟩), (upd_all I1 (by decide)), (kp f0), (kp f1), (kp f2), (kp f3), (kp f4), (kp f5), (kp f6), (kp f7), (kp f8), (kp f9), (kp f10), (fun _ => by first | rfl | simp), (kp f12), (kp f13), (kp f14), (kp f15), (kp f16), (fun h => absurd (upd_ne h (by decide)) (by rw [h17]; simp))⟩
              · obtain rfl := Option.some.inj ho
                have g11 := f11 (hd ⟨11, .data⟩ (by simp) rfl)
                subst g11
                have h17 : L 17 = false := by
                  cases e : L 17
                  · rfl
                  · exact absurd (I1 e 12 (by decide)) (by rw [hL]; simp)
                obtain ⟨rd, gb⟩ := I0 h17
                have y0 : ww.cell? ⟨gc, ka * 3 + 2, none⟩ = some (.slice (some ⟨gv, 0, none⟩) mr cv) := gb.cell d2 (fun e => by injection e with e; simp only at e; omega)
                refine wpOp_step rfl (fun K' hK => ?_)
                go_simp
                refine hK _ _ ?_
                exact ⟨_, _, _, _, _, _, _, _, _, _, _, _, _, _, _, _, _, rfl, (fun _ => ⟨by rw [upd_other (by decide)]; exact rd, gb⟩), (upd_all I1 (by decide)), (kp f0), (kp f1), (kp f2), (kp f3), (kp f4), (kp f5), (kp f6), (kp f7), (kp f8), (kp f9), (kp f10), (kp f11), (fun _ => by first | rfl | simp), (kp f13), (kp f14), (kp f15), (kp f16), (fun h => absurd (upd_ne h (by decide)) (by rw [h17]; simp))⟩
              · obtain rfl := Option.some.inj ho
                have g12 := f12 (hd ⟨12, .data⟩ (by simp) rfl)
                subst g12
                have h17 : L 17 = false := by
                  cases e : L 17
                  · rfl
                  · exact absurd (I1 e 13 (by decide)) (by rw [hL]; simp)
                obtain ⟨rd, gb⟩ := I0 h17
                refine wpOp_step rfl (fun K' hK => ?_)
                go_simp
                refine hK _ _ ?_
                exact ⟨_, _, _, _, _, _, _, _, _, _, _, _, _, _, _, _, _, rfl, (fun _ => ⟨by rw [upd_other (by decide)]; exact rd, gb⟩), (upd_all I1 (by decide)), (kp f0), (kp f1), (kp f2), (kp f3), (kp f4), (kp f5), (kp f6), (kp f7), (kp f8), (kp f9), (kp f10), (kp f11), (kp f12), (fun _ => by first | rfl | simp), (kp f14), (kp f15), (kp f16), (fun h => absurd (upd_ne h (by decide)) (by rw [h17]; simp))⟩
              · obtain rfl := Option.some.inj ho
                have g6 := f6 (hd ⟨6, .data⟩ (by simp) rfl)
                have g13 := f13 (hd ⟨13, .data⟩ (by simp) rfl)
                subst g6
                subst g13
                have h17 : L 17 = false := by
                  cases e : L 17
                  · rfl
                  · exact absurd (I1 e 14 (by decide)) (by rw [hL]; simp)
                obtain ⟨rd, gb⟩ := I0 h17
                refine wpOp_step rfl (fun K' hK => ?_)
                go_simp
                refine (pick_any gr _ mr ww rd (by have := Bool.toNat_le (L 14); omega) (by omega)).mono ?_
                rintro e w' ⟨r, rfl, r0', r1', hr, G⟩
                obtain ⟨j, rfl⟩ := Int.eq_ofNat_of_zero_le r0'
                refine hK _ _ ?_
                exact ⟨_, _, _, _, _, _, _, _, _, _, _, _, _, _, _, _, _, rfl, (fun _ => ⟨by rw [upd_self]; rw [hL] at hr; exact hr.more (by simp), World.grownBy.trans gb G⟩), (upd_all I1 (by decide)), (kp f0), (kp f1), (kp f2), (kp f3), (kp f4), (kp f5), (kp f6), (kp f7), (kp f8), (kp f9), (kp f10), (kp f11), (kp f12), (kp f13), (fun _ => ⟨j, rfl, by omega⟩), (kp f15), (kp f16), (fun h => absurd (upd_ne h (by decide)) (by rw [h17]; simp))⟩
              · obtain rfl := Option.some.inj ho
                have h17 : L 17 = false := by
                  cases e : L 17
                  · rfl
                  · exact absurd (I1 e 15 (by decide)) (by rw [hL]; simp)
                obtain ⟨rd, gb⟩ := I0 h17
                refine wpOp_step rfl (fun K' hK => ?_)
                go_simp
                refine hK _ _ ?_
                exact ⟨_, _, _, _, _, _, _, _, _, _, _, _, _, _, _, _, _, rfl, (fun _ => ⟨by rw [upd_other (by decide)]; exact rd, gb⟩), (upd_all I1 (by decide)), (kp f0), (kp f1), (kp f2), (kp f3), (kp f4), (kp f5), (kp f6), (kp f7), (kp f8), (kp f9), (kp f10), (kp f11), (kp f12), (kp f13), (kp f14), (fun _ => by first | rfl | simp), (kp f16), (fun h => absurd (upd_ne h (by decide)) (by rw [h17]; simp))⟩
              · obtain rfl := Option.some.inj ho
                have g5 := f5 (hd ⟨5, .data⟩ (by simp) rfl)
                have g14 := f14 (hd ⟨14, .data⟩ (by simp) rfl)
                subst g5
                have h17 : L 17 = false := by
                  cases e : L 17
                  · rfl
                  · exact absurd (I1 e 16 (by decide)) (by rw [hL]; simp)
                obtain ⟨rd, gb⟩ := I0 h17
                obtain ⟨j, rfl, hj⟩ := g14
                have hj' : (j : Int) < mr := by omega
                refine wpOp_step rfl (fun K' hK => ?_)
                go_simp
                refine hK _ _ ?_
                exact ⟨_, _, _, _, _, _, _, _, _, _, _, _, _, _, _, _, _, rfl, (fun _ => ⟨by rw [upd_other (by decide)]; exact rd, gb⟩), (upd_all I1 (by decide)), (kp f0), (kp f1), (kp f2), (kp f3), (kp f4), (kp f5), (kp f6), (kp f7), (kp f8), (kp f9), (kp f10), (kp f11), (kp f12), (kp f13), (fun _ => ⟨j, rfl, hj⟩), (kp f15), (fun _ => ⟨j, by simp, hj⟩), (fun h => absurd (upd_ne h (by decide)) (by rw [h17]; simp))⟩
              · obtain rfl := Option.some.inj ho
                have g15 := f15 (hd ⟨15, .data⟩ (by simp) rfl)
                have g16 := f16 (hd ⟨16, .data⟩ (by simp) rfl)
                subst g15
                have h17 := hL
                obtain ⟨rd, gb⟩ := I0 h17
                obtain ⟨j, rfl, hj⟩ := g16
                have h14 := hd ⟨14, .chain⟩ (by simp) rfl
                have SP := SR.out.pick rd gb
                have hov := SP.own.refs ka ca _ HA.out HR.out
                obtain ⟨xo, hxo, cr⟩ := hov.cell_at (j := j) hj
                have fz : ww.frozen? ⟨gv, j, none⟩ = false := hov.frozen HL.out j
                clear SP hov hxo
                refine wpOp_step rfl (fun K' hK => ?_)
                go_simp
                refine hK _ _ ?_
                exact ⟨_, _, _, _, _, _, _, _, _, _, _, _, _, _, _, _, _, rfl, (fun h => absurd h (by rw [upd_self]; simp)), (fun _ q hq => upd_mono (by
                  have hq17 : q = 0 ∨ q = 1 ∨ q = 2 ∨ q = 3 ∨ q = 4 ∨ q = 5 ∨ q = 6 ∨ q = 7 ∨ q = 8 ∨ q = 9 ∨ q = 10 ∨ q = 11 ∨ q = 12 ∨ q = 13 ∨ q = 14 ∨ q = 15 ∨ q = 16 := by omega
                  rcases hq17 with rfl | rfl | rfl | rfl | rfl | rfl | rfl | rfl | rfl | rfl | rfl | rfl | rfl | rfl | rfl | rfl | rfl
                  · exact hd ⟨0, .phase⟩ (by simp) rfl
                  · exact hd ⟨1, .phase⟩ (by simp) rfl
                  · exact hd ⟨2, .phase⟩ (by simp) rfl
                  · exact hd ⟨3, .phase⟩ (by simp) rfl
                  · exact hd ⟨4, .phase⟩ (by simp) rfl
                  · exact hd ⟨5, .phase⟩ (by simp) rfl
                  · exact hd ⟨6, .phase⟩ (by simp) rfl
                  · exact hd ⟨7, .phase⟩ (by simp) rfl
                  · exact hd ⟨8, .phase⟩ (by simp) rfl
                  · exact hd ⟨9, .phase⟩ (by simp) rfl
                  · exact hd ⟨10, .phase⟩ (by simp) rfl
                  · exact hd ⟨11, .phase⟩ (by simp) rfl
                  · exact hd ⟨12, .phase⟩ (by simp) rfl
                  · exact hd ⟨13, .phase⟩ (by simp) rfl
                  · exact hd ⟨14, .phase⟩ (by simp) rfl
                  · exact hd ⟨15, .data⟩ (by simp) rfl
                  · exact hd ⟨16, .data⟩ (by simp) rfl)), (kp f0), (kp f1), (kp f2), (kp f3), (kp f4), (kp f5), (kp f6), (kp f7), (kp f8), (kp f9), (kp f10), (kp f11), (kp f12), (kp f13), (kp f14), (kp f15), (fun _ => ⟨j, rfl, hj⟩), (fun _ => ⟨j, ww, hj, rfl, rd.more (by rw [h14]; simp), gb⟩)⟩
            case hdone =>
              rintro L ac ww hall ⟨t66, t67, t68, t69, t70, t71, t72, t73, t74, t75, t76, t77, t78, t79, t80, t81, t82, rfl, I0, I1, f0, f1, f2, f3, f4, f5, f6, f7, f8, f9, f10, f11, f12, f13, f14, f15, f16, f17⟩
              have e0 := f0 (hall 0 (by decide))
              have e1 := f1 (hall 1 (by decide))
              have e2 := f2 (hall 2 (by decide))
              have e3 := f3 (hall 3 (by decide))
              have e4 := f4 (hall 4 (by decide))
              have e5 := f5 (hall 5 (by decide))
              have e6 := f6 (hall 6 (by decide))
              have e7 := f7 (hall 7 (by decide))
              have e8 := f8 (hall 8 (by decide))
              have e9 := f9 (hall 9 (by decide))
              have e10 := f10 (hall 10 (by decide))
              have e11 := f11 (hall 11 (by decide))
              have e12 := f12 (hall 12 (by decide))
              have e13 := f13 (hall 13 (by decide))
              have e14 := f14 (hall 14 (by decide))
              have e15 := f15 (hall 15 (by decide))
              have e16 := f16 (hall 16 (by decide))
              have e17 := f17 (hall 17 (by decide))
              clear f0 f1 f2 f3 f4 f5 f6 f7 f8 f9 f10 f11 f12 f13 f14 f15 f16 f17
              obtain ⟨j, w1, hj, rfl, rd1, gb1⟩ := e17
              have S7 := SR.out.pick rd1 gb1
              have S8 := (S7.ref1 (i := j) HA.out HR.out HL.out (kt : Int)).more (N' := N + 602 + 3 * (5 - (k - 1))) (by omega)
              have HV8 := Lib.hid (Hps.mutate_valid (j := j) HV.out HA.out HUA.out HT.out HUT.out)
              have HN8 := Lib.hid (show (h1.cs.set ka ⟨ca.u, ca.d, ca.r.set j (kt : Int)⟩).length = nn by rw [List.length_set]; exact HN.out)
              have SH := Lib.hid S8
              clear e0 e1 e2 e3 e4 e5 e6 e7 e8 e9 e10 e11 e12 e13 e14 e15 e16 I0 I1 S7 S8 rd1 gb1 SR x0 x1 d0 d0' d2
              go_wp2_with fail
              go_roundw
              case rel => exact ⟨k - 1, _, nn, c1, R1, d1, rvs1, ⟨h1.cs.set ka ⟨ca.u, ca.d, ca.r.set j (kt : Int)⟩, h1.rt⟩, by omega, int_eq (by omega), hn40, HN8, HM, HV8, SH.out⟩
              case measure => simp [intOf]; omega
          · obtain rfl : nn = 0 := by omega
            have hk1 : decide ((0 : Int) < k) = true := decide_eq_true hk0'
            have SE := S.more (N' := N + 617) (by omega)
            clear S
            go_wp2_with fail
            go_meet
            case rel => exact ⟨A1, _, c1, R1, d1, rvs1, h1, hn40, HN, HM, HV, SE⟩
        · obtain rfl : k = 0 := by omega
          have SE := S.more (N' := N + 617) (by omega)
          clear S
          go_wp2_with fail
          go_meet
          case rel => exact ⟨A1, _, c1, R1, d1, rvs1, h1, hn40, HN, HM, HV, SE⟩
    case rest =>
      clear S HN1 HM1 HV1 hn1 cr' q h1 rvs1 A1 c1 R1 d1 n1
      obtain ⟨A1, nn, c1, R1, d1, rvs1, h1, hn40, HN, HM, HV, S⟩ := hcut
      have hlo := S.lo
      have hold := S.old
      have SM := Lib.hid (small_valid HV.out)
      by_cases hn1 : n = 0
      · subst hn1
        have RD := Lib.hid S.rd
        have r0 : (wc).cell? ⟨b, 0, none⟩ = some (.slice A1 nn c1) := S.box.cell 0
        have r1 : (wc).cell? ⟨b, 1, none⟩ = some (.slice R1 4 d1) := S.box.cell 1
        have r2 : (wc).frozen? ⟨w.heap.size, 0, none⟩ = false := S.res.frozen 0
        have r3 : (wc).frozen? ⟨w.heap.size, 1, none⟩ = false := S.res.frozen 1
        have r4 : (wc).cell? ⟨w.heap.size, 0, none⟩ = some (.slice none 0 0) := S.res.cell 0
        have r5 : (wc).cell? ⟨w.heap.size, 1, none⟩ = some (.slice none 0 0) := S.res.cell 1
        have r6 : (((wc).setCell ⟨w.heap.size, 0, none⟩ (.slice A1 nn c1)).setCell ⟨w.heap.size, 1, none⟩ (.slice R1 4 d1)).cell? ⟨w.heap.size, 0, none⟩ = some (.slice A1 nn c1) := ((S.res.put 0 (.slice A1 nn c1)).put 1 (.slice R1 4 d1)).cell 0
        have r7 : (((wc).setCell ⟨w.heap.size, 0, none⟩ (.slice A1 nn c1)).setCell ⟨w.heap.size, 1, none⟩ (.slice R1 4 d1)).cell? ⟨w.heap.size, 1, none⟩ = some (.slice R1 4 d1) := ((S.res.put 0 (.slice A1 nn c1)).put 1 (.slice R1 4 d1)).cell 1
        have FI := Lib.hid (S.fin (.slice A1 nn c1) (.slice R1 4 d1))
        have CAP := Lib.hid S.own.caps.2.2
        clear S 
        go_wp2_with fail
        refine (odd_zero' _ _ _ RD.out).mono ?_
        rintro e w' ⟨rfl, rfl⟩
        go_wp2_with fail
        exact bodyPost_ret (v := .agg #[.slice A1 nn c1, .slice R1 4 d1]) (by simp [results, Tryd.results45, go_sem, *]) rfl ⟨A1, nn, c1, R1, 4, d1, h1, rfl, CAP.out.1, CAP.out.2, FI.out.1, fun _ => HV.out, SM.out, FI.out.2.1.more (by omega), FI.out.2.2⟩
      have hn2 : 1 ≤ n := by omega
      go_wp2_with fail
      refine (odd_any _ _ _ _ S.rd (by omega) hn2 (by omega)).mono ?_
      rintro e w5 ⟨bb, rfl, hr5, g5⟩
      replace S := S.pick hr5 g5
      clear hr5 g5 wc
      cases bb
      · have r0 : (w5).cell? ⟨b, 0, none⟩ = some (.slice A1 nn c1) := S.box.cell 0
        have r1 : (w5).cell? ⟨b, 1, none⟩ = some (.slice R1 4 d1) := S.box.cell 1
        have r2 : (w5).frozen? ⟨w.heap.size, 0, none⟩ = false := S.res.frozen 0
        have r3 : (w5).frozen? ⟨w.heap.size, 1, none⟩ = false := S.res.frozen 1
        have r4 : (w5).cell? ⟨w.heap.size, 0, none⟩ = some (.slice none 0 0) := S.res.cell 0
        have r5 : (w5).cell? ⟨w.heap.size, 1, none⟩ = some (.slice none 0 0) := S.res.cell 1
        have r6 : (((w5).setCell ⟨w.heap.size, 0, none⟩ (.slice A1 nn c1)).setCell ⟨w.heap.size, 1, none⟩ (.slice R1 4 d1)).cell? ⟨w.heap.size, 0, none⟩ = some (.slice A1 nn c1) := ((S.res.put 0 (.slice A1 nn c1)).put 1 (.slice R1 4 d1)).cell 0
        have r7 : (((w5).setCell ⟨w.heap.size, 0, none⟩ (.slice A1 nn c1)).setCell ⟨w.heap.size, 1, none⟩ (.slice R1 4 d1)).cell? ⟨w.heap.size, 1, none⟩ = some (.slice R1 4 d1) := ((S.res.put 0 (.slice A1 nn c1)).put 1 (.slice R1 4 d1)).cell 1
        have FI := Lib.hid (S.fin (.slice A1 nn c1) (.slice R1 4 d1))
        have CAP := Lib.hid S.own.caps.2.2
        clear S 
        go_wp2_with fail
        exact bodyPost_ret (v := .agg #[.slice A1 nn c1, .slice R1 4 d1]) (by simp [results, Tryd.results45, go_sem, *]) rfl ⟨A1, nn, c1, R1, 4, d1, h1, rfl, CAP.out.1, CAP.out.2, FI.out.1, fun h => absurd h hn1, SM.out, FI.out.2.1.more (by omega), FI.out.2.2⟩
      go_wp2_with fail
      refine (pick_any _ _ _ _ S.rd (by omega) (by omega)).mono ?_
      rintro e w6 ⟨r6, rfl, a6, c6, hr6, g6⟩
      replace S := S.pick hr6 g6
      clear hr6 g6 w5
      obtain ⟨gR, rfl, hgR1, hgR2⟩ := S.own.rootAddr (by omega)
      have hcases : r6 = 0 ∨ r6 = 1 ∨ r6 = 2 ∨ r6 = 3 ∨ r6 = 4 := by omega
      clear a6 c6
      have x0 : w6.cell? ⟨b, 0, none⟩ = some (.slice A1 nn c1) := S.box.cell 0
      have x1 : w6.cell? ⟨b, 1, none⟩ = some (.slice (some ⟨gR, 0, none⟩) 4 d1) := S.box.cell 1
      have fb0 : w6.frozen? ⟨b, 0, none⟩ = false := S.box.frozen 0
      have fb1 : w6.frozen? ⟨b, 1, none⟩ = false := S.box.frozen 1
      have cap4 := S.own.caps.2.2.2
      rcases hcases with rfl | rfl | rfl | rfl | rfl
      · obtain ⟨own', box', res', rd', gb'⟩ := S.boxed (.slice (some ⟨gR, 1, none⟩) 3 (d1 - 1))
        have r0 : (w6.setCell ⟨b, 1, none⟩ (.slice (some ⟨gR, 1, none⟩) 3 (d1 - 1))).cell? ⟨b, 0, none⟩ = some (.slice A1 nn c1) := box'.cell 0
        have r1 : (w6.setCell ⟨b, 1, none⟩ (.slice (some ⟨gR, 1, none⟩) 3 (d1 - 1))).cell? ⟨b, 1, none⟩ = some (.slice (some ⟨gR, 1, none⟩) 3 (d1 - 1)) := box'.cell 1
        have r2 : (w6.setCell ⟨b, 1, none⟩ (.slice (some ⟨gR, 1, none⟩) 3 (d1 - 1))).frozen? ⟨w.heap.size, 0, none⟩ = false := res'.frozen 0
        have r3 : (w6.setCell ⟨b, 1, none⟩ (.slice (some ⟨gR, 1, none⟩) 3 (d1 - 1))).frozen? ⟨w.heap.size, 1, none⟩ = false := res'.frozen 1
        have r4 : (w6.setCell ⟨b, 1, none⟩ (.slice (some ⟨gR, 1, none⟩) 3 (d1 - 1))).cell? ⟨w.heap.size, 0, none⟩ = some (.slice none 0 0) := res'.cell 0
        have r5 : (w6.setCell ⟨b, 1, none⟩ (.slice (some ⟨gR, 1, none⟩) 3 (d1 - 1))).cell? ⟨w.heap.size, 1, none⟩ = some (.slice none 0 0) := res'.cell 1
        have r6 : (((w6.setCell ⟨b, 1, none⟩ (.slice (some ⟨gR, 1, none⟩) 3 (d1 - 1))).setCell ⟨w.heap.size, 0, none⟩ (.slice A1 nn c1)).setCell ⟨w.heap.size, 1, none⟩ (.slice (some ⟨gR, 1, none⟩) 3 (d1 - 1))).cell? ⟨w.heap.size, 0, none⟩ = some (.slice A1 nn c1) := ((res'.put 0 (.slice A1 nn c1)).put 1 (.slice (some ⟨gR, 1, none⟩) 3 (d1 - 1))).cell 0
        have r7 : (((w6.setCell ⟨b, 1, none⟩ (.slice (some ⟨gR, 1, none⟩) 3 (d1 - 1))).setCell ⟨w.heap.size, 0, none⟩ (.slice A1 nn c1)).setCell ⟨w.heap.size, 1, none⟩ (.slice (some ⟨gR, 1, none⟩) 3 (d1 - 1))).cell? ⟨w.heap.size, 1, none⟩ = some (.slice (some ⟨gR, 1, none⟩) 3 (d1 - 1)) := ((res'.put 0 (.slice A1 nn c1)).put 1 (.slice (some ⟨gR, 1, none⟩) 3 (d1 - 1))).cell 1
        have FI := Lib.hid (fin_cut (m := 3) hold own' rd' gb' (.slice A1 nn c1) (.slice (some ⟨gR, 1, none⟩) 3 (d1 - 1)))
        have CAP := Lib.hid (show nn ≤ c1 ∧ 3 ≤ d1 - 1 from ⟨own'.caps.2.2.1, by omega⟩)
        have SM3 := Lib.hid (SmallH.drop1 SM.out)
        have cap4' : (4 : Int) ≤ d1 := by omega
        have hd1 : ((d1 : Int) - 1).toNat = d1 - 1 := by omega
        clear S own' box' res' rd' gb'
        go_wp2_with fail
        exact bodyPost_ret (v := .agg #[.slice A1 nn c1, .slice (some ⟨gR, 1, none⟩) 3 (d1 - 1)]) (by simp [results, Tryd.results45, go_sem, *]) rfl ⟨A1, nn, c1, some ⟨gR, 1, none⟩, 3, d1 - 1, ⟨h1.cs, h1.rt.drop 1⟩, rfl, CAP.out.1, CAP.out.2, FI.out.1, fun h => absurd h hn1, SM3.out, FI.out.2.1.more (by omega), FI.out.2.2⟩
      · have SR := Lib.hid S
        clear S
        go_wp2_with fail
        refine wp_region_inv (by kernel_rfl) (by kernel_rfl) (fun L ac ww => ∃ t107 t108 t109 t110 t111 t112 t113 t114 t115 t116 t117 t118 t119 : Value, ac = { tmps := #[Value.pointer (some { block := gr, off := 0 }), Value.int IntKind.i64 n, undef, undef, Value.pointer (some { block := w.heap.size, off := 0 }), Value.pointer (some { block := b, off := 0 }), u6, u7, u8, u9, u10, u11, u12, u13, u14, u15, u16, u17, u18, u19, u20, u21, u22, u23, u24, u25, u26, u27, u28, u29, u30, u31, u32, u33, u34, u35, u36, u37, u38, u39, u40, u41, u42, u43, u44, u45, u46, u47, u48, u49, u50, u51, u52, u53, u54, u55, u56, u57, u58, u59, u60, u61, u62, u63, u64, u65, u66, u67, u68, u69, u70, u71, u72, u73, u74, u75, u76, u77, u78, u79, u80, u81, u82, Value.pointer (some { block := gr, off := 0 }), Value.int IntKind.i64 n, Value.bool true, Value.pointer (some { block := gr, off := 0 }), Value.int IntKind.i64 1, u88, u89, u90, u91, u92, u93, u94, u95, u96, u97, u98, Value.bool false, Value.bool false, u101, u102, u103, u104, Value.bool true, Value.bool true, t107, t108, t109, t110, t111, t112, t113, t114, t115, t116, t117, t118, t119, u120, u121, u122, u123, u124, u125, u126, u127, u128, u129, u130, u131, u132, u133, u134, u135, u136, u137, u138, u139, u140, u141], defers := [] } ∧ (L 13 = false → Rd ww gr (N + 617 + 1 + 1 + (L 3).toNat + (L 9).toNat) ∧ w6.grownBy ww (some gr)) ∧ (L 13 = true → ∀ q, q < 13 → L q = true) ∧ (L 0 = true → t107 = (.pointer (some ⟨b, 1, none⟩))) ∧ (L 1 = true → t108 = (.slice (some ⟨gR, 0, none⟩) 4 d1)) ∧ (L 2 = true → t109 = (.pointer (some ⟨gr, 0, none⟩))) ∧ (L 3 = true → ∃ j : Nat, t110 = .int .i64 j ∧ j < 4) ∧ (L 4 = true → t111 = (.pointer (some ⟨b, 0, none⟩))) ∧ (L 5 = true → t112 = (.slice A1 nn c1)) ∧ (L 6 = true → t113 = .int .i64 nn) ∧ (L 7 = true → L 13 = true ∨ TblOf ww gr 2 (-2) 40 t114) ∧ (L 8 = true → t115 = (.pointer (some ⟨gr, 0, none⟩))) ∧ (L 9 = true → IntIn 0 1 t116) ∧ (L 10 = true → L 13 = true ∨ PtrOf ww gr 2 (-2) 40 t117) ∧ (L 11 = true → IntIn (-2) 40 t118) ∧ (L 12 = true → ∃ j : Nat, t119 = .pointer (some ⟨gR, j, none⟩) ∧ j < 4) ∧ (L 13 = true → ∃ (j : Nat) (q : Int) (w1 : World), j < 4 ∧ -2 ≤ q ∧ q ≤ 40 ∧ ww = w1.setCell ⟨gR, j, none⟩ (.int .i64 q) ∧ Rd w1 gr (N + 617 + 1 + 1 + 2) ∧ w6.grownBy w1 (some gr))) ?h0 ?hstep ?hdone
        case h0 => exact ⟨_, _, _, _, _, _, _, _, _, _, _, _, _, rfl, fun _ => ⟨by simpa using SR.out.rd.below (Below.refl _ _).drew SR.out.rd.lt, grown_below (World.grownBy.refl _ _) (Below.refl _ _).drew⟩, fun h => absurd h Bool.false_ne_true, (fun h => absurd h Bool.false_ne_true), (fun h => absurd h Bool.false_ne_true), (fun h => absurd h Bool.false_ne_true), (fun h => absurd h Bool.false_ne_true), (fun h => absurd h Bool.false_ne_true), (fun h => absurd h Bool.false_ne_true), (fun h => absurd h Bool.false_ne_true), (fun h => absurd h Bool.false_ne_true), (fun h => absurd h Bool.false_ne_true), (fun h => absurd h Bool.false_ne_true), (fun h => absurd h Bool.false_ne_true), (fun h => absurd h Bool.false_ne_true), (fun h => absurd h Bool.false_ne_true), (fun h => absurd h Bool.false_ne_true)⟩
        case hstep =>
          rintro L ac ww i o ho hL hd ⟨t107, t108, t109, t110, t111, t112, t113, t114, t115, t116, t117, t118, t119, rfl, I0, I1, f0, f1, f2, f3, f4, f5, f6, f7, f8, f9, f10, f11, f12, f13⟩
          have hi : i < 14 := (Array.getElem?_eq_some_iff.1 ho).1
          obtain rfl | rfl | rfl | rfl | rfl | rfl | rfl | rfl | rfl | rfl | rfl | rfl | rfl | rfl : i = 0 ∨ i = 1 ∨ i = 2 ∨ i = 3 ∨ i = 4 ∨ i = 5 ∨ i = 6 ∨ i = 7 ∨ i = 8 ∨ i = 9 ∨ i = 10 ∨ i = 11 ∨ i = 12 ∨ i = 13 := by omega
          · obtain rfl := Option.some.inj ho
            have h17 : L 13 = false := by
              cases e : L 13
              · rfl
              · exact absurd (I1 e 0 (by decide)) (by rw [hL]; simp)
            obtain ⟨rd, gb⟩ := I0 h17
            refine wpOp_step rfl (fun K' hK => ?_)
            go_simp
            refine hK _ _ ?_
            exact ⟨_, _, _, _, _, _, _, _, _, _, _, _, _, rfl, (fun _ => ⟨by rw [upd_other (by decide), upd_other (by decide)]; exact rd, gb⟩), (upd_all I1 (by decide)), (fun _ => by first | rfl | simp), (kp f1), (kp f2), (kp f3), (kp f4), (kp f5), (kp f6), (fun h => (f7 (upd_ne h (by decide))).imp (fun e => upd_mono e) id), (kp f8), (kp f9), (fun h => (f10 (upd_ne h (by decide))).imp (fun e => upd_mono e) id), (kp f11), (kp f12), (fun h => absurd (upd_ne h (by decide)) (by rw [h17]; simp))⟩
          · obtain rfl := Option.some.inj ho
            have g0 := f0 (hd ⟨0, .data⟩ (by simp) rfl)
            subst g0
            have h17 : L 13 = false := by
              cases e : L 13
              · rfl
              · exact absurd (I1 e 1 (by decide)) (by rw [hL]; simp)
            obtain ⟨rd, gb⟩ := I0 h17
            have y0 : ww.cell? ⟨b, 1, none⟩ = some (.slice (some ⟨gR, 0, none⟩) 4 d1) := gb.cell x1 (fun e => by injection e with e; simp only at e; omega)
            refine wpOp_step rfl (fun K' hK => ?_)
            go_simp
            refine hK _ _ ?_
            exact ⟨_, _, _, _, _, _, _, _, _, _, _, _, _, rfl, (fun _ => ⟨by rw [upd_other (by decide), upd_other (by decide)]; exact rd, gb⟩), (upd_all I1 (by decide)), (kp f0), (fun _ => by first | rfl | simp), (kp f2), (kp f3), (kp f4), (kp f5), (kp f6), (fun h => (f7 (upd_ne h (by decide))).imp (fun e => upd_mono e) id), (kp f8), (kp f9), (fun h => (f10 (upd_ne h (by decide))).imp (fun e => upd_mono e) id), (kp f11), (kp f12), (fun h => absurd (upd_ne h (by decide)) (by rw [h17]; simp))⟩
          · obtain rfl := Option.some.inj ho
            have h17 : L 13 = false := by
              cases e : L 13
              · rfl
              · exact absurd (I1 e 2 (by decide)) (by rw [hL]; simp)
            obtain ⟨rd, gb⟩ := I0 h17
            refine wpOp_step rfl (fun K' hK => ?_)
            go_simp
            refine hK _ _ ?_
            exact ⟨_, _, _, _, _, _, _, _, _, _, _, _, _, rfl, (fun _ => ⟨by rw [upd_other (by decide), upd_other (by decide)]; exact rd, gb⟩), (upd_all I1 (by decide)), (kp f0), (kp f1), (fun _ => by first | rfl | simp), (kp f3), (kp f4), (kp f5), (kp f6), (fun h => (f7 (upd_ne h (by decide))).imp (fun e => upd_mono e) id), (kp f8), (kp f9), (fun h => (f10 (upd_ne h (by decide))).imp (fun e => upd_mono e) id), (kp f11), (kp f12), (fun h => absurd (upd_ne h (by decide)) (by rw [h17]; simp))⟩
          · obtain rfl := Option.some.inj ho
            have g2 := f2 (hd ⟨2, .data⟩ (by simp) rfl)
            subst g2
            have h17 : L 13 = false := by
              cases e : L 13
              · rfl
              · exact absurd (I1 e 3 (by decide)) (by rw [hL]; simp)
            obtain ⟨rd, gb⟩ := I0 h17
            refine wpOp_step rfl (fun K' hK => ?_)
            go_simp
            refine (pick_any gr _ 4 ww rd (by have := Bool.toNat_le (L 3); have := Bool.toNat_le (L 9); omega) (by omega)).mono ?_
            rintro e w' ⟨r, rfl, r0', r1', hr, G⟩
            refine hK _ _ ?_
            exact ⟨_, _, _, _, _, _, _, _, _, _, _, _, _, rfl, (fun _ => ⟨by rw [upd_self, upd_other (by decide)]; rw [hL] at hr; exact hr.more (by simp; omega), World.grownBy.trans gb G⟩), (upd_all I1 (by decide)), (kp f0), (kp f1), (kp f2), (fun _ => ⟨r.toNat, by rw [Int.toNat_of_nonneg r0'], by omega⟩), (kp f4), (kp f5), (kp f6), (fun h => (f7 (upd_ne h (by decide))).imp (fun e => upd_mono e) (fun T => T.pick G)), (kp f8), (kp f9), (fun h => (f10 (upd_ne h (by decide))).imp (fun e => upd_mono e) (fun T => T.pick G)), (kp f11), (kp f12), (fun h => absurd (upd_ne h (by decide)) (by rw [h17]; simp))⟩
          · obtain rfl := Option.some.inj ho
            have h17 : L 13 = false := by
              cases e : L 13
              · rfl
              · exact absurd (I1 e 4 (by decide)) (by rw [hL]; simp)
            obtain ⟨rd, gb⟩ := I0 h17
            refine wpOp_step rfl (fun K' hK => ?_)
            go_simp
            refine hK _ _ ?_
            exact ⟨_, _, _, _, _, _, _, _, _, _, _, _, _, rfl, (fun _ => ⟨by rw [upd_other (by decide), upd_other (by decide)]; exact rd, gb⟩), (upd_all I1 (by decide)), (kp f0), (kp f1), (kp f2), (kp f3), (fun _ => by first | rfl | simp), (kp f5), (kp f6), (fun h => (f7 (upd_ne h (by decide))).imp (fun e => upd_mono e) id), (kp f8), (kp f9), (fun h => (f10 (upd_ne h (by decide))).imp (fun e => upd_mono e) id), (kp f11), (kp f12), (fun h => absurd (upd_ne h (by decide)) (by rw [h17]; simp))⟩
          · obtain rfl := Option.some.inj ho
            have g4 := f4 (hd ⟨4, .data⟩ (by simp) rfl)
            subst g4
            have h17 : L 13 = false := by
              cases e : L 13
              · rfl
              · exact absurd (I1 e 5 (by decide)) (by rw [hL]; simp)
            obtain ⟨rd, gb⟩ := I0 h17
            have y0 : ww.cell? ⟨b, 0, none⟩ = some (.slice A1 nn c1) := gb.cell x0 (fun e => by injection e with e; simp only at e; omega)
            refine wpOp_step rfl (fun K' hK => ?_)
            go_simp
            refine hK _ _ ?_
            exact ⟨_, _, _, _, _, _, _, _, _, _, _, _, _, rfl, (fun _ => ⟨by rw [upd_other (by decide), upd_other (by decide)]; exact rd, gb⟩), (upd_all I1 (by decide)), (kp f0), (kp f1), (kp f2), (kp f3), (kp f4), (fun _ => by first | rfl | simp), (kp f6), (fun h => (f7 (upd_ne h (by decide))).imp (fun e => upd_mono e) id), (kp f8), (kp f9), (fun h => (f10 (upd_ne h (by decide))).imp (fun e => upd_mono e) id), (kp f11), (kp f12), (fun h => absurd (upd_ne h (by decide)) (by rw [h17]; simp))⟩
          · obtain rfl := Option.some.inj ho
            have g5 := f5 (hd ⟨5, .data⟩ (by simp) rfl)
            subst g5
            have h17 : L 13 = false := by
              cases e : L 13
              · rfl
              · exact absurd (I1 e 6 (by decide)) (by rw [hL]; simp)
            obtain ⟨rd, gb⟩ := I0 h17
            refine wpOp_step rfl (fun K' hK => ?_)
            go_simp
            refine hK _ _ ?_
            exact ⟨_, _, _, _, _, _, _, _, _, _, _, _, _, rfl, (fun _ => ⟨by rw [upd_other (by decide), upd_other (by decide)]; exact rd, gb⟩), (upd_all I1 (by decide)), (kp f0), (kp f1), (kp f2), (kp f3), (kp f4), (kp f5), (fun _ => by first | rfl | simp), (fun h => (f7 (upd_ne h (by decide))).imp (fun e => upd_mono e) id), (kp f8), (kp f9), (fun h => (f10 (upd_ne h (by decide))).imp (fun e => upd_mono e) id), (kp f11), (kp f12), (fun h => absurd (upd_ne h (by decide)) (by rw [h17]; simp))⟩
          · obtain rfl := Option.some.inj ho
            have g6 := f6 (hd ⟨6, .data⟩ (by simp) rfl)
            subst g6
            have h17 : L 13 = false := by
              cases e : L 13
              · rfl
              · exact absurd (I1 e 7 (by decide)) (by rw [hL]; simp)
            obtain ⟨rd, gb⟩ := I0 h17
            refine wpOp_step rfl (fun K' hK => ?_)
            go_simp
            refine hK _ _ ?_
            exact ⟨_, _, _, _, _, _, _, _, _, _, _, _, _, rfl, (fun _ => ⟨by rw [upd_other (by decide), upd_other (by decide)]; exact rd.below ((Below.refl ww.heap.size ww).alloc (Nat.le_refl _) _) rd.lt, World.grownBy.trans gb (World.grownBy_alloc _ _ _)⟩), (upd_all I1 (by decide)), (kp f0), (kp f1), (kp f2), (kp f3), (kp f4), (kp f5), (kp f6), (fun _ => .inr ⟨_, rfl, Tbl.new ww gr _ [-2, (nn : Int)] (-2) 40 rd.lt (by intro q hq; simp at hq; omega) _ rfl⟩), (kp f8), (kp f9), (fun h => (f10 (upd_ne h (by decide))).imp (fun e => upd_mono e) (fun T => T.alloc _)), (kp f11), (kp f12), (fun h => absurd (upd_ne h (by decide)) (by rw [h17]; simp))⟩
          · obtain rfl := Option.some.inj ho
            have h17 : L 13 = false := by
              cases e : L 13
              · rfl
              · exact absurd (I1 e 8 (by decide)) (by rw [hL]; simp)
            obtain ⟨rd, gb⟩ := I0 h17
            refine wpOp_step rfl (fun K' hK => ?_)
            go_simp
            refine hK _ _ ?_
            exact ⟨_, _, _, _, _, _, _, _, _, _, _, _, _, rfl, (fun _ => ⟨by rw [upd_other (by decide), upd_other (by decide)]; exact rd, gb⟩), (upd_all I1 (by decide)), (kp f0), (kp f1), (kp f2), (kp f3), (kp f4), (kp f5), (kp f6), (fun h => (f7 (upd_ne h (by decide))).imp (fun e => upd_mono e) id), (fun _ => by first | rfl | simp), (kp f9), (fun h => (f10 (upd_ne h (by decide))).imp (fun e => upd_mono e) id), (kp f11), (kp f12), (fun h => absurd (upd_ne h (by decide)) (by rw [h17]; simp))⟩
          · obtain rfl := Option.some.inj ho
            have g8 := f8 (hd ⟨8, .data⟩ (by simp) rfl)
            subst g8
            have h17 : L 13 = false := by
              cases e : L 13
              · rfl
              · exact absurd (I1 e 9 (by decide)) (by rw [hL]; simp)
            obtain ⟨rd, gb⟩ := I0 h17
            refine wpOp_step rfl (fun K' hK => ?_)
            go_simp
            refine (pick_any gr _ 2 ww rd (by have := Bool.toNat_le (L 3); have := Bool.toNat_le (L 9); omega) (by omega)).mono ?_
            rintro e w' ⟨r, rfl, r0', r1', hr, G⟩
            refine hK _ _ ?_
            exact ⟨_, _, _, _, _, _, _, _, _, _, _, _, _, rfl, (fun _ => ⟨by rw [upd_self, upd_other (by decide)]; rw [hL] at hr; exact hr.more (by simp), World.grownBy.trans gb G⟩), (upd_all I1 (by decide)), (kp f0), (kp f1), (kp f2), (kp f3), (kp f4), (kp f5), (kp f6), (fun h => (f7 (upd_ne h (by decide))).imp (fun e => upd_mono e) (fun T => T.pick G)), (kp f8), (fun _ => ⟨r, rfl, r0', by omega⟩), (fun h => (f10 (upd_ne h (by decide))).imp (fun e => upd_mono e) (fun T => T.pick G)), (kp f11), (kp f12), (fun h => absurd (upd_ne h (by decide)) (by rw [h17]; simp))⟩
          · obtain rfl := Option.some.inj ho
            have g7 := f7 (hd ⟨7, .data⟩ (by simp) rfl)
            have g9 := f9 (hd ⟨9, .data⟩ (by simp) rfl)
            have h17 : L 13 = false := by
              cases e : L 13
              · rfl
              · exact absurd (I1 e 10 (by decide)) (by rw [hL]; simp)
            obtain ⟨rd, gb⟩ := I0 h17
            obtain ⟨gt, rfl, T7⟩ := g7.resolve_left (by rw [h17]; simp)
            obtain ⟨q8, rfl, q81, q82⟩ := g9
            obtain ⟨n8, rfl⟩ := Int.eq_ofNat_of_zero_le (show 0 ≤ q8 by omega)
            have l8 : n8 < 2 := by omega
            have l8' : (n8 : Int) < 2 := by omega
            refine wpOp_step rfl (fun K' hK => ?_)
            go_simp
            refine hK _ _ ?_
            exact ⟨_, _, _, _, _, _, _, _, _, _, _, _, _, rfl, (fun _ => ⟨by rw [upd_other (by decide), upd_other (by decide)]; exact rd, gb⟩), (upd_all I1 (by decide)), (kp f0), (kp f1), (kp f2), (kp f3), (kp f4), (kp f5), (kp f6), (fun _ => .inr ⟨gt, rfl, T7⟩), (kp f8), (fun _ => ⟨(n8 : Int), rfl, by omega, by omega⟩), (fun _ => .inr ⟨gt, n8, by simp, l8, T7⟩), (kp f11), (kp f12), (fun h => absurd (upd_ne h (by decide)) (by rw [h17]; simp))⟩
          · obtain rfl := Option.some.inj ho
            have g10 := f10 (hd ⟨10, .data⟩ (by simp) rfl)
            have h17 : L 13 = false := by
              cases e : L 13
              · rfl
              · exact absurd (I1 e 11 (by decide)) (by rw [hL]; simp)
            obtain ⟨rd, gb⟩ := I0 h17
            obtain ⟨gt, n9, rfl, l9, T9⟩ := g10.resolve_left (by rw [h17]; simp)
            obtain ⟨q9, hq9, q91, q92⟩ := T9.2.2 n9 l9
            refine wpOp_step rfl (fun K' hK => ?_)
            go_simp
            refine hK _ _ ?_
            exact ⟨_, _, _, _, _, _, _, _, _, _, _, _, _, rfl, (fun _ => ⟨by rw [upd_other (by decide), upd_other (by decide)]; exact rd, gb⟩), (upd_all I1 (by decide)), (kp f0), (kp f1), (kp f2), (kp f3), (kp f4), (kp f5), (kp f6), (fun h => (f7 (upd_ne h (by decide))).imp (fun e => upd_mono e) id), (kp f8), (kp f9), (fun _ => .inr ⟨gt, n9, rfl, l9, T9⟩), (fun _ => ⟨q9, rfl, q91, q92⟩), (kp f12), (fun h => absurd (upd_ne h (by decide)) (by rw [h17]; simp))⟩
          · obtain rfl := Option.some.inj ho
            have g1 := f1 (hd ⟨1, .data⟩ (by simp) rfl)
            have g3 := f3 (hd ⟨3, .data⟩ (by simp) rfl)
            subst g1
            have h17 : L 13 = false := by
              cases e : L 13
              · rfl
              · exact absurd (I1 e 12 (by decide)) (by rw [hL]; simp)
            obtain ⟨rd, gb⟩ := I0 h17
            obtain ⟨j, rfl, hj⟩ := g3
            have hj' : (j : Int) < 4 := by omega
            refine wpOp_step rfl (fun K' hK => ?_)
            go_simp
            refine hK _ _ ?_
            exact ⟨_, _, _, _, _, _, _, _, _, _, _, _, _, rfl, (fun _ => ⟨by rw [upd_other (by decide), upd_other (by decide)]; exact rd, gb⟩), (upd_all I1 (by decide)), (kp f0), (kp f1), (kp f2), (fun _ => ⟨j, rfl, hj⟩), (kp f4), (kp f5), (kp f6), (fun h => (f7 (upd_ne h (by decide))).imp (fun e => upd_mono e) id), (kp f8), (kp f9), (fun h => (f10 (upd_ne h (by decide))).imp (fun e => upd_mono e) id), (kp f11), (fun _ => ⟨j, by simp, hj⟩), (fun h => absurd (upd_ne h (by decide)) (by rw [h17]; simp))⟩
          · obtain rfl := Option.some.inj ho
            have g11 := f11 (hd ⟨11, .data⟩ (by simp) rfl)
            have g12 := f12 (hd ⟨12, .data⟩ (by simp) rfl)
            obtain ⟨rd, gb⟩ := I0 hL
            obtain ⟨j, rfl, hj⟩ := g12
            obtain ⟨q, rfl, q1, q2⟩ := g11
            have h3 := hd ⟨3, .phase⟩ (by simp) rfl
            have h9 := hd ⟨9, .chain⟩ (by simp) rfl
            have SP := SR.out.pick rd gb
            obtain ⟨xo, hxo, cr⟩ := SP.own.roots.cell_at (j := j) hj
            have fz : ww.frozen? ⟨gR, j, none⟩ = false := SP.own.roots.frozen HM.out j
            clear SP hxo
            refine wpOp_step rfl (fun K' hK => ?_)
            go_simp
            refine hK _ _ ?_
            exact ⟨_, _, _, _, _, _, _, _, _, _, _, _, _, rfl, (fun h => absurd h (by rw [upd_self]; simp)), (fun _ q hq => upd_mono (by
              have hq17 : q = 0 ∨ q = 1 ∨ q = 2 ∨ q = 3 ∨ q = 4 ∨ q = 5 ∨ q = 6 ∨ q = 7 ∨ q = 8 ∨ q = 9 ∨ q = 10 ∨ q = 11 ∨ q = 12 := by omega
              rcases hq17 with rfl | rfl | rfl | rfl | rfl | rfl | rfl | rfl | rfl | rfl | rfl | rfl | rfl
              · exact hd ⟨0, .phase⟩ (by simp) rfl
              · exact hd ⟨1, .phase⟩ (by simp) rfl
              · exact hd ⟨2, .phase⟩ (by simp) rfl
              · exact hd ⟨3, .phase⟩ (by simp) rfl
              · exact hd ⟨4, .phase⟩ (by simp) rfl
              · exact hd ⟨5, .phase⟩ (by simp) rfl
              · exact hd ⟨6, .phase⟩ (by simp) rfl
              · exact hd ⟨7, .phase⟩ (by simp) rfl
              · exact hd ⟨8, .phase⟩ (by simp) rfl
              · exact hd ⟨9, .phase⟩ (by simp) rfl
              · exact hd ⟨10, .phase⟩ (by simp) rfl
              · exact hd ⟨11, .data⟩ (by simp) rfl
              · exact hd ⟨12, .data⟩ (by simp) rfl)), (kp f0), (kp f1), (kp f2), (kp f3), (kp f4), (kp f5), (kp f6), (fun _ => .inl upd_self), (kp f8), (kp f9), (fun _ => .inl upd_self), (fun _ => ⟨q, rfl, q1, q2⟩), (fun _ => ⟨j, rfl, hj⟩), (fun _ => ⟨j, q, ww, hj, q1, q2, rfl, rd.more (by rw [h3, h9]; simp), gb⟩)⟩
        case hdone =>
          rintro L ac ww hall ⟨t107, t108, t109, t110, t111, t112, t113, t114, t115, t116, t117, t118, t119, rfl, I0, I1, f0, f1, f2, f3, f4, f5, f6, f7, f8, f9, f10, f11, f12, f13⟩
          have e0 := f0 (hall 0 (by decide))
          have e1 := f1 (hall 1 (by decide))
          have e2 := f2 (hall 2 (by decide))
          have e3 := f3 (hall 3 (by decide))
          have e4 := f4 (hall 4 (by decide))
          have e5 := f5 (hall 5 (by decide))
          have e6 := f6 (hall 6 (by decide))
          have e7 := f7 (hall 7 (by decide))
          have e8 := f8 (hall 8 (by decide))
          have e9 := f9 (hall 9 (by decide))
          have e10 := f10 (hall 10 (by decide))
          have e11 := f11 (hall 11 (by decide))
          have e12 := f12 (hall 12 (by decide))
          have e13 := f13 (hall 13 (by decide))
          clear f0 f1 f2 f3 f4 f5 f6 f7 f8 f9 f10 f11 f12 f13
          obtain ⟨j, q, w1, hj, q1, q2, rfl, rd1, gb1⟩ := e13
          have S := (SR.out.pick rd1 gb1).root (i := j) HM.out q
          have SM3 := Lib.hid (SM.out.setRoot (i := j) (x := q) (by omega))
          have r0 : (w1.setCell ⟨gR, j, none⟩ (.int .i64 q)).cell? ⟨b, 0, none⟩ = some (.slice A1 nn c1) := S.box.cell 0
          have r1 : (w1.setCell ⟨gR, j, none⟩ (.int .i64 q)).cell? ⟨b, 1, none⟩ = some (.slice (some ⟨gR, 0, none⟩) 4 d1) := S.box.cell 1
          have r2 : (w1.setCell ⟨gR, j, none⟩ (.int .i64 q)).frozen? ⟨w.heap.size, 0, none⟩ = false := S.res.frozen 0
          have r3 : (w1.setCell ⟨gR, j, none⟩ (.int .i64 q)).frozen? ⟨w.heap.size, 1, none⟩ = false := S.res.frozen 1
          have r4 : (w1.setCell ⟨gR, j, none⟩ (.int .i64 q)).cell? ⟨w.heap.size, 0, none⟩ = some (.slice none 0 0) := S.res.cell 0
          have r5 : (w1.setCell ⟨gR, j, none⟩ (.int .i64 q)).cell? ⟨w.heap.size, 1, none⟩ = some (.slice none 0 0) := S.res.cell 1
          have r6 : (((w1.setCell ⟨gR, j, none⟩ (.int .i64 q)).setCell ⟨w.heap.size, 0, none⟩ (.slice A1 nn c1)).setCell ⟨w.heap.size, 1, none⟩ (.slice (some ⟨gR, 0, none⟩) 4 d1)).cell? ⟨w.heap.size, 0, none⟩ = some (.slice A1 nn c1) := ((S.res.put 0 (.slice A1 nn c1)).put 1 (.slice (some ⟨gR, 0, none⟩) 4 d1)).cell 0
          have r7 : (((w1.setCell ⟨gR, j, none⟩ (.int .i64 q)).setCell ⟨w.heap.size, 0, none⟩ (.slice A1 nn c1)).setCell ⟨w.heap.size, 1, none⟩ (.slice (some ⟨gR, 0, none⟩) 4 d1)).cell? ⟨w.heap.size, 1, none⟩ = some (.slice (some ⟨gR, 0, none⟩) 4 d1) := ((S.res.put 0 (.slice A1 nn c1)).put 1 (.slice (some ⟨gR, 0, none⟩) 4 d1)).cell 1
          have FI := Lib.hid (S.fin (.slice A1 nn c1) (.slice (some ⟨gR, 0, none⟩) 4 d1))
          have CAP := Lib.hid S.own.caps.2.2
          clear S SR e0 e1 e2 e3 e4 e5 e6 e7 e8 e9 e10 e11 e12 I0 I1 x0 x1 fb0 fb1
          go_wp2_with fail
          exact bodyPost_ret (v := .agg #[.slice A1 nn c1, .slice (some ⟨gR, 0, none⟩) 4 d1]) (by simp [results, Tryd.results45, go_sem, *]) rfl ⟨A1, nn, c1, some ⟨gR, 0, none⟩, 4, d1, ⟨h1.cs, h1.rt.set j q⟩, rfl, CAP.out.1, CAP.out.2, FI.out.1, fun h => absurd h hn1, SM3.out, FI.out.2.1.more (by omega), FI.out.2.2⟩
      · have own' := World.ownsRow.alloc S.own.row (.cells #[.bool false, .int .i64 5, .slice none 0 0] 43)
        rw [HN.out] at own'
        have rr := Rw.new w6 43 #[.bool false, .int .i64 5, .slice none 0 0]
        have SB := S.alloc (.cells #[.bool false, .int .i64 5, .slice none 0 0] 43)
        have hsz1 : w.heap.size + 1 ≤ w6.heap.size := by have := S.box.lt; omega
        have GO := Lib.hid (fun v9 w9 (g9 : (w6.alloc (.cells #[.bool false, .int .i64 5, .slice none 0 0] 43)).grownBy w9 (Value.slice A1 nn c1).ownBlock) o9 s9 => SB.snoc (cl := ⟨false, 5, []⟩) (v9 := v9) (v8 := .slice none 0 0) (w1 := w9) g9 (by rw [HN.out]; exact o9) s9 (World.ownsRow_nil _ _ _ _))
        have FB := Lib.hid (fun w9 (g9 : (w6.alloc (.cells #[.bool false, .int .i64 5, .slice none 0 0] 43)).grownBy w9 (Value.slice A1 nn c1).ownBlock) => Rw.far SB.box g9 (fun e => by
          rcases SB.apart _ (List.mem_cons_self) with e' | e'
          · rw [e'] at e; cases e
          · exact e' e.symm))
        clear S SB
        go_upto_region 22 with (at_builtin; go_must (refine wpList_appendC rfl (.tmp 123) (.tmp 125) rfl (w.heap.size + 1) _ nn (flatC h1.cs rvs1) rfl own' (w6.heap.size) false 5 none 0 0 rfl rr (by omega) (by simp; omega) ?_; intro v9 w9 A9 c9 e9 o9 g9 s9; subst e9; have SN := GO.out _ w9 g9 o9 s9 (fun _ _ => .inl rfl) (by simp [Value.ownBlock]); have z9 := (FB.out w9 g9).cell 0; have f9 := (FB.out w9 g9).frozen 0; clear o9 g9 s9))
        generalize w9.setCell ⟨b, 0, none⟩ (.slice A9 (nn + 1) c9) = w10 at SN ⊢
        clear z9 f9 GO FB own' rr x0 x1 fb0 fb1
        have hdv : SmallH ⟨h1.cs ++ [⟨false, 5, []⟩], h1.rt⟩ := SM.out.snoc (by rw [HN.out]; exact hn40) (by simp) (by show -1 ≤ (5 : Int) ∧ (5 : Int) ≤ 100; omega) (fun x hx => by simp at hx)
        have r0 : (w10).cell? ⟨b, 0, none⟩ = some (.slice A9 (nn + 1) c9) := SN.box.cell 0
        have r1 : (w10).cell? ⟨b, 1, none⟩ = some (.slice (some ⟨gR, 0, none⟩) 4 d1) := SN.box.cell 1
        have r2 : (w10).frozen? ⟨w.heap.size, 0, none⟩ = false := SN.res.frozen 0
        have r3 : (w10).frozen? ⟨w.heap.size, 1, none⟩ = false := SN.res.frozen 1
        have r4 : (w10).cell? ⟨w.heap.size, 0, none⟩ = some (.slice none 0 0) := SN.res.cell 0
        have r5 : (w10).cell? ⟨w.heap.size, 1, none⟩ = some (.slice none 0 0) := SN.res.cell 1
        have r6 : (((w10).setCell ⟨w.heap.size, 0, none⟩ (.slice A9 (nn + 1) c9)).setCell ⟨w.heap.size, 1, none⟩ (.slice (some ⟨gR, 0, none⟩) 4 d1)).cell? ⟨w.heap.size, 0, none⟩ = some (.slice A9 (nn + 1) c9) := ((SN.res.put 0 (.slice A9 (nn + 1) c9)).put 1 (.slice (some ⟨gR, 0, none⟩) 4 d1)).cell 0
        have r7 : (((w10).setCell ⟨w.heap.size, 0, none⟩ (.slice A9 (nn + 1) c9)).setCell ⟨w.heap.size, 1, none⟩ (.slice (some ⟨gR, 0, none⟩) 4 d1)).cell? ⟨w.heap.size, 1, none⟩ = some (.slice (some ⟨gR, 0, none⟩) 4 d1) := ((SN.res.put 0 (.slice A9 (nn + 1) c9)).put 1 (.slice (some ⟨gR, 0, none⟩) 4 d1)).cell 1
        have FI := Lib.hid (SN.fin (.slice A9 (nn + 1) c9) (.slice (some ⟨gR, 0, none⟩) 4 d1))
        have CAP := Lib.hid SN.own.caps.2.2
        have SM2 := Lib.hid hdv
        clear SN hdv
        go_wp2_with fail
        exact bodyPost_ret (v := .agg #[.slice A9 (nn + 1) c9, .slice (some ⟨gR, 0, none⟩) 4 d1]) (by simp [results, Tryd.results45, go_sem, *]) rfl ⟨A9, nn + 1, c9, some ⟨gR, 0, none⟩, 4, d1, ⟨h1.cs ++ [⟨false, 5, []⟩], h1.rt⟩, rfl, CAP.out.1, CAP.out.2, FI.out.1, fun h => absurd h hn1, SM2.out, FI.out.2.1.more (by omega), FI.out.2.2⟩
      · have hbl := S.box.lt
        have hsz0 : w.heap.size + 1 ≤ w6.heap.size := by omega
        have HAP := Lib.hid (show ∀ v ∈ (Value.slice A1 nn c1) :: (Value.slice (some ⟨gR, 0, none⟩) 4 d1) :: rvs1, (.slice (some ⟨w6.heap.size, 0, none⟩) 1 1 : Value).ownBlock = none ∨ (.slice (some ⟨w6.heap.size, 0, none⟩) 1 1 : Value).ownBlock ≠ v.ownBlock from fun v hv => .inr (fun e => by
          have := (S.own.blocks (k := w6.heap.size) hv e.symm).2
          omega))
        have H8B := Lib.hid (show (.slice (some ⟨w6.heap.size, 0, none⟩) 1 1 : Value).ownBlock ≠ some b from fun e => by
          have : w6.heap.size = b := Option.some.inj e
          omega)
        have O8 := Lib.hid (own_oneI w6 ((nn : Int) + 1) (w.heap.size + 1) hsz0)
        replace S := S.alloc (.cells #[.int .i64 ((nn : Int) + 1)] 3)
        have hw : IntKind.i64.wrap ((nn : Int) + 1) = (nn : Int) + 1 := IntWalk.i64_in _ (by omega)
        have own' := World.ownsRow.alloc S.own.row (.cells #[.bool true, .int .i64 0, .slice (some ⟨w6.heap.size, 0, none⟩) 1 1] 43)
        rw [HN.out] at own'
        have rr := Rw.new (w6.alloc (.cells #[.int .i64 ((nn : Int) + 1)] 3)) 43 #[.bool true, .int .i64 0, .slice (some ⟨w6.heap.size, 0, none⟩) 1 1]
        have SB := S.alloc (.cells #[.bool true, .int .i64 0, .slice (some ⟨w6.heap.size, 0, none⟩) 1 1] 43)
        have hsz1 : w.heap.size + 1 ≤ (w6.alloc (.cells #[.int .i64 ((nn : Int) + 1)] 3)).heap.size := by have := S.box.lt; omega
        have GO := Lib.hid (fun v9 w9 (g9 : ((w6.alloc (.cells #[.int .i64 ((nn : Int) + 1)] 3)).alloc (.cells #[.bool true, .int .i64 0, .slice (some ⟨w6.heap.size, 0, none⟩) 1 1] 43)).grownBy w9 (Value.slice A1 nn c1).ownBlock) o9 s9 => SB.snoc (cl := ⟨true, 0, [(nn : Int) + 1]⟩) (v9 := v9) (v8 := .slice (some ⟨w6.heap.size, 0, none⟩) 1 1) (w1 := w9) g9 (by rw [HN.out]; exact o9) s9 (World.ownsRow.alloc O8.out _))
        have FB := Lib.hid (fun w9 (g9 : ((w6.alloc (.cells #[.int .i64 ((nn : Int) + 1)] 3)).alloc (.cells #[.bool true, .int .i64 0, .slice (some ⟨w6.heap.size, 0, none⟩) 1 1] 43)).grownBy w9 (Value.slice A1 nn c1).ownBlock) => Rw.far SB.box g9 (fun e => by
          rcases SB.apart _ (List.mem_cons_self) with e' | e'
          · rw [e'] at e; cases e
          · exact e' e.symm))
        rw [World.size_alloc] at rr
        clear S SB
        go_upto_region 22 with (at_builtin; go_must (refine wpList_appendC rfl (.tmp 131) (.tmp 138) rfl (w.heap.size + 1) _ nn (flatC h1.cs rvs1) rfl own' (w6.heap.size + 1) true 0 (some ⟨w6.heap.size, 0, none⟩) 1 1 rfl rr (by omega) (by simp; omega) ?_; intro v9 w9 A9 c9 e9 o9 g9 s9; subst e9; have SN := GO.out _ w9 g9 o9 s9 HAP.out H8B.out; have z9 := (FB.out w9 g9).cell 0; have f9 := (FB.out w9 g9).frozen 0; clear o9 g9 s9))
        generalize w9.setCell ⟨b, 0, none⟩ (.slice A9 (nn + 1) c9) = w10 at SN ⊢
        clear z9 f9 GO FB own' rr x0 x1 fb0 fb1
        have hdv : SmallH ⟨h1.cs ++ [⟨true, 0, [(nn : Int) + 1]⟩], h1.rt⟩ := SM.out.snoc (by rw [HN.out]; exact hn40) (by simp) (by show -1 ≤ (0 : Int) ∧ (0 : Int) ≤ 100; omega) (fun x hx => by simp at hx; omega)
        have r0 : (w10).cell? ⟨b, 0, none⟩ = some (.slice A9 (nn + 1) c9) := SN.box.cell 0
        have r1 : (w10).cell? ⟨b, 1, none⟩ = some (.slice (some ⟨gR, 0, none⟩) 4 d1) := SN.box.cell 1
        have r2 : (w10).frozen? ⟨w.heap.size, 0, none⟩ = false := SN.res.frozen 0
        have r3 : (w10).frozen? ⟨w.heap.size, 1, none⟩ = false := SN.res.frozen 1
        have r4 : (w10).cell? ⟨w.heap.size, 0, none⟩ = some (.slice none 0 0) := SN.res.cell 0
        have r5 : (w10).cell? ⟨w.heap.size, 1, none⟩ = some (.slice none 0 0) := SN.res.cell 1
        have r6 : (((w10).setCell ⟨w.heap.size, 0, none⟩ (.slice A9 (nn + 1) c9)).setCell ⟨w.heap.size, 1, none⟩ (.slice (some ⟨gR, 0, none⟩) 4 d1)).cell? ⟨w.heap.size, 0, none⟩ = some (.slice A9 (nn + 1) c9) := ((SN.res.put 0 (.slice A9 (nn + 1) c9)).put 1 (.slice (some ⟨gR, 0, none⟩) 4 d1)).cell 0
        have r7 : (((w10).setCell ⟨w.heap.size, 0, none⟩ (.slice A9 (nn + 1) c9)).setCell ⟨w.heap.size, 1, none⟩ (.slice (some ⟨gR, 0, none⟩) 4 d1)).cell? ⟨w.heap.size, 1, none⟩ = some (.slice (some ⟨gR, 0, none⟩) 4 d1) := ((SN.res.put 0 (.slice A9 (nn + 1) c9)).put 1 (.slice (some ⟨gR, 0, none⟩) 4 d1)).cell 1
        have FI := Lib.hid (SN.fin (.slice A9 (nn + 1) c9) (.slice (some ⟨gR, 0, none⟩) 4 d1))
        have CAP := Lib.hid SN.own.caps.2.2
        have SM2 := Lib.hid hdv
        clear SN hdv
        go_wp2_with fail
        exact bodyPost_ret (v := .agg #[.slice A9 (nn + 1) c9, .slice (some ⟨gR, 0, none⟩) 4 d1]) (by simp [results, Tryd.results45, go_sem, *]) rfl ⟨A9, nn + 1, c9, some ⟨gR, 0, none⟩, 4, d1, ⟨h1.cs ++ [⟨true, 0, [(nn : Int) + 1]⟩], h1.rt⟩, rfl, CAP.out.1, CAP.out.2, FI.out.1, fun h => absurd h hn1, SM2.out, FI.out.2.1.more (by omega), FI.out.2.2⟩
      · have SR := Lib.hid S
        clear S
        go_wp2_with fail
        refine wp_region_inv (by kernel_rfl) (by kernel_rfl) (fun L ac ww => ∃ t88 t89 t90 t91 t92 t93 t94 t95 t96 t97 t98 : Value, ac = { tmps := #[Value.pointer (some { block := gr, off := 0 }), Value.int IntKind.i64 n, undef, undef, Value.pointer (some { block := w.heap.size, off := 0 }), Value.pointer (some { block := b, off := 0 }), u6, u7, u8, u9, u10, u11, u12, u13, u14, u15, u16, u17, u18, u19, u20, u21, u22, u23, u24, u25, u26, u27, u28, u29, u30, u31, u32, u33, u34, u35, u36, u37, u38, u39, u40, u41, u42, u43, u44, u45, u46, u47, u48, u49, u50, u51, u52, u53, u54, u55, u56, u57, u58, u59, u60, u61, u62, u63, u64, u65, u66, u67, u68, u69, u70, u71, u72, u73, u74, u75, u76, u77, u78, u79, u80, u81, u82, Value.pointer (some { block := gr, off := 0 }), Value.int IntKind.i64 n, Value.bool true, Value.pointer (some { block := gr, off := 0 }), Value.int IntKind.i64 4, t88, t89, t90, t91, t92, t93, t94, t95, t96, t97, t98, Value.bool false, Value.bool false, u101, u102, u103, u104, Value.bool false, Value.bool false, u107, u108, u109, u110, u111, u112, u113, u114, u115, u116, u117, u118, u119, Value.bool false, Value.bool false, u122, u123, u124, u125, u126, u127, Value.bool false, Value.bool false, u130, u131, u132, u133, u134, u135, u136, u137, u138, u139, u140, u141], defers := [] } ∧ (L 9 = false → Rd ww gr (N + 617 + 1 + 1 + (L 4).toNat) ∧ w6.grownBy ww (some gr)) ∧ (L 9 = true → ∀ q, q < 9 → L q = true) ∧ (L 11 = true → L 9 = true ∧ L 10 = true) ∧ (L 1 = true → L 0 = true) ∧ (L 4 = true → L 3 = true) ∧ (L 5 = true → L 2 = true ∧ L 4 = true ∧ L 3 = true) ∧ (L 6 = true → L 5 = true ∧ L 2 = true ∧ L 4 = true ∧ L 3 = true) ∧ (L 7 = true → L 6 = true ∧ L 5 = true ∧ L 2 = true ∧ L 4 = true ∧ L 3 = true) ∧ (L 8 = true → L 7 = true ∧ L 6 = true ∧ L 5 = true ∧ L 2 = true ∧ L 4 = true ∧ L 3 = true) ∧ (L 0 = true → t88 = (.pointer (some ⟨b, 0, none⟩))) ∧ (L 1 = true → t89 = (.slice A1 nn c1)) ∧ (L 2 = true → L 9 = true ∨ TblOf ww gr 2 (-1) 100 t90) ∧ (L 3 = true → t91 = (.pointer (some ⟨gr, 0, none⟩))) ∧ (L 4 = true → IntIn 0 1 t92) ∧ (L 5 = true → L 9 = true ∨ PtrOf ww gr 2 (-1) 100 t93) ∧ (L 6 = true → IntIn (-1) 100 t94) ∧ (L 7 = true → ∃ q : Int, t95 = .agg #[.bool true, .int .i64 q, .slice none 0 0] ∧ -1 ≤ q ∧ q ≤ 100) ∧ (L 8 = true → L 9 = true ∨ ∃ (gs : Nat) (q : Int), t96 = .slice (some ⟨gs, 0, none⟩) 1 1 ∧ -1 ≤ q ∧ q ≤ 100 ∧ Rw ww gs 43 #[.bool true, .int .i64 q, .slice none 0 0]) ∧ (L 9 = true → L 11 = true ∨ ∃ (wa : World) (A9 : Option Addr) (c9 : Nat) (q : Int), t97 = .slice A9 (nn + 1) c9 ∧ -1 ≤ q ∧ q ≤ 100 ∧ Rd wa gr (N + 617 + 1 + 1 + 1) ∧ w6.grownBy wa (some gr) ∧ wa.grownBy ww (Value.slice A1 nn c1).ownBlock ∧ ww.ownsRow (w.heap.size + 1) 43 3 (.slice A9 (nn + 1) c9) (nn + 1) (flatC h1.cs rvs1 ++ [.bool true, .int .i64 q, .slice none 0 0]) ∧ ((Value.slice A9 (nn + 1) c9).ownBlock = (Value.slice A1 nn c1).ownBlock ∨ (Value.slice A9 (nn + 1) c9).ownBlock = some wa.heap.size)) ∧ (L 10 = true → t98 = (.pointer (some ⟨b, 0, none⟩))) ∧ (L 11 = true → ∃ (wa wb : World) (A9 : Option Addr) (c9 : Nat) (q : Int), ww = wb.setCell ⟨b, 0, none⟩ (.slice A9 (nn + 1) c9) ∧ -1 ≤ q ∧ q ≤ 100 ∧ Rd wa gr (N + 617 + 1 + 1 + 1) ∧ w6.grownBy wa (some gr) ∧ wa.grownBy wb (Value.slice A1 nn c1).ownBlock ∧ wb.ownsRow (w.heap.size + 1) 43 3 (.slice A9 (nn + 1) c9) (nn + 1) (flatC h1.cs rvs1 ++ [.bool true, .int .i64 q, .slice none 0 0]) ∧ ((Value.slice A9 (nn + 1) c9).ownBlock = (Value.slice A1 nn c1).ownBlock ∨ (Value.slice A9 (nn + 1) c9).ownBlock = some wa.heap.size))) ?h0 ?hstep ?hdone
        case h0 => exact ⟨_, _, _, _, _, _, _, _, _, _, _, rfl, fun _ => ⟨by simpa using SR.out.rd.below (Below.refl _ _).drew SR.out.rd.lt, grown_below (World.grownBy.refl _ _) (Below.refl _ _).drew⟩, fun h => absurd h Bool.false_ne_true, fun h => absurd h Bool.false_ne_true, fun h => absurd h Bool.false_ne_true, fun h => absurd h Bool.false_ne_true, fun h => absurd h Bool.false_ne_true, fun h => absurd h Bool.false_ne_true, fun h => absurd h Bool.false_ne_true, fun h => absurd h Bool.false_ne_true, (fun h => absurd h Bool.false_ne_true), (fun h => absurd h Bool.false_ne_true), (fun h => absurd h Bool.false_ne_true), (fun h => absurd h Bool.false_ne_true), (fun h => absurd h Bool.false_ne_true), (fun h => absurd h Bool.false_ne_true), (fun h => absurd h Bool.false_ne_true), (fun h => absurd h Bool.false_ne_true), (fun h => absurd h Bool.false_ne_true), (fun h => absurd h Bool.false_ne_true), (fun h => absurd h Bool.false_ne_true), (fun h => absurd h Bool.false_ne_true)⟩
        case hstep =>
          rintro L ac ww i o ho hL hd ⟨t88, t89, t90, t91, t92, t93, t94, t95, t96, t97, t98, rfl, I0, I1, I2, I3, I4, I5, I6, I7, I8, f0, f1, f2, f3, f4, f5, f6, f7, f8, f9, f10, f11⟩
          have hi : i < 12 := (Array.getElem?_eq_some_iff.1 ho).1
          obtain rfl | rfl | rfl | rfl | rfl | rfl | rfl | rfl | rfl | rfl | rfl | rfl : i = 0 ∨ i = 1 ∨ i = 2 ∨ i = 3 ∨ i = 4 ∨ i = 5 ∨ i = 6 ∨ i = 7 ∨ i = 8 ∨ i = 9 ∨ i = 10 ∨ i = 11 := by omega
          · obtain rfl := Option.some.inj ho
            have h17 : L 9 = false := by
              cases e : L 9
              · rfl
              · exact absurd (I1 e 0 (by decide)) (by rw [hL]; simp)
            have h18 : L 11 = false := by
              cases e : L 11
              · rfl
              · exact absurd (I2 e).1 (by rw [h17]; simp)
            obtain ⟨rd, gb⟩ := I0 h17
            refine wpOp_step rfl (fun K' hK => ?_)
            go_simp
            refine hK _ _ ?_
            exact ⟨_, _, _, _, _, _, _, _, _, _, _, rfl, (fun _ => ⟨by rw [upd_other (by decide)]; exact rd, gb⟩), (upd_all I1 (by decide)), (fun h => ⟨upd_mono (I2 (upd_ne h (by decide))).1, upd_mono (I2 (upd_ne h (by decide))).2⟩), (fun h => upd_mono (I3 (upd_ne h (by decide)))), (fun h => upd_mono (I4 (upd_ne h (by decide)))), (fun h => let p := I5 (upd_ne h (by decide)); ⟨upd_mono p.1, upd_mono p.2.1, upd_mono p.2.2⟩), (fun h => let p := I6 (upd_ne h (by decide)); ⟨upd_mono p.1, upd_mono p.2.1, upd_mono p.2.2.1, upd_mono p.2.2.2⟩), (fun h => let p := I7 (upd_ne h (by decide)); ⟨upd_mono p.1, upd_mono p.2.1, upd_mono p.2.2.1, upd_mono p.2.2.2.1, upd_mono p.2.2.2.2⟩), (fun h => let p := I8 (upd_ne h (by decide)); ⟨upd_mono p.1, upd_mono p.2.1, upd_mono p.2.2.1, upd_mono p.2.2.2.1, upd_mono p.2.2.2.2.1, upd_mono p.2.2.2.2.2⟩), (fun _ => by first | rfl | simp), (kp f1), (fun h => (f2 (upd_ne h (by decide))).imp (fun e => upd_mono e) id), (kp f3), (kp f4), (fun h => (f5 (upd_ne h (by decide))).imp (fun e => upd_mono e) id), (kp f6), (kp f7), (fun h => (f8 (upd_ne h (by decide))).imp (fun e => upd_mono e) id), (fun h => absurd (upd_ne h (by decide)) (by rw [h17]; simp)), (kp f10), (fun h => absurd (upd_ne h (by decide)) (by rw [h18]; simp))⟩
          · obtain rfl := Option.some.inj ho
            have g0 := f0 (hd ⟨0, .data⟩ (by simp) rfl)
            subst g0
            have h17 : L 9 = false := by
              cases e : L 9
              · rfl
              · exact absurd (I1 e 1 (by decide)) (by rw [hL]; simp)
            have h18 : L 11 = false := by
              cases e : L 11
              · rfl
              · exact absurd (I2 e).1 (by rw [h17]; simp)
            obtain ⟨rd, gb⟩ := I0 h17
            have y0 : ww.cell? ⟨b, 0, none⟩ = some (.slice A1 nn c1) := gb.cell x0 (fun e => by injection e with e; simp only at e; omega)
            have c0 := Lib.hid (hd ⟨0, .data⟩ (by simp) rfl)
            refine wpOp_step rfl (fun K' hK => ?_)
            go_simp
            refine hK _ _ ?_
            exact ⟨_, _, _, _, _, _, _, _, _, _, _, rfl, (fun _ => ⟨by rw [upd_other (by decide)]; exact rd, gb⟩), (upd_all I1 (by decide)), (fun h => ⟨upd_mono (I2 (upd_ne h (by decide))).1, upd_mono (I2 (upd_ne h (by decide))).2⟩), (fun _ => upd_mono c0.out), (fun h => upd_mono (I4 (upd_ne h (by decide)))), (fun h => let p := I5 (upd_ne h (by decide)); ⟨upd_mono p.1, upd_mono p.2.1, upd_mono p.2.2⟩), (fun h => let p := I6 (upd_ne h (by decide)); ⟨upd_mono p.1, upd_mono p.2.1, upd_mono p.2.2.1, upd_mono p.2.2.2⟩), (fun h => let p := I7 (upd_ne h (by decide)); ⟨upd_mono p.1, upd_mono p.2.1, upd_mono p.2.2.1, upd_mono p.2.2.2.1, upd_mono p.2.2.2.2⟩), (fun h => let p := I8 (upd_ne h (by decide)); ⟨upd_mono p.1, upd_mono p.2.1, upd_mono p.2.2.1, upd_mono p.2.2.2.1, upd_mono p.2.2.2.2.1, upd_mono p.2.2.2.2.2⟩), (kp f0), (fun _ => by first | rfl | simp), (fun h => (f2 (upd_ne h (by decide))).imp (fun e => upd_mono e) id), (kp f3), (kp f4), (fun h => (f5 (upd_ne h (by decide))).imp (fun e => upd_mono e) id), (kp f6), (kp f7), (fun h => (f8 (upd_ne h (by decide))).imp (fun e => upd_mono e) id), (fun h => absurd (upd_ne h (by decide)) (by rw [h17]; simp)), (kp f10), (fun h => absurd (upd_ne h (by decide)) (by rw [h18]; simp))⟩
          · obtain rfl := Option.some.inj ho
            have h17 : L 9 = false := by
              cases e : L 9
              · rfl
              · exact absurd (I1 e 2 (by decide)) (by rw [hL]; simp)
            have h18 : L 11 = false := by
              cases e : L 11
              · rfl
              · exact absurd (I2 e).1 (by rw [h17]; simp)
            obtain ⟨rd, gb⟩ := I0 h17
            refine wpOp_step rfl (fun K' hK => ?_)
            go_simp
            refine hK _ _ ?_
            exact ⟨_, _, _, _, _, _, _, _, _, _, _, rfl, (fun _ => ⟨by rw [upd_other (by decide)]; exact rd.below ((Below.refl ww.heap.size ww).alloc (Nat.le_refl _) _) rd.lt, World.grownBy.trans gb (World.grownBy_alloc _ _ _)⟩), (upd_all I1 (by decide)), (fun h => ⟨upd_mono (I2 (upd_ne h (by decide))).1, upd_mono (I2 (upd_ne h (by decide))).2⟩), (fun h => upd_mono (I3 (upd_ne h (by decide)))), (fun h => upd_mono (I4 (upd_ne h (by decide)))), (fun h => let p := I5 (upd_ne h (by decide)); ⟨upd_mono p.1, upd_mono p.2.1, upd_mono p.2.2⟩), (fun h => let p := I6 (upd_ne h (by decide)); ⟨upd_mono p.1, upd_mono p.2.1, upd_mono p.2.2.1, upd_mono p.2.2.2⟩), (fun h => let p := I7 (upd_ne h (by decide)); ⟨upd_mono p.1, upd_mono p.2.1, upd_mono p.2.2.1, upd_mono p.2.2.2.1, upd_mono p.2.2.2.2⟩), (fun h => let p := I8 (upd_ne h (by decide)); ⟨upd_mono p.1, upd_mono p.2.1, upd_mono p.2.2.1, upd_mono p.2.2.2.1, upd_mono p.2.2.2.2.1, upd_mono p.2.2.2.2.2⟩), (kp f0), (kp f1), (fun _ => .inr ⟨_, rfl, Tbl.new ww gr _ [-1, 100] (-1) 100 rd.lt (by intro q hq; simp at hq; omega) _ rfl⟩), (kp f3), (kp f4), (fun h => (f5 (upd_ne h (by decide))).imp (fun e => upd_mono e) (fun T => T.alloc _)), (kp f6), (kp f7), (fun h => (f8 (upd_ne h (by decide))).imp (fun e => upd_mono e) (fun ⟨gs, q, e, q1, q2, r⟩ => ⟨gs, q, e, q1, q2, r.alloc _⟩)), (fun h => absurd (upd_ne h (by decide)) (by rw [h17]; simp)), (kp f10), (fun h => absurd (upd_ne h (by decide)) (by rw [h18]; simp))⟩
          · obtain rfl := Option.some.inj ho
            have h17 : L 9 = false := by
              cases e : L 9
              · rfl
              · exact absurd (I1 e 3 (by decide)) (by rw [hL]; simp)
            have h18 : L 11 = false := by
              cases e : L 11
              · rfl
              · exact absurd (I2 e).1 (by rw [h17]; simp)
            obtain ⟨rd, gb⟩ := I0 h17
            refine wpOp_step rfl (fun K' hK => ?_)
            go_simp
            refine hK _ _ ?_
            exact ⟨_, _, _, _, _, _, _, _, _, _, _, rfl, (fun _ => ⟨by rw [upd_other (by decide)]; exact rd, gb⟩), (upd_all I1 (by decide)), (fun h => ⟨upd_mono (I2 (upd_ne h (by decide))).1, upd_mono (I2 (upd_ne h (by decide))).2⟩), (fun h => upd_mono (I3 (upd_ne h (by decide)))), (fun h => upd_mono (I4 (upd_ne h (by decide)))), (fun h => let p := I5 (upd_ne h (by decide)); ⟨upd_mono p.1, upd_mono p.2.1, upd_mono p.2.2⟩), (fun h => let p := I6 (upd_ne h (by decide)); ⟨upd_mono p.1, upd_mono p.2.1, upd_mono p.2.2.1, upd_mono p.2.2.2⟩), (fun h => let p := I7 (upd_ne h (by decide)); ⟨upd_mono p.1, upd_mono p.2.1, upd_mono p.2.2.1, upd_mono p.2.2.2.1, upd_mono p.2.2.2.2⟩), (fun h => let p := I8 (upd_ne h (by decide)); ⟨upd_mono p.1, upd_mono p.2.1, upd_mono p.2.2.1, upd_mono p.2.2.2.1, upd_mono p.2.2.2.2.1, upd_mono p.2.2.2.2.2⟩), (kp f0), (kp f1), (fun h => (f2 (upd_ne h (by decide))).imp (fun e => upd_mono e) id), (fun _ => by first | rfl | simp), (kp f4), (fun h => (f5 (upd_ne h (by decide))).imp (fun e => upd_mono e) id), (kp f6), (kp f7), (fun h => (f8 (upd_ne h (by decide))).imp (fun e => upd_mono e) id), (fun h => absurd (upd_ne h (by decide)) (by rw [h17]; simp)), (kp f10), (fun h => absurd (upd_ne h (by decide)) (by rw [h18]; simp))⟩
          · obtain rfl := Option.some.inj ho
            have g3 := f3 (hd ⟨3, .data⟩ (by simp) rfl)
            subst g3
            have h17 : L 9 = false := by
              cases e : L 9
              · rfl
              · exact absurd (I1 e 4 (by decide)) (by rw [hL]; simp)
            have h18 : L 11 = false := by
              cases e : L 11
              · rfl
              · exact absurd (I2 e).1 (by rw [h17]; simp)
            obtain ⟨rd, gb⟩ := I0 h17
            have c3 := Lib.hid (hd ⟨3, .data⟩ (by simp) rfl)
            refine wpOp_step rfl (fun K' hK => ?_)
            go_simp
            refine (pick_any gr _ 2 ww rd (by have := Bool.toNat_le (L 4); have := Bool.toNat_le (L 4); omega) (by omega)).mono ?_
            rintro e w' ⟨r, rfl, r0', r1', hr, G⟩
            refine hK _ _ ?_
            exact ⟨_, _, _, _, _, _, _, _, _, _, _, rfl, (fun _ => ⟨by rw [upd_self]; rw [hL] at hr; exact hr.more (by simp), World.grownBy.trans gb G⟩), (upd_all I1 (by decide)), (fun h => ⟨upd_mono (I2 (upd_ne h (by decide))).1, upd_mono (I2 (upd_ne h (by decide))).2⟩), (fun h => upd_mono (I3 (upd_ne h (by decide)))), (fun _ => upd_mono c3.out), (fun h => let p := I5 (upd_ne h (by decide)); ⟨upd_mono p.1, upd_mono p.2.1, upd_mono p.2.2⟩), (fun h => let p := I6 (upd_ne h (by decide)); ⟨upd_mono p.1, upd_mono p.2.1, upd_mono p.2.2.1, upd_mono p.2.2.2⟩), (fun h => let p := I7 (upd_ne h (by decide)); ⟨upd_mono p.1, upd_mono p.2.1, upd_mono p.2.2.1, upd_mono p.2.2.2.1, upd_mono p.2.2.2.2⟩), (fun h => let p := I8 (upd_ne h (by decide)); ⟨upd_mono p.1, upd_mono p.2.1, upd_mono p.2.2.1, upd_mono p.2.2.2.1, upd_mono p.2.2.2.2.1, upd_mono p.2.2.2.2.2⟩), (kp f0), (kp f1), (fun h => (f2 (upd_ne h (by decide))).imp (fun e => upd_mono e) (fun T => T.pick G)), (kp f3), (fun _ => ⟨r, rfl, r0', by omega⟩), (fun h => (f5 (upd_ne h (by decide))).imp (fun e => upd_mono e) (fun T => T.pick G)), (kp f6), (kp f7), (fun h => absurd (I8 (upd_ne h (by decide))).2.2.2.2.1 (by rw [hL]; simp)), (fun h => absurd (upd_ne h (by decide)) (by rw [h17]; simp)), (kp f10), (fun h => absurd (upd_ne h (by decide)) (by rw [h18]; simp))⟩
          · obtain rfl := Option.some.inj ho
            have g2 := f2 (hd ⟨2, .data⟩ (by simp) rfl)
            have g4 := f4 (hd ⟨4, .data⟩ (by simp) rfl)
            have h17 : L 9 = false := by
              cases e : L 9
              · rfl
              · exact absurd (I1 e 5 (by decide)) (by rw [hL]; simp)
            have h18 : L 11 = false := by
              cases e : L 11
              · rfl
              · exact absurd (I2 e).1 (by rw [h17]; simp)
            obtain ⟨rd, gb⟩ := I0 h17
            obtain ⟨gt, rfl, T7⟩ := g2.resolve_left (by rw [h17]; simp)
            obtain ⟨q8, rfl, q81, q82⟩ := g4
            obtain ⟨n8, rfl⟩ := Int.eq_ofNat_of_zero_le (show 0 ≤ q8 by omega)
            have l8 : n8 < 2 := by omega
            have l8' : (n8 : Int) < 2 := by omega
            have c2 := Lib.hid (hd ⟨2, .data⟩ (by simp) rfl)
            have c4 := Lib.hid (hd ⟨4, .data⟩ (by simp) rfl)
            have c3 := Lib.hid (I4 c4.out)
            refine wpOp_step rfl (fun K' hK => ?_)
            go_simp
            refine hK _ _ ?_
            exact ⟨_, _, _, _, _, _, _, _, _, _, _, rfl, (fun _ => ⟨by rw [upd_other (by decide)]; exact rd, gb⟩), (upd_all I1 (by decide)), (fun h => ⟨upd_mono (I2 (upd_ne h (by decide))).1, upd_mono (I2 (upd_ne h (by decide))).2⟩), (fun h => upd_mono (I3 (upd_ne h (by decide)))), (fun h => upd_mono (I4 (upd_ne h (by decide)))), (fun _ => ⟨upd_mono c2.out, upd_mono c4.out, upd_mono c3.out⟩), (fun h => let p := I6 (upd_ne h (by decide)); ⟨upd_mono p.1, upd_mono p.2.1, upd_mono p.2.2.1, upd_mono p.2.2.2⟩), (fun h => let p := I7 (upd_ne h (by decide)); ⟨upd_mono p.1, upd_mono p.2.1, upd_mono p.2.2.1, upd_mono p.2.2.2.1, upd_mono p.2.2.2.2⟩), (fun h => let p := I8 (upd_ne h (by decide)); ⟨upd_mono p.1, upd_mono p.2.1, upd_mono p.2.2.1, upd_mono p.2.2.2.1, upd_mono p.2.2.2.2.1, upd_mono p.2.2.2.2.2⟩), (kp f0), (kp f1), (fun _ => .inr ⟨gt, rfl, T7⟩), (kp f3), (fun _ => ⟨(n8 : Int), rfl, by omega, by omega⟩), (fun _ => .inr ⟨gt, n8, by simp, l8, T7⟩), (kp f6), (kp f7), (fun h => (f8 (upd_ne h (by decide))).imp (fun e => upd_mono e) id), (fun h => absurd (upd_ne h (by decide)) (by rw [h17]; simp)), (kp f10), (fun h => absurd (upd_ne h (by decide)) (by rw [h18]; simp))⟩
          · obtain rfl := Option.some.inj ho
            have g5 := f5 (hd ⟨5, .data⟩ (by simp) rfl)
            have h17 : L 9 = false := by
              cases e : L 9
              · rfl
              · exact absurd (I1 e 6 (by decide)) (by rw [hL]; simp)
            have h18 : L 11 = false := by
              cases e : L 11
              · rfl
              · exact absurd (I2 e).1 (by rw [h17]; simp)
            obtain ⟨rd, gb⟩ := I0 h17
            obtain ⟨gt, n9, rfl, l9, T9⟩ := g5.resolve_left (by rw [h17]; simp)
            obtain ⟨q9, hq9, q91, q92⟩ := T9.2.2 n9 l9
            have c5 := Lib.hid (hd ⟨5, .data⟩ (by simp) rfl)
            have cp := I5 c5.out
            have c2 := Lib.hid cp.1
            have c4 := Lib.hid cp.2.1
            have c3 := Lib.hid cp.2.2
            clear cp
            refine wpOp_step rfl (fun K' hK => ?_)
            go_simp
            refine hK _ _ ?_
            exact ⟨_, _, _, _, _, _, _, _, _, _, _, rfl, (fun _ => ⟨by rw [upd_other (by decide)]; exact rd, gb⟩), (upd_all I1 (by decide)), (fun h => ⟨upd_mono (I2 (upd_ne h (by decide))).1, upd_mono (I2 (upd_ne h (by decide))).2⟩), (fun h => upd_mono (I3 (upd_ne h (by decide)))), (fun h => upd_mono (I4 (upd_ne h (by decide)))), (fun h => let p := I5 (upd_ne h (by decide)); ⟨upd_mono p.1, upd_mono p.2.1, upd_mono p.2.2⟩), (fun _ => ⟨upd_mono c5.out, upd_mono c2.out, upd_mono c4.out, upd_mono c3.out⟩), (fun h => let p := I7 (upd_ne h (by decide)); ⟨upd_mono p.1, upd_mono p.2.1, upd_mono p.2.2.1, upd_mono p.2.2.2.1, upd_mono p.2.2.2.2⟩), (fun h => let p := I8 (upd_ne h (by decide)); ⟨upd_mono p.1, upd_mono p.2.1, upd_mono p.2.2.1, upd_mono p.2.2.2.1, upd_mono p.2.2.2.2.1, upd_mono p.2.2.2.2.2⟩), (kp f0), (kp f1), (fun h => (f2 (upd_ne h (by decide))).imp (fun e => upd_mono e) id), (kp f3), (kp f4), (fun _ => .inr ⟨gt, n9, rfl, l9, T9⟩), (fun _ => ⟨q9, rfl, q91, q92⟩), (kp f7), (fun h => (f8 (upd_ne h (by decide))).imp (fun e => upd_mono e) id), (fun h => absurd (upd_ne h (by decide)) (by rw [h17]; simp)), (kp f10), (fun h => absurd (upd_ne h (by decide)) (by rw [h18]; simp))⟩
          · obtain rfl := Option.some.inj ho
            have g6 := f6 (hd ⟨6, .data⟩ (by simp) rfl)
            have h17 : L 9 = false := by
              cases e : L 9
              · rfl
              · exact absurd (I1 e 7 (by decide)) (by rw [hL]; simp)
            have h18 : L 11 = false := by
              cases e : L 11
              · rfl
              · exact absurd (I2 e).1 (by rw [h17]; simp)
            obtain ⟨rd, gb⟩ := I0 h17
            obtain ⟨q, rfl, q1, q2⟩ := g6
            have c6 := Lib.hid (hd ⟨6, .data⟩ (by simp) rfl)
            have cp := I6 c6.out
            have c5 := Lib.hid cp.1
            have c2 := Lib.hid cp.2.1
            have c4 := Lib.hid cp.2.2.1
            have c3 := Lib.hid cp.2.2.2
            clear cp
            refine wpOp_step rfl (fun K' hK => ?_)
            go_simp
            refine hK _ _ ?_
            exact ⟨_, _, _, _, _, _, _, _, _, _, _, rfl, (fun _ => ⟨by rw [upd_other (by decide)]; exact rd, gb⟩), (upd_all I1 (by decide)), (fun h => ⟨upd_mono (I2 (upd_ne h (by decide))).1, upd_mono (I2 (upd_ne h (by decide))).2⟩), (fun h => upd_mono (I3 (upd_ne h (by decide)))), (fun h => upd_mono (I4 (upd_ne h (by decide)))), (fun h => let p := I5 (upd_ne h (by decide)); ⟨upd_mono p.1, upd_mono p.2.1, upd_mono p.2.2⟩), (fun h => let p := I6 (upd_ne h (by decide)); ⟨upd_mono p.1, upd_mono p.2.1, upd_mono p.2.2.1, upd_mono p.2.2.2⟩), (fun _ => ⟨upd_mono c6.out, upd_mono c5.out, upd_mono c2.out, upd_mono c4.out, upd_mono c3.out⟩), (fun h => let p := I8 (upd_ne h (by decide)); ⟨upd_mono p.1, upd_mono p.2.1, upd_mono p.2.2.1, upd_mono p.2.2.2.1, upd_mono p.2.2.2.2.1, upd_mono p.2.2.2.2.2⟩), (kp f0), (kp f1), (fun h => (f2 (upd_ne h (by decide))).imp (fun e => upd_mono e) id), (kp f3), (kp f4), (fun h => (f5 (upd_ne h (by decide))).imp (fun e => upd_mono e) id), (fun _ => ⟨q, rfl, q1, q2⟩), (fun _ => ⟨q, rfl, q1, q2⟩), (fun h => (f8 (upd_ne h (by decide))).imp (fun e => upd_mono e) id), (fun h => absurd (upd_ne h (by decide)) (by rw [h17]; simp)), (kp f10), (fun h => absurd (upd_ne h (by decide)) (by rw [h18]; simp))⟩
          · obtain rfl := Option.some.inj ho
            have g7 := f7 (hd ⟨7, .data⟩ (by simp) rfl)
            have h17 : L 9 = false := by
              cases e : L 9
              · rfl
              · exact absurd (I1 e 8 (by decide)) (by rw [hL]; simp)
            have h18 : L 11 = false := by
              cases e : L 11
              · rfl
              · exact absurd (I2 e).1 (by rw [h17]; simp)
            obtain ⟨rd, gb⟩ := I0 h17
            obtain ⟨q, rfl, q1, q2⟩ := g7
            have c7 := Lib.hid (hd ⟨7, .data⟩ (by simp) rfl)
            have cp := I7 c7.out
            have c6 := Lib.hid cp.1
            have c5 := Lib.hid cp.2.1
            have c2 := Lib.hid cp.2.2.1
            have c4 := Lib.hid cp.2.2.2.1
            have c3 := Lib.hid cp.2.2.2.2
            clear cp
            refine wpOp_step rfl (fun K' hK => ?_)
            go_simp
            refine hK _ _ ?_
            exact ⟨_, _, _, _, _, _, _, _, _, _, _, rfl, (fun _ => ⟨by rw [upd_other (by decide)]; exact rd.below ((Below.refl ww.heap.size ww).alloc (Nat.le_refl _) _) rd.lt, World.grownBy.trans gb (World.grownBy_alloc _ _ _)⟩), (upd_all I1 (by decide)), (fun h => ⟨upd_mono (I2 (upd_ne h (by decide))).1, upd_mono (I2 (upd_ne h (by decide))).2⟩), (fun h => upd_mono (I3 (upd_ne h (by decide)))), (fun h => upd_mono (I4 (upd_ne h (by decide)))), (fun h => let p := I5 (upd_ne h (by decide)); ⟨upd_mono p.1, upd_mono p.2.1, upd_mono p.2.2⟩), (fun h => let p := I6 (upd_ne h (by decide)); ⟨upd_mono p.1, upd_mono p.2.1, upd_mono p.2.2.1, upd_mono p.2.2.2⟩), (fun h => let p := I7 (upd_ne h (by decide)); ⟨upd_mono p.1, upd_mono p.2.1, upd_mono p.2.2.1, upd_mono p.2.2.2.1, upd_mono p.2.2.2.2⟩), (fun _ => ⟨upd_mono c7.out, upd_mono c6.out, upd_mono c5.out, upd_mono c2.out, upd_mono c4.out, upd_mono c3.out⟩), (kp f0), (kp f1), (fun h => (f2 (upd_ne h (by decide))).imp (fun e => upd_mono e) (fun T => T.alloc _)), (kp f3), (kp f4), (fun h => (f5 (upd_ne h (by decide))).imp (fun e => upd_mono e) (fun T => T.alloc _)), (kp f6), (fun _ => ⟨q, rfl, q1, q2⟩), (fun _ => .inr ⟨_, q, rfl, q1, q2, Rw.new _ _ _⟩), (fun h => absurd (upd_ne h (by decide)) (by rw [h17]; simp)), (kp f10), (fun h => absurd (upd_ne h (by decide)) (by rw [h18]; simp))⟩
          · obtain rfl := Option.some.inj ho
            have g1 := f1 (hd ⟨1, .data⟩ (by simp) rfl)
            have g8 := f8 (hd ⟨8, .data⟩ (by simp) rfl)
            subst g1
            obtain ⟨rd, gb⟩ := I0 hL
            have h18 : L 11 = false := by
              cases e : L 11
              · rfl
              · exact absurd (I2 e).1 (by rw [hL]; simp)
            have h4 := hd ⟨4, .chain⟩ (by simp) rfl
            obtain ⟨gs, q, rfl, q1, q2, hz⟩ := g8.resolve_left (by rw [hL]; simp)
            have SP := SR.out.pick rd gb
            have own9 := SP.own.row
            rw [HN.out] at own9
            have hb9 : w.heap.size + 1 ≤ ww.heap.size := by have := SP.box.lt; omega
            have c1 := Lib.hid (hd ⟨1, .data⟩ (by simp) rfl)
            have c8 := Lib.hid (hd ⟨8, .data⟩ (by simp) rfl)
            have c0 := Lib.hid (I3 c1.out)
            have cp := I8 c8.out
            have c7 := Lib.hid cp.1
            have c6 := Lib.hid cp.2.1
            have c5 := Lib.hid cp.2.2.1
            have c2 := Lib.hid cp.2.2.2.1
            have c4 := Lib.hid cp.2.2.2.2.1
            have c3 := Lib.hid cp.2.2.2.2.2
            clear cp
            refine wpOp_step rfl (fun K' hK => ?_)
            refine app_stepC rfl (.tmp 89) (.tmp 96) rfl (w.heap.size + 1) _ nn (flatC h1.cs rvs1) rfl own9 gs true q none 0 0 rfl hz (by omega) hb9 ?_
            intro v' w' A9 c9 e9 o9 G9 s9
            subst e9
            refine hK _ _ ?_
            exact ⟨_, _, _, _, _, _, _, _, _, _, _, rfl, (fun h => absurd h (by rw [upd_self]; simp)), (fun _ q hq => upd_mono (by
              have hq17 : q = 0 ∨ q = 1 ∨ q = 2 ∨ q = 3 ∨ q = 4 ∨ q = 5 ∨ q = 6 ∨ q = 7 ∨ q = 8 := by omega
              rcases hq17 with rfl | rfl | rfl | rfl | rfl | rfl | rfl | rfl | rfl
              · exact c0.out
              · exact c1.out
              · exact c2.out
              · exact c3.out
              · exact c4.out
              · exact c5.out
              · exact c6.out
              · exact c7.out
              · exact c8.out)), (fun h => ⟨upd_mono (I2 (upd_ne h (by decide))).1, upd_mono (I2 (upd_ne h (by decide))).2⟩), (fun h => upd_mono (I3 (upd_ne h (by decide)))), (fun h => upd_mono (I4 (upd_ne h (by decide)))), (fun h => let p := I5 (upd_ne h (by decide)); ⟨upd_mono p.1, upd_mono p.2.1, upd_mono p.2.2⟩), (fun h => let p := I6 (upd_ne h (by decide)); ⟨upd_mono p.1, upd_mono p.2.1, upd_mono p.2.2.1, upd_mono p.2.2.2⟩), (fun h => let p := I7 (upd_ne h (by decide)); ⟨upd_mono p.1, upd_mono p.2.1, upd_mono p.2.2.1, upd_mono p.2.2.2.1, upd_mono p.2.2.2.2⟩), (fun h => let p := I8 (upd_ne h (by decide)); ⟨upd_mono p.1, upd_mono p.2.1, upd_mono p.2.2.1, upd_mono p.2.2.2.1, upd_mono p.2.2.2.2.1, upd_mono p.2.2.2.2.2⟩), (kp f0), (kp f1), (fun _ => .inl upd_self), (kp f3), (kp f4), (fun _ => .inl upd_self), (kp f6), (kp f7), (fun _ => .inl upd_self), (fun _ => .inr ⟨ww, A9, c9, q, rfl, q1, q2, rd.more (by rw [h4]; simp), gb, G9, o9, s9⟩), (kp f10), (fun h => absurd (upd_ne h (by decide)) (by rw [h18]; simp))⟩
          · obtain rfl := Option.some.inj ho
            refine wpOp_step rfl (fun K' hK => ?_)
            go_simp
            refine hK _ _ ?_
            exact ⟨_, _, _, _, _, _, _, _, _, _, _, rfl, (fun h => ⟨by rw [upd_other (by decide)]; exact (I0 (by rw [upd_other (by decide)] at h; exact h)).1, (I0 (by rw [upd_other (by decide)] at h; exact h)).2⟩), (upd_all I1 (by decide)), (fun h => ⟨upd_mono (I2 (upd_ne h (by decide))).1, upd_mono (I2 (upd_ne h (by decide))).2⟩), (fun h => upd_mono (I3 (upd_ne h (by decide)))), (fun h => upd_mono (I4 (upd_ne h (by decide)))), (fun h => let p := I5 (upd_ne h (by decide)); ⟨upd_mono p.1, upd_mono p.2.1, upd_mono p.2.2⟩), (fun h => let p := I6 (upd_ne h (by decide)); ⟨upd_mono p.1, upd_mono p.2.1, upd_mono p.2.2.1, upd_mono p.2.2.2⟩), (fun h => let p := I7 (upd_ne h (by decide)); ⟨upd_mono p.1, upd_mono p.2.1, upd_mono p.2.2.1, upd_mono p.2.2.2.1, upd_mono p.2.2.2.2⟩), (fun h => let p := I8 (upd_ne h (by decide)); ⟨upd_mono p.1, upd_mono p.2.1, upd_mono p.2.2.1, upd_mono p.2.2.2.1, upd_mono p.2.2.2.2.1, upd_mono p.2.2.2.2.2⟩), (kp f0), (kp f1), (fun h => (f2 (upd_ne h (by decide))).imp (fun e => upd_mono e) id), (kp f3), (kp f4), (fun h => (f5 (upd_ne h (by decide))).imp (fun e => upd_mono e) id), (kp f6), (kp f7), (fun h => (f8 (upd_ne h (by decide))).imp (fun e => upd_mono e) id), (fun h => (f9 (upd_ne h (by decide))).imp (fun e => upd_mono e) id), (fun _ => by first | rfl | simp), (kp f11)⟩
          · obtain rfl := Option.some.inj ho
            have g9 := f9 (hd ⟨9, .data⟩ (by simp) rfl)
            have g10 := f10 (hd ⟨10, .data⟩ (by simp) rfl)
            subst g10
            obtain ⟨wa, A9, c9, q, rfl, q1, q2, rd, gb, G9, o9, s9⟩ := g9.resolve_left (by rw [hL]; simp)
            have SP := SR.out.pick rd gb
            have bx := Rw.far SP.box G9 (fun e => by
              rcases SP.apart _ (List.mem_cons_self) with e' | e'
              · rw [e'] at e; cases e
              · exact e' e.symm)
            have u0 := bx.cell 0
            have u1 := bx.frozen 0
            simp at u0
            clear bx SP
            refine wpOp_step rfl (fun K' hK => ?_)
            go_simp
            refine hK _ _ ?_
            exact ⟨_, _, _, _, _, _, _, _, _, _, _, rfl, (fun h => absurd (upd_mono (hd ⟨9, .data⟩ (by simp) rfl)) (by rw [h]; simp)), (upd_all I1 (by decide)), (fun _ => ⟨upd_mono (hd ⟨9, .data⟩ (by simp) rfl), upd_mono (hd ⟨10, .data⟩ (by simp) rfl)⟩), (fun h => upd_mono (I3 (upd_ne h (by decide)))), (fun h => upd_mono (I4 (upd_ne h (by decide)))), (fun h => let p := I5 (upd_ne h (by decide)); ⟨upd_mono p.1, upd_mono p.2.1, upd_mono p.2.2⟩), (fun h => let p := I6 (upd_ne h (by decide)); ⟨upd_mono p.1, upd_mono p.2.1, upd_mono p.2.2.1, upd_mono p.2.2.2⟩), (fun h => let p := I7 (upd_ne h (by decide)); ⟨upd_mono p.1, upd_mono p.2.1, upd_mono p.2.2.1, upd_mono p.2.2.2.1, upd_mono p.2.2.2.2⟩), (fun h => let p := I8 (upd_ne h (by decide)); ⟨upd_mono p.1, upd_mono p.2.1, upd_mono p.2.2.1, upd_mono p.2.2.2.1, upd_mono p.2.2.2.2.1, upd_mono p.2.2.2.2.2⟩), (kp f0), (kp f1), (fun _ => .inl (upd_mono (hd ⟨9, .data⟩ (by simp) rfl))), (kp f3), (kp f4), (fun _ => .inl (upd_mono (hd ⟨9, .data⟩ (by simp) rfl))), (kp f6), (kp f7), (fun _ => .inl (upd_mono (hd ⟨9, .data⟩ (by simp) rfl))), (fun _ => .inl upd_self), (kp f10), (fun _ => ⟨wa, ww, A9, c9, q, rfl, q1, q2, rd, gb, G9, o9, s9⟩)⟩
        case hdone =>
          rintro L ac ww hall ⟨t88, t89, t90, t91, t92, t93, t94, t95, t96, t97, t98, rfl, I0, I1, I2, I3, I4, I5, I6, I7, I8, f0, f1, f2, f3, f4, f5, f6, f7, f8, f9, f10, f11⟩
          have e0 := f0 (hall 0 (by decide))
          have e1 := f1 (hall 1 (by decide))
          have e2 := f2 (hall 2 (by decide))
          have e3 := f3 (hall 3 (by decide))
          have e4 := f4 (hall 4 (by decide))
          have e5 := f5 (hall 5 (by decide))
          have e6 := f6 (hall 6 (by decide))
          have e7 := f7 (hall 7 (by decide))
          have e8 := f8 (hall 8 (by decide))
          have e9 := f9 (hall 9 (by decide))
          have e10 := f10 (hall 10 (by decide))
          have e11 := f11 (hall 11 (by decide))
          clear f0 f1 f2 f3 f4 f5 f6 f7 f8 f9 f10 f11
          obtain ⟨wa, wb, A9, c9, q, rfl, q1, q2, rd1, gb1, G9, o9, s9⟩ := e11
          have SN := (SR.out.pick rd1 gb1).snoc (cl := ⟨true, q, []⟩) (v9 := .slice A9 (nn + 1) c9) (v8 := .slice none 0 0) (w1 := wb) G9 (by rw [HN.out]; exact o9) s9 (World.ownsRow_nil _ _ _ _) (fun _ _ => .inl rfl) (by simp [Value.ownBlock])
          have hdv : SmallH ⟨h1.cs ++ [⟨true, q, []⟩], h1.rt⟩ := SM.out.snoc (by rw [HN.out]; exact hn40) (by simp) ⟨q1, q2⟩ (fun x hx => by simp at hx)
          generalize wb.setCell ⟨b, 0, none⟩ (.slice A9 (nn + 1) c9) = w10 at SN ⊢
          have r0 : (w10).cell? ⟨b, 0, none⟩ = some (.slice A9 (nn + 1) c9) := SN.box.cell 0
          have r1 : (w10).cell? ⟨b, 1, none⟩ = some (.slice (some ⟨gR, 0, none⟩) 4 d1) := SN.box.cell 1
          have r2 : (w10).frozen? ⟨w.heap.size, 0, none⟩ = false := SN.res.frozen 0
          have r3 : (w10).frozen? ⟨w.heap.size, 1, none⟩ = false := SN.res.frozen 1
          have r4 : (w10).cell? ⟨w.heap.size, 0, none⟩ = some (.slice none 0 0) := SN.res.cell 0
          have r5 : (w10).cell? ⟨w.heap.size, 1, none⟩ = some (.slice none 0 0) := SN.res.cell 1
          have r6 : (((w10).setCell ⟨w.heap.size, 0, none⟩ (.slice A9 (nn + 1) c9)).setCell ⟨w.heap.size, 1, none⟩ (.slice (some ⟨gR, 0, none⟩) 4 d1)).cell? ⟨w.heap.size, 0, none⟩ = some (.slice A9 (nn + 1) c9) := ((SN.res.put 0 (.slice A9 (nn + 1) c9)).put 1 (.slice (some ⟨gR, 0, none⟩) 4 d1)).cell 0
          have r7 : (((w10).setCell ⟨w.heap.size, 0, none⟩ (.slice A9 (nn + 1) c9)).setCell ⟨w.heap.size, 1, none⟩ (.slice (some ⟨gR, 0, none⟩) 4 d1)).cell? ⟨w.heap.size, 1, none⟩ = some (.slice (some ⟨gR, 0, none⟩) 4 d1) := ((SN.res.put 0 (.slice A9 (nn + 1) c9)).put 1 (.slice (some ⟨gR, 0, none⟩) 4 d1)).cell 1
          have FI := Lib.hid (SN.fin (.slice A9 (nn + 1) c9) (.slice (some ⟨gR, 0, none⟩) 4 d1))
          have CAP := Lib.hid SN.own.caps.2.2
          have SM2 := Lib.hid hdv
          clear SN hdv SR o9 G9 s9 gb1 rd1 e0 e1 e2 e3 e4 e5 e6 e7 e8 e9 e10 I0 I1 I2 I3 I4 I5 I6 I7 I8 x0 x1 fb0 fb1
          go_wp2_with fail
          exact bodyPost_ret (v := .agg #[.slice A9 (nn + 1) c9, .slice (some ⟨gR, 0, none⟩) 4 d1]) (by simp [results, Tryd.results45, go_sem, *]) rfl ⟨A9, nn + 1, c9, some ⟨gR, 0, none⟩, 4, d1, ⟨h1.cs ++ [⟨true, q, []⟩], h1.rt⟩, rfl, CAP.out.1, CAP.out.2, FI.out.1, fun h => absurd h hn1, SM2.out, FI.out.2.1.more (by omega), FI.out.2.2⟩
end Go.Proofs.YtfgdenmlfloloaaDoor

