/- The exact law of RunHeap returns true, over the program's contract. No conditions. -/
import Derived.Test.YtmjejcfifkbkoaaGc
import Derived.Test.YtmjejcfifkbkoaaMs
import Derived.Test.YtmjejcfifkbkoaaGd
import Derived.Test.YtmjejcfifkbkoaaHf
import Derived.Deep.Cut
namespace Go.Proofs.Ytmjejcfifkbkoaa
open Go.RowKit
set_option maxRecDepth 100000

theorem OwnHx.touched' {w w' : World} {base : Nat} {vc vr : Value} {rvs l : List Value} {h : Hp} (o : OwnHx w base vc vr rvs h) (ht : Touched w w' l) (hne : ∀ v ∈ vc :: vr :: rvs, ∀ u ∈ l, v.ownBlock = none ∨ v.ownBlock ≠ u.ownBlock) : OwnHx w' base vc vr rvs h :=
  ⟨o.len, row_touched o.row ht (hne vc (by simp)), fun k c v hc hv => row_touched (o.refs k c v hc hv) ht (hne v (by simp [List.mem_of_getElem? hv])), row_touched o.roots ht (hne vr (by simp)), o.sep⟩
theorem refN_le {cs : List Cl} {m : Nat} (h : ∀ cl ∈ cs, cl.r.length ≤ m) : ∀ k, k ≤ cs.length → refN cs k ≤ m * k
  | 0, _ => by simp [refN]
  | k + 1, hk => by
    have ih := refN_le h k (by omega)
    have hc := List.getElem?_eq_getElem (show k < cs.length by omega)
    have := h _ (List.mem_of_getElem? hc)
    rw [refN_succ hc, Nat.mul_add]
    omega
/-- what runs from an empty heap is small -/
def Tiny (h : Hp) : Prop := h.cs.length ≤ 40 ∧ h.rt.length ≤ 4 ∧ ∀ cl ∈ h.cs, cl.r.length ≤ 3
theorem Tiny.size {h : Hp} (t : Tiny h) : sizeH h ≤ 1000000000 := by
  have := refN_le t.2.2 _ (Nat.le_refl _)
  have h1 := t.1
  have h2 := t.2.1
  unfold sizeH
  omega
theorem tiny_zero : Tiny Hps.zeroH := ⟨by decide, by decide, fun cl hcl => by simp [Hps.zeroH] at hcl⟩
theorem tiny_valid {h : Hp} (hv : Hps.validH h = true) : Tiny h := by
  obtain ⟨a, b, c⟩ := Hps.valid_small hv
  exact ⟨a, by omega, c⟩
theorem tiny_run (l : List Cm) : Tiny (Hps.runH l) := by
  cases hv : Hps.okCms l
  · rw [Hps.runH, if_neg (by rw [hv]; decide)]
    exact tiny_zero
  · exact tiny_valid (Hps.runH_valid hv)

set_option maxHeartbeats 4000000 in
theorem exactRunHeap_walk (A : Option Addr) (n c : Nat) (l : List Cm) (w : World) (h : MS w w.heap.size A n l) (hn : n ≤ 9223372036854775807) :
    Calls Try.prog 13 #[.slice A n c] w fun e w' => e = .returned (.bool true) ∧ Below w.heap.size w w' := by
  by_cases hz : n ≤ 1048576
  case neg =>
    have hl0 : (if (1048576 : Int) - n < 0 then -1 else (1048576 : Int) - n) = -1 := if_pos (by omega)
    have HL := Lib.hid hl0
    clear hl0
    go_enter Try.func13, Try.ntmps13
    go_wp2_with fail
    refine (szCommandS_any _ _ _ _ _ (by omega) (by omega) hn).mono ?_
    rw [HL.out]
    rintro e w0 ⟨rfl, rfl⟩
    go_wp2_with fail
    go_ret
    exact ⟨rfl, Below.refl _ _⟩
  obtain ⟨lz, hlz⟩ : ∃ lz : Int, (if (1048576 : Int) - n < 0 then -1 else (1048576 : Int) - n) = lz := ⟨_, rfl⟩
  have hl0 : decide (lz < 0) = false := by rw [← hlz, if_neg (by omega)]; exact decide_eq_false (by omega)
  have HL := Lib.hid hlz
  have T := tiny_run l
  have HM := Lib.hid (fun (A : Option Addr) (c : Nat) (w : World) (h : MS w w.heap.size A n l) => mRunHeap_any A n c l w h (by omega))
  have HP := Lib.hid (fun (A : Option Addr) (c : Nat) (w : World) (h : MS w w.heap.size A n l) (hc : n ≤ c) => runHeap_any A n c l w h (by omega) hc)
  have hll := h.1
  obtain ⟨hh, hhe⟩ : ∃ hh, Hps.runH l = hh := ⟨_, rfl⟩
  rw [hhe] at T HM HP
  obtain ⟨nn, hnn⟩ : ∃ nn, hh.cs.length = nn := ⟨_, rfl⟩
  obtain ⟨mm, hmm⟩ : ∃ mm, hh.rt.length = mm := ⟨_, rfl⟩
  have hn40 : nn ≤ 40 := by have := T.1; omega
  have hm4 : mm ≤ 4 := by have := T.2.1; omega
  have H3 := Lib.hid (fun cl (hcl : cl ∈ hh.cs) => show cl.r.length ≤ 1099511627776 by have := T.2.2 cl hcl; omega)
  have HSZ := Lib.hid T.size
  have E0 := Lib.hid hnn
  have E4 := Lib.hid hmm
  obtain ⟨kv, hkv⟩ : ∃ kv, markKH 1 hh = kv := ⟨_, rfl⟩
  have hk0 : decide (kv < 0) = false := by
    rw [← hkv]
    refine decide_eq_false ?_
    simp only [markKH, mkK]
    omega
  have hkk : (kv != kv) = false := by simp
  have HKV := Lib.hid hkv
  have hkc : decide ((1 : Int) + 4 * (l.length : Int) < 0) = false := decide_eq_false (by omega)
  clear hlz T hhe hnn hmm hkv
  go_enter Try.func13, Try.ntmps13
  go_wp2_with fail
  refine (szCommandS_any _ _ _ _ _ (by omega) (by omega) hn).mono ?_
  rw [HL.out]
  rintro e w0 ⟨rfl, rfl⟩
  go_wp2_with fail
  refine (toCommandS_any _ _ _ l _ h (by omega)).mono ?_
  rintro e w1 ⟨rfl, o1, b1⟩
  have r1 := o1.reads
  clear o1
  go_wp2_with fail
  refine (HM.out _ _ _ r1).mono ?_
  rintro e w2 ⟨vc0, vr0, rfl, ⟨rvs0, own0⟩, b2⟩
  obtain ⟨A0, c0, R0, d0, rfl, rfl, -⟩ := own0.form
  rw [E0.out, E4.out] at own0 ⊢
  have bA : Below w2.heap.size w2 (w2.alloc (.cells #[.slice A0 nn c0, .slice R0 mm d0] 28)) := (Below.refl _ _).alloc (Nat.le_refl _) _
  have SA := Lib.hid (fun u (hu : u ∈ (Value.slice A0 nn c0) :: (Value.slice R0 mm d0) :: rvs0) k (hk : u.ownBlock = some k) => own0.blocks hu hk)
  have o0 := own0.below bA (Nat.le_refl _)
  have x0 := Rw.new w2 28 #[.slice A0 nn c0, .slice R0 mm d0]
  have bb := (b1.trans (b2.mono b1.size)).trans (bA.mono (b1.trans (b2.mono b1.size)).size)
  have z2 := bA.size
  clear own0 r1 b2 b1
  go_upto_region 6 with fail
  generalize w2.alloc (.cells #[.slice A0 nn c0, .slice R0 mm d0] 28) = w3 at o0 x0 bb bA z2 ⊢
  obtain ⟨s2, hs2⟩ : ∃ s2, w2.heap.size = s2 := ⟨_, rfl⟩
  rw [hs2] at x0 SA z2 bA ⊢
  have hx0 := x0.lt
  have hw3 := bb.size
  have h3 := h.up bb
  clear hs2 bA
  go_wp2_with fail
  refine (toCommandS_any _ _ _ l _ h3 (by omega)).mono ?_
  rintro e w4 ⟨rfl, om, b4⟩
  have z3 := om.reads
  replace o0 := o0.below b4 (Nat.le_refl _)
  replace x0 := x0.keep b4 x0.lt
  replace bb := bb.trans (b4.mono bb.size)
  have hg5 := (World.ownsRow.lt om _ rfl).2
  obtain ⟨g4, hg⟩ : ∃ g4, w3.heap.size = g4 := ⟨_, rfl⟩
  rw [hg] at om z3 hx0 z2 hw3 hg5 ⊢
  clear b4 h3 hg
  go_wp2_with fail
  refine (HP.out _ _ _ z3 (Nat.le_refl _)).mono ?_
  rintro e w5 ⟨vc1, vr1, rfl, ⟨rvs1, own1⟩, b5⟩
  obtain ⟨A1, c1, R1, d1, rfl, rfl, -⟩ := own1.form
  rw [E0.out, E4.out] at own1 ⊢
  have bA : Below w5.heap.size w5 (w5.alloc (.cells #[.slice A1 nn c1, .slice R1 mm d1] 28)) := (Below.refl _ _).alloc (Nat.le_refl _) _
  have SB := Lib.hid (fun u (hu : u ∈ (Value.slice A1 nn c1) :: (Value.slice R1 mm d1) :: rvs1) k (hk : u.ownBlock = some k) => own1.blocks hu hk)
  have S01 := Lib.hid (fun v (hv : v ∈ (Value.slice A0 nn c0) :: (Value.slice R0 mm d0) :: rvs0) u (hu : u ∈ (Value.slice A1 nn c1) :: (Value.slice R1 mm d1) :: rvs1) => show v.ownBlock = none ∨ v.ownBlock ≠ u.ownBlock by
    cases e : v.ownBlock with
    | none => exact .inl rfl
    | some k =>
      right
      intro e'
      have h1 := (SA.out v hv k e).2
      have h2 := (SB.out u hu k e'.symm).1
      omega)
  have APA : Hid (Apart (some g4) ((Value.slice A0 nn c0) :: (Value.slice R0 mm d0) :: rvs0)) := Lib.hid fun v hv => by
    cases e : v.ownBlock with
    | none => exact .inl rfl
    | some k =>
      right
      intro e'
      have h1 := (SA.out v hv k e).2
      have h2 := Option.some.inj e'
      omega
  have APB : Hid (Apart (some g4) ((Value.slice A1 nn c1) :: (Value.slice R1 mm d1) :: rvs1)) := Lib.hid fun v hv => by
    cases e : v.ownBlock with
    | none => exact .inl rfl
    | some k =>
      right
      intro e'
      have h1 := (SB.out v hv k e).1
      have h2 := Option.some.inj e'
      omega
  have z5 := b5.size
  have o1 := own1.below bA (Nat.le_refl _)
  replace o0 := (o0.below b5 (Nat.le_refl _)).below bA (Nat.le_refl _)
  replace x0 := (x0.keep b5 x0.lt).alloc (.cells #[.slice A1 nn c1, .slice R1 mm d1] 28)
  replace om := (om.below b5 (Nat.le_refl _)).below bA (Nat.le_refl _)
  have x1 := Rw.new w5 28 #[.slice A1 nn c1, .slice R1 mm d1]
  replace bb := (bb.trans (b5.mono bb.size)).trans (bA.mono (bb.trans (b5.mono bb.size)).size)
  clear own1 bA b5 z3
  go_upto_region 8 with fail
  generalize w5.alloc (.cells #[.slice A1 nn c1, .slice R1 mm d1] 28) = w6 at o0 o1 om x0 x1 bb ⊢
  obtain ⟨s5, hs5⟩ : ∃ s5, w5.heap.size = s5 := ⟨_, rfl⟩
  rw [hs5] at x1 SB z5 ⊢
  clear hs5
  have y0 : w6.cell? ⟨s2, 0, none⟩ = some (.slice A0 nn c0) := x0.cell 0
  have y1 : w6.cell? ⟨s2, 1, none⟩ = some (.slice R0 mm d0) := x0.cell 1
  have y2 : w6.cell? ⟨s5, 0, none⟩ = some (.slice A1 nn c1) := x1.cell 0
  have y3 : w6.cell? ⟨s5, 1, none⟩ = some (.slice R1 mm d1) := x1.cell 1
  go_wp2_with fail
  refine (eqHeap_any _ _ _ _ _ _ _ _ _ _ _ _ hh hh _ o1.reads o0.reads (by omega) (by omega) (by omega) (by omega) H3.out H3.out).mono ?_
  rw [decide_eq_true rfl]
  rintro e w7 ⟨rfl, b7⟩
  replace o0 := o0.below b7 (Nat.le_refl _)
  replace o1 := o1.below b7 (Nat.le_refl _)
  replace om := om.below b7 (Nat.le_refl _)
  replace x0 := x0.keep b7 x0.lt
  replace x1 := x1.keep b7 x1.lt
  replace bb := bb.trans (b7.mono bb.size)
  have h7 := h.up bb
  clear b7 y0 y1 y2 y3
  go_wp2_with fail
  refine (toCommandS_any _ _ _ l _ h7 (by omega)).mono ?_
  rintro e w8 ⟨rfl, o8, b8⟩
  have r8 := o8.reads
  replace o0 := o0.below b8 (Nat.le_refl _)
  replace o1 := o1.below b8 (Nat.le_refl _)
  replace om := om.below b8 (Nat.le_refl _)
  replace x0 := x0.keep b8 x0.lt
  replace x1 := x1.keep b8 x1.lt
  replace bb := bb.trans (b8.mono bb.size)
  generalize w7.heap.size = g7 at r8 ⊢
  clear b8 h7 o8
  go_wp2_with fail
  refine (eqCommandS_same _ _ _ _ _ l _ om.reads r8 (by omega)).mono ?_
  rintro e w9 ⟨rfl, b9⟩
  replace o0 := o0.below b9 (Nat.le_refl _)
  replace o1 := o1.below b9 (Nat.le_refl _)
  replace om := om.below b9 (Nat.le_refl _)
  replace x0 := x0.keep b9 x0.lt
  replace x1 := x1.keep b9 x1.lt
  replace bb := bb.trans (b9.mono bb.size)
  clear b9 r8
  go_wp2_with fail
  refine (markCommandS_any _ l _ _ _ om (by omega) (by omega) (by omega)).mono ?_
  rintro e w10 ⟨rfl, -, g10⟩
  replace o0 := o0.far g10 APA.out
  replace o1 := o1.far g10 APB.out
  replace x0 := x0.far g10 (fun e => by have : s2 = g4 := Option.some.inj e; omega)
  replace x1 := x1.far g10 (fun e => by have : s5 = g4 := Option.some.inj e; omega)
  replace bb := bb.grown g10 bb.size (fun k hk => by have : g4 = k := Option.some.inj hk; omega)
  clear om g10
  have y0 : w10.cell? ⟨s2, 0, none⟩ = some (.slice A0 nn c0) := x0.cell 0
  have y1 : w10.cell? ⟨s2, 1, none⟩ = some (.slice R0 mm d0) := x0.cell 1
  have y2 : w10.cell? ⟨s5, 0, none⟩ = some (.slice A1 nn c1) := x1.cell 0
  have y3 : w10.cell? ⟨s5, 1, none⟩ = some (.slice R1 mm d1) := x1.cell 1
  go_wp2_with fail
  refine (eqHeap_any _ _ _ _ _ _ _ _ _ _ _ _ hh hh _ o1.reads o0.reads (by omega) (by omega) (by omega) (by omega) H3.out H3.out).mono ?_
  rw [decide_eq_true rfl]
  rintro e w11 ⟨rfl, b11⟩
  replace o0 := o0.below b11 (Nat.le_refl _)
  replace o1 := o1.below b11 (Nat.le_refl _)
  replace x0 := x0.keep b11 x0.lt
  replace x1 := x1.keep b11 x1.lt
  replace bb := bb.trans (b11.mono bb.size)
  clear b11 y0 y1 y2 y3
  have y2 : w11.cell? ⟨s5, 0, none⟩ = some (.slice A1 nn c1) := x1.cell 0
  have y3 : w11.cell? ⟨s5, 1, none⟩ = some (.slice R1 mm d1) := x1.cell 1
  go_wp2_with fail
  refine (markHeap_any _ _ rvs1 hh _ _ _ o1 (by omega) (by omega) HSZ.out).mono ?_
  rw [HKV.out]
  rintro e w12 ⟨rfl, m6, t6⟩
  replace o0 := o0.touched' t6 S01.out
  replace x0 := x0.touched t6 (fun u hu e => by have := (SB.out u hu _ e).1; omega)
  replace x1 := x1.touched t6 (fun u hu e => by have := (SB.out u hu _ e).2; omega)
  replace bb : Below w.heap.size w w12 := t6.below bb bb.size (fun u hu k hk => by have := (SB.out u hu k hk).1; omega)
  have r6 := m6.reads
  clear o1 t6 m6 y2 y3
  have y2 : w12.cell? ⟨s5, 0, none⟩ = some (.slice A1 nn c1) := x1.cell 0
  have y3 : w12.cell? ⟨s5, 1, none⟩ = some (.slice R1 mm d1) := x1.cell 1
  go_wp2_with fail
  refine (heldHeap_any _ _ _ _ _ _ hh _ _ r6 E0.out E4.out (by omega) (by omega) HSZ.out).mono ?_
  rw [HKV.out]
  rintro e w13 ⟨rfl, b13⟩
  replace o0 := o0.below b13 (Nat.le_refl _)
  replace x0 := x0.keep b13 x0.lt
  replace x1 := x1.keep b13 x1.lt
  replace r6 := r6.up b13
  replace bb := bb.trans (b13.mono bb.size)
  have h13 := h.up bb
  clear b13 y2 y3
  go_wp2_with fail
  refine (toCommandS_any _ _ _ l _ h13 (by omega)).mono ?_
  rintro e w14 ⟨rfl, o14, b14⟩
  have r14 := o14.reads
  replace o0 := o0.below b14 (Nat.le_refl _)
  replace x0 := x0.keep b14 x0.lt
  replace x1 := x1.keep b14 x1.lt
  replace r6 := r6.up b14
  replace bb := bb.trans (b14.mono bb.size)
  generalize w13.heap.size = g13 at r14 ⊢
  clear b14 h13 o14
  go_wp2_with fail
  refine (HP.out _ _ _ r14 (Nat.le_refl _)).mono ?_
  rintro e w15 ⟨vc2, vr2, rfl, ⟨rvs2, own2⟩, b15⟩
  obtain ⟨A2, c2, R2, d2, rfl, rfl, -⟩ := own2.form
  rw [E0.out, E4.out] at own2 ⊢
  have bA : Below w15.heap.size w15 (w15.alloc (.cells #[.slice A2 nn c2, .slice R2 mm d2] 28)) := (Below.refl _ _).alloc (Nat.le_refl _) _
  have r9 := own2.reads.up bA
  replace o0 := (o0.below b15 (Nat.le_refl _)).below bA (Nat.le_refl _)
  replace x0 := (x0.keep b15 x0.lt).alloc (.cells #[.slice A2 nn c2, .slice R2 mm d2] 28)
  replace x1 := (x1.keep b15 x1.lt).alloc (.cells #[.slice A2 nn c2, .slice R2 mm d2] 28)
  replace r6 := (r6.up b15).up bA
  replace bb := (bb.trans (b15.mono bb.size)).trans (bA.mono (bb.trans (b15.mono bb.size)).size)
  have x2 := Rw.new w15 28 #[.slice A2 nn c2, .slice R2 mm d2]
  clear own2 bA b15 r14
  go_upto_region 25 with fail
  generalize w15.alloc (.cells #[.slice A2 nn c2, .slice R2 mm d2] 28) = w16 at o0 x0 x1 x2 r6 r9 bb ⊢
  generalize w15.heap.size = s15 at x2 ⊢
  have y0 : w16.cell? ⟨s2, 0, none⟩ = some (.slice A0 nn c0) := x0.cell 0
  have y1 : w16.cell? ⟨s2, 1, none⟩ = some (.slice R0 mm d0) := x0.cell 1
  have y4 : w16.cell? ⟨s15, 0, none⟩ = some (.slice A2 nn c2) := x2.cell 0
  have y5 : w16.cell? ⟨s15, 1, none⟩ = some (.slice R2 mm d2) := x2.cell 1
  go_wp2_with fail
  refine (eqHeap_any _ _ _ _ _ _ _ _ _ _ _ _ hh hh _ r9 o0.reads (by omega) (by omega) (by omega) (by omega) H3.out H3.out).mono ?_
  rw [decide_eq_true rfl]
  rintro e w17 ⟨rfl, b17⟩
  replace x1 := x1.keep b17 x1.lt
  replace r6 := r6.up b17
  replace bb := bb.trans (b17.mono bb.size)
  clear b17 y0 y1 y4 y5 o0 x0 x2 r9
  have y2 : w17.cell? ⟨s5, 0, none⟩ = some (.slice A1 nn c1) := x1.cell 0
  have y3 : w17.cell? ⟨s5, 1, none⟩ = some (.slice R1 mm d1) := x1.cell 1
  go_wp2_with fail
  refine (heldHeap_any _ _ _ _ _ _ hh _ _ r6 E0.out E4.out (by omega) (by omega) HSZ.out).mono ?_
  rw [HKV.out]
  rintro e w18 ⟨rfl, b18⟩
  have bbf := bb.trans (b18.mono bb.size)
  go_wp2_with fail
  go_ret
  exact ⟨rfl, bbf⟩
end Go.Proofs.Ytmjejcfifkbkoaa
