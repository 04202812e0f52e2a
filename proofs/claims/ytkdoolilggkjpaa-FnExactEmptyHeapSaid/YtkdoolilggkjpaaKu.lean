/- The exact law of EmptyHeap returns true, over the program's contract. No conditions. -/
import Derived.Test.YtkdoolilggkjpaaHo
import Derived.Test.YtkdoolilggkjpaaHs
import Derived.Deep.Cut
namespace Go.Proofs.Ytkdoolilggkjpaa
open Go.RowKit
set_option maxRecDepth 100000

theorem OwnHx.touched {w w' : World} {base : Nat} {vc vr : Value} {rvs l : List Value} {h : Hp} (o : OwnHx w base vc vr rvs h) (ht : Touched w w' l) (hne : ∀ v ∈ vc :: vr :: rvs, ∀ u ∈ l, v.ownBlock = none ∨ v.ownBlock ≠ u.ownBlock) : OwnHx w' base vc vr rvs h :=
  ⟨o.len, row_touched o.row ht (hne vc (by simp)), fun k c v hc hv => row_touched (o.refs k c v hc hv) ht (hne v (by simp [List.mem_of_getElem? hv])), row_touched o.roots ht (hne vr (by simp)), o.sep⟩

set_option maxRecDepth 100000 in
set_option maxHeartbeats 4000000 in
theorem exactEmptyHeap_walk (w : World) : Calls Try.prog 8 #[] w fun e w' => e = .returned (.bool true) ∧ Below w.heap.size w w' := by
  have h3 : ∀ cl ∈ Hps.emptyH.cs, cl.r.length ≤ 1099511627776 := fun cl hcl => by simp [Hps.emptyH] at hcl
  have hsz : sizeH Hps.emptyH ≤ 1000000000 := by decide
  have H3 := Lib.hid h3
  have HSZ := Lib.hid hsz
  clear h3 hsz
  obtain ⟨hh, hhe⟩ : ∃ hh, Hps.emptyH = hh := ⟨_, rfl⟩
  obtain ⟨kv, hkv⟩ : ∃ kv, markKH 1 hh = kv := ⟨_, rfl⟩
  have hk0 : decide (kv < 0) = false := by rw [← hkv]; exact decide_eq_false (by simp only [markKH, mkK]; omega)
  have hkk : (kv != kv) = false := by simp
  have HKV := Lib.hid hkv
  have E0 := Lib.hid (show hh.cs.length = 0 by rw [← hhe]; rfl)
  have E4 := Lib.hid (show hh.rt.length = 4 by rw [← hhe]; rfl)
  rw [hhe] at H3 HSZ
  have M0 : ∀ w : World, Calls Try.prog 19 #[] w (GaveH w hh) := fun w => hhe ▸ mEmptyHeap_any w
  have P0 : ∀ w : World, Calls Try.prog 16 #[] w (GaveH w hh) := fun w => hhe ▸ emptyHeap_any w
  have HM := Lib.hid M0
  have HP := Lib.hid P0
  clear hhe hkv M0 P0
  go_enter Try.func8, Try.ntmps8
  go_wp2_with fail
  refine (HM.out _).mono ?_
  rintro e w1 ⟨vc0, vr0, rfl, ⟨rvs0, own0⟩, b1⟩
  obtain ⟨A0, c0, R0, d0, rfl, rfl, -⟩ := own0.form
  rw [E0.out, E4.out] at own0 ⊢
  have bA : Below w1.heap.size w1 (w1.alloc (.cells #[.slice A0 0 c0, .slice R0 4 d0] 26)) := (Below.refl _ _).alloc (Nat.le_refl _) _
  have o0 := own0.below bA (Nat.le_refl _)
  have x0 := Rw.new w1 26 #[.slice A0 0 c0, .slice R0 4 d0]
  have bb2 := b1.trans (bA.mono b1.size)
  clear own0 bA
  go_upto_region 2 with fail
  generalize w1.alloc (.cells #[.slice A0 0 c0, .slice R0 4 d0] 26) = w2 at o0 x0 bb2 ⊢
  generalize w1.heap.size = b1' at x0 ⊢
  go_wp2_with fail
  refine (HP.out _).mono ?_
  rintro e w3 ⟨vc1, vr1, rfl, ⟨rvs1, own1⟩, b3⟩
  obtain ⟨A1, c1, R1, d1, rfl, rfl, -⟩ := own1.form
  rw [E0.out, E4.out] at own1 ⊢
  have bA : Below w3.heap.size w3 (w3.alloc (.cells #[.slice A1 0 c1, .slice R1 4 d1] 26)) := (Below.refl _ _).alloc (Nat.le_refl _) _
  have SB := Lib.hid (fun u (hu : u ∈ (Value.slice A1 0 c1) :: (Value.slice R1 4 d1) :: rvs1) k (hk : u.ownBlock = some k) => own1.blocks hu hk)
  have S01 := Lib.hid (fun v (hv : v ∈ (Value.slice A0 0 c0) :: (Value.slice R0 4 d0) :: rvs0) u (hu : u ∈ (Value.slice A1 0 c1) :: (Value.slice R1 4 d1) :: rvs1) => show v.ownBlock = none ∨ v.ownBlock ≠ u.ownBlock by
    cases e : v.ownBlock with
    | none => exact .inl rfl
    | some k =>
      right
      intro e'
      have h1 := (o0.blocks hv e).2
      have h2 := (own1.blocks hu e'.symm).1
      omega)
  have hx0 := x0.lt
  have hw2 := bb2.size
  have o1 := own1.below bA (Nat.le_refl _)
  replace o0 := (o0.below b3 (Nat.le_refl _)).below bA (Nat.le_refl _)
  replace x0 := (x0.keep b3 x0.lt).alloc (.cells #[.slice A1 0 c1, .slice R1 4 d1] 26)
  have x1 := Rw.new w3 26 #[.slice A1 0 c1, .slice R1 4 d1]
  have bb4 := (bb2.trans (b3.mono bb2.size)).trans (bA.mono (bb2.trans (b3.mono bb2.size)).size)
  clear own1 bA b3 bb2
  go_upto_region 3 with fail
  generalize w3.alloc (.cells #[.slice A1 0 c1, .slice R1 4 d1] 26) = w4 at o0 o1 x0 x1 bb4 ⊢
  obtain ⟨b3', hb3⟩ : ∃ b3', w3.heap.size = b3' := ⟨_, rfl⟩
  rw [hb3] at x1 SB ⊢
  have y0 : w4.cell? ⟨b1', 0, none⟩ = some (.slice A0 0 c0) := x0.cell 0
  have y1 : w4.cell? ⟨b1', 1, none⟩ = some (.slice R0 4 d0) := x0.cell 1
  have y2 : w4.cell? ⟨b3', 0, none⟩ = some (.slice A1 0 c1) := x1.cell 0
  have y3 : w4.cell? ⟨b3', 1, none⟩ = some (.slice R1 4 d1) := x1.cell 1
  go_wp2_with fail
  refine (eqHeap_any _ _ _ _ _ _ _ _ _ _ _ _ hh hh _ o1.reads o0.reads (by omega) (by omega) (by omega) (by omega) H3.out H3.out).mono ?_
  rw [decide_eq_true rfl]
  rintro e w5 ⟨rfl, b5⟩
  replace o0 := o0.below b5 (Nat.le_refl _)
  replace o1 := o1.below b5 (Nat.le_refl _)
  replace x0 := x0.keep b5 x0.lt
  replace x1 := x1.keep b5 x1.lt
  replace bb4 := bb4.trans (b5.mono bb4.size)
  clear b5 y0 y1 y2 y3
  have y2 : w5.cell? ⟨b3', 0, none⟩ = some (.slice A1 0 c1) := x1.cell 0
  have y3 : w5.cell? ⟨b3', 1, none⟩ = some (.slice R1 4 d1) := x1.cell 1
  go_wp2_with fail
  refine (markHeap_any _ _ rvs1 hh _ _ _ o1 (by omega) (by omega) HSZ.out).mono ?_
  rw [HKV.out]
  rintro e w6 ⟨rfl, m6, t6⟩
  replace o0 := o0.touched t6 S01.out
  replace x0 := x0.touched t6 (fun u hu e => by have := (SB.out u hu _ e).1; omega)
  replace x1 := x1.touched t6 (fun u hu e => by have := (SB.out u hu _ e).2; omega)
  have bb6 : Below w.heap.size w w6 := t6.below bb4 bb4.size (fun u hu k hk => by have := (SB.out u hu k hk).1; omega)
  have r6 := m6.reads
  clear o1 t6 m6 bb4 y2 y3
  have y2 : w6.cell? ⟨b3', 0, none⟩ = some (.slice A1 0 c1) := x1.cell 0
  have y3 : w6.cell? ⟨b3', 1, none⟩ = some (.slice R1 4 d1) := x1.cell 1
  go_wp2_with fail
  refine (heldHeap_any _ _ _ _ _ _ hh _ _ r6 E0.out E4.out (by omega) (by omega) HSZ.out).mono ?_
  rw [HKV.out]
  rintro e w7 ⟨rfl, b7⟩
  replace o0 := o0.below b7 (Nat.le_refl _)
  replace x0 := x0.keep b7 x0.lt
  replace x1 := x1.keep b7 x1.lt
  replace r6 := r6.up b7
  replace bb6 := bb6.trans (b7.mono bb6.size)
  clear b7 y2 y3
  go_wp2_with fail
  refine (HP.out _).mono ?_
  rintro e w8 ⟨vc2, vr2, rfl, ⟨rvs2, own2⟩, b8⟩
  obtain ⟨A2, c2, R2, d2, rfl, rfl, -⟩ := own2.form
  rw [E0.out, E4.out] at own2 ⊢
  have bA : Below w8.heap.size w8 (w8.alloc (.cells #[.slice A2 0 c2, .slice R2 4 d2] 26)) := (Below.refl _ _).alloc (Nat.le_refl _) _
  have r9 := own2.reads.up bA
  replace o0 := (o0.below b8 (Nat.le_refl _)).below bA (Nat.le_refl _)
  replace x0 := (x0.keep b8 x0.lt).alloc (.cells #[.slice A2 0 c2, .slice R2 4 d2] 26)
  replace x1 := (x1.keep b8 x1.lt).alloc (.cells #[.slice A2 0 c2, .slice R2 4 d2] 26)
  replace r6 := (r6.up b8).up bA
  replace bb6 := (bb6.trans (b8.mono bb6.size)).trans (bA.mono (bb6.trans (b8.mono bb6.size)).size)
  have x2 := Rw.new w8 26 #[.slice A2 0 c2, .slice R2 4 d2]
  clear own2 bA b8
  go_upto_region 14 with fail
  generalize w8.alloc (.cells #[.slice A2 0 c2, .slice R2 4 d2] 26) = w9 at o0 x0 x1 x2 r6 r9 bb6 ⊢
  generalize w8.heap.size = b8' at x2 ⊢
  have y0 : w9.cell? ⟨b1', 0, none⟩ = some (.slice A0 0 c0) := x0.cell 0
  have y1 : w9.cell? ⟨b1', 1, none⟩ = some (.slice R0 4 d0) := x0.cell 1
  have y4 : w9.cell? ⟨b8', 0, none⟩ = some (.slice A2 0 c2) := x2.cell 0
  have y5 : w9.cell? ⟨b8', 1, none⟩ = some (.slice R2 4 d2) := x2.cell 1
  go_wp2_with fail
  refine (eqHeap_any _ _ _ _ _ _ _ _ _ _ _ _ hh hh _ r9 o0.reads (by omega) (by omega) (by omega) (by omega) H3.out H3.out).mono ?_
  rw [decide_eq_true rfl]
  rintro e w10 ⟨rfl, b10⟩
  replace x1 := x1.keep b10 x1.lt
  replace r6 := r6.up b10
  replace bb6 := bb6.trans (b10.mono bb6.size)
  clear b10 y0 y1 y4 y5 o0 x0 x2 r9
  have y2 : w10.cell? ⟨b3', 0, none⟩ = some (.slice A1 0 c1) := x1.cell 0
  have y3 : w10.cell? ⟨b3', 1, none⟩ = some (.slice R1 4 d1) := x1.cell 1
  go_wp2_with fail
  refine (heldHeap_any _ _ _ _ _ _ hh _ _ r6 E0.out E4.out (by omega) (by omega) HSZ.out).mono ?_
  rw [HKV.out]
  rintro e w11 ⟨rfl, b11⟩
  have bbf := bb6.trans (b11.mono bb6.size)
  go_wp2_with fail
  go_ret
  exact ⟨rfl, bbf⟩
end Go.Proofs.Ytkdoolilggkjpaa
