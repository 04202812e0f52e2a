/- What l20Next and the draws of instructions and programs return. No conditions. -/
import Derived.Test.YtmjejcfifkbkoaaNa
import Derived.Test.YtmjejcfifkbkoaaKo
namespace Go.Proofs.Ytmjejcfifkbkoaa
open Go.RowKit
set_option maxRecDepth 100000

/-- from block lo on nothing has changed -/
def Same (lo : Nat) (w w' : World) : Prop := w.heap.size ≤ w'.heap.size ∧ ∀ j, lo ≤ j → j < w.heap.size → w'.heap[j]? = w.heap[j]?
theorem Same.refl (lo : Nat) (w : World) : Same lo w w := ⟨Nat.le_refl _, fun _ _ _ => rfl⟩
theorem Same.grown {lo gr : Nat} {w w1 w2 : World} (h : Same lo w w1) (hg : w1.grownBy w2 (some gr)) (hl : gr < lo) : Same lo w w2 :=
  ⟨Nat.le_trans h.1 hg.size, fun j h1 h2 => (hg.block j (Nat.lt_of_lt_of_le h2 h.1) (fun e => by have := Option.some.inj e; omega)).trans (h.2 j h1 h2)⟩
theorem Same.put {lo g : Nat} {w w1 : World} (h : Same lo w w1) (hl : g < lo) (i : Nat) (v : Value) : Same lo w (w1.setCell ⟨g, i, none⟩ v) :=
  ⟨by simpa using h.1, fun j h1 h2 => (Below.heap_setCell w1 ⟨g, i, none⟩ v j (by show j ≠ g; omega)).trans (h.2 j h1 h2)⟩
theorem Same.rw {lo g : Nat} {w w1 : World} {t : TypeId} {cs : Array Value} (h : Same lo w w1) (hr : Rw w g t cs) (hl : lo ≤ g) : Rw w1 g t cs := (h.2 g hl hr.lt).trans hr
theorem HF.same {lo : Nat} {w w1 : World} {A R : Option Addr} {n m : Nat} {h : Hp} (hf : HF w lo A n R m h) (hs : Same lo w w1) : HF w1 lo A n R m h :=
  fun w' h1 h2 => hf w' (Nat.le_trans hs.1 h1) fun j h3 h4 => (h2 j h3 (Nat.lt_of_lt_of_le h4 hs.1)).trans (hs.2 j h3 h4)
theorem HF.low {lo lo' : Nat} {w : World} {A R : Option Addr} {n m : Nat} {h : Hp} (hf : HF w lo A n R m h) (hl : lo' ≤ lo) : HF w lo' A n R m h :=
  fun w' h1 h2 => hf w' h1 fun j h3 h4 => h2 j (by omega) h4

/-- a heap and an instruction have been drawn -/
def DrewN (w : World) (gr N : Nat) (e : Ending) (w' : World) : Prop :=
  ∃ (A : Option Addr) (nn c : Nat) (R : Option Addr) (m d : Nat) (h : Hp) (o : Cm), e = .returned (.tuple #[heapV A nn c R m d, cmV o]) ∧ nn ≤ c ∧ m ≤ d ∧ HF w' w.heap.size A nn R m h ∧ SmallH h ∧ SmallCm o ∧ Rd w' gr (N + 720) ∧ w.grownBy w' (some gr)

set_option maxHeartbeats 8000000 in
theorem l20Next_any (gr N : Nat) (w : World) (h : Rd w gr N) (hN : N ≤ 10000) :
    Calls Try.prog 96 #[.pointer (some ⟨gr, 0, none⟩)] w (DrewN w gr N) := by
  have hgl := h.lt
  have b0 : Below w.heap.size w ((w.alloc (.cells #[.slice none 0 0, .slice none 0 0] 28)).alloc (.cells #[.int .i64 0, .int .i64 0, .int .i64 0, .int .i64 0] 36)) := ((Below.refl _ _).alloc (Nat.le_refl _) _).alloc (by simp) _
  have r2 := (Rw.new w 28 #[.slice none 0 0, .slice none 0 0]).alloc (.cells #[.int .i64 0, .int .i64 0, .int .i64 0, .int .i64 0] 36)
  have r3 := Rw.new (w.alloc (.cells #[.slice none 0 0, .slice none 0 0] 28)) 36 #[.int .i64 0, .int .i64 0, .int .i64 0, .int .i64 0]
  have hz : ((w.alloc (.cells #[.slice none 0 0, .slice none 0 0] 28)).alloc (.cells #[.int .i64 0, .int .i64 0, .int .i64 0, .int .i64 0] 36)).heap.size = w.heap.size + 2 := by simp
  rw [World.size_alloc] at r3
  have h0 := h.below b0 hgl
  go_enter Try.func96, Try.ntmps96
  go_upto_region 1 with fail
  generalize (w.alloc (.cells #[.slice none 0 0, .slice none 0 0] 28)).alloc (.cells #[.int .i64 0, .int .i64 0, .int .i64 0, .int .i64 0] 36) = w0 at b0 r2 r3 hz h0 ⊢
  go_wp2_with fail
  refine (l20Heap_any gr N 16 _ h0 (by omega) (by omega) (by omega)).mono ?_
  rintro e w1 ⟨A1, nn, c1, R1, m, d1, hh, rfl, hc1, hd1, HFx, -, hsm, hr1, g1⟩
  have r2' := r2.far g1 (fun e => by injection e with e; omega)
  have r3' := r3.far g1 (fun e => by injection e with e; omega)
  rw [hz] at HFx
  have bA : Below w1.heap.size w1 (w1.alloc (.cells #[.slice A1 nn c1, .slice R1 m d1] 28)) := (Below.refl _ _).alloc (Nat.le_refl _) _
  have bx := Rw.new w1 28 #[.slice A1 nn c1, .slice R1 m d1]
  have hs1 := g1.size
  have gg : w.grownBy (w1.alloc (.cells #[.slice A1 nn c1, .slice R1 m d1] 28)) (some gr) := grown_below (World.grownBy.trans (grown_below (World.grownBy.refl w (some gr)) b0) g1) (bA.mono (by omega))
  have HFy := HFx.same (w1 := w1.alloc (.cells #[.slice A1 nn c1, .slice R1 m d1] 28)) ⟨bA.size, fun j _ h2 => bA.block j h2⟩
  have hrA := hr1.below bA hr1.lt
  replace r2' := r2'.alloc (.cells #[.slice A1 nn c1, .slice R1 m d1] 28)
  replace r3' := r3'.alloc (.cells #[.slice A1 nn c1, .slice R1 m d1] 28)
  clear r2 r3 hr1 g1 HFx h0 b0
  go_upto_region 2 with fail
  generalize w1.alloc (.cells #[.slice A1 nn c1, .slice R1 m d1] 28) = w3 at bA bx gg HFy hrA r2' r3' ⊢
  obtain ⟨b, hb⟩ : ∃ b, w1.heap.size = b := ⟨_, rfl⟩
  rw [hb] at bx bA ⊢
  have hbl : w.heap.size + 2 ≤ b := by omega
  obtain ⟨G, hG⟩ : ∃ G, w.heap.size = G := ⟨_, rfl⟩
  rw [hG] at hgl r2' r3' hbl HFy ⊢
  have HGe := Lib.hid hG
  clear hG hb hs1 hz bA
  refine wp_region_inv (by kernel_rfl) (by kernel_rfl) (fun L ac ww => ∃ t7 t8 t9 : Value, ac = { tmps := #[Value.pointer (some { block := gr, off := 0 }), undef, Value.pointer (some { block := G, off := 0 }), Value.pointer (some { block := G + 1, off := 0 }), Value.pointer (some { block := b, off := 0 }), Value.pointer (some { block := gr, off := 0 }), heapV A1 nn c1 R1 m d1, t7, t8, t9], defers := [] } ∧ (Same (G + 2) w3 ww) ∧ (w.grownBy ww (some gr)) ∧ (L 2 = false → Rd ww gr (N + 700)) ∧ (L 2 = true → Rd ww gr ((N + 700) + 12)) ∧ (L 3 = false → Rw ww G 28 #[.slice none 0 0, .slice none 0 0]) ∧ (L 4 = false → Rw ww (G + 1) 36 #[.int .i64 0, .int .i64 0, .int .i64 0, .int .i64 0]) ∧ (L 0 = true → t7 = heapV A1 nn c1 R1 m d1) ∧ (L 1 = true → t8 = .pointer (some ⟨gr, 0, none⟩)) ∧ (L 2 = true → ∃ o : Cm, t9 = cmV o ∧ SmallCm o) ∧ (L 3 = true → Rw ww G 28 #[.slice A1 nn c1, .slice R1 m d1]) ∧ (L 4 = true → ∃ o : Cm, SmallCm o ∧ Rw ww (G + 1) 36 #[.int .i64 o.op, .int .i64 o.a, .int .i64 o.b, .int .i64 o.c] ∧ L 2 = true)) ?h0 ?hstep ?hdone
  case h0 => exact ⟨_, _, _, rfl, Same.refl _ _, grown_below gg (Below.refl _ _).drew, fun _ => hrA.below (Below.refl w.heap.size w3).drew (by rw [HGe.out]; exact hgl), fun h => absurd h Bool.false_ne_true, fun _ => r2', fun _ => r3', (fun h => absurd h Bool.false_ne_true), (fun h => absurd h Bool.false_ne_true), (fun h => absurd h Bool.false_ne_true), (fun h => absurd h Bool.false_ne_true), (fun h => absurd h Bool.false_ne_true)⟩
  case hstep =>
    rintro L ac ww i o ho hL hd ⟨t7, t8, t9, rfl, I0, I1, I2, I3, I4, I5, f0, f1, f2, f3, f4⟩
    have hi : i < 5 := (Array.getElem?_eq_some_iff.1 ho).1
    obtain rfl | rfl | rfl | rfl | rfl : i = 0 ∨ i = 1 ∨ i = 2 ∨ i = 3 ∨ i = 4 := by omega
    · obtain rfl := Option.some.inj ho
      have xb := I0.rw bx hbl
      have y0 := xb.cell 0
      have y1 := xb.cell 1
      simp at y0 y1
      refine wpOp_step rfl (fun K' hK => ?_)
      go_simp
      refine hK _ _ ?_
      exact ⟨_, _, _, rfl, (I0), (I1), (fun h => I2 ((upd_other (by decide)).symm.trans h)), (fun h => I3 (upd_ne h (by decide))), (fun h => I4 ((upd_other (by decide)).symm.trans h)), (fun h => I5 ((upd_other (by decide)).symm.trans h)), (fun _ => rfl), (kp f1), (kp f2), (kp f3), (fun h => by
        obtain ⟨o, hs, r, l2⟩ := f4 (upd_ne h (by decide))
        exact ⟨o, hs, r, upd_keep l2⟩)⟩
    · obtain rfl := Option.some.inj ho
      refine wpOp_step rfl (fun K' hK => ?_)
      go_simp
      refine hK _ _ ?_
      exact ⟨_, _, _, rfl, (I0), (I1), (fun h => I2 ((upd_other (by decide)).symm.trans h)), (fun h => I3 (upd_ne h (by decide))), (fun h => I4 ((upd_other (by decide)).symm.trans h)), (fun h => I5 ((upd_other (by decide)).symm.trans h)), (kp f0), (fun _ => rfl), (kp f2), (kp f3), (fun h => by
        obtain ⟨o, hs, r, l2⟩ := f4 (upd_ne h (by decide))
        exact ⟨o, hs, r, upd_keep l2⟩)⟩
    · obtain rfl := Option.some.inj ho
      have g1 := f1 (hd ⟨1, .data⟩ (by simp) rfl)
      subst g1
      refine wpOp_step rfl (fun K' hK => ?_)
      go_simp
      refine (l20Command_any gr (N + 700) 14 ww (I2 hL) (by omega) (by omega) (by omega)).mono ?_
      rintro e w' ⟨o, rfl, -, hs, hr6, g6⟩
      refine hK _ _ ?_
      exact ⟨_, _, _, rfl, (I0.grown g6 (by omega)), (World.grownBy.trans I1 g6), (fun h => absurd (upd_self.symm.trans h) (by decide)), (fun _ => hr6), (fun h => by
        have r := I4 ((upd_other (by decide)).symm.trans h)
        exact r.far g6 (fun e => by have := Option.some.inj e; omega)), (fun h => by
        have r := I5 ((upd_other (by decide)).symm.trans h)
        exact r.far g6 (fun e => by have := Option.some.inj e; omega)), (kp f0), (kp f1), (fun _ => ⟨o, rfl, hs⟩), (fun h => by
        have r := f3 (upd_ne h (by decide))
        exact r.far g6 (fun e => by have := Option.some.inj e; omega)), (fun h => by
        obtain ⟨_, _, _, l2⟩ := f4 (upd_ne h (by decide))
        rw [hL] at l2
        cases l2)⟩
    · obtain rfl := Option.some.inj ho
      have g0 := f0 (hd ⟨0, .data⟩ (by simp) rfl)
      subst g0
      have rz := I4 hL
      have u0 := rz.cell 0
      have u1 := rz.cell 1
      have v0 := rz.frozen 0
      have v1 := rz.frozen 1
      simp at u0 u1
      have bS : Below w.heap.size ww ((ww.setCell ⟨G, 0, none⟩ (.slice A1 nn c1)).setCell ⟨G, 1, none⟩ (.slice R1 m d1)) := ((Below.refl _ _).setCell (p := ⟨G, 0, none⟩) (by show _ ≤ G; rw [HGe.out]; exact Nat.le_refl _) _).setCell (p := ⟨G, 1, none⟩) (by show _ ≤ G; rw [HGe.out]; exact Nat.le_refl _) _
      have hgw : gr < w.heap.size := by rw [HGe.out]; exact hgl
      refine wpOp_step rfl (fun K' hK => ?_)
      go_simp
      refine hK _ _ ?_
      exact ⟨_, _, _, rfl, ((I0.put (by omega) 0 _).put (by omega) 1 _), (grown_below I1 bS), (fun h => (I2 ((upd_other (by decide)).symm.trans h)).below bS hgw), (fun h => (I3 (upd_ne h (by decide))).below bS hgw), (fun h => absurd (upd_self.symm.trans h) (by decide)), (fun h => by
        have r := I5 ((upd_other (by decide)).symm.trans h)
        exact Rw.other (w := ww.setCell ⟨G, 0, none⟩ (.slice A1 nn c1)) (Rw.other (w := ww) r (by omega) _) (by omega) _), (kp f0), (kp f1), (kp f2), (fun _ => (rz.put 0 _).put 1 _), (fun h => by
        obtain ⟨o, hs, r, l2⟩ := f4 (upd_ne h (by decide))
        exact ⟨o, hs, Rw.other (w := ww.setCell ⟨G, 0, none⟩ (.slice A1 nn c1)) (Rw.other (w := ww) r (by omega) _) (by omega) _, upd_keep l2⟩)⟩
    · obtain rfl := Option.some.inj ho
      have g2 := f2 (hd ⟨2, .data⟩ (by simp) rfl)
      obtain ⟨o, rfl, hs⟩ := g2
      have rz := I5 hL
      have u0 := rz.cell 0
      have u1 := rz.cell 1
      have u2 := rz.cell 2
      have u3 := rz.cell 3
      have v0 := rz.frozen 0
      have v1 := rz.frozen 1
      have v2 := rz.frozen 2
      have v3 := rz.frozen 3
      simp at u0 u1 u2 u3
      have bS : Below w.heap.size ww ((((ww.setCell ⟨G + 1, 0, none⟩ (.int .i64 o.op)).setCell ⟨G + 1, 1, none⟩ (.int .i64 o.a)).setCell ⟨G + 1, 2, none⟩ (.int .i64 o.b)).setCell ⟨G + 1, 3, none⟩ (.int .i64 o.c)) := ((((Below.refl _ _).setCell (p := ⟨G + 1, 0, none⟩) (by show _ ≤ G + 1; rw [HGe.out]; omega) _).setCell (p := ⟨G + 1, 1, none⟩) (by show _ ≤ G + 1; rw [HGe.out]; omega) _).setCell (p := ⟨G + 1, 2, none⟩) (by show _ ≤ G + 1; rw [HGe.out]; omega) _).setCell (p := ⟨G + 1, 3, none⟩) (by show _ ≤ G + 1; rw [HGe.out]; omega) _
      have hgw : gr < w.heap.size := by rw [HGe.out]; exact hgl
      refine wpOp_step rfl (fun K' hK => ?_)
      go_simp
      refine hK _ _ ?_
      exact ⟨_, _, _, rfl, ((((I0.put (by omega) 0 _).put (by omega) 1 _).put (by omega) 2 _).put (by omega) 3 _), (grown_below I1 bS), (fun h => (I2 ((upd_other (by decide)).symm.trans h)).below bS hgw), (fun h => (I3 (upd_ne h (by decide))).below bS hgw), (fun h => by
        have r := I4 ((upd_other (by decide)).symm.trans h)
        exact Rw.far r (only_put (only_put (only_put (only_put (World.grownBy.refl ww (some (G + 1))) 0 _) 1 _) 2 _) 3 _) (fun e => by have := Option.some.inj e; omega)), (fun h => absurd (upd_self.symm.trans h) (by decide)), (kp f0), (kp f1), (fun _ => ⟨o, rfl, hs⟩), (fun h => by
        have r := f3 (upd_ne h (by decide))
        exact Rw.far r (only_put (only_put (only_put (only_put (World.grownBy.refl ww (some (G + 1))) 0 _) 1 _) 2 _) 3 _) (fun e => by have := Option.some.inj e; omega)), (fun _ => ⟨o, hs, (((rz.put 0 _).put 1 _).put 2 _).put 3 _, upd_keep (hd ⟨2, .data⟩ (by simp) rfl)⟩)⟩
  case hdone =>
    rintro L ac ww hall ⟨t7, t8, t9, rfl, I0, I1, I2, I3, I4, I5, f0, f1, f2, f3, f4⟩
    have e0 := f0 (hall 0 (by decide))
    have e1 := f1 (hall 1 (by decide))
    have e2 := f2 (hall 2 (by decide))
    have e3 := f3 (hall 3 (by decide))
    have e4 := f4 (hall 4 (by decide))
    clear f0 f1 f2 f3 f4
    obtain ⟨o, hs, ro, l2⟩ := e4
    have hr9 := I3 l2
    have y0 := e3.cell 0
    have y1 := e3.cell 1
    have z0 := ro.cell 0
    have z1 := ro.cell 1
    have z2 := ro.cell 2
    have z3 := ro.cell 3
    simp at y0 y1 z0 z1 z2 z3
    have HFz := Lib.hid ((HFy.same I0).low (show w.heap.size ≤ G + 2 by rw [HGe.out]; omega))
    clear HFy e0 e1 e2 I2 I4 I5 hall bx
    go_wp2_with fail
    exact bodyPost_ret (v := .tuple #[.agg #[.slice A1 nn c1, .slice R1 m d1], cmV o]) (by simp [results, Try.results96, go_sem, *]) rfl ⟨A1, nn, c1, R1, m, d1, hh, o, rfl, hc1, hd1, HFz.out, hsm, hs, hr9.more (by omega), I1⟩

/-- an instruction has been drawn -/
def DrawnC (w : World) (e : Ending) (w' : World) : Prop := ∃ o : Cm, e = .returned (cmV o) ∧ SmallCm o ∧ Below w.heap.size w w'
/-- a list of instructions has been drawn -/
def DrawnP (w : World) (e : Ending) (w' : World) : Prop := ∃ (A : Option Addr) (n c : Nat) (l : List Cm), e = .returned (.slice A n c) ∧ n ≤ c ∧ n ≤ 41 ∧ OwnM w' w.heap.size (.slice A n c) l ∧ (∀ o ∈ l, SmallCm o) ∧ Below w.heap.size w w'
/-- a heap and an instruction have been drawn -/
def DrawnN (w : World) (e : Ending) (w' : World) : Prop :=
  ∃ (A : Option Addr) (nn c : Nat) (R : Option Addr) (m d : Nat) (h : Hp) (o : Cm), e = .returned (.tuple #[heapV A nn c R m d, cmV o]) ∧ nn ≤ c ∧ m ≤ d ∧ HS w' w'.heap.size A nn R m h ∧ SmallH h ∧ SmallCm o ∧ Below w.heap.size w w'

set_option maxHeartbeats 1000000 in
theorem drawCommandValid_any (A : Option Addr) (n c : Nat) (w : World) (h : Bytes w w.heap.size A n) (hc : n ≤ c) (hn : n ≤ 9223372036854775807) :
    Calls Try.prog 26 #[.slice A n c] w (DrawnC w) := by
  have b0 : Below w.heap.size w (w.alloc (.cells #[.int .i64 0, .int .i64 0, .int .i64 0, .int .i64 0] 36)) := (Below.refl _ _).alloc (Nat.le_refl _) _
  have h0 := (h.keep fun p hp => b0.cell hp).more b0.size
  have r0 := Rw.new w 36 #[.int .i64 0, .int .i64 0, .int .i64 0, .int .i64 0]
  go_enter Try.func26, Try.ntmps26
  go_wp2_with fail
  refine (open_any _ _ _ _ h0 hc hn).mono ?_
  rintro e w1 ⟨rfl, hr1, b1⟩
  have r1 := r0.keep b1 r0.lt
  have hz := r0.lt
  have bb1 := b0.trans (b1.mono b0.size)
  have hs0 := b0.size
  generalize w.alloc (.cells #[.int .i64 0, .int .i64 0, .int .i64 0, .int .i64 0] 36) = w0 at b0 h0 r0 hr1 b1 r1 hz bb1 hs0 ⊢
  go_wp2_with fail
  refine (l20Command_any _ _ 2 _ hr1 (by omega) (by omega) (by omega)).mono ?_
  rintro e w2 ⟨o, rfl, -, hs, -, g2⟩
  have r2 := r1.far g2 (fun e => by injection e with e; omega)
  have bb2 : Below w.heap.size w w2 := bb1.grown g2 bb1.size (fun k hk => by injection hk; omega)
  have u0 := r2.cell 0
  have u1 := r2.cell 1
  have u2 := r2.cell 2
  have u3 := r2.cell 3
  have v0 := r2.frozen 0
  have v1 := r2.frozen 1
  have v2 := r2.frozen 2
  have v3 := r2.frozen 3
  have rf := (((r2.put 0 (.int .i64 o.op)).put 1 (.int .i64 o.a)).put 2 (.int .i64 o.b)).put 3 (.int .i64 o.c)
  have z0 := rf.cell 0
  have z1 := rf.cell 1
  have z2 := rf.cell 2
  have z3 := rf.cell 3
  simp at u0 u1 u2 u3 z0 z1 z2 z3
  have BF := Lib.hid ((((bb2.setCell (p := ⟨w.heap.size, 0, none⟩) (Nat.le_refl _) (.int .i64 o.op)).setCell (p := ⟨w.heap.size, 1, none⟩) (Nat.le_refl _) (.int .i64 o.a)).setCell (p := ⟨w.heap.size, 2, none⟩) (Nat.le_refl _) (.int .i64 o.b)).setCell (p := ⟨w.heap.size, 3, none⟩) (Nat.le_refl _) (.int .i64 o.c))
  clear g2 r2 r1 r0 bb1 bb2 b0 b1 h0 hr1 rf
  go_wp2_with fail
  exact bodyPost_ret (v := cmV o) (by simp [results, Try.results26, go_sem, *]) rfl ⟨o, rfl, hs, BF.out⟩

theorem drawRunHeap_any (A : Option Addr) (n c : Nat) (w : World) (h : Bytes w w.heap.size A n) (hc : n ≤ c) (hn : n ≤ 9223372036854775807) :
    Calls Try.prog 14 #[.slice A n c] w (DrawnP w) := by
  go_enter Try.func14, Try.ntmps14
  go_wp2_with fail
  refine (open_any _ _ _ _ h hc hn).mono ?_
  rintro e w1 ⟨rfl, hr1, b1⟩
  go_wp2_with fail
  refine (l20Program_any _ _ 14 _ hr1 (by omega) (by omega) (by omega)).mono ?_
  rintro e w2 ⟨v, l, rfl, ow, hl, hs, -, g2⟩
  obtain ⟨A2, c2, rfl, -⟩ := ow.form
  have hcap := ow.cap.2
  have bb2 : Below w.heap.size w w2 := b1.grown g2 b1.size (fun k hk => by injection hk; omega)
  have ob := ow.base b1.size
  go_wp2_with fail
  go_ret
  exact ⟨A2, _, c2, l, rfl, hcap, hl, ob, hs, bb2⟩

set_option maxHeartbeats 1000000 in
theorem drawStepHeap_any (A : Option Addr) (n c : Nat) (w : World) (h : Bytes w w.heap.size A n) (hc : n ≤ c) (hn : n ≤ 9223372036854775807) :
    Calls Try.prog 43 #[.slice A n c] w (DrawnN w) := by
  have b0 : Below w.heap.size w ((w.alloc (.cells #[.slice none 0 0, .slice none 0 0] 28)).alloc (.cells #[.int .i64 0, .int .i64 0, .int .i64 0, .int .i64 0] 36)) := ((Below.refl _ _).alloc (Nat.le_refl _) _).alloc (by simp) _
  have r2 := (Rw.new w 28 #[.slice none 0 0, .slice none 0 0]).alloc (.cells #[.int .i64 0, .int .i64 0, .int .i64 0, .int .i64 0] 36)
  have r3 := Rw.new (w.alloc (.cells #[.slice none 0 0, .slice none 0 0] 28)) 36 #[.int .i64 0, .int .i64 0, .int .i64 0, .int .i64 0]
  have hz : ((w.alloc (.cells #[.slice none 0 0, .slice none 0 0] 28)).alloc (.cells #[.int .i64 0, .int .i64 0, .int .i64 0, .int .i64 0] 36)).heap.size = w.heap.size + 2 := by simp
  rw [World.size_alloc] at r3
  have h0 := (h.keep fun p hp => b0.cell hp).more b0.size
  go_enter Try.func43, Try.ntmps43
  go_upto_region 1 with fail
  generalize (w.alloc (.cells #[.slice none 0 0, .slice none 0 0] 28)).alloc (.cells #[.int .i64 0, .int .i64 0, .int .i64 0, .int .i64 0] 36) = w0 at b0 r2 r3 hz h0 ⊢
  go_wp2_with fail
  refine (open_any _ _ _ _ h0 hc hn).mono ?_
  rintro e w1 ⟨rfl, hr1, b1⟩
  have hs0 := b0.size
  have bb1 := b0.trans (b1.mono b0.size)
  have hs1 := b1.size
  replace r2 := r2.keep b1 r2.lt
  replace r3 := r3.keep b1 r3.lt
  rw [hz] at hr1
  clear b0 h0
  go_wp2_with fail
  refine (l20Next_any _ _ _ hr1 (by omega)).mono ?_
  rintro e w2 ⟨A2, nn, c2, R2, m, d2, hh, o, rfl, hc1, hc2, HFx, hsm, hs, -, g2⟩
  replace r2 := r2.far g2 (fun e => by have := Option.some.inj e; omega)
  replace r3 := r3.far g2 (fun e => by have := Option.some.inj e; omega)
  have bb2 : Below w.heap.size w w2 := bb1.grown g2 bb1.size (fun k hk => by injection hk; omega)
  obtain ⟨G, hG⟩ : ∃ G, w.heap.size = G := ⟨_, rfl⟩
  have hG0 : G + 2 ≤ w1.heap.size := by omega
  have HGe := Lib.hid hG
  rw [hG] at r2 r3 bb2 ⊢
  have u0 := r2.cell 0
  have u1 := r2.cell 1
  have v0 := r2.frozen 0
  have v1 := r2.frozen 1
  have q2 := (r2.put 0 (.slice A2 nn c2)).put 1 (.slice R2 m d2)
  have q3 := Rw.other (w := w2.setCell ⟨G, 0, none⟩ (.slice A2 nn c2)) (g' := G) (i := 1) (Rw.other (w := w2) (g' := G) (i := 0) r3 (by omega) (.slice A2 nn c2)) (by omega) (.slice R2 m d2)
  have p0 := q3.cell 0
  have p1 := q3.cell 1
  have p2 := q3.cell 2
  have p3 := q3.cell 3
  have s0 := q3.frozen 0
  have s1 := q3.frozen 1
  have s2 := q3.frozen 2
  have s3 := q3.frozen 3
  have rf := (((q3.put 0 (.int .i64 o.op)).put 1 (.int .i64 o.a)).put 2 (.int .i64 o.b)).put 3 (.int .i64 o.c)
  have gf := only_put (only_put (only_put (only_put (World.grownBy.refl ((w2.setCell ⟨G, 0, none⟩ (.slice A2 nn c2)).setCell ⟨G, 1, none⟩ (.slice R2 m d2)) (some (G + 1))) 0 (.int .i64 o.op)) 1 (.int .i64 o.a)) 2 (.int .i64 o.b)) 3 (.int .i64 o.c)
  have qf := Rw.far q2 gf (fun e => by have := Option.some.inj e; omega)
  have y0 := qf.cell 0
  have y1 := qf.cell 1
  have z0 := rf.cell 0
  have z1 := rf.cell 1
  have z2 := rf.cell 2
  have z3 := rf.cell 3
  simp at u0 u1 p0 p1 p2 p3 y0 y1 z0 z1 z2 z3
  have sm := ((((((Same.refl w1.heap.size w2).put (g := G) (by omega) 0 (.slice A2 nn c2)).put (g := G) (by omega) 1 (.slice R2 m d2)).put (g := G + 1) (by omega) 0 (.int .i64 o.op)).put (g := G + 1) (by omega) 1 (.int .i64 o.a)).put (g := G + 1) (by omega) 2 (.int .i64 o.b)).put (g := G + 1) (by omega) 3 (.int .i64 o.c)
  have HSx := Lib.hid (HFx.same sm).reads
  have BF := Lib.hid ((((((bb2.setCell (p := ⟨G, 0, none⟩) (Nat.le_refl _) (.slice A2 nn c2)).setCell (p := ⟨G, 1, none⟩) (Nat.le_refl _) (.slice R2 m d2)).setCell (p := ⟨G + 1, 0, none⟩) (by simp) (.int .i64 o.op)).setCell (p := ⟨G + 1, 1, none⟩) (by simp) (.int .i64 o.a)).setCell (p := ⟨G + 1, 2, none⟩) (by simp) (.int .i64 o.b)).setCell (p := ⟨G + 1, 3, none⟩) (by simp) (.int .i64 o.c))
  clear HFx g2 r2 r3 bb1 bb2 b1 hr1 q2 q3 rf gf qf sm hG
  go_wp2_with fail
  exact bodyPost_ret (v := .tuple #[.agg #[.slice A2 nn c2, .slice R2 m d2], cmV o]) (by simp [results, Try.results43, go_sem, *]) rfl ⟨A2, nn, c2, R2, m, d2, hh, o, rfl, hc1, hc2, HSx.out, hsm, hs, by rw [HGe.out]; exact BF.out⟩
end Go.Proofs.Ytmjejcfifkbkoaa
