/- For every list of bytes the law FnHeapValid returns true (P42), over the program's contracts. No conditions. -/
import Derived.Test.YtkdoolilggkjpaaKz
import Derived.Test.YtkdoolilggkjpaaKo
import Derived.Test.YtkdoolilggkjpaaKk
import Derived.Test.YtkdoolilggkjpaaHs
import Derived.Test.YtkdoolilggkjpaaInv
import Derived.Test.YtkdoolilggkjpaaWg
import Derived.Deep.Cut
namespace Go.Proofs.Ytkdoolilggkjpaa
open Go.RowKit
set_option maxRecDepth 100000

/-- numbers of the new reference's own slice -/
def NewRef (w : World) (B g : Nat) (x : Int) : Prop := B ≤ g ∧ Rw w g 3 #[.int .i64 x]
theorem NewRef.alloc {w : World} {B g : Nat} {x : Int} (h : NewRef w B g x) (o : Obj) : NewRef (w.alloc o) B g x := ⟨h.1, h.2.alloc o⟩
theorem NewRef.far {w w' : World} {B g : Nat} {x : Int} {row : Option Nat} (h : NewRef w B g x) (hg : w.grownBy w' row) (hne : some g ≠ row) : NewRef w' B g x := ⟨h.1, h.2.far hg hne⟩
theorem NewRef.put {w : World} {B g b : Nat} {x : Int} (h : NewRef w B g x) (hne : g ≠ b) (i j : Nat) (u v : Value) : NewRef ((w.setCell ⟨b, i, none⟩ u).setCell ⟨b, j, none⟩ v) B g x := ⟨h.1, Rw.other (w := w.setCell ⟨b, i, none⟩ u) (Rw.other (w := w) h.2 hne u) hne v⟩
/-- the row of the copied cells and a new one -/
def RowNew (w : World) (B n g8 : Nat) (v : Value) (fs : List Value) : Prop := w.ownsRow B 31 3 v (n + 1) (fs ++ [.bool true, .int .i64 0, .slice (some ⟨g8, 0, none⟩) 1 1])
theorem emptyRoots_any (w : World) : Calls Try.prog 16 #[] w fun e w' => ∃ (Ac : Option Addr) (nc cc : Nat) (Re : Option Addr) (de : Nat), e = .returned (.agg #[.slice Ac nc cc, .slice Re 4 de]) ∧ 4 ≤ de ∧ IS w' w'.heap.size Re 4 [-1, -1, -1, -1] ∧ Below w.heap.size w w' :=
  (emptyHeap_any w).mono fun e w' ⟨vc, vr, he, ⟨rvs, ow⟩, hb⟩ => by
    obtain ⟨Ac, cc, Re, de, e1, e2, _, hde, _⟩ := ow.form
    subst e1 e2
    exact ⟨Ac, _, cc, Re, de, he, hde, ow.roots.reads, hb⟩
theorem own_none_at {w : World} {B g : Nat} (h : Rw w g 31 #[]) (hb : B ≤ g) : w.ownsRow B 31 3 (.slice (some ⟨g, 0, none⟩) 0 0) 0 [] := ⟨rfl, .inr ⟨g, 0, #[], rfl, hb, h, Nat.le_refl _, by unfold maxLen; omega, rfl, rfl⟩⟩
theorem row_put2 {w : World} {B n b s : Nat} {e : TypeId} {v : Value} {xs : List Value} (h : w.ownsRow B e s v n xs) (hne : some b ≠ v.ownBlock) (i j : Nat) (x y : Value) : ((w.setCell ⟨b, i, none⟩ x).setCell ⟨b, j, none⟩ y).ownsRow B e s v n xs :=
  World.ownsRow.kept (World.ownsRow.kept h (only_put (g := b) (World.grownBy.refl _ _) i x) (.inr fun q => hne q.symm)) (only_put (g := b) (World.grownBy.refl _ _) j y) (.inr fun q => hne q.symm)

set_option maxHeartbeats 8000000 in
theorem heapValidLaw_walk (A : Option Addr) (n c : Nat) (w : World) (h : Bytes w w.heap.size A n) (hc : n ≤ c) (hn : n ≤ 9223372036854775807) :
    Calls Try.prog 3 #[.slice A n c] w fun e w' => e = .returned (.bool true) ∧ Below w.heap.size w w' := by
  by_cases hs : n ≤ 1048576
  case neg =>
    have hs' : (1048576 : Int) < (n : Int) := by omega
    go_enter Try.func3, Try.ntmps3
    go_wp2
    go_ret
    exact ⟨rfl, Below.refl _ _⟩
  have hs' : decide ((1048576 : Int) < (n : Int)) = false := by simp; omega
  go_enter Try.func3, Try.ntmps3
  go_wp2_with fail
  refine (drawHeapValid_any _ _ _ _ h hc hn).mono ?_
  rintro e w1 ⟨A1, nn, c1, R1, m, d1, hh, rfl, hc1, hd1, hsH, hsm, b1⟩
  have hn41 : nn ≤ 41 := by rw [← hsH.cells.1]; exact hsm.1
  have hm4 : m ≤ 4 := by rw [← hsH.roots.1]; exact hsm.2.1
  have bA : Below w1.heap.size w1 (w1.alloc (.cells #[.slice A1 nn c1, .slice R1 m d1] 26)) := (Below.refl _ _).alloc (Nat.le_refl _) _
  have hs2 := hsH.up bA
  have bx := Rw.new w1 26 #[.slice A1 nn c1, .slice R1 m d1]
  have bb := b1.trans (bA.mono b1.size)
  clear hsH bA hsm b1
  go_upto_region 4 with fail
  generalize w1.alloc (.cells #[.slice A1 nn c1, .slice R1 m d1] 26) = w2 at hs2 bx bb ⊢
  generalize w1.heap.size = b at bx ⊢
  have x0 : w2.cell? ⟨b, 0, none⟩ = some (.slice A1 nn c1) := bx.cell 0
  have x1 : w2.cell? ⟨b, 1, none⟩ = some (.slice R1 m d1) := bx.cell 1
  obtain ⟨v, hv⟩ : ∃ v, Hps.validH hh = v := ⟨_, rfl⟩
  have HV := Lib.hid hv
  clear hv
  have hvv : (v != v) = false := by cases v <;> rfl
  go_wp2_with fail
  refine (heapValid_any _ _ _ _ _ _ hh _ hs2 (by omega) (by omega) hc1 hd1).mono ?_
  rw [HV.out]
  rintro e w3 ⟨rfl, b3⟩
  have bx3 := bx.keep b3 bx.lt
  have hs3 := hs2.up b3
  have bb3 := bb.trans (b3.mono bb.size)
  have y0 : w3.cell? ⟨b, 0, none⟩ = some (.slice A1 nn c1) := bx3.cell 0
  have y1 : w3.cell? ⟨b, 1, none⟩ = some (.slice R1 m d1) := bx3.cell 1
  clear hs2 bx x0 x1 b3 bb
  go_wp2_with fail
  refine (mHeapValid_any _ _ _ _ _ _ hh _ hs3 (by omega) (by omega)).mono ?_
  rw [HV.out]
  rintro e w4 ⟨rfl, b4⟩
  have bx4 := bx3.keep b4 bx3.lt
  have hs4 := hs3.up b4
  have bb4 := bb3.trans (b4.mono bb3.size)
  clear hs3 bx3 y0 y1 b4 bb3
  cases v
  · clear HV
    go_wp2_with fail
    refine (alive_any _).mono ?_
    rintro e w7 ⟨rfl, b7⟩
    have bb7 := bb4.trans (b7.mono bb4.size)
    go_wp2_with fail
    go_ret
    exact ⟨rfl, bb7⟩
  obtain ⟨v1, v2, v3, v4⟩ := Hps.valid_iff.1 HV.out
  have hlc := hs4.cells.1
  obtain rfl : m = 4 := by rw [← hs4.roots.1]; exact v3
  have hn40 : nn ≤ 40 := by omega
  have VA := Lib.hid (show Hps.validH ⟨hh.cs, [(nn : Int), -1, -1, -1]⟩ = false from Hps.bad_root ⟨nn, hlc, rfl⟩)
  have VB := Lib.hid (show Hps.validH ⟨hh.cs ++ [⟨true, 0, [(nn : Int) + 1]⟩], hh.rt⟩ = false from Hps.bad_cell hlc)
  have VC := Lib.hid (show Hps.validH ⟨hh.cs, [-1, -1, -1, -1]⟩ = true from Hps.good_roots HV.out)
  have hnw : IntKind.i64.wrap ((nn : Int) + 1) = (nn : Int) + 1 := IntWalk.i64_in _ (by omega)
  have x0 : w4.cell? ⟨b, 0, none⟩ = some (.slice A1 nn c1) := bx4.cell 0
  have x1 : w4.cell? ⟨b, 1, none⟩ = some (.slice R1 4 d1) := bx4.cell 1
  clear v1 v2 v3 v4 hvv
  go_upto_region 9 with fail
  have bR : Below w4.heap.size w4 ((w4.alloc (.cells #[.int .i64 nn, .int .i64 (-1), .int .i64 (-1), .int .i64 (-1)] 3)).alloc (.cells #[.slice A1 nn c1, .slice (some ⟨w4.heap.size, 0, none⟩) 4 4] 26)) := ((Below.refl w4.heap.size w4).alloc (Nat.le_refl _) _).alloc (by simp) _
  have ha5 := Rw.new (w4.alloc (.cells #[.int .i64 nn, .int .i64 (-1), .int .i64 (-1), .int .i64 (-1)] 3)) 26 #[.slice A1 nn c1, .slice (some ⟨w4.heap.size, 0, none⟩) 4 4]
  have hr5 := (Rw.new w4 3 #[.int .i64 nn, .int .i64 (-1), .int .i64 (-1), .int .i64 (-1)]).alloc (.cells #[.slice A1 nn c1, .slice (some ⟨w4.heap.size, 0, none⟩) 4 4] 26)
  rw [World.size_alloc] at ha5
  have hs5 := hs4.up bR
  have bx5 := bx4.keep bR bx4.lt
  have bb5 := bb4.trans (bR.mono bb4.size)
  go_upto_region 10 with fail
  clear x0 x1
  generalize (w4.alloc (.cells #[.int .i64 nn, .int .i64 (-1), .int .i64 (-1), .int .i64 (-1)] 3)).alloc (.cells #[.slice A1 nn c1, .slice (some ⟨w4.heap.size, 0, none⟩) 4 4] 26) = w5 at bR ha5 hr5 hs5 bx5 bb5 ⊢
  generalize w4.heap.size + 1 = ga at ha5 ⊢
  generalize w4.heap.size = gr at hr5 ha5 ⊢
  have i5 : IS w5 w5.heap.size (some ⟨gr, 0, none⟩) 4 [(nn : Int), -1, -1, -1] := ⟨rfl, fun _ => ⟨gr, 0, rfl, hr5.lt, fun k q hk => by
    match k, hk with
    | 0, hk => have hk : (nn : Int) = q := by simpa using hk
               rw [← hk]; exact hr5.cell 0
    | 1, hk => have hk : (-1 : Int) = q := by simpa using hk
               rw [← hk]; exact hr5.cell 1
    | 2, hk => have hk : (-1 : Int) = q := by simpa using hk
               rw [← hk]; exact hr5.cell 2
    | 3, hk => have hk : (-1 : Int) = q := by simpa using hk
               rw [← hk]; exact hr5.cell 3⟩⟩
  have sA : HS w5 w5.heap.size A1 nn (some ⟨gr, 0, none⟩) 4 ⟨hh.cs, [(nn : Int), -1, -1, -1]⟩ := ⟨hs5.cells, i5⟩
  obtain ⟨rvs, hrv, hsrc⟩ := hs5.cells.refs
  have HRV := Lib.hid hrv
  have HSRC := Lib.hid hsrc
  have HONE := Lib.hid hrv.one
  have HFL := Lib.hid (show (flatC hh.cs rvs).length = nn * 3 by rw [flatC_length _ _ hrv.1, hlc])
  obtain ⟨fs, hfs⟩ : ∃ fs, flatC hh.cs rvs = fs := ⟨_, rfl⟩
  rw [hfs] at HSRC HONE HFL
  have HFS := Lib.hid hfs
  clear hrv hsrc hfs hs4 bx4 bb4 bR hr5 i5
  have hbl := bx5.lt
  have hal := ha5.lt
  have x0 : w5.cell? ⟨b, 0, none⟩ = some (.slice A1 nn c1) := bx5.cell 0
  have x1 : w5.cell? ⟨b, 1, none⟩ = some (.slice R1 4 d1) := bx5.cell 1
  refine wp_region_inv (by kernel_rfl) (by kernel_rfl) (fun L ac ww => ∃ t6 t28 t29 t30 t31 t32 t33 t34 t35 t36 t37 t38 t39 t40 t41 t42 : Value, ac = { tmps := #[Value.slice A n c, undef, Value.bool false, Value.pointer (some { block := b, off := 0 }), Value.bool true, Value.pointer (some { block := ga, off := 0 }), t6, Value.slice A n c, Value.int IntKind.i64 ↑n, Value.bool false, Value.slice A n c, heapV A1 nn c1 R1 4 d1, Value.agg #[Value.slice A1 nn c1, Value.slice R1 4 d1], Value.bool true, Value.bool true, Value.agg #[Value.slice A1 nn c1, Value.slice R1 4 d1], Value.bool true, Value.bool false, Value.bool true, Value.bool false, undef, Value.pointer (some { block := b, off := 0 }), Value.slice A1 nn c1, Value.pointer (some { block := b, off := 0 }), Value.slice A1 nn c1, Value.int IntKind.i64 ↑nn, Value.slice (some { block := gr, off := 0 }) 4 4, Value.agg #[Value.slice A1 nn c1, Value.slice (some { block := gr, off := 0 }) 4 4], t28, t29, t30, t31, t32, t33, t34, t35, t36, t37, t38, t39, t40, t41, t42, undef, undef, undef, undef, undef, undef, undef, undef, undef, undef, undef, undef, undef, undef, undef, undef], defers := [] } ∧ (Below w5.heap.size w5 ww) ∧ (L 0 = true → (L 3 = true ∨ ∃ gA : Nat, t28 = .slice (some ⟨gA, 0, none⟩) 0 0 ∧ w5.heap.size ≤ gA ∧ Rw ww gA 31 #[])) ∧ (L 1 = true → t29 = (.pointer (some ⟨b, 0, none⟩))) ∧ (L 2 = true → t30 = .slice A1 nn c1) ∧ (L 3 = true → (L 11 = true ∨ ww.ownsRow w5.heap.size 31 3 t31 nn fs)) ∧ (L 4 = true → t32 = (.pointer (some ⟨b, 0, none⟩))) ∧ (L 5 = true → t33 = .slice A1 nn c1) ∧ (L 6 = true → t34 = .int .i64 (nn : Nat)) ∧ (L 7 = true → t35 = .int .i64 ((nn : Int) + 1)) ∧ (L 8 = true → ∃ k8 : Nat, t36 = .slice (some ⟨k8, 0, none⟩) 1 1 ∧ NewRef ww w5.heap.size k8 ((nn : Int) + 1)) ∧ (L 9 = true → ∃ k8 : Nat, t37 = .agg #[.bool true, .int .i64 0, .slice (some ⟨k8, 0, none⟩) 1 1] ∧ NewRef ww w5.heap.size k8 ((nn : Int) + 1)) ∧ (L 10 = true → (L 11 = true ∨ ∃ gs k8 : Nat, t38 = .slice (some ⟨gs, 0, none⟩) 1 1 ∧ Rw ww gs 31 #[.bool true, .int .i64 0, .slice (some ⟨k8, 0, none⟩) 1 1] ∧ NewRef ww w5.heap.size k8 ((nn : Int) + 1))) ∧ (L 11 = true → ∃ (A9 : Option Addr) (c9 k8 : Nat), t39 = .slice A9 (nn + 1) c9 ∧ RowNew ww w5.heap.size nn k8 (.slice A9 (nn + 1) c9) fs ∧ NewRef ww w5.heap.size k8 ((nn : Int) + 1) ∧ L 3 = true) ∧ (L 12 = true → t40 = (.pointer (some ⟨b, 1, none⟩))) ∧ (L 13 = true → t41 = .slice R1 4 d1) ∧ (L 14 = true → ∃ (A9 : Option Addr) (c9 k8 : Nat), t42 = .agg #[.slice A9 (nn + 1) c9, .slice R1 4 d1] ∧ RowNew ww w5.heap.size nn k8 (.slice A9 (nn + 1) c9) fs ∧ NewRef ww w5.heap.size k8 ((nn : Int) + 1) ∧ L 3 = true ∧ L 11 = true) ∧ (L 15 = true → ∃ gB : Nat, t6 = (.pointer (some ⟨gB, 0, none⟩)) ∧ w5.heap.size ≤ gB ∧ (L 16 = true ∨ Rw ww gB 26 #[.slice none 0 0, .slice none 0 0])) ∧ (L 16 = true → ∃ (gB : Nat) (A9 : Option Addr) (c9 k8 : Nat), t6 = (.pointer (some ⟨gB, 0, none⟩)) ∧ Rw ww gB 26 #[.slice A9 (nn + 1) c9, .slice R1 4 d1] ∧ RowNew ww w5.heap.size nn k8 (.slice A9 (nn + 1) c9) fs ∧ NewRef ww w5.heap.size k8 ((nn : Int) + 1) ∧ L 3 = true ∧ L 11 = true ∧ L 15 = true)) ?h0 ?hstep ?hdone
  case h0 => exact ⟨_, _, _, _, _, _, _, _, _, _, _, _, _, _, _, _, rfl, (Below.refl _ _).drew, (fun h => absurd h Bool.false_ne_true), (fun h => absurd h Bool.false_ne_true), (fun h => absurd h Bool.false_ne_true), (fun h => absurd h Bool.false_ne_true), (fun h => absurd h Bool.false_ne_true), (fun h => absurd h Bool.false_ne_true), (fun h => absurd h Bool.false_ne_true), (fun h => absurd h Bool.false_ne_true), (fun h => absurd h Bool.false_ne_true), (fun h => absurd h Bool.false_ne_true), (fun h => absurd h Bool.false_ne_true), (fun h => absurd h Bool.false_ne_true), (fun h => absurd h Bool.false_ne_true), (fun h => absurd h Bool.false_ne_true), (fun h => absurd h Bool.false_ne_true), (fun h => absurd h Bool.false_ne_true), (fun h => absurd h Bool.false_ne_true)⟩
  case hstep =>
    rintro L ac ww i o ho hL hd ⟨t6, t28, t29, t30, t31, t32, t33, t34, t35, t36, t37, t38, t39, t40, t41, t42, rfl, I0, f0, f1, f2, f3, f4, f5, f6, f7, f8, f9, f10, f11, f12, f13, f14, f15, f16⟩
    have hi : i < 17 := (Array.getElem?_eq_some_iff.1 ho).1
    obtain rfl | rfl | rfl | rfl | rfl | rfl | rfl | rfl | rfl | rfl | rfl | rfl | rfl | rfl | rfl | rfl | rfl : i = 0 ∨ i = 1 ∨ i = 2 ∨ i = 3 ∨ i = 4 ∨ i = 5 ∨ i = 6 ∨ i = 7 ∨ i = 8 ∨ i = 9 ∨ i = 10 ∨ i = 11 ∨ i = 12 ∨ i = 13 ∨ i = 14 ∨ i = 15 ∨ i = 16 := by omega
    · obtain rfl := Option.some.inj ho
      refine wpOp_step rfl (fun K' hK => ?_)
      go_simp
      refine hK _ _ ?_
      exact ⟨_, _, _, _, _, _, _, _, _, _, _, _, _, _, _, _, rfl, (I0.alloc I0.size _), (fun _ => .inr ⟨ww.heap.size, rfl, I0.size, Rw.new ww _ _⟩), (fun h => f1 (upd_ne h (by decide))), (fun h => f2 (upd_ne h (by decide))), (fun h => (f3 (upd_ne h (by decide))).imp (fun e => upd_keep e) (fun o => World.ownsRow.alloc o _)), (fun h => f4 (upd_ne h (by decide))), (fun h => f5 (upd_ne h (by decide))), (fun h => f6 (upd_ne h (by decide))), (fun h => f7 (upd_ne h (by decide))), (fun h => by
        obtain ⟨k8, e, q⟩ := f8 (upd_ne h (by decide))
        exact ⟨k8, e, q.alloc _⟩), (fun h => by
        obtain ⟨k8, e, q⟩ := f9 (upd_ne h (by decide))
        exact ⟨k8, e, q.alloc _⟩), (fun h => (f10 (upd_ne h (by decide))).imp (fun e => upd_keep e) (fun ⟨gs, k8, e, r, q⟩ => ⟨gs, k8, e, r.alloc _, q.alloc _⟩)), (fun h => by
        obtain ⟨A9, c9, k8, e, o, q, l3⟩ := f11 (upd_ne h (by decide))
        exact ⟨A9, c9, k8, e, World.ownsRow.alloc o _, q.alloc _, upd_keep l3⟩), (fun h => f12 (upd_ne h (by decide))), (fun h => f13 (upd_ne h (by decide))), (fun h => by
        obtain ⟨A9, c9, k8, e, o, q, l3, l11⟩ := f14 (upd_ne h (by decide))
        exact ⟨A9, c9, k8, e, World.ownsRow.alloc o _, q.alloc _, upd_keep l3, upd_keep l11⟩), (fun h => by
        obtain ⟨gB, e, h1, r⟩ := f15 (upd_ne h (by decide))
        exact ⟨gB, e, h1, r.imp (fun e => upd_keep e) (fun r => r.alloc _)⟩), (fun h => by
        obtain ⟨gB, A9, c9, k8, e, r, o, q, l3, l11, l15⟩ := f16 (upd_ne h (by decide))
        exact ⟨gB, A9, c9, k8, e, r.alloc _, World.ownsRow.alloc o _, q.alloc _, upd_keep l3, upd_keep l11, upd_keep l15⟩)⟩
    · obtain rfl := Option.some.inj ho
      refine wpOp_step rfl (fun K' hK => ?_)
      go_simp
      refine hK _ _ ?_
      exact ⟨_, _, _, _, _, _, _, _, _, _, _, _, _, _, _, _, rfl, (I0), (fun h => (f0 (upd_ne h (by decide))).imp (fun e => upd_keep e) (fun ⟨gA, e, h1, h2⟩ => ⟨gA, e, h1, h2⟩)), (fun _ => rfl), (fun h => f2 (upd_ne h (by decide))), (fun h => (f3 (upd_ne h (by decide))).imp (fun e => upd_keep e) (fun o => o)), (fun h => f4 (upd_ne h (by decide))), (fun h => f5 (upd_ne h (by decide))), (fun h => f6 (upd_ne h (by decide))), (fun h => f7 (upd_ne h (by decide))), (fun h => by
        obtain ⟨k8, e, q⟩ := f8 (upd_ne h (by decide))
        exact ⟨k8, e, q⟩), (fun h => by
        obtain ⟨k8, e, q⟩ := f9 (upd_ne h (by decide))
        exact ⟨k8, e, q⟩), (fun h => (f10 (upd_ne h (by decide))).imp (fun e => upd_keep e) (fun ⟨gs, k8, e, r, q⟩ => ⟨gs, k8, e, r, q⟩)), (fun h => by
        obtain ⟨A9, c9, k8, e, o, q, l3⟩ := f11 (upd_ne h (by decide))
        exact ⟨A9, c9, k8, e, o, q, upd_keep l3⟩), (fun h => f12 (upd_ne h (by decide))), (fun h => f13 (upd_ne h (by decide))), (fun h => by
        obtain ⟨A9, c9, k8, e, o, q, l3, l11⟩ := f14 (upd_ne h (by decide))
        exact ⟨A9, c9, k8, e, o, q, upd_keep l3, upd_keep l11⟩), (fun h => by
        obtain ⟨gB, e, h1, r⟩ := f15 (upd_ne h (by decide))
        exact ⟨gB, e, h1, r.imp (fun e => upd_keep e) (fun r => r)⟩), (fun h => by
        obtain ⟨gB, A9, c9, k8, e, r, o, q, l3, l11, l15⟩ := f16 (upd_ne h (by decide))
        exact ⟨gB, A9, c9, k8, e, r, o, q, upd_keep l3, upd_keep l11, upd_keep l15⟩)⟩
    · obtain rfl := Option.some.inj ho
      have g1 := f1 (hd ⟨1, .data⟩ (by simp) rfl)
      subst g1
      have y0 : ww.cell? ⟨b, 0, none⟩ = some (.slice A1 nn c1) := (I0.cell (p := ⟨b, 0, none⟩) hbl).trans x0
      refine wpOp_step rfl (fun K' hK => ?_)
      go_simp
      refine hK _ _ ?_
      exact ⟨_, _, _, _, _, _, _, _, _, _, _, _, _, _, _, _, rfl, (I0), (fun h => (f0 (upd_ne h (by decide))).imp (fun e => upd_keep e) (fun ⟨gA, e, h1, h2⟩ => ⟨gA, e, h1, h2⟩)), (fun h => f1 (upd_ne h (by decide))), (fun _ => rfl), (fun h => (f3 (upd_ne h (by decide))).imp (fun e => upd_keep e) (fun o => o)), (fun h => f4 (upd_ne h (by decide))), (fun h => f5 (upd_ne h (by decide))), (fun h => f6 (upd_ne h (by decide))), (fun h => f7 (upd_ne h (by decide))), (fun h => by
        obtain ⟨k8, e, q⟩ := f8 (upd_ne h (by decide))
        exact ⟨k8, e, q⟩), (fun h => by
        obtain ⟨k8, e, q⟩ := f9 (upd_ne h (by decide))
        exact ⟨k8, e, q⟩), (fun h => (f10 (upd_ne h (by decide))).imp (fun e => upd_keep e) (fun ⟨gs, k8, e, r, q⟩ => ⟨gs, k8, e, r, q⟩)), (fun h => by
        obtain ⟨A9, c9, k8, e, o, q, l3⟩ := f11 (upd_ne h (by decide))
        exact ⟨A9, c9, k8, e, o, q, upd_keep l3⟩), (fun h => f12 (upd_ne h (by decide))), (fun h => f13 (upd_ne h (by decide))), (fun h => by
        obtain ⟨A9, c9, k8, e, o, q, l3, l11⟩ := f14 (upd_ne h (by decide))
        exact ⟨A9, c9, k8, e, o, q, upd_keep l3, upd_keep l11⟩), (fun h => by
        obtain ⟨gB, e, h1, r⟩ := f15 (upd_ne h (by decide))
        exact ⟨gB, e, h1, r.imp (fun e => upd_keep e) (fun r => r)⟩), (fun h => by
        obtain ⟨gB, A9, c9, k8, e, r, o, q, l3, l11, l15⟩ := f16 (upd_ne h (by decide))
        exact ⟨gB, A9, c9, k8, e, r, o, q, upd_keep l3, upd_keep l11, upd_keep l15⟩)⟩
    · obtain rfl := Option.some.inj ho
      have g0 := f0 (hd ⟨0, .data⟩ (by simp) rfl)
      have g2 := f2 (hd ⟨2, .data⟩ (by simp) rfl)
      subst g2
      rcases g0 with q | ⟨gA, rfl, hgA, rA⟩
      · rw [hL] at q
        cases q
      refine wpOp_step rfl (fun K' hK => ?_)
      refine app_stepCs rfl (.tmp 28) (.tmp 30) rfl w5.heap.size _ 0 [] rfl (own_none_at rA hgA) A1 nn c1 fs rfl HFL.out (fun hp => by
        obtain ⟨g, o, e, hb, hx⟩ := HSRC.out hp
        exact ⟨_, e, fun j u hj => by
          rw [add_lit]
          exact (I0.cell (p := ⟨g, o + j, none⟩) hb).trans (hx j u hj)⟩) HONE.out (by omega) I0.size ?_
      intro v' w' o1 g1 s1
      rw [List.nil_append, Nat.zero_add] at o1
      have g1' : ww.grownBy w' (some gA) := g1
      have hB2 := I0.grown g1 I0.size (fun kk hk => (World.ownsRow.lt (own_none_at rA hgA) kk hk).1)
      refine hK _ _ ?_
      exact ⟨_, _, _, _, _, _, _, _, _, _, _, _, _, _, _, _, rfl, (hB2), (fun _ => .inl upd_self), (fun h => f1 (upd_ne h (by decide))), (fun h => f2 (upd_ne h (by decide))), (fun _ => .inr o1), (fun h => f4 (upd_ne h (by decide))), (fun h => f5 (upd_ne h (by decide))), (fun h => f6 (upd_ne h (by decide))), (fun h => f7 (upd_ne h (by decide))), (fun h => by
        obtain ⟨k8, e, q⟩ := f8 (upd_ne h (by decide))
        exact ⟨k8, e, q.far g1' (fun e => rw_type q.2 rA (by decide) (Option.some.inj e))⟩), (fun h => by
        obtain ⟨k8, e, q⟩ := f9 (upd_ne h (by decide))
        exact ⟨k8, e, q.far g1' (fun e => rw_type q.2 rA (by decide) (Option.some.inj e))⟩), (fun h => (f10 (upd_ne h (by decide))).imp (fun e => upd_keep e) (fun ⟨gs, k8, e, r, q⟩ => ⟨gs, k8, e, r.far g1' (fun e => rw_size r rA (by simp) (Option.some.inj e)), q.far g1' (fun e => rw_type q.2 rA (by decide) (Option.some.inj e))⟩)), (fun h => by
        obtain ⟨_, _, _, _, _, _, l3⟩ := f11 (upd_ne h (by decide))
        rw [hL] at l3
        cases l3), (fun h => f12 (upd_ne h (by decide))), (fun h => f13 (upd_ne h (by decide))), (fun h => by
        obtain ⟨_, _, _, _, _, _, l3, _⟩ := f14 (upd_ne h (by decide))
        rw [hL] at l3
        cases l3), (fun h => by
        obtain ⟨gB, e, h1, r⟩ := f15 (upd_ne h (by decide))
        exact ⟨gB, e, h1, r.imp (fun e => upd_keep e) (fun r => r.far g1' (fun e => rw_type r rA (by decide) (Option.some.inj e)))⟩), (fun h => by
        obtain ⟨_, _, _, _, _, _, _, _, l3, _⟩ := f16 (upd_ne h (by decide))
        rw [hL] at l3
        cases l3)⟩
    · obtain rfl := Option.some.inj ho
      refine wpOp_step rfl (fun K' hK => ?_)
      go_simp
      refine hK _ _ ?_
      exact ⟨_, _, _, _, _, _, _, _, _, _, _, _, _, _, _, _, rfl, (I0), (fun h => (f0 (upd_ne h (by decide))).imp (fun e => upd_keep e) (fun ⟨gA, e, h1, h2⟩ => ⟨gA, e, h1, h2⟩)), (fun h => f1 (upd_ne h (by decide))), (fun h => f2 (upd_ne h (by decide))), (fun h => (f3 (upd_ne h (by decide))).imp (fun e => upd_keep e) (fun o => o)), (fun _ => rfl), (fun h => f5 (upd_ne h (by decide))), (fun h => f6 (upd_ne h (by decide))), (fun h => f7 (upd_ne h (by decide))), (fun h => by
        obtain ⟨k8, e, q⟩ := f8 (upd_ne h (by decide))
        exact ⟨k8, e, q⟩), (fun h => by
        obtain ⟨k8, e, q⟩ := f9 (upd_ne h (by decide))
        exact ⟨k8, e, q⟩), (fun h => (f10 (upd_ne h (by decide))).imp (fun e => upd_keep e) (fun ⟨gs, k8, e, r, q⟩ => ⟨gs, k8, e, r, q⟩)), (fun h => by
        obtain ⟨A9, c9, k8, e, o, q, l3⟩ := f11 (upd_ne h (by decide))
        exact ⟨A9, c9, k8, e, o, q, upd_keep l3⟩), (fun h => f12 (upd_ne h (by decide))), (fun h => f13 (upd_ne h (by decide))), (fun h => by
        obtain ⟨A9, c9, k8, e, o, q, l3, l11⟩ := f14 (upd_ne h (by decide))
        exact ⟨A9, c9, k8, e, o, q, upd_keep l3, upd_keep l11⟩), (fun h => by
        obtain ⟨gB, e, h1, r⟩ := f15 (upd_ne h (by decide))
        exact ⟨gB, e, h1, r.imp (fun e => upd_keep e) (fun r => r)⟩), (fun h => by
        obtain ⟨gB, A9, c9, k8, e, r, o, q, l3, l11, l15⟩ := f16 (upd_ne h (by decide))
        exact ⟨gB, A9, c9, k8, e, r, o, q, upd_keep l3, upd_keep l11, upd_keep l15⟩)⟩
    · obtain rfl := Option.some.inj ho
      have g4 := f4 (hd ⟨4, .data⟩ (by simp) rfl)
      subst g4
      have y0 : ww.cell? ⟨b, 0, none⟩ = some (.slice A1 nn c1) := (I0.cell (p := ⟨b, 0, none⟩) hbl).trans x0
      refine wpOp_step rfl (fun K' hK => ?_)
      go_simp
      refine hK _ _ ?_
      exact ⟨_, _, _, _, _, _, _, _, _, _, _, _, _, _, _, _, rfl, (I0), (fun h => (f0 (upd_ne h (by decide))).imp (fun e => upd_keep e) (fun ⟨gA, e, h1, h2⟩ => ⟨gA, e, h1, h2⟩)), (fun h => f1 (upd_ne h (by decide))), (fun h => f2 (upd_ne h (by decide))), (fun h => (f3 (upd_ne h (by decide))).imp (fun e => upd_keep e) (fun o => o)), (fun h => f4 (upd_ne h (by decide))), (fun _ => rfl), (fun h => f6 (upd_ne h (by decide))), (fun h => f7 (upd_ne h (by decide))), (fun h => by
        obtain ⟨k8, e, q⟩ := f8 (upd_ne h (by decide))
        exact ⟨k8, e, q⟩), (fun h => by
        obtain ⟨k8, e, q⟩ := f9 (upd_ne h (by decide))
        exact ⟨k8, e, q⟩), (fun h => (f10 (upd_ne h (by decide))).imp (fun e => upd_keep e) (fun ⟨gs, k8, e, r, q⟩ => ⟨gs, k8, e, r, q⟩)), (fun h => by
        obtain ⟨A9, c9, k8, e, o, q, l3⟩ := f11 (upd_ne h (by decide))
        exact ⟨A9, c9, k8, e, o, q, upd_keep l3⟩), (fun h => f12 (upd_ne h (by decide))), (fun h => f13 (upd_ne h (by decide))), (fun h => by
        obtain ⟨A9, c9, k8, e, o, q, l3, l11⟩ := f14 (upd_ne h (by decide))
        exact ⟨A9, c9, k8, e, o, q, upd_keep l3, upd_keep l11⟩), (fun h => by
        obtain ⟨gB, e, h1, r⟩ := f15 (upd_ne h (by decide))
        exact ⟨gB, e, h1, r.imp (fun e => upd_keep e) (fun r => r)⟩), (fun h => by
        obtain ⟨gB, A9, c9, k8, e, r, o, q, l3, l11, l15⟩ := f16 (upd_ne h (by decide))
        exact ⟨gB, A9, c9, k8, e, r, o, q, upd_keep l3, upd_keep l11, upd_keep l15⟩)⟩
    · obtain rfl := Option.some.inj ho
      have g5 := f5 (hd ⟨5, .data⟩ (by simp) rfl)
      subst g5
      refine wpOp_step rfl (fun K' hK => ?_)
      go_simp
      refine hK _ _ ?_
      exact ⟨_, _, _, _, _, _, _, _, _, _, _, _, _, _, _, _, rfl, (I0), (fun h => (f0 (upd_ne h (by decide))).imp (fun e => upd_keep e) (fun ⟨gA, e, h1, h2⟩ => ⟨gA, e, h1, h2⟩)), (fun h => f1 (upd_ne h (by decide))), (fun h => f2 (upd_ne h (by decide))), (fun h => (f3 (upd_ne h (by decide))).imp (fun e => upd_keep e) (fun o => o)), (fun h => f4 (upd_ne h (by decide))), (fun h => f5 (upd_ne h (by decide))), (fun _ => rfl), (fun h => f7 (upd_ne h (by decide))), (fun h => by
        obtain ⟨k8, e, q⟩ := f8 (upd_ne h (by decide))
        exact ⟨k8, e, q⟩), (fun h => by
        obtain ⟨k8, e, q⟩ := f9 (upd_ne h (by decide))
        exact ⟨k8, e, q⟩), (fun h => (f10 (upd_ne h (by decide))).imp (fun e => upd_keep e) (fun ⟨gs, k8, e, r, q⟩ => ⟨gs, k8, e, r, q⟩)), (fun h => by
        obtain ⟨A9, c9, k8, e, o, q, l3⟩ := f11 (upd_ne h (by decide))
        exact ⟨A9, c9, k8, e, o, q, upd_keep l3⟩), (fun h => f12 (upd_ne h (by decide))), (fun h => f13 (upd_ne h (by decide))), (fun h => by
        obtain ⟨A9, c9, k8, e, o, q, l3, l11⟩ := f14 (upd_ne h (by decide))
        exact ⟨A9, c9, k8, e, o, q, upd_keep l3, upd_keep l11⟩), (fun h => by
        obtain ⟨gB, e, h1, r⟩ := f15 (upd_ne h (by decide))
        exact ⟨gB, e, h1, r.imp (fun e => upd_keep e) (fun r => r)⟩), (fun h => by
        obtain ⟨gB, A9, c9, k8, e, r, o, q, l3, l11, l15⟩ := f16 (upd_ne h (by decide))
        exact ⟨gB, A9, c9, k8, e, r, o, q, upd_keep l3, upd_keep l11, upd_keep l15⟩)⟩
    · obtain rfl := Option.some.inj ho
      have g6 := f6 (hd ⟨6, .data⟩ (by simp) rfl)
      subst g6
      refine wpOp_step rfl (fun K' hK => ?_)
      go_simp
      refine hK _ _ ?_
      exact ⟨_, _, _, _, _, _, _, _, _, _, _, _, _, _, _, _, rfl, (I0), (fun h => (f0 (upd_ne h (by decide))).imp (fun e => upd_keep e) (fun ⟨gA, e, h1, h2⟩ => ⟨gA, e, h1, h2⟩)), (fun h => f1 (upd_ne h (by decide))), (fun h => f2 (upd_ne h (by decide))), (fun h => (f3 (upd_ne h (by decide))).imp (fun e => upd_keep e) (fun o => o)), (fun h => f4 (upd_ne h (by decide))), (fun h => f5 (upd_ne h (by decide))), (fun h => f6 (upd_ne h (by decide))), (fun _ => rfl), (fun h => by
        obtain ⟨k8, e, q⟩ := f8 (upd_ne h (by decide))
        exact ⟨k8, e, q⟩), (fun h => by
        obtain ⟨k8, e, q⟩ := f9 (upd_ne h (by decide))
        exact ⟨k8, e, q⟩), (fun h => (f10 (upd_ne h (by decide))).imp (fun e => upd_keep e) (fun ⟨gs, k8, e, r, q⟩ => ⟨gs, k8, e, r, q⟩)), (fun h => by
        obtain ⟨A9, c9, k8, e, o, q, l3⟩ := f11 (upd_ne h (by decide))
        exact ⟨A9, c9, k8, e, o, q, upd_keep l3⟩), (fun h => f12 (upd_ne h (by decide))), (fun h => f13 (upd_ne h (by decide))), (fun h => by
        obtain ⟨A9, c9, k8, e, o, q, l3, l11⟩ := f14 (upd_ne h (by decide))
        exact ⟨A9, c9, k8, e, o, q, upd_keep l3, upd_keep l11⟩), (fun h => by
        obtain ⟨gB, e, h1, r⟩ := f15 (upd_ne h (by decide))
        exact ⟨gB, e, h1, r.imp (fun e => upd_keep e) (fun r => r)⟩), (fun h => by
        obtain ⟨gB, A9, c9, k8, e, r, o, q, l3, l11, l15⟩ := f16 (upd_ne h (by decide))
        exact ⟨gB, A9, c9, k8, e, r, o, q, upd_keep l3, upd_keep l11, upd_keep l15⟩)⟩
    · obtain rfl := Option.some.inj ho
      have g7 := f7 (hd ⟨7, .data⟩ (by simp) rfl)
      subst g7
      refine wpOp_step rfl (fun K' hK => ?_)
      go_simp
      refine hK _ _ ?_
      exact ⟨_, _, _, _, _, _, _, _, _, _, _, _, _, _, _, _, rfl, (I0.alloc I0.size _), (fun h => (f0 (upd_ne h (by decide))).imp (fun e => upd_keep e) (fun ⟨gA, e, h1, h2⟩ => ⟨gA, e, h1, h2.alloc _⟩)), (fun h => f1 (upd_ne h (by decide))), (fun h => f2 (upd_ne h (by decide))), (fun h => (f3 (upd_ne h (by decide))).imp (fun e => upd_keep e) (fun o => World.ownsRow.alloc o _)), (fun h => f4 (upd_ne h (by decide))), (fun h => f5 (upd_ne h (by decide))), (fun h => f6 (upd_ne h (by decide))), (fun h => f7 (upd_ne h (by decide))), (fun _ => ⟨ww.heap.size, rfl, I0.size, Rw.new ww _ _⟩), (fun h => by
        obtain ⟨k8, e, q⟩ := f9 (upd_ne h (by decide))
        exact ⟨k8, e, q.alloc _⟩), (fun h => (f10 (upd_ne h (by decide))).imp (fun e => upd_keep e) (fun ⟨gs, k8, e, r, q⟩ => ⟨gs, k8, e, r.alloc _, q.alloc _⟩)), (fun h => by
        obtain ⟨A9, c9, k8, e, o, q, l3⟩ := f11 (upd_ne h (by decide))
        exact ⟨A9, c9, k8, e, World.ownsRow.alloc o _, q.alloc _, upd_keep l3⟩), (fun h => f12 (upd_ne h (by decide))), (fun h => f13 (upd_ne h (by decide))), (fun h => by
        obtain ⟨A9, c9, k8, e, o, q, l3, l11⟩ := f14 (upd_ne h (by decide))
        exact ⟨A9, c9, k8, e, World.ownsRow.alloc o _, q.alloc _, upd_keep l3, upd_keep l11⟩), (fun h => by
        obtain ⟨gB, e, h1, r⟩ := f15 (upd_ne h (by decide))
        exact ⟨gB, e, h1, r.imp (fun e => upd_keep e) (fun r => r.alloc _)⟩), (fun h => by
        obtain ⟨gB, A9, c9, k8, e, r, o, q, l3, l11, l15⟩ := f16 (upd_ne h (by decide))
        exact ⟨gB, A9, c9, k8, e, r.alloc _, World.ownsRow.alloc o _, q.alloc _, upd_keep l3, upd_keep l11, upd_keep l15⟩)⟩
    · obtain rfl := Option.some.inj ho
      have g8 := f8 (hd ⟨8, .data⟩ (by simp) rfl)
      obtain ⟨k8, rfl, q8⟩ := g8
      refine wpOp_step rfl (fun K' hK => ?_)
      go_simp
      refine hK _ _ ?_
      exact ⟨_, _, _, _, _, _, _, _, _, _, _, _, _, _, _, _, rfl, (I0), (fun h => (f0 (upd_ne h (by decide))).imp (fun e => upd_keep e) (fun ⟨gA, e, h1, h2⟩ => ⟨gA, e, h1, h2⟩)), (fun h => f1 (upd_ne h (by decide))), (fun h => f2 (upd_ne h (by decide))), (fun h => (f3 (upd_ne h (by decide))).imp (fun e => upd_keep e) (fun o => o)), (fun h => f4 (upd_ne h (by decide))), (fun h => f5 (upd_ne h (by decide))), (fun h => f6 (upd_ne h (by decide))), (fun h => f7 (upd_ne h (by decide))), (fun _ => ⟨k8, rfl, q8⟩), (fun _ => ⟨k8, rfl, q8⟩), (fun h => (f10 (upd_ne h (by decide))).imp (fun e => upd_keep e) (fun ⟨gs, k8, e, r, q⟩ => ⟨gs, k8, e, r, q⟩)), (fun h => by
        obtain ⟨A9, c9, k8, e, o, q, l3⟩ := f11 (upd_ne h (by decide))
        exact ⟨A9, c9, k8, e, o, q, upd_keep l3⟩), (fun h => f12 (upd_ne h (by decide))), (fun h => f13 (upd_ne h (by decide))), (fun h => by
        obtain ⟨A9, c9, k8, e, o, q, l3, l11⟩ := f14 (upd_ne h (by decide))
        exact ⟨A9, c9, k8, e, o, q, upd_keep l3, upd_keep l11⟩), (fun h => by
        obtain ⟨gB, e, h1, r⟩ := f15 (upd_ne h (by decide))
        exact ⟨gB, e, h1, r.imp (fun e => upd_keep e) (fun r => r)⟩), (fun h => by
        obtain ⟨gB, A9, c9, k8, e, r, o, q, l3, l11, l15⟩ := f16 (upd_ne h (by decide))
        exact ⟨gB, A9, c9, k8, e, r, o, q, upd_keep l3, upd_keep l11, upd_keep l15⟩)⟩
    · obtain rfl := Option.some.inj ho
      have g9 := f9 (hd ⟨9, .data⟩ (by simp) rfl)
      obtain ⟨k8, rfl, q8⟩ := g9
      refine wpOp_step rfl (fun K' hK => ?_)
      go_simp
      refine hK _ _ ?_
      exact ⟨_, _, _, _, _, _, _, _, _, _, _, _, _, _, _, _, rfl, (I0.alloc I0.size _), (fun h => (f0 (upd_ne h (by decide))).imp (fun e => upd_keep e) (fun ⟨gA, e, h1, h2⟩ => ⟨gA, e, h1, h2.alloc _⟩)), (fun h => f1 (upd_ne h (by decide))), (fun h => f2 (upd_ne h (by decide))), (fun h => (f3 (upd_ne h (by decide))).imp (fun e => upd_keep e) (fun o => World.ownsRow.alloc o _)), (fun h => f4 (upd_ne h (by decide))), (fun h => f5 (upd_ne h (by decide))), (fun h => f6 (upd_ne h (by decide))), (fun h => f7 (upd_ne h (by decide))), (fun h => by
        obtain ⟨k8, e, q⟩ := f8 (upd_ne h (by decide))
        exact ⟨k8, e, q.alloc _⟩), (fun _ => ⟨k8, rfl, q8.alloc _⟩), (fun _ => .inr ⟨ww.heap.size, k8, rfl, Rw.new ww _ _, q8.alloc _⟩), (fun h => by
        obtain ⟨A9, c9, k8, e, o, q, l3⟩ := f11 (upd_ne h (by decide))
        exact ⟨A9, c9, k8, e, World.ownsRow.alloc o _, q.alloc _, upd_keep l3⟩), (fun h => f12 (upd_ne h (by decide))), (fun h => f13 (upd_ne h (by decide))), (fun h => by
        obtain ⟨A9, c9, k8, e, o, q, l3, l11⟩ := f14 (upd_ne h (by decide))
        exact ⟨A9, c9, k8, e, World.ownsRow.alloc o _, q.alloc _, upd_keep l3, upd_keep l11⟩), (fun h => by
        obtain ⟨gB, e, h1, r⟩ := f15 (upd_ne h (by decide))
        exact ⟨gB, e, h1, r.imp (fun e => upd_keep e) (fun r => r.alloc _)⟩), (fun h => by
        obtain ⟨gB, A9, c9, k8, e, r, o, q, l3, l11, l15⟩ := f16 (upd_ne h (by decide))
        exact ⟨gB, A9, c9, k8, e, r.alloc _, World.ownsRow.alloc o _, q.alloc _, upd_keep l3, upd_keep l11, upd_keep l15⟩)⟩
    · obtain rfl := Option.some.inj ho
      have g3 := f3 (hd ⟨3, .data⟩ (by simp) rfl)
      have g10 := f10 (hd ⟨10, .data⟩ (by simp) rfl)
      rcases g3 with q | o3
      · rw [hL] at q
        cases q
      rcases g10 with q | ⟨gs, k8, rfl, rs, q8⟩
      · rw [hL] at q
        cases q
      have l3 := hd ⟨3, .data⟩ (by simp) rfl
      refine wpOp_step rfl (fun K' hK => ?_)
      refine app_stepC rfl (.tmp 31) (.tmp 38) rfl w5.heap.size _ nn fs rfl o3 gs true 0 (some ⟨k8, 0, none⟩) 1 1 rfl rs (by omega) I0.size ?_
      intro v' w' A9 c9 e9 o1 g1 s1
      subst e9
      have hB2 := I0.grown g1 I0.size (fun kk hk => (World.ownsRow.lt o3 kk hk).1)
      refine hK _ _ ?_
      exact ⟨_, _, _, _, _, _, _, _, _, _, _, _, _, _, _, _, rfl, (hB2), (fun _ => .inl (upd_keep l3)), (fun h => f1 (upd_ne h (by decide))), (fun h => f2 (upd_ne h (by decide))), (fun _ => .inl upd_self), (fun h => f4 (upd_ne h (by decide))), (fun h => f5 (upd_ne h (by decide))), (fun h => f6 (upd_ne h (by decide))), (fun h => f7 (upd_ne h (by decide))), (fun h => by
        obtain ⟨k8, e, q⟩ := f8 (upd_ne h (by decide))
        exact ⟨k8, e, q.far g1 (row_type o3 q.2 (by decide))⟩), (fun h => by
        obtain ⟨k8, e, q⟩ := f9 (upd_ne h (by decide))
        exact ⟨k8, e, q.far g1 (row_type o3 q.2 (by decide))⟩), (fun _ => .inl upd_self), (fun _ => ⟨A9, c9, k8, rfl, o1, q8.far g1 (row_type o3 q8.2 (by decide)), upd_keep l3⟩), (fun h => f12 (upd_ne h (by decide))), (fun h => f13 (upd_ne h (by decide))), (fun h => by
        obtain ⟨_, _, _, _, _, _, _, l11⟩ := f14 (upd_ne h (by decide))
        rw [hL] at l11
        cases l11), (fun h => by
        obtain ⟨gB, e, h1, r⟩ := f15 (upd_ne h (by decide))
        exact ⟨gB, e, h1, r.imp (fun e => upd_keep e) (fun r => r.far g1 (row_type o3 r (by decide)))⟩), (fun h => by
        obtain ⟨_, _, _, _, _, _, _, _, _, l11, _⟩ := f16 (upd_ne h (by decide))
        rw [hL] at l11
        cases l11)⟩
    · obtain rfl := Option.some.inj ho
      refine wpOp_step rfl (fun K' hK => ?_)
      go_simp
      refine hK _ _ ?_
      exact ⟨_, _, _, _, _, _, _, _, _, _, _, _, _, _, _, _, rfl, (I0), (fun h => (f0 (upd_ne h (by decide))).imp (fun e => upd_keep e) (fun ⟨gA, e, h1, h2⟩ => ⟨gA, e, h1, h2⟩)), (fun h => f1 (upd_ne h (by decide))), (fun h => f2 (upd_ne h (by decide))), (fun h => (f3 (upd_ne h (by decide))).imp (fun e => upd_keep e) (fun o => o)), (fun h => f4 (upd_ne h (by decide))), (fun h => f5 (upd_ne h (by decide))), (fun h => f6 (upd_ne h (by decide))), (fun h => f7 (upd_ne h (by decide))), (fun h => by
        obtain ⟨k8, e, q⟩ := f8 (upd_ne h (by decide))
        exact ⟨k8, e, q⟩), (fun h => by
        obtain ⟨k8, e, q⟩ := f9 (upd_ne h (by decide))
        exact ⟨k8, e, q⟩), (fun h => (f10 (upd_ne h (by decide))).imp (fun e => upd_keep e) (fun ⟨gs, k8, e, r, q⟩ => ⟨gs, k8, e, r, q⟩)), (fun h => by
        obtain ⟨A9, c9, k8, e, o, q, l3⟩ := f11 (upd_ne h (by decide))
        exact ⟨A9, c9, k8, e, o, q, upd_keep l3⟩), (fun _ => rfl), (fun h => f13 (upd_ne h (by decide))), (fun h => by
        obtain ⟨A9, c9, k8, e, o, q, l3, l11⟩ := f14 (upd_ne h (by decide))
        exact ⟨A9, c9, k8, e, o, q, upd_keep l3, upd_keep l11⟩), (fun h => by
        obtain ⟨gB, e, h1, r⟩ := f15 (upd_ne h (by decide))
        exact ⟨gB, e, h1, r.imp (fun e => upd_keep e) (fun r => r)⟩), (fun h => by
        obtain ⟨gB, A9, c9, k8, e, r, o, q, l3, l11, l15⟩ := f16 (upd_ne h (by decide))
        exact ⟨gB, A9, c9, k8, e, r, o, q, upd_keep l3, upd_keep l11, upd_keep l15⟩)⟩
    · obtain rfl := Option.some.inj ho
      have g12 := f12 (hd ⟨12, .data⟩ (by simp) rfl)
      subst g12
      have y1 : ww.cell? ⟨b, 1, none⟩ = some (.slice R1 4 d1) := (I0.cell (p := ⟨b, 1, none⟩) hbl).trans x1
      refine wpOp_step rfl (fun K' hK => ?_)
      go_simp
      refine hK _ _ ?_
      exact ⟨_, _, _, _, _, _, _, _, _, _, _, _, _, _, _, _, rfl, (I0), (fun h => (f0 (upd_ne h (by decide))).imp (fun e => upd_keep e) (fun ⟨gA, e, h1, h2⟩ => ⟨gA, e, h1, h2⟩)), (fun h => f1 (upd_ne h (by decide))), (fun h => f2 (upd_ne h (by decide))), (fun h => (f3 (upd_ne h (by decide))).imp (fun e => upd_keep e) (fun o => o)), (fun h => f4 (upd_ne h (by decide))), (fun h => f5 (upd_ne h (by decide))), (fun h => f6 (upd_ne h (by decide))), (fun h => f7 (upd_ne h (by decide))), (fun h => by
        obtain ⟨k8, e, q⟩ := f8 (upd_ne h (by decide))
        exact ⟨k8, e, q⟩), (fun h => by
        obtain ⟨k8, e, q⟩ := f9 (upd_ne h (by decide))
        exact ⟨k8, e, q⟩), (fun h => (f10 (upd_ne h (by decide))).imp (fun e => upd_keep e) (fun ⟨gs, k8, e, r, q⟩ => ⟨gs, k8, e, r, q⟩)), (fun h => by
        obtain ⟨A9, c9, k8, e, o, q, l3⟩ := f11 (upd_ne h (by decide))
        exact ⟨A9, c9, k8, e, o, q, upd_keep l3⟩), (fun h => f12 (upd_ne h (by decide))), (fun _ => rfl), (fun h => by
        obtain ⟨A9, c9, k8, e, o, q, l3, l11⟩ := f14 (upd_ne h (by decide))
        exact ⟨A9, c9, k8, e, o, q, upd_keep l3, upd_keep l11⟩), (fun h => by
        obtain ⟨gB, e, h1, r⟩ := f15 (upd_ne h (by decide))
        exact ⟨gB, e, h1, r.imp (fun e => upd_keep e) (fun r => r)⟩), (fun h => by
        obtain ⟨gB, A9, c9, k8, e, r, o, q, l3, l11, l15⟩ := f16 (upd_ne h (by decide))
        exact ⟨gB, A9, c9, k8, e, r, o, q, upd_keep l3, upd_keep l11, upd_keep l15⟩)⟩
    · obtain rfl := Option.some.inj ho
      have g11 := f11 (hd ⟨11, .data⟩ (by simp) rfl)
      have g13 := f13 (hd ⟨13, .data⟩ (by simp) rfl)
      subst g13
      obtain ⟨A9, c9, k8, rfl, o9, q8, l3⟩ := g11
      refine wpOp_step rfl (fun K' hK => ?_)
      go_simp
      refine hK _ _ ?_
      exact ⟨_, _, _, _, _, _, _, _, _, _, _, _, _, _, _, _, rfl, (I0), (fun h => (f0 (upd_ne h (by decide))).imp (fun e => upd_keep e) (fun ⟨gA, e, h1, h2⟩ => ⟨gA, e, h1, h2⟩)), (fun h => f1 (upd_ne h (by decide))), (fun h => f2 (upd_ne h (by decide))), (fun h => (f3 (upd_ne h (by decide))).imp (fun e => upd_keep e) (fun o => o)), (fun h => f4 (upd_ne h (by decide))), (fun h => f5 (upd_ne h (by decide))), (fun h => f6 (upd_ne h (by decide))), (fun h => f7 (upd_ne h (by decide))), (fun h => by
        obtain ⟨k8, e, q⟩ := f8 (upd_ne h (by decide))
        exact ⟨k8, e, q⟩), (fun h => by
        obtain ⟨k8, e, q⟩ := f9 (upd_ne h (by decide))
        exact ⟨k8, e, q⟩), (fun h => (f10 (upd_ne h (by decide))).imp (fun e => upd_keep e) (fun ⟨gs, k8, e, r, q⟩ => ⟨gs, k8, e, r, q⟩)), (fun _ => ⟨A9, c9, k8, rfl, o9, q8, upd_keep l3⟩), (fun h => f12 (upd_ne h (by decide))), (fun h => f13 (upd_ne h (by decide))), (fun _ => ⟨A9, c9, k8, rfl, o9, q8, upd_keep l3, upd_keep (hd ⟨11, .data⟩ (by simp) rfl)⟩), (fun h => by
        obtain ⟨gB, e, h1, r⟩ := f15 (upd_ne h (by decide))
        exact ⟨gB, e, h1, r.imp (fun e => upd_keep e) (fun r => r)⟩), (fun h => by
        obtain ⟨gB, A9, c9, k8, e, r, o, q, l3, l11, l15⟩ := f16 (upd_ne h (by decide))
        exact ⟨gB, A9, c9, k8, e, r, o, q, upd_keep l3, upd_keep l11, upd_keep l15⟩)⟩
    · obtain rfl := Option.some.inj ho
      refine wpOp_step rfl (fun K' hK => ?_)
      go_simp
      refine hK _ _ ?_
      exact ⟨_, _, _, _, _, _, _, _, _, _, _, _, _, _, _, _, rfl, (I0.alloc I0.size _), (fun h => (f0 (upd_ne h (by decide))).imp (fun e => upd_keep e) (fun ⟨gA, e, h1, h2⟩ => ⟨gA, e, h1, h2.alloc _⟩)), (fun h => f1 (upd_ne h (by decide))), (fun h => f2 (upd_ne h (by decide))), (fun h => (f3 (upd_ne h (by decide))).imp (fun e => upd_keep e) (fun o => World.ownsRow.alloc o _)), (fun h => f4 (upd_ne h (by decide))), (fun h => f5 (upd_ne h (by decide))), (fun h => f6 (upd_ne h (by decide))), (fun h => f7 (upd_ne h (by decide))), (fun h => by
        obtain ⟨k8, e, q⟩ := f8 (upd_ne h (by decide))
        exact ⟨k8, e, q.alloc _⟩), (fun h => by
        obtain ⟨k8, e, q⟩ := f9 (upd_ne h (by decide))
        exact ⟨k8, e, q.alloc _⟩), (fun h => (f10 (upd_ne h (by decide))).imp (fun e => upd_keep e) (fun ⟨gs, k8, e, r, q⟩ => ⟨gs, k8, e, r.alloc _, q.alloc _⟩)), (fun h => by
        obtain ⟨A9, c9, k8, e, o, q, l3⟩ := f11 (upd_ne h (by decide))
        exact ⟨A9, c9, k8, e, World.ownsRow.alloc o _, q.alloc _, upd_keep l3⟩), (fun h => f12 (upd_ne h (by decide))), (fun h => f13 (upd_ne h (by decide))), (fun h => by
        obtain ⟨A9, c9, k8, e, o, q, l3, l11⟩ := f14 (upd_ne h (by decide))
        exact ⟨A9, c9, k8, e, World.ownsRow.alloc o _, q.alloc _, upd_keep l3, upd_keep l11⟩), (fun _ => ⟨ww.heap.size, rfl, I0.size, .inr (Rw.new ww _ _)⟩), (fun h => by
        obtain ⟨_, _, _, _, _, _, _, _, _, _, l15⟩ := f16 (upd_ne h (by decide))
        rw [hL] at l15
        cases l15)⟩
    · obtain rfl := Option.some.inj ho
      have g15 := f15 (hd ⟨15, .data⟩ (by simp) rfl)
      have g14 := f14 (hd ⟨14, .data⟩ (by simp) rfl)
      obtain ⟨gB, rfl, hgB, rB⟩ := g15
      rcases rB with q | rB
      · rw [hL] at q
        cases q
      obtain ⟨A9, c9, k8, rfl, o9, q8, l3, l11⟩ := g14
      have l15 := hd ⟨15, .data⟩ (by simp) rfl
      have u0 := rB.cell 0
      have u1 := rB.cell 1
      have v0 := rB.frozen 0
      have v1 := rB.frozen 1
      simp at u0 u1
      have hne := row_type o9 rB (by decide)
      have hn8 := rw_type q8.2 rB (by decide)
      refine wpOp_step rfl (fun K' hK => ?_)
      go_simp
      refine hK _ _ ?_
      exact ⟨_, _, _, _, _, _, _, _, _, _, _, _, _, _, _, _, rfl, ((I0.setCell (p := ⟨gB, 0, none⟩) hgB _).setCell (p := ⟨gB, 1, none⟩) hgB _), (fun _ => .inl (upd_keep l3)), (fun h => f1 (upd_ne h (by decide))), (fun h => f2 (upd_ne h (by decide))), (fun _ => .inl (upd_keep l11)), (fun h => f4 (upd_ne h (by decide))), (fun h => f5 (upd_ne h (by decide))), (fun h => f6 (upd_ne h (by decide))), (fun h => f7 (upd_ne h (by decide))), (fun h => by
        obtain ⟨k8, e, q⟩ := f8 (upd_ne h (by decide))
        exact ⟨k8, e, q.put (rw_type q.2 rB (by decide)) 0 1 _ _⟩), (fun h => by
        obtain ⟨k8, e, q⟩ := f9 (upd_ne h (by decide))
        exact ⟨k8, e, q.put (rw_type q.2 rB (by decide)) 0 1 _ _⟩), (fun _ => .inl (upd_keep l11)), (fun h => by
        obtain ⟨A9, c9, k8, e, o, q, l3⟩ := f11 (upd_ne h (by decide))
        exact ⟨A9, c9, k8, e, row_put2 o (row_type o rB (by decide)) 0 1 _ _, q.put (rw_type q.2 rB (by decide)) 0 1 _ _, upd_keep l3⟩), (fun h => f12 (upd_ne h (by decide))), (fun h => f13 (upd_ne h (by decide))), (fun _ => ⟨A9, c9, k8, rfl, row_put2 o9 hne 0 1 _ _, q8.put hn8 0 1 _ _, upd_keep l3, upd_keep l11⟩), (fun _ => ⟨gB, rfl, hgB, .inl upd_self⟩), (fun _ => ⟨gB, A9, c9, k8, rfl, (rB.put 0 _).put 1 _, row_put2 o9 hne 0 1 _ _, q8.put hn8 0 1 _ _, upd_keep l3, upd_keep l11, upd_keep l15⟩)⟩
  case hdone =>
    rintro L ac ww hall ⟨t6, t28, t29, t30, t31, t32, t33, t34, t35, t36, t37, t38, t39, t40, t41, t42, rfl, I0, f0, f1, f2, f3, f4, f5, f6, f7, f8, f9, f10, f11, f12, f13, f14, f15, f16⟩
    have e0 := f0 (hall 0 (by decide))
    have e1 := f1 (hall 1 (by decide))
    have e2 := f2 (hall 2 (by decide))
    have e3 := f3 (hall 3 (by decide))
    have e4 := f4 (hall 4 (by decide))
    have e5 := f5 (hall 5 (by decide))
    have e6 := f6 (hall 6 (by decide))
    have e7 := f7 (hall 7 (by decide))
    have e8 := f8 (hall 8 (by decide))
    have e9 := f9 (hall 9 (by decide))
    have e10 := f10 (hall 10 (by decide))
    have e11 := f11 (hall 11 (by decide))
    have e12 := f12 (hall 12 (by decide))
    have e13 := f13 (hall 13 (by decide))
    have e14 := f14 (hall 14 (by decide))
    have e15 := f15 (hall 15 (by decide))
    have e16 := f16 (hall 16 (by decide))
    clear f0 f1 f2 f3 f4 f5 f6 f7 f8 f9 f10 f11 f12 f13 f14 f15 f16
    obtain ⟨gB, A9, c9, k8, e6, rB, o9, q8, -⟩ := e16
    subst e6
    clear e0 e1 e2 e3 e4 e5 e6 e7 e8 e9 e10 e11 e12 e13 e14 e15 hall
    have rfs := HRV.out.below I0
    have rfs2 : RefsAt ww ww.heap.size hh.cs rvs := ⟨rfs.1, fun k c v hc hv => by
      obtain ⟨A', m, cc, e, hm, hi⟩ := rfs.2 k c v hc hv
      exact ⟨A', m, cc, e, hm, hi.more I0.size⟩⟩
    rw [← HFS.out] at o9
    obtain ⟨sBc, hc9⟩ := grown_reads hlc o9 q8.2 rfs2
    have s7 := hs5.up I0
    have sB : HS ww ww.heap.size A9 (nn + 1) R1 4 ⟨hh.cs ++ [⟨true, 0, [(nn : Int) + 1]⟩], hh.rt⟩ := ⟨sBc, s7.roots⟩
    have sA7 := sA.up I0
    have ha7 := ha5.keep I0 hal
    have bx7 := bx5.keep I0 hbl
    have bb7 := bb5.trans (I0.mono bb5.size)
    clear sBc o9 q8 rfs rfs2 sA hs5 ha5 bx5 bb5 x0 x1 HRV HSRC HONE HFL HFS I0
    go_upto_region 11 with fail
    generalize ww = w7 at *
    have hbl := bx7.lt
    have hal := ha7.lt
    have hBl := rB.lt
    have x0 : w7.cell? ⟨b, 0, none⟩ = some (.slice A1 nn c1) := bx7.cell 0
    have x1 : w7.cell? ⟨b, 1, none⟩ = some (.slice R1 4 d1) := bx7.cell 1
    have p0 : w7.cell? ⟨ga, 0, none⟩ = some (.slice A1 nn c1) := ha7.cell 0
    have p1 : w7.cell? ⟨ga, 1, none⟩ = some (.slice (some ⟨gr, 0, none⟩) 4 4) := ha7.cell 1
    have q0 : w7.cell? ⟨gB, 0, none⟩ = some (.slice A9 (nn + 1) c9) := rB.cell 0
    have q1 : w7.cell? ⟨gB, 1, none⟩ = some (.slice R1 4 d1) := rB.cell 1
    refine wp_region_inv (by kernel_rfl) (by kernel_rfl) (fun L ac ww => ∃ t2 t43 t44 t45 t46 t47 t48 t49 t50 t51 t52 t53 t54 t55 t56 t57 t58 : Value, ac = { tmps := #[Value.slice A n c, undef, t2, Value.pointer (some { block := b, off := 0 }), Value.bool true, Value.pointer (some { block := ga, off := 0 }), Value.pointer (some { block := gB, off := 0 }), Value.slice A n c, Value.int IntKind.i64 ↑n, Value.bool false, Value.slice A n c, heapV A1 nn c1 R1 4 d1, Value.agg #[Value.slice A1 nn c1, Value.slice R1 4 d1], Value.bool true, Value.bool true, Value.agg #[Value.slice A1 nn c1, Value.slice R1 4 d1], Value.bool true, Value.bool false, Value.bool true, Value.bool false, undef, Value.pointer (some { block := b, off := 0 }), Value.slice A1 nn c1, Value.pointer (some { block := b, off := 0 }), Value.slice A1 nn c1, Value.int IntKind.i64 ↑nn, Value.slice (some { block := gr, off := 0 }) 4 4, Value.agg #[Value.slice A1 nn c1, Value.slice (some { block := gr, off := 0 }) 4 4], t28, t29, t30, t31, t32, t33, t34, t35, t36, t37, t38, t39, t40, t41, t42, t43, t44, t45, t46, t47, t48, t49, t50, t51, t52, t53, t54, t55, t56, t57, t58], defers := [] } ∧ (Below w7.heap.size w7 ww) ∧ (L 0 = true → t43 = .agg #[.slice A1 nn c1, .slice (some ⟨gr, 0, none⟩) 4 4]) ∧ (L 1 = true → t44 = .bool false) ∧ (L 2 = true → t45 = .bool true) ∧ (L 3 = true → t46 = .bool true) ∧ (L 4 = true → t47 = .agg #[.slice A9 (nn + 1) c9, .slice R1 4 d1]) ∧ (L 5 = true → t48 = .bool false) ∧ (L 6 = true → t49 = .bool true) ∧ (L 7 = true → t50 = .bool true) ∧ (L 8 = true → t51 = .bool true) ∧ (L 9 = true → t52 = (.pointer (some ⟨b, 0, none⟩))) ∧ (L 10 = true → t53 = .slice A1 nn c1) ∧ (L 11 = true → ∃ (Ac : Option Addr) (nc cc : Nat) (Re : Option Addr) (de : Nat), t54 = .agg #[.slice Ac nc cc, .slice Re 4 de] ∧ 4 ≤ de ∧ IS ww ww.heap.size Re 4 [-1, -1, -1, -1]) ∧ (L 12 = true → ∃ (Re : Option Addr) (de : Nat), t55 = .slice Re 4 de ∧ 4 ≤ de ∧ IS ww ww.heap.size Re 4 [-1, -1, -1, -1]) ∧ (L 13 = true → ∃ (Re : Option Addr) (de : Nat), t56 = .agg #[.slice A1 nn c1, .slice Re 4 de] ∧ 4 ≤ de ∧ IS ww ww.heap.size Re 4 [-1, -1, -1, -1]) ∧ (L 14 = true → t57 = .bool true) ∧ (L 15 = true → t58 = .bool true) ∧ (L 16 = true → t2 = .bool true)) ?h0 ?hstep ?hdone
    case h0 => exact ⟨_, _, _, _, _, _, _, _, _, _, _, _, _, _, _, _, _, rfl, (Below.refl _ _).drew, (fun h => absurd h Bool.false_ne_true), (fun h => absurd h Bool.false_ne_true), (fun h => absurd h Bool.false_ne_true), (fun h => absurd h Bool.false_ne_true), (fun h => absurd h Bool.false_ne_true), (fun h => absurd h Bool.false_ne_true), (fun h => absurd h Bool.false_ne_true), (fun h => absurd h Bool.false_ne_true), (fun h => absurd h Bool.false_ne_true), (fun h => absurd h Bool.false_ne_true), (fun h => absurd h Bool.false_ne_true), (fun h => absurd h Bool.false_ne_true), (fun h => absurd h Bool.false_ne_true), (fun h => absurd h Bool.false_ne_true), (fun h => absurd h Bool.false_ne_true), (fun h => absurd h Bool.false_ne_true), (fun h => absurd h Bool.false_ne_true)⟩
    case hstep =>
      rintro L ac ww i o ho hL hd ⟨t2, t43, t44, t45, t46, t47, t48, t49, t50, t51, t52, t53, t54, t55, t56, t57, t58, rfl, I0, f0, f1, f2, f3, f4, f5, f6, f7, f8, f9, f10, f11, f12, f13, f14, f15, f16⟩
      have hi : i < 17 := (Array.getElem?_eq_some_iff.1 ho).1
      obtain rfl | rfl | rfl | rfl | rfl | rfl | rfl | rfl | rfl | rfl | rfl | rfl | rfl | rfl | rfl | rfl | rfl : i = 0 ∨ i = 1 ∨ i = 2 ∨ i = 3 ∨ i = 4 ∨ i = 5 ∨ i = 6 ∨ i = 7 ∨ i = 8 ∨ i = 9 ∨ i = 10 ∨ i = 11 ∨ i = 12 ∨ i = 13 ∨ i = 14 ∨ i = 15 ∨ i = 16 := by omega
      · obtain rfl := Option.some.inj ho
        have y0 : ww.cell? ⟨ga, 0, none⟩ = some (.slice A1 nn c1) := (I0.cell (p := ⟨ga, 0, none⟩) hal).trans p0
        have y1 : ww.cell? ⟨ga, 1, none⟩ = some (.slice (some ⟨gr, 0, none⟩) 4 4) := (I0.cell (p := ⟨ga, 1, none⟩) hal).trans p1
        refine wpOp_step rfl (fun K' hK => ?_)
        go_simp
        refine hK _ _ ?_
        exact ⟨_, _, _, _, _, _, _, _, _, _, _, _, _, _, _, _, _, rfl, (I0), (fun _ => rfl), (fun h => f1 (upd_ne h (by decide))), (fun h => f2 (upd_ne h (by decide))), (fun h => f3 (upd_ne h (by decide))), (fun h => f4 (upd_ne h (by decide))), (fun h => f5 (upd_ne h (by decide))), (fun h => f6 (upd_ne h (by decide))), (fun h => f7 (upd_ne h (by decide))), (fun h => f8 (upd_ne h (by decide))), (fun h => f9 (upd_ne h (by decide))), (fun h => f10 (upd_ne h (by decide))), (fun h => f11 (upd_ne h (by decide))), (fun h => f12 (upd_ne h (by decide))), (fun h => f13 (upd_ne h (by decide))), (fun h => f14 (upd_ne h (by decide))), (fun h => f15 (upd_ne h (by decide))), (fun h => f16 (upd_ne h (by decide)))⟩
      · obtain rfl := Option.some.inj ho
        have g0 := f0 (hd ⟨0, .data⟩ (by simp) rfl)
        subst g0
        refine wpOp_step rfl (fun K' hK => ?_)
        go_simp
        refine (heapValid_any _ _ _ _ _ _ _ ww (sA7.up I0) (by omega) (by omega) hc1 (Nat.le_refl _)).mono ?_
        rw [VA.out]
        rintro e w' ⟨rfl, b5⟩
        refine hK _ _ ?_
        exact ⟨_, _, _, _, _, _, _, _, _, _, _, _, _, _, _, _, _, rfl, (I0.trans (b5.mono I0.size)), (fun h => f0 (upd_ne h (by decide))), (fun _ => rfl), (fun h => f2 (upd_ne h (by decide))), (fun h => f3 (upd_ne h (by decide))), (fun h => f4 (upd_ne h (by decide))), (fun h => f5 (upd_ne h (by decide))), (fun h => f6 (upd_ne h (by decide))), (fun h => f7 (upd_ne h (by decide))), (fun h => f8 (upd_ne h (by decide))), (fun h => f9 (upd_ne h (by decide))), (fun h => f10 (upd_ne h (by decide))), (fun h => by
          obtain ⟨Ac, nc, cc, Re, de, e, hde, hi⟩ := f11 (upd_ne h (by decide))
          exact ⟨Ac, nc, cc, Re, de, e, hde, hi.up b5⟩), (fun h => by
          obtain ⟨Re, de, e, hde, hi⟩ := f12 (upd_ne h (by decide))
          exact ⟨Re, de, e, hde, hi.up b5⟩), (fun h => by
          obtain ⟨Re, de, e, hde, hi⟩ := f13 (upd_ne h (by decide))
          exact ⟨Re, de, e, hde, hi.up b5⟩), (fun h => f14 (upd_ne h (by decide))), (fun h => f15 (upd_ne h (by decide))), (fun h => f16 (upd_ne h (by decide)))⟩
      · obtain rfl := Option.some.inj ho
        have g1 := f1 (hd ⟨1, .data⟩ (by simp) rfl)
        subst g1
        refine wpOp_step rfl (fun K' hK => ?_)
        go_simp
        refine hK _ _ ?_
        exact ⟨_, _, _, _, _, _, _, _, _, _, _, _, _, _, _, _, _, rfl, (I0), (fun h => f0 (upd_ne h (by decide))), (fun h => f1 (upd_ne h (by decide))), (fun _ => rfl), (fun h => f3 (upd_ne h (by decide))), (fun h => f4 (upd_ne h (by decide))), (fun h => f5 (upd_ne h (by decide))), (fun h => f6 (upd_ne h (by decide))), (fun h => f7 (upd_ne h (by decide))), (fun h => f8 (upd_ne h (by decide))), (fun h => f9 (upd_ne h (by decide))), (fun h => f10 (upd_ne h (by decide))), (fun h => f11 (upd_ne h (by decide))), (fun h => f12 (upd_ne h (by decide))), (fun h => f13 (upd_ne h (by decide))), (fun h => f14 (upd_ne h (by decide))), (fun h => f15 (upd_ne h (by decide))), (fun h => f16 (upd_ne h (by decide)))⟩
      · obtain rfl := Option.some.inj ho
        have g2 := f2 (hd ⟨2, .data⟩ (by simp) rfl)
        subst g2
        refine wpOp_step rfl (fun K' hK => ?_)
        go_simp
        refine hK _ _ ?_
        exact ⟨_, _, _, _, _, _, _, _, _, _, _, _, _, _, _, _, _, rfl, (I0), (fun h => f0 (upd_ne h (by decide))), (fun h => f1 (upd_ne h (by decide))), (fun h => f2 (upd_ne h (by decide))), (fun _ => rfl), (fun h => f4 (upd_ne h (by decide))), (fun h => f5 (upd_ne h (by decide))), (fun h => f6 (upd_ne h (by decide))), (fun h => f7 (upd_ne h (by decide))), (fun h => f8 (upd_ne h (by decide))), (fun h => f9 (upd_ne h (by decide))), (fun h => f10 (upd_ne h (by decide))), (fun h => f11 (upd_ne h (by decide))), (fun h => f12 (upd_ne h (by decide))), (fun h => f13 (upd_ne h (by decide))), (fun h => f14 (upd_ne h (by decide))), (fun h => f15 (upd_ne h (by decide))), (fun h => f16 (upd_ne h (by decide)))⟩
      · obtain rfl := Option.some.inj ho
        have g3 := f3 (hd ⟨3, .guard⟩ (by simp) rfl)
        subst g3
        have y0 : ww.cell? ⟨gB, 0, none⟩ = some (.slice A9 (nn + 1) c9) := (I0.cell (p := ⟨gB, 0, none⟩) hBl).trans q0
        have y1 : ww.cell? ⟨gB, 1, none⟩ = some (.slice R1 4 d1) := (I0.cell (p := ⟨gB, 1, none⟩) hBl).trans q1
        refine wpOp_step rfl (fun K' hK => ?_)
        go_simp
        refine hK _ _ ?_
        exact ⟨_, _, _, _, _, _, _, _, _, _, _, _, _, _, _, _, _, rfl, (I0), (fun h => f0 (upd_ne h (by decide))), (fun h => f1 (upd_ne h (by decide))), (fun h => f2 (upd_ne h (by decide))), (fun h => f3 (upd_ne h (by decide))), (fun _ => rfl), (fun h => f5 (upd_ne h (by decide))), (fun h => f6 (upd_ne h (by decide))), (fun h => f7 (upd_ne h (by decide))), (fun h => f8 (upd_ne h (by decide))), (fun h => f9 (upd_ne h (by decide))), (fun h => f10 (upd_ne h (by decide))), (fun h => f11 (upd_ne h (by decide))), (fun h => f12 (upd_ne h (by decide))), (fun h => f13 (upd_ne h (by decide))), (fun h => f14 (upd_ne h (by decide))), (fun h => f15 (upd_ne h (by decide))), (fun h => f16 (upd_ne h (by decide)))⟩
      · obtain rfl := Option.some.inj ho
        have g4 := f4 (hd ⟨4, .data⟩ (by simp) rfl)
        subst g4
        have g3 := f3 (hd ⟨3, .guard⟩ (by simp) rfl)
        subst g3
        refine wpOp_step rfl (fun K' hK => ?_)
        go_simp
        refine (heapValid_any _ _ _ _ _ _ _ ww (sB.up I0) (by omega) (by omega) hc9 hd1).mono ?_
        rw [VB.out]
        rintro e w' ⟨rfl, b5⟩
        refine hK _ _ ?_
        exact ⟨_, _, _, _, _, _, _, _, _, _, _, _, _, _, _, _, _, rfl, (I0.trans (b5.mono I0.size)), (fun h => f0 (upd_ne h (by decide))), (fun h => f1 (upd_ne h (by decide))), (fun h => f2 (upd_ne h (by decide))), (fun h => f3 (upd_ne h (by decide))), (fun h => f4 (upd_ne h (by decide))), (fun _ => rfl), (fun h => f6 (upd_ne h (by decide))), (fun h => f7 (upd_ne h (by decide))), (fun h => f8 (upd_ne h (by decide))), (fun h => f9 (upd_ne h (by decide))), (fun h => f10 (upd_ne h (by decide))), (fun h => by
          obtain ⟨Ac, nc, cc, Re, de, e, hde, hi⟩ := f11 (upd_ne h (by decide))
          exact ⟨Ac, nc, cc, Re, de, e, hde, hi.up b5⟩), (fun h => by
          obtain ⟨Re, de, e, hde, hi⟩ := f12 (upd_ne h (by decide))
          exact ⟨Re, de, e, hde, hi.up b5⟩), (fun h => by
          obtain ⟨Re, de, e, hde, hi⟩ := f13 (upd_ne h (by decide))
          exact ⟨Re, de, e, hde, hi.up b5⟩), (fun h => f14 (upd_ne h (by decide))), (fun h => f15 (upd_ne h (by decide))), (fun h => f16 (upd_ne h (by decide)))⟩
      · obtain rfl := Option.some.inj ho
        have g5 := f5 (hd ⟨5, .data⟩ (by simp) rfl)
        subst g5
        have g3 := f3 (hd ⟨3, .guard⟩ (by simp) rfl)
        subst g3
        refine wpOp_step rfl (fun K' hK => ?_)
        go_simp
        refine hK _ _ ?_
        exact ⟨_, _, _, _, _, _, _, _, _, _, _, _, _, _, _, _, _, rfl, (I0), (fun h => f0 (upd_ne h (by decide))), (fun h => f1 (upd_ne h (by decide))), (fun h => f2 (upd_ne h (by decide))), (fun h => f3 (upd_ne h (by decide))), (fun h => f4 (upd_ne h (by decide))), (fun h => f5 (upd_ne h (by decide))), (fun _ => rfl), (fun h => f7 (upd_ne h (by decide))), (fun h => f8 (upd_ne h (by decide))), (fun h => f9 (upd_ne h (by decide))), (fun h => f10 (upd_ne h (by decide))), (fun h => f11 (upd_ne h (by decide))), (fun h => f12 (upd_ne h (by decide))), (fun h => f13 (upd_ne h (by decide))), (fun h => f14 (upd_ne h (by decide))), (fun h => f15 (upd_ne h (by decide))), (fun h => f16 (upd_ne h (by decide)))⟩
      · obtain rfl := Option.some.inj ho
        have g3 := f3 (hd ⟨3, .data⟩ (by simp) rfl)
        have g6 := f6 (hd ⟨6, .data⟩ (by simp) rfl)
        subst g3
        subst g6
        refine wpOp_step rfl (fun K' hK => ?_)
        go_simp
        refine hK _ _ ?_
        exact ⟨_, _, _, _, _, _, _, _, _, _, _, _, _, _, _, _, _, rfl, (I0), (fun h => f0 (upd_ne h (by decide))), (fun h => f1 (upd_ne h (by decide))), (fun h => f2 (upd_ne h (by decide))), (fun h => f3 (upd_ne h (by decide))), (fun h => f4 (upd_ne h (by decide))), (fun h => f5 (upd_ne h (by decide))), (fun h => f6 (upd_ne h (by decide))), (fun _ => rfl), (fun h => f8 (upd_ne h (by decide))), (fun h => f9 (upd_ne h (by decide))), (fun h => f10 (upd_ne h (by decide))), (fun h => f11 (upd_ne h (by decide))), (fun h => f12 (upd_ne h (by decide))), (fun h => f13 (upd_ne h (by decide))), (fun h => f14 (upd_ne h (by decide))), (fun h => f15 (upd_ne h (by decide))), (fun h => f16 (upd_ne h (by decide)))⟩
      · obtain rfl := Option.some.inj ho
        have g7 := f7 (hd ⟨7, .data⟩ (by simp) rfl)
        subst g7
        refine wpOp_step rfl (fun K' hK => ?_)
        go_simp
        refine hK _ _ ?_
        exact ⟨_, _, _, _, _, _, _, _, _, _, _, _, _, _, _, _, _, rfl, (I0), (fun h => f0 (upd_ne h (by decide))), (fun h => f1 (upd_ne h (by decide))), (fun h => f2 (upd_ne h (by decide))), (fun h => f3 (upd_ne h (by decide))), (fun h => f4 (upd_ne h (by decide))), (fun h => f5 (upd_ne h (by decide))), (fun h => f6 (upd_ne h (by decide))), (fun h => f7 (upd_ne h (by decide))), (fun _ => rfl), (fun h => f9 (upd_ne h (by decide))), (fun h => f10 (upd_ne h (by decide))), (fun h => f11 (upd_ne h (by decide))), (fun h => f12 (upd_ne h (by decide))), (fun h => f13 (upd_ne h (by decide))), (fun h => f14 (upd_ne h (by decide))), (fun h => f15 (upd_ne h (by decide))), (fun h => f16 (upd_ne h (by decide)))⟩
      · obtain rfl := Option.some.inj ho
        have g8 := f8 (hd ⟨8, .guard⟩ (by simp) rfl)
        subst g8
        refine wpOp_step rfl (fun K' hK => ?_)
        go_simp
        refine hK _ _ ?_
        exact ⟨_, _, _, _, _, _, _, _, _, _, _, _, _, _, _, _, _, rfl, (I0), (fun h => f0 (upd_ne h (by decide))), (fun h => f1 (upd_ne h (by decide))), (fun h => f2 (upd_ne h (by decide))), (fun h => f3 (upd_ne h (by decide))), (fun h => f4 (upd_ne h (by decide))), (fun h => f5 (upd_ne h (by decide))), (fun h => f6 (upd_ne h (by decide))), (fun h => f7 (upd_ne h (by decide))), (fun h => f8 (upd_ne h (by decide))), (fun _ => rfl), (fun h => f10 (upd_ne h (by decide))), (fun h => f11 (upd_ne h (by decide))), (fun h => f12 (upd_ne h (by decide))), (fun h => f13 (upd_ne h (by decide))), (fun h => f14 (upd_ne h (by decide))), (fun h => f15 (upd_ne h (by decide))), (fun h => f16 (upd_ne h (by decide)))⟩
      · obtain rfl := Option.some.inj ho
        have g9 := f9 (hd ⟨9, .data⟩ (by simp) rfl)
        subst g9
        have g8 := f8 (hd ⟨8, .guard⟩ (by simp) rfl)
        subst g8
        have y0 : ww.cell? ⟨b, 0, none⟩ = some (.slice A1 nn c1) := (I0.cell (p := ⟨b, 0, none⟩) hbl).trans x0
        refine wpOp_step rfl (fun K' hK => ?_)
        go_simp
        refine hK _ _ ?_
        exact ⟨_, _, _, _, _, _, _, _, _, _, _, _, _, _, _, _, _, rfl, (I0), (fun h => f0 (upd_ne h (by decide))), (fun h => f1 (upd_ne h (by decide))), (fun h => f2 (upd_ne h (by decide))), (fun h => f3 (upd_ne h (by decide))), (fun h => f4 (upd_ne h (by decide))), (fun h => f5 (upd_ne h (by decide))), (fun h => f6 (upd_ne h (by decide))), (fun h => f7 (upd_ne h (by decide))), (fun h => f8 (upd_ne h (by decide))), (fun h => f9 (upd_ne h (by decide))), (fun _ => rfl), (fun h => f11 (upd_ne h (by decide))), (fun h => f12 (upd_ne h (by decide))), (fun h => f13 (upd_ne h (by decide))), (fun h => f14 (upd_ne h (by decide))), (fun h => f15 (upd_ne h (by decide))), (fun h => f16 (upd_ne h (by decide)))⟩
      · obtain rfl := Option.some.inj ho
        have g8 := f8 (hd ⟨8, .guard⟩ (by simp) rfl)
        subst g8
        refine wpOp_step rfl (fun K' hK => ?_)
        go_simp
        refine (emptyRoots_any ww).mono ?_
        rintro e w' ⟨Ac, nc, cc, Re, de, rfl, hde, hi, b5⟩
        refine hK _ _ ?_
        exact ⟨_, _, _, _, _, _, _, _, _, _, _, _, _, _, _, _, _, rfl, (I0.trans (b5.mono I0.size)), (fun h => f0 (upd_ne h (by decide))), (fun h => f1 (upd_ne h (by decide))), (fun h => f2 (upd_ne h (by decide))), (fun h => f3 (upd_ne h (by decide))), (fun h => f4 (upd_ne h (by decide))), (fun h => f5 (upd_ne h (by decide))), (fun h => f6 (upd_ne h (by decide))), (fun h => f7 (upd_ne h (by decide))), (fun h => f8 (upd_ne h (by decide))), (fun h => f9 (upd_ne h (by decide))), (fun h => f10 (upd_ne h (by decide))), (fun _ => ⟨Ac, nc, cc, Re, de, rfl, hde, hi⟩), (fun h => by
          obtain ⟨Re, de, e, hde, hi⟩ := f12 (upd_ne h (by decide))
          exact ⟨Re, de, e, hde, hi.up b5⟩), (fun h => by
          obtain ⟨Re, de, e, hde, hi⟩ := f13 (upd_ne h (by decide))
          exact ⟨Re, de, e, hde, hi.up b5⟩), (fun h => f14 (upd_ne h (by decide))), (fun h => f15 (upd_ne h (by decide))), (fun h => f16 (upd_ne h (by decide)))⟩
      · obtain rfl := Option.some.inj ho
        have g11 := f11 (hd ⟨11, .data⟩ (by simp) rfl)
        have g8 := f8 (hd ⟨8, .guard⟩ (by simp) rfl)
        subst g8
        obtain ⟨Ac, nc, cc, Re, de, rfl, hde, hi⟩ := g11
        refine wpOp_step rfl (fun K' hK => ?_)
        go_simp
        refine hK _ _ ?_
        exact ⟨_, _, _, _, _, _, _, _, _, _, _, _, _, _, _, _, _, rfl, (I0), (fun h => f0 (upd_ne h (by decide))), (fun h => f1 (upd_ne h (by decide))), (fun h => f2 (upd_ne h (by decide))), (fun h => f3 (upd_ne h (by decide))), (fun h => f4 (upd_ne h (by decide))), (fun h => f5 (upd_ne h (by decide))), (fun h => f6 (upd_ne h (by decide))), (fun h => f7 (upd_ne h (by decide))), (fun h => f8 (upd_ne h (by decide))), (fun h => f9 (upd_ne h (by decide))), (fun h => f10 (upd_ne h (by decide))), (fun _ => ⟨Ac, nc, cc, Re, de, rfl, hde, hi⟩), (fun _ => ⟨Re, de, rfl, hde, hi⟩), (fun h => f13 (upd_ne h (by decide))), (fun h => f14 (upd_ne h (by decide))), (fun h => f15 (upd_ne h (by decide))), (fun h => f16 (upd_ne h (by decide)))⟩
      · obtain rfl := Option.some.inj ho
        have g10 := f10 (hd ⟨10, .data⟩ (by simp) rfl)
        have g12 := f12 (hd ⟨12, .data⟩ (by simp) rfl)
        subst g10
        have g8 := f8 (hd ⟨8, .guard⟩ (by simp) rfl)
        subst g8
        obtain ⟨Re, de, rfl, hde, hi⟩ := g12
        refine wpOp_step rfl (fun K' hK => ?_)
        go_simp
        refine hK _ _ ?_
        exact ⟨_, _, _, _, _, _, _, _, _, _, _, _, _, _, _, _, _, rfl, (I0), (fun h => f0 (upd_ne h (by decide))), (fun h => f1 (upd_ne h (by decide))), (fun h => f2 (upd_ne h (by decide))), (fun h => f3 (upd_ne h (by decide))), (fun h => f4 (upd_ne h (by decide))), (fun h => f5 (upd_ne h (by decide))), (fun h => f6 (upd_ne h (by decide))), (fun h => f7 (upd_ne h (by decide))), (fun h => f8 (upd_ne h (by decide))), (fun h => f9 (upd_ne h (by decide))), (fun h => f10 (upd_ne h (by decide))), (fun h => f11 (upd_ne h (by decide))), (fun _ => ⟨Re, de, rfl, hde, hi⟩), (fun _ => ⟨Re, de, rfl, hde, hi⟩), (fun h => f14 (upd_ne h (by decide))), (fun h => f15 (upd_ne h (by decide))), (fun h => f16 (upd_ne h (by decide)))⟩
      · obtain rfl := Option.some.inj ho
        have g13 := f13 (hd ⟨13, .data⟩ (by simp) rfl)
        have g8 := f8 (hd ⟨8, .guard⟩ (by simp) rfl)
        subst g8
        obtain ⟨Re, de, rfl, hde, hi⟩ := g13
        refine wpOp_step rfl (fun K' hK => ?_)
        go_simp
        refine (heapValid_any _ _ _ _ _ _ ⟨hh.cs, [-1, -1, -1, -1]⟩ ww ⟨(s7.up I0).cells, hi⟩ (by omega) (by omega) hc1 hde).mono ?_
        rw [VC.out]
        rintro e w' ⟨rfl, b5⟩
        refine hK _ _ ?_
        exact ⟨_, _, _, _, _, _, _, _, _, _, _, _, _, _, _, _, _, rfl, (I0.trans (b5.mono I0.size)), (fun h => f0 (upd_ne h (by decide))), (fun h => f1 (upd_ne h (by decide))), (fun h => f2 (upd_ne h (by decide))), (fun h => f3 (upd_ne h (by decide))), (fun h => f4 (upd_ne h (by decide))), (fun h => f5 (upd_ne h (by decide))), (fun h => f6 (upd_ne h (by decide))), (fun h => f7 (upd_ne h (by decide))), (fun h => f8 (upd_ne h (by decide))), (fun h => f9 (upd_ne h (by decide))), (fun h => f10 (upd_ne h (by decide))), (fun h => by
          obtain ⟨Ac, nc, cc, Re, de, e, hde, hi⟩ := f11 (upd_ne h (by decide))
          exact ⟨Ac, nc, cc, Re, de, e, hde, hi.up b5⟩), (fun h => by
          obtain ⟨Re, de, e, hde, hi⟩ := f12 (upd_ne h (by decide))
          exact ⟨Re, de, e, hde, hi.up b5⟩), (fun _ => ⟨Re, de, rfl, hde, hi.up b5⟩), (fun _ => rfl), (fun h => f15 (upd_ne h (by decide))), (fun h => f16 (upd_ne h (by decide)))⟩
      · obtain rfl := Option.some.inj ho
        have g8 := f8 (hd ⟨8, .data⟩ (by simp) rfl)
        have g14 := f14 (hd ⟨14, .data⟩ (by simp) rfl)
        subst g8
        subst g14
        refine wpOp_step rfl (fun K' hK => ?_)
        go_simp
        refine hK _ _ ?_
        exact ⟨_, _, _, _, _, _, _, _, _, _, _, _, _, _, _, _, _, rfl, (I0), (fun h => f0 (upd_ne h (by decide))), (fun h => f1 (upd_ne h (by decide))), (fun h => f2 (upd_ne h (by decide))), (fun h => f3 (upd_ne h (by decide))), (fun h => f4 (upd_ne h (by decide))), (fun h => f5 (upd_ne h (by decide))), (fun h => f6 (upd_ne h (by decide))), (fun h => f7 (upd_ne h (by decide))), (fun h => f8 (upd_ne h (by decide))), (fun h => f9 (upd_ne h (by decide))), (fun h => f10 (upd_ne h (by decide))), (fun h => f11 (upd_ne h (by decide))), (fun h => f12 (upd_ne h (by decide))), (fun h => f13 (upd_ne h (by decide))), (fun h => f14 (upd_ne h (by decide))), (fun _ => rfl), (fun h => f16 (upd_ne h (by decide)))⟩
      · obtain rfl := Option.some.inj ho
        have g15 := f15 (hd ⟨15, .data⟩ (by simp) rfl)
        subst g15
        refine wpOp_step rfl (fun K' hK => ?_)
        go_simp
        refine hK _ _ ?_
        exact ⟨_, _, _, _, _, _, _, _, _, _, _, _, _, _, _, _, _, rfl, (I0), (fun h => f0 (upd_ne h (by decide))), (fun h => f1 (upd_ne h (by decide))), (fun h => f2 (upd_ne h (by decide))), (fun h => f3 (upd_ne h (by decide))), (fun h => f4 (upd_ne h (by decide))), (fun h => f5 (upd_ne h (by decide))), (fun h => f6 (upd_ne h (by decide))), (fun h => f7 (upd_ne h (by decide))), (fun h => f8 (upd_ne h (by decide))), (fun h => f9 (upd_ne h (by decide))), (fun h => f10 (upd_ne h (by decide))), (fun h => f11 (upd_ne h (by decide))), (fun h => f12 (upd_ne h (by decide))), (fun h => f13 (upd_ne h (by decide))), (fun h => f14 (upd_ne h (by decide))), (fun h => f15 (upd_ne h (by decide))), (fun _ => rfl)⟩
    case hdone =>
      rintro L ac ww hall ⟨t2, t43, t44, t45, t46, t47, t48, t49, t50, t51, t52, t53, t54, t55, t56, t57, t58, rfl, I0, f0, f1, f2, f3, f4, f5, f6, f7, f8, f9, f10, f11, f12, f13, f14, f15, f16⟩
      have e0 := f0 (hall 0 (by decide))
      have e1 := f1 (hall 1 (by decide))
      have e2 := f2 (hall 2 (by decide))
      have e3 := f3 (hall 3 (by decide))
      have e4 := f4 (hall 4 (by decide))
      have e5 := f5 (hall 5 (by decide))
      have e6 := f6 (hall 6 (by decide))
      have e7 := f7 (hall 7 (by decide))
      have e8 := f8 (hall 8 (by decide))
      have e9 := f9 (hall 9 (by decide))
      have e10 := f10 (hall 10 (by decide))
      have e11 := f11 (hall 11 (by decide))
      have e12 := f12 (hall 12 (by decide))
      have e13 := f13 (hall 13 (by decide))
      have e14 := f14 (hall 14 (by decide))
      have e15 := f15 (hall 15 (by decide))
      have e16 := f16 (hall 16 (by decide))
      clear f0 f1 f2 f3 f4 f5 f6 f7 f8 f9 f10 f11 f12 f13 f14 f15 f16
      subst e16
      clear e0 e1 e2 e3 e4 e5 e6 e7 e8 e9 e10 e11 e12 e13 e14 e15
      have bbf := bb7.trans (I0.mono bb7.size)
      go_wp2
      go_ret
      exact ⟨rfl, bbf⟩
end Go.Proofs.Ytkdoolilggkjpaa
