/- The exact law of LazyStart returns true, over the program's contracts: for every heap. No conditions. -/
import Derived.Test.YtakdjiojahlnmaaTk
import Derived.Test.YtakdjiojahlnmaaTc
import Derived.Test.YtakdjiojahlnmaaTg
import Derived.Test.YtakdjiojahlnmaaTh
import Derived.Test.YtakdjiojahlnmaaNz
import Derived.Deep.Cut
namespace Go.Proofs.Ytakdjiojahlnmaa
open Go.RowKit
set_option maxRecDepth 100000

theorem OwnLx.touched' {w w' : World} {base : Nat} {vc vr vk : Value} {rvs : List Value} {h : Hp} {ct : List Bool} {l : List Value} (o : OwnLx w base vc vr vk rvs h ct) (ht : Touched w w' l) (ha : ∀ v ∈ vc :: vr :: vk :: rvs, ∀ u ∈ l, v.ownBlock = none ∨ v.ownBlock ≠ u.ownBlock) : OwnLx w' base vc vr vk rvs h ct :=
  ⟨o.heap.touched' ht (fun v hv => ha v (by simp only [List.mem_cons] at hv ⊢; rcases hv with e | e | e <;> simp [e])), row_touched o.mks ht (ha vk (by simp)), o.sep⟩
theorem OwnLx.apart_boxE {w : World} {base g : Nat} {vc vr vm : Value} {rvs : List Value} {h : Hp} {ms : List Bool} {cs : Array Value} (o : OwnLx w base vc vr vm rvs h ms) (hr : Rw w g 30 cs) : Apart (some g) (vc :: vr :: vm :: rvs) := fun v hv => by
  right
  intro e
  simp only [List.mem_cons] at hv
  rcases hv with rfl | rfl | rfl | hv
  · exact row_type o.heap.row hr (by decide) e.symm
  · exact row_type o.heap.roots hr (by decide) e.symm
  · exact row_type o.mks hr (by decide) e.symm
  · obtain ⟨i, hi⟩ := List.mem_iff_getElem?.1 hv
    have hlt := (List.getElem?_eq_some_iff.1 hi).1
    have hc := List.getElem?_eq_getElem (show i < h.cs.length by rw [← o.heap.len]; exact hlt)
    exact row_type (o.heap.refs i _ v hc hi) hr (by decide) e.symm
theorem sizeZ_small {h : Hp} (hz : sizeH h ≤ 1048576) : h.cs.length ≤ 1048576 ∧ h.rt.length ≤ 1048576 ∧ ∀ cl ∈ h.cs, cl.r.length ≤ 1048576 := by
  unfold sizeH at hz
  exact ⟨by omega, by omega, fun cl hcl => by have := refN_mem hcl; omega⟩
theorem tiny_start (h : Hp) : Tiny (Hps.startLz h).s ∧ (Hps.startLz h).ms.length ≤ 40 := by
  by_cases hv : Hps.validH h = true
  · have ok := Hps.start_ok hv
    exact ⟨tiny_valid ok.1, by rw [ok.2.1]; exact (Hps.valid_small ok.1).1⟩
  · rw [Hps.startLz, if_neg hv]
    exact ⟨tiny_zero, by decide⟩

set_option maxHeartbeats 8000000 in
theorem exactLazyStart_walk (A R : Option Addr) (n c m d : Nat) (h : Hp) (w : World) (hs : HS w w.heap.size A n R m h) (hn : n ≤ 9223372036854775807) (hm : m ≤ 9223372036854775807) (hb : ∀ cl ∈ h.cs, cl.r.length ≤ 9223372036854775807) :
    Calls Try.prog 7 #[heapV A n c R m d] w fun e w' => e = .returned (.bool true) ∧ Below w.heap.size w w' := by
  have b0 : Below w.heap.size w (w.alloc (.cells #[.slice A n c, .slice R m d] 50)) := (Below.refl _ _).alloc (Nat.le_refl _) _
  have s0 := hs.up b0
  have q0 := Rw.new w 50 #[.slice A n c, .slice R m d]
  have hlc := hs.cells.1
  have hlr := hs.roots.1
  go_enter Try.func7, Try.ntmps7
  go_wp2_with fail
  refine (szHeap_any _ _ _ _ _ _ h _ _ s0 (by omega) (by omega) hn hm hb).mono ?_
  rintro e w1 ⟨rfl, b1⟩
  replace q0 := q0.keep b1 q0.lt
  have bbk := b0.trans (b1.mono b0.size)
  clear b1 b0 s0
  by_cases hz : sizeH h ≤ 1048576
  case neg =>
    have HL : leftOf 1048576 (sizeH h) = -1 := by rw [leftOf, if_neg (by omega)]
    rw [HL]
    go_wp2_with fail
    go_ret
    exact ⟨rfl, bbk⟩
  have HL : leftOf 1048576 (sizeH h) = 1048576 - ((sizeH h : Nat) : Int) := by rw [leftOf, if_pos (by omega)]
  rw [HL]
  have hz2 : sizeH h ≤ 1048576 := by omega
  obtain ⟨z1, z2, z3⟩ := sizeZ_small hz2
  rw [hlc] at z1
  rw [hlr] at z2
  have Z3 := Lib.hid (fun cl (hcl : cl ∈ h.cs) => show cl.r.length ≤ 1099511627776 by have := z3 cl hcl; omega)
  have HZX := Lib.hid (show sizeH h ≤ 1000000000 by omega)
  obtain ⟨lz, hlz⟩ : ∃ lz : Int, (1048576 : Int) - ((sizeH h : Nat) : Int) = lz := ⟨_, rfl⟩
  have hlz0 : decide (lz < 0) = false := decide_eq_false (by omega)
  rw [hlz]
  obtain ⟨ga, hga⟩ : ∃ ga, w.heap.size = ga := ⟨_, rfl⟩
  rw [hga] at q0 ⊢
  have HGA := Lib.hid hga
  have hgl := q0.lt
  have xa0 : w1.cell? ⟨ga, 0, none⟩ = some (.slice A n c) := q0.cell 0
  have xa1 : w1.cell? ⟨ga, 1, none⟩ = some (.slice R m d) := q0.cell 1
  clear HL hlz hz hz2 z3 hb hga hlc hlr
  obtain ⟨T, TC⟩ := tiny_start h
  obtain ⟨hh, hhe⟩ : ∃ hh, (Hps.startLz h).s = hh := ⟨_, rfl⟩
  obtain ⟨ct, hce⟩ : ∃ ct, (Hps.startLz h).ms = ct := ⟨_, rfl⟩
  obtain ⟨ii, hie⟩ : ∃ ii, (Hps.startLz h).i = ii := ⟨_, rfl⟩
  rw [hhe] at T
  rw [hce] at TC
  have HH := Lib.hid hhe
  have HCT := Lib.hid hce
  have HIE := Lib.hid hie
  obtain ⟨pp, hpp⟩ : ∃ pp, ct.length = pp := ⟨_, rfl⟩
  have hp40 : pp ≤ 40 := by omega
  have E5 := Lib.hid hpp
  obtain ⟨nn, hnn⟩ : ∃ nn, hh.cs.length = nn := ⟨_, rfl⟩
  obtain ⟨mm, hmm⟩ : ∃ mm, hh.rt.length = mm := ⟨_, rfl⟩
  have hn40 : nn ≤ 40 := by have := T.1; omega
  have hm4 : mm ≤ 4 := by have := T.2.1; omega
  have H3 := Lib.hid (fun cl (hcl : cl ∈ hh.cs) => show cl.r.length ≤ 1099511627776 by have := T.2.2 cl hcl; omega)
  have HSZ := Lib.hid T.size
  have E0 := Lib.hid hnn
  have E4 := Lib.hid hmm
  clear T TC hhe hce hie hpp hnn hmm
  obtain ⟨kv, hkv⟩ : ∃ kv, markKH 1 hh + (pp : Int) = kv := ⟨_, rfl⟩
  have hk0 : decide (kv < 0) = false := by
    rw [← hkv]
    refine decide_eq_false ?_
    simp only [markKH, mkK]
    omega
  have hkk : (kv != kv) = false := by simp
  obtain ⟨kx, hkx⟩ : ∃ kx, markKH 1 h = kx := ⟨_, rfl⟩
  have hx0 : decide (kx < 0) = false := by
    rw [← hkx]
    refine decide_eq_false ?_
    simp only [markKH, mkK]
    omega
  have HKV := Lib.hid hkv
  have HKX := Lib.hid hkx
  clear hkv hkx
  go_wp2_with fail
  refine (toHeap_any _ _ _ _ _ _ h w1 (hs.up (bbk)) (by omega) (by omega) Z3.out).mono ?_
  rintro e w1a ⟨u1, u2, rfl, ⟨rv, ow⟩, b5⟩
  have h9r := ow.reads
  replace q0 := q0.keep b5 q0.lt
  replace bbk := bbk.trans (b5.mono bbk.size)
  clear ow b5 xa0 xa1
  go_wp2_with fail
  refine (mLazyStart_any _ _ _ _ _ _ h w1a h9r (by omega) (by omega)).mono ?_
  rintro e w1b ⟨vc, vr, vk, rfl, ⟨rvs0, o0⟩, b6⟩
  rw [HH.out, HCT.out] at o0
  rw [HIE.out]
  obtain ⟨A0, c0, R0, d0, K0, q09, rfl, rfl, rfl, -, -⟩ := o0.slices
  rw [E0.out, E4.out, E5.out] at o0 ⊢
  have bA : Below w1b.heap.size w1b (w1b.alloc (.cells #[.slice A0 nn c0, .slice R0 mm d0, .slice K0 pp q09, .int .i64 ii] 30)) := (Below.refl _ _).alloc (Nat.le_refl _) _
  have x0 := Rw.new w1b 30 #[.slice A0 nn c0, .slice R0 mm d0, .slice K0 pp q09, .int .i64 ii]
  replace o0 := o0.below bA (Nat.le_refl _)
  replace q0 := q0.keep b6 q0.lt
  replace q0 := q0.keep bA q0.lt
  have hb6 := b6.size
  replace bbk := (bbk.trans (b6.mono bbk.size)).trans (bA.mono (bbk.trans (b6.mono bbk.size)).size)
  clear b6 bA
  go_upto_region 6 with fail
  generalize w1b.alloc (.cells #[.slice A0 nn c0, .slice R0 mm d0, .slice K0 pp q09, .int .i64 ii] 30) = w5 at x0 o0 bbk q0 ⊢
  obtain ⟨g5, hgne⟩ : ∃ g5, w1b.heap.size = g5 := ⟨_, rfl⟩
  rw [hgne] at x0 hb6 ⊢
  have hg5 := hb6
  clear hgne hb6
  clear h9r
  clear hgl
  have hp5 := x0.lt
  have hqq1 := q0.lt
  have hs5 := bbk.size
  have SA := Lib.hid (fun u (hu : u ∈ (Value.slice A0 nn c0) :: (Value.slice R0 mm d0) :: (Value.slice K0 pp q09) :: rvs0) k (hk : u.ownBlock = some k) => (o0.blocks hu hk).2)
  have xa0 : w5.cell? ⟨ga, 0, none⟩ = some (.slice A n c) := q0.cell 0
  have xa1 : w5.cell? ⟨ga, 1, none⟩ = some (.slice R m d) := q0.cell 1
  go_wp2_with fail
  refine (toHeap_any _ _ _ _ _ _ h w5 (hs.up (bbk)) (by omega) (by omega) Z3.out).mono ?_
  rintro e w6 ⟨g1, g2, rfl, ⟨rvsx, own⟩, b2⟩
  have bA : Below w6.heap.size w6 (w6.alloc (.cells #[.slice (some ⟨g1, 0, none⟩) n n, .slice (some ⟨g2, 0, none⟩) m m] 26)) := (Below.refl _ _).alloc (Nat.le_refl _) _
  have ox := own.below bA (Nat.le_refl _)
  have qx := Rw.new w6 26 #[.slice (some ⟨g1, 0, none⟩) n n, .slice (some ⟨g2, 0, none⟩) m m]
  replace q0 := (q0.keep b2 q0.lt).alloc (.cells #[.slice (some ⟨g1, 0, none⟩) n n, .slice (some ⟨g2, 0, none⟩) m m] 26)
  replace bbk := (bbk.trans (b2.mono bbk.size)).trans (bA.mono (bbk.trans (b2.mono bbk.size)).size)
  have hwx := b2.size
  replace x0 := (x0.keep b2 x0.lt).alloc (.cells #[.slice (some ⟨g1, 0, none⟩) n n, .slice (some ⟨g2, 0, none⟩) m m] 26)
  replace o0 := (o0.below b2 (Nat.le_refl _)).below bA (Nat.le_refl _)
  have SX := Lib.hid (fun u (hu : u ∈ (Value.slice (some ⟨g1, 0, none⟩) n n) :: (Value.slice (some ⟨g2, 0, none⟩) m m) :: rvsx) k (hk : u.ownBlock = some k) => own.blocks hu hk)
  clear own bA b2 xa0 xa1
  go_upto_region 7 with fail
  generalize w6.alloc (.cells #[.slice (some ⟨g1, 0, none⟩) n n, .slice (some ⟨g2, 0, none⟩) m m] 26) = w7 at ox qx q0 bbk x0 o0 ⊢
  obtain ⟨gx, hgxe⟩ : ∃ gx, w6.heap.size = gx := ⟨_, rfl⟩
  rw [hgxe] at qx hwx SX ⊢
  have xr := ox.reads
  have hgx := qx.lt
  have hgl := q0.lt
  have xc0 : w7.cell? ⟨gx, 0, none⟩ = some (.slice (some ⟨g1, 0, none⟩) n n) := qx.cell 0
  have xc1 : w7.cell? ⟨gx, 1, none⟩ = some (.slice (some ⟨g2, 0, none⟩) m m) := qx.cell 1
  clear hgxe
  go_wp2_with fail
  refine (lazyStart_any _ _ _ _ _ _ h w7 xr (by omega) (by omega) (Nat.le_refl _) (Nat.le_refl _)).mono ?_
  rintro e w7b ⟨vc, vr, vk, rfl, ⟨rvs1, o1⟩, b6⟩
  rw [HH.out, HCT.out] at o1
  rw [HIE.out]
  obtain ⟨A1, c1, R1, d1, K1, q19, rfl, rfl, rfl, -, -⟩ := o1.slices
  rw [E0.out, E4.out, E5.out] at o1 ⊢
  have bA : Below w7b.heap.size w7b (w7b.alloc (.cells #[.slice A1 nn c1, .slice R1 mm d1, .slice K1 pp q19, .int .i64 ii] 30)) := (Below.refl _ _).alloc (Nat.le_refl _) _
  have x1 := Rw.new w7b 30 #[.slice A1 nn c1, .slice R1 mm d1, .slice K1 pp q19, .int .i64 ii]
  replace o1 := o1.below bA (Nat.le_refl _)
  replace q0 := q0.keep b6 q0.lt
  replace q0 := q0.keep bA q0.lt
  replace qx := qx.keep b6 qx.lt
  replace qx := qx.keep bA qx.lt
  replace x0 := x0.keep b6 x0.lt
  replace x0 := x0.keep bA x0.lt
  replace o0 := o0.below b6 (Nat.le_refl _)
  replace o0 := o0.below bA (Nat.le_refl _)
  replace ox := ox.below b6 (Nat.le_refl _)
  replace ox := ox.below bA (Nat.le_refl _)
  have hb6 := b6.size
  replace bbk := (bbk.trans (b6.mono bbk.size)).trans (bA.mono (bbk.trans (b6.mono bbk.size)).size)
  clear b6 bA
  go_upto_region 8 with fail
  generalize w7b.alloc (.cells #[.slice A1 nn c1, .slice R1 mm d1, .slice K1 pp q19, .int .i64 ii] 30) = w8 at x1 o1 bbk q0 qx x0 o0 ox ⊢
  obtain ⟨g9, hgne⟩ : ∃ g9, w7b.heap.size = g9 := ⟨_, rfl⟩
  rw [hgne] at x1 hb6 ⊢
  have hg9 := hb6
  clear hgne hb6
  clear xr
  have SB := Lib.hid (fun u (hu : u ∈ (Value.slice A1 nn c1) :: (Value.slice R1 mm d1) :: (Value.slice K1 pp q19) :: rvs1) k (hk : u.ownBlock = some k) => o1.blocks hu hk)
  have S01 := Lib.hid (fun v (hv : v ∈ (Value.slice A0 nn c0) :: (Value.slice R0 mm d0) :: (Value.slice K0 pp q09) :: rvs0) u (hu : u ∈ (Value.slice A1 nn c1) :: (Value.slice R1 mm d1) :: (Value.slice K1 pp q19) :: rvs1) => show v.ownBlock = none ∨ v.ownBlock ≠ u.ownBlock by
    cases e : v.ownBlock with
    | none => exact .inl rfl
    | some k =>
      right
      intro e'
      have h1 := SA.out v hv k e
      have h2 := (SB.out u hu k e'.symm).1
      omega)
  have S0X := Lib.hid (fun v (hv : v ∈ (Value.slice A0 nn c0) :: (Value.slice R0 mm d0) :: (Value.slice K0 pp q09) :: rvs0) u (hu : u ∈ (Value.slice (some ⟨g1, 0, none⟩) n n) :: (Value.slice (some ⟨g2, 0, none⟩) m m) :: rvsx) => show v.ownBlock = none ∨ v.ownBlock ≠ u.ownBlock by
    cases e : v.ownBlock with
    | none => exact .inl rfl
    | some k =>
      right
      intro e'
      have h1 := SA.out v hv k e
      have h2 := (SX.out u hu k e'.symm).1
      omega)
  have S1X := Lib.hid (fun v (hv : v ∈ (Value.slice A1 nn c1) :: (Value.slice R1 mm d1) :: (Value.slice K1 pp q19) :: rvs1) u (hu : u ∈ (Value.slice (some ⟨g1, 0, none⟩) n n) :: (Value.slice (some ⟨g2, 0, none⟩) m m) :: rvsx) => show v.ownBlock = none ∨ v.ownBlock ≠ u.ownBlock by
    cases e : v.ownBlock with
    | none => exact .inl rfl
    | some k =>
      right
      intro e'
      have h1 := (SB.out v hv k e).1
      have h2 := (SX.out u hu k e'.symm).2
      omega)
  have hw7 := hgx
  clear xc0 xc1 hgl hgx
  have y0 : w8.cell? ⟨g5, 0, none⟩ = some (.slice A0 nn c0) := x0.cell 0
  have y1 : w8.cell? ⟨g5, 1, none⟩ = some (.slice R0 mm d0) := x0.cell 1
  have y2 : w8.cell? ⟨g5, 2, none⟩ = some (.slice K0 pp q09) := x0.cell 2
  have y3 : w8.cell? ⟨g5, 3, none⟩ = some (.int .i64 ii) := x0.cell 3
  have z0 : w8.cell? ⟨g9, 0, none⟩ = some (.slice A1 nn c1) := x1.cell 0
  have z1 : w8.cell? ⟨g9, 1, none⟩ = some (.slice R1 mm d1) := x1.cell 1
  have z2 : w8.cell? ⟨g9, 2, none⟩ = some (.slice K1 pp q19) := x1.cell 2
  have z3 : w8.cell? ⟨g9, 3, none⟩ = some (.int .i64 ii) := x1.cell 3
  go_wp2_with fail
  refine (eqLazy_any _ _ _ _ _ _ _ _ _ _ _ _ _ _ _ _ _ _ hh hh ct ct ii ii _ o1.heap.reads o1.mks.reads o0.heap.reads o0.mks.reads (by omega) (by omega) (by omega) (by omega) (by omega) (by omega) H3.out H3.out).mono ?_
  rw [decide_eq_true (show hh = hh ∧ ct = ct ∧ ii = ii from ⟨rfl, rfl, rfl⟩)]
  rintro e w9 ⟨rfl, b9⟩
  replace o0 := o0.below b9 (Nat.le_refl _)
  replace o1 := o1.below b9 (Nat.le_refl _)
  replace ox := ox.below b9 (Nat.le_refl _)
  replace x0 := x0.keep b9 x0.lt
  replace x1 := x1.keep b9 x1.lt
  replace qx := qx.keep b9 qx.lt
  replace q0 := q0.keep b9 q0.lt
  replace bbk := bbk.trans (b9.mono bbk.size)
  clear b9 y0 y1 y2 y3 z0 z1 z2 z3
  have xr := ox.reads
  have hgx := qx.lt
  have hgl := q0.lt
  have xa0 : w9.cell? ⟨ga, 0, none⟩ = some (.slice A n c) := q0.cell 0
  have xa1 : w9.cell? ⟨ga, 1, none⟩ = some (.slice R m d) := q0.cell 1
  have xc0 : w9.cell? ⟨gx, 0, none⟩ = some (.slice (some ⟨g1, 0, none⟩) n n) := qx.cell 0
  have xc1 : w9.cell? ⟨gx, 1, none⟩ = some (.slice (some ⟨g2, 0, none⟩) m m) := qx.cell 1
  go_upto_region 10 with fail
  refine wp_region_inv (by kernel_rfl) (by kernel_rfl) (fun L ac ww => ∃ t27 t28 t29 t30 t31 : Value, ac = { tmps := #[heapV A n c R m d, Value.pointer (some { block := ga, off := 0 }), Value.bool false, Value.int IntKind.i64 lz, Value.pointer (some { block := g5, off := 0 }), Value.pointer (some { block := gx, off := 0 }), Value.pointer (some { block := g9, off := 0 }), undef, undef, undef, undef, Value.agg #[Value.slice A n c, Value.slice R m d], Value.int IntKind.i64 1048576, Value.int IntKind.i64 lz, Value.int IntKind.i64 lz, Value.bool false, Value.agg #[Value.slice A n c, Value.slice R m d], heapV (some { block := u1, off := 0 }) n n (some { block := u2, off := 0 }) m m, Value.agg #[Value.slice A0 nn c0, Value.slice R0 mm d0, Value.slice K0 pp q09, Value.int IntKind.i64 ii], Value.agg #[Value.slice A n c, Value.slice R m d], heapV (some { block := g1, off := 0 }) n n (some { block := g2, off := 0 }) m m, Value.agg #[Value.slice (some { block := g1, off := 0 }) n n, Value.slice (some { block := g2, off := 0 }) m m], Value.agg #[Value.slice A1 nn c1, Value.slice R1 mm d1, Value.slice K1 pp q19, Value.int IntKind.i64 ii], Value.agg #[Value.slice A1 nn c1, Value.slice R1 mm d1, Value.slice K1 pp q19, Value.int IntKind.i64 ii], Value.agg #[Value.slice A0 nn c0, Value.slice R0 mm d0, Value.slice K0 pp q09, Value.int IntKind.i64 ii], Value.bool true, Value.bool false, t27, t28, t29, t30, t31, undef, undef, undef, undef, undef, undef, undef, undef, undef, undef, undef, undef, undef, undef, undef, undef, undef, undef, undef, undef, undef, undef, undef, undef, undef, undef, undef, undef, undef, undef, undef, undef, undef, undef, undef, undef, undef], defers := [] } ∧ (Below w9.heap.size w9 ww) ∧ (L 0 = true → t27 = .agg #[.slice (some ⟨g1, 0, none⟩) n n, .slice (some ⟨g2, 0, none⟩) m m]) ∧ (L 1 = true → t28 = .agg #[.slice A n c, .slice R m d]) ∧ (L 2 = true → ∃ u1 u2 : Nat, t29 = .agg #[.slice (some ⟨u1, 0, none⟩) n n, .slice (some ⟨u2, 0, none⟩) m m] ∧ HS ww ww.heap.size (some ⟨u1, 0, none⟩) n (some ⟨u2, 0, none⟩) m h) ∧ (L 3 = true → t30 = .bool true) ∧ (L 4 = true → t31 = .bool false)) ?h0 ?hstep ?hdone
  case h0 => exact ⟨_, _, _, _, _, rfl, (Below.refl _ _).drew, (fun h => absurd h Bool.false_ne_true), (fun h => absurd h Bool.false_ne_true), (fun h => absurd h Bool.false_ne_true), (fun h => absurd h Bool.false_ne_true), (fun h => absurd h Bool.false_ne_true)⟩
  case hstep =>
    rintro L ac ww i o ho hL hd ⟨t27, t28, t29, t30, t31, rfl, I0, f0, f1, f2, f3, f4⟩
    have hi : i < 5 := (Array.getElem?_eq_some_iff.1 ho).1
    obtain rfl | rfl | rfl | rfl | rfl : i = 0 ∨ i = 1 ∨ i = 2 ∨ i = 3 ∨ i = 4 := by omega
    · obtain rfl := Option.some.inj ho
      have y0 : ww.cell? ⟨gx, 0, none⟩ = some (.slice (some ⟨g1, 0, none⟩) n n) := (I0.cell (p := ⟨gx, 0, none⟩) hgx).trans xc0
      have y1 : ww.cell? ⟨gx, 1, none⟩ = some (.slice (some ⟨g2, 0, none⟩) m m) := (I0.cell (p := ⟨gx, 1, none⟩) hgx).trans xc1
      refine wpOp_step rfl (fun K' hK => ?_)
      go_simp
      refine hK _ _ ?_
      exact ⟨_, _, _, _, _, rfl, (I0), (fun _ => rfl), (kp f1), (kp f2), (kp f3), (kp f4)⟩
    · obtain rfl := Option.some.inj ho
      have y0 : ww.cell? ⟨ga, 0, none⟩ = some (.slice A n c) := (I0.cell (p := ⟨ga, 0, none⟩) hgl).trans xa0
      have y1 : ww.cell? ⟨ga, 1, none⟩ = some (.slice R m d) := (I0.cell (p := ⟨ga, 1, none⟩) hgl).trans xa1
      refine wpOp_step rfl (fun K' hK => ?_)
      go_simp
      refine hK _ _ ?_
      exact ⟨_, _, _, _, _, rfl, (I0), (kp f0), (fun _ => rfl), (kp f2), (kp f3), (kp f4)⟩
    · obtain rfl := Option.some.inj ho
      have g1 := f1 (hd ⟨1, .data⟩ (by simp) rfl)
      subst g1
      refine wpOp_step rfl (fun K' hK => ?_)
      go_simp
      refine (toHeap_any _ _ _ _ _ _ h ww (hs.up (bbk.trans (I0.mono bbk.size))) (by omega) (by omega) Z3.out).mono ?_
      rintro e w' ⟨u1, u2, rfl, oc, b5⟩
      obtain ⟨rv, ow⟩ := oc
      have h9r := ow.reads
      refine hK _ _ ?_
      exact ⟨_, _, _, _, _, rfl, (I0.trans (b5.mono I0.size)), (kp f0), (kp f1), (fun _ => ⟨u1, u2, rfl, h9r⟩), (kp f3), (kp f4)⟩
    · obtain rfl := Option.some.inj ho
      have g0 := f0 (hd ⟨0, .data⟩ (by simp) rfl)
      have g2 := f2 (hd ⟨2, .data⟩ (by simp) rfl)
      subst g0
      obtain ⟨u1, u2, rfl, h9r⟩ := g2
      refine wpOp_step rfl (fun K' hK => ?_)
      go_simp
      refine (eqHeap_any _ _ _ _ _ _ _ _ _ _ _ _ h h ww (xr.up I0) h9r (by omega) (by omega) (by omega) (by omega) Z3.out Z3.out).mono ?_
      rw [decide_eq_true (show h = h from rfl)]
      rintro e w' ⟨rfl, b5⟩
      refine hK _ _ ?_
      exact ⟨_, _, _, _, _, rfl, (I0.trans (b5.mono I0.size)), (kp f0), (kp f1), (fun _ => ⟨u1, u2, rfl, h9r.up b5⟩), (fun _ => rfl), (kp f4)⟩
    · obtain rfl := Option.some.inj ho
      have g3 := f3 (hd ⟨3, .data⟩ (by simp) rfl)
      subst g3
      refine wpOp_step rfl (fun K' hK => ?_)
      go_simp
      refine hK _ _ ?_
      exact ⟨_, _, _, _, _, rfl, (I0), (kp f0), (kp f1), (kp f2), (kp f3), (fun _ => rfl)⟩
  case hdone =>
    rintro L ac ww hall ⟨t27, t28, t29, t30, t31, rfl, I0, f0, f1, f2, f3, f4⟩
    have e0 := f0 (hall 0 (by decide))
    have e1 := f1 (hall 1 (by decide))
    have e2 := f2 (hall 2 (by decide))
    have e3 := f3 (hall 3 (by decide))
    have e4 := f4 (hall 4 (by decide))
    clear f0 f1 f2 f3 f4
    subst e3 e4
    clear e0 e1 e2 hall
    replace o0 := o0.below I0 (Nat.le_refl _)
    replace o1 := o1.below I0 (Nat.le_refl _)
    replace ox := ox.below I0 (Nat.le_refl _)
    replace x0 := x0.keep I0 x0.lt
    replace x1 := x1.keep I0 x1.lt
    replace qx := qx.keep I0 qx.lt
    replace q0 := q0.keep I0 q0.lt
    replace bbk := bbk.trans (I0.mono bbk.size)
    clear xa0 xa1 xc0 xc1 I0 xr hgx hgl
    generalize ww = w10 at *
    have xc0 : w10.cell? ⟨gx, 0, none⟩ = some (.slice (some ⟨g1, 0, none⟩) n n) := qx.cell 0
    have xc1 : w10.cell? ⟨gx, 1, none⟩ = some (.slice (some ⟨g2, 0, none⟩) m m) := qx.cell 1
    go_wp2_with fail
    refine (markHeap_any _ _ rvsx h _ _ _ ox (by omega) (by omega) HZX.out).mono ?_
    rw [HKX.out]
    rintro e w11 ⟨rfl, -, tx⟩
    replace o0 := o0.touched' tx S0X.out
    replace o1 := o1.touched' tx S1X.out
    replace x0 := x0.touched tx (fun u hu e => by have := (SX.out u hu _ e).1; omega)
    replace x1 := x1.touched tx (fun u hu e => by have := (SX.out u hu _ e).2; omega)
    replace q0 := q0.touched tx (fun u hu e => by have := (SX.out u hu _ e).1; omega)
    replace bbk : Below w.heap.size w w11 := tx.below bbk bbk.size (fun u hu k hk => by have := (SX.out u hu k hk).1; omega)
    clear ox qx tx xc0 xc1
    have y0 : w11.cell? ⟨g5, 0, none⟩ = some (.slice A0 nn c0) := x0.cell 0
    have y1 : w11.cell? ⟨g5, 1, none⟩ = some (.slice R0 mm d0) := x0.cell 1
    have y2 : w11.cell? ⟨g5, 2, none⟩ = some (.slice K0 pp q09) := x0.cell 2
    have y3 : w11.cell? ⟨g5, 3, none⟩ = some (.int .i64 ii) := x0.cell 3
    have z0 : w11.cell? ⟨g9, 0, none⟩ = some (.slice A1 nn c1) := x1.cell 0
    have z1 : w11.cell? ⟨g9, 1, none⟩ = some (.slice R1 mm d1) := x1.cell 1
    have z2 : w11.cell? ⟨g9, 2, none⟩ = some (.slice K1 pp q19) := x1.cell 2
    have z3 : w11.cell? ⟨g9, 3, none⟩ = some (.int .i64 ii) := x1.cell 3
    go_wp2_with fail
    refine (eqLazy_any _ _ _ _ _ _ _ _ _ _ _ _ _ _ _ _ _ _ hh hh ct ct ii ii _ o1.heap.reads o1.mks.reads o0.heap.reads o0.mks.reads (by omega) (by omega) (by omega) (by omega) (by omega) (by omega) H3.out H3.out).mono ?_
    rw [decide_eq_true (show hh = hh ∧ ct = ct ∧ ii = ii from ⟨rfl, rfl, rfl⟩)]
    rintro e w12 ⟨rfl, b12⟩
    replace o0 := o0.below b12 (Nat.le_refl _)
    replace o1 := o1.below b12 (Nat.le_refl _)
    replace x0 := x0.keep b12 x0.lt
    replace x1 := x1.keep b12 x1.lt
    replace q0 := q0.keep b12 q0.lt
    replace bbk := bbk.trans (b12.mono bbk.size)
    clear b12 y0 y1 y2 y3 z0 z1 z2 z3
    have z0 : w12.cell? ⟨g9, 0, none⟩ = some (.slice A1 nn c1) := x1.cell 0
    have z1 : w12.cell? ⟨g9, 1, none⟩ = some (.slice R1 mm d1) := x1.cell 1
    have z2 : w12.cell? ⟨g9, 2, none⟩ = some (.slice K1 pp q19) := x1.cell 2
    have z3 : w12.cell? ⟨g9, 3, none⟩ = some (.int .i64 ii) := x1.cell 3
    have AP1 := o1.apart_boxE x1
    go_wp2_with fail
    refine (markLazy_any _ _ _ rvs1 hh ct ii _ _ _ o1 (by omega) (by omega) HSZ.out (by have := E5.out; omega)).mono ?_
    rw [E5.out, HKV.out]
    rintro e w13 ⟨rfl, m6, t6⟩
    replace o0 := o0.touched' t6 S01.out
    replace x0 := x0.touched t6 (fun u hu e => by have := (SB.out u hu _ e).1; omega)
    replace x1 := x1.touched t6 (fun u hu e => by rcases AP1 u hu with h1 | h1; rw [h1] at e; cases e; exact h1 e)
    replace q0 := q0.touched t6 (fun u hu e => by have := (SB.out u hu _ e).1; omega)
    replace bbk : Below w.heap.size w w13 := t6.below bbk bbk.size (fun u hu k hk => by have := (SB.out u hu k hk).1; omega)
    have r6 := m6.heap.reads
    have k6 := m6.mks.reads
    clear o1 t6 m6 z0 z1 z2 z3 AP1
    have z0 : w13.cell? ⟨g9, 0, none⟩ = some (.slice A1 nn c1) := x1.cell 0
    have z1 : w13.cell? ⟨g9, 1, none⟩ = some (.slice R1 mm d1) := x1.cell 1
    have z2 : w13.cell? ⟨g9, 2, none⟩ = some (.slice K1 pp q19) := x1.cell 2
    have z3 : w13.cell? ⟨g9, 3, none⟩ = some (.int .i64 ii) := x1.cell 3
    go_wp2_with fail
    refine (heldLazy_any _ _ _ _ _ _ _ _ _ hh ii _ _ r6 k6 E0.out E4.out (by omega) (by omega) HSZ.out (by omega)).mono ?_
    rw [HKV.out]
    rintro e w14 ⟨rfl, b14⟩
    replace o0 := o0.below b14 (Nat.le_refl _)
    replace x0 := x0.keep b14 x0.lt
    replace x1 := x1.keep b14 x1.lt
    replace q0 := q0.keep b14 q0.lt
    replace r6 := r6.up b14
    replace k6 := k6.up b14
    replace bbk := bbk.trans (b14.mono bbk.size)
    clear b14 z0 z1 z2 z3
    have hgl := q0.lt
    have xa0 : w14.cell? ⟨ga, 0, none⟩ = some (.slice A n c) := q0.cell 0
    have xa1 : w14.cell? ⟨ga, 1, none⟩ = some (.slice R m d) := q0.cell 1
    clear hg5 hg9 S0X S1X SX
    go_wp2_with fail
    refine (toHeap_any _ _ _ _ _ _ h w14 (hs.up (bbk)) (by omega) (by omega) Z3.out).mono ?_
    rintro e w14a ⟨u1, u2, rfl, ⟨rv, ow⟩, b5⟩
    have h9r := ow.reads
    replace o0 := o0.below b5 (Nat.le_refl _)
    replace x0 := x0.keep b5 x0.lt
    replace x1 := x1.keep b5 x1.lt
    replace r6 := r6.up b5
    replace k6 := k6.up b5
    replace bbk := bbk.trans (b5.mono bbk.size)
    clear ow b5 xa0 xa1
    go_wp2_with fail
    refine (lazyStart_any _ _ _ _ _ _ h w14a h9r (by omega) (by omega) (Nat.le_refl _) (Nat.le_refl _)).mono ?_
    rintro e w14b ⟨vc, vr, vk, rfl, ⟨rvs2, o2⟩, b6⟩
    rw [HH.out, HCT.out] at o2
    rw [HIE.out]
    obtain ⟨A2, c2, R2, d2, K2, q29, rfl, rfl, rfl, -, -⟩ := o2.slices
    rw [E0.out, E4.out, E5.out] at o2 ⊢
    have bA : Below w14b.heap.size w14b (w14b.alloc (.cells #[.slice A2 nn c2, .slice R2 mm d2, .slice K2 pp q29, .int .i64 ii] 30)) := (Below.refl _ _).alloc (Nat.le_refl _) _
    have x2 := Rw.new w14b 30 #[.slice A2 nn c2, .slice R2 mm d2, .slice K2 pp q29, .int .i64 ii]
    replace o2 := o2.below bA (Nat.le_refl _)
    replace o0 := o0.below b6 (Nat.le_refl _)
    replace o0 := o0.below bA (Nat.le_refl _)
    replace x0 := x0.keep b6 x0.lt
    replace x0 := x0.keep bA x0.lt
    replace x1 := x1.keep b6 x1.lt
    replace x1 := x1.keep bA x1.lt
    replace r6 := r6.up b6
    replace r6 := r6.up bA
    replace k6 := k6.up b6
    replace k6 := k6.up bA
    have hb6 := b6.size
    replace bbk := (bbk.trans (b6.mono bbk.size)).trans (bA.mono (bbk.trans (b6.mono bbk.size)).size)
    clear b6 bA
    go_upto_region 25 with fail
    generalize w14b.alloc (.cells #[.slice A2 nn c2, .slice R2 mm d2, .slice K2 pp q29, .int .i64 ii] 30) = w15 at x2 o2 bbk o0 x0 x1 r6 k6 ⊢
    obtain ⟨g14, hgne⟩ : ∃ g14, w14b.heap.size = g14 := ⟨_, rfl⟩
    rw [hgne] at x2 hb6 ⊢
    have hg14 := hb6
    clear hgne hb6
    clear h9r
    have y0 : w15.cell? ⟨g5, 0, none⟩ = some (.slice A0 nn c0) := x0.cell 0
    have y1 : w15.cell? ⟨g5, 1, none⟩ = some (.slice R0 mm d0) := x0.cell 1
    have y2 : w15.cell? ⟨g5, 2, none⟩ = some (.slice K0 pp q09) := x0.cell 2
    have y3 : w15.cell? ⟨g5, 3, none⟩ = some (.int .i64 ii) := x0.cell 3
    have z0 : w15.cell? ⟨g14, 0, none⟩ = some (.slice A2 nn c2) := x2.cell 0
    have z1 : w15.cell? ⟨g14, 1, none⟩ = some (.slice R2 mm d2) := x2.cell 1
    have z2 : w15.cell? ⟨g14, 2, none⟩ = some (.slice K2 pp q29) := x2.cell 2
    have z3 : w15.cell? ⟨g14, 3, none⟩ = some (.int .i64 ii) := x2.cell 3
    go_wp2_with fail
    refine (eqLazy_any _ _ _ _ _ _ _ _ _ _ _ _ _ _ _ _ _ _ hh hh ct ct ii ii _ o2.heap.reads o2.mks.reads o0.heap.reads o0.mks.reads (by omega) (by omega) (by omega) (by omega) (by omega) (by omega) H3.out H3.out).mono ?_
    rw [decide_eq_true (show hh = hh ∧ ct = ct ∧ ii = ii from ⟨rfl, rfl, rfl⟩)]
    rintro e w16 ⟨rfl, b16⟩
    replace x1 := x1.keep b16 x1.lt
    replace r6 := r6.up b16
    replace k6 := k6.up b16
    replace bbk := bbk.trans (b16.mono bbk.size)
    clear b16 y0 y1 y2 y3 z0 z1 z2 z3 o0 x0 x2 o2
    have z0 : w16.cell? ⟨g9, 0, none⟩ = some (.slice A1 nn c1) := x1.cell 0
    have z1 : w16.cell? ⟨g9, 1, none⟩ = some (.slice R1 mm d1) := x1.cell 1
    have z2 : w16.cell? ⟨g9, 2, none⟩ = some (.slice K1 pp q19) := x1.cell 2
    have z3 : w16.cell? ⟨g9, 3, none⟩ = some (.int .i64 ii) := x1.cell 3
    go_wp2_with fail
    refine (heldLazy_any _ _ _ _ _ _ _ _ _ hh ii _ _ r6 k6 E0.out E4.out (by omega) (by omega) HSZ.out (by omega)).mono ?_
    rw [HKV.out]
    rintro e w17 ⟨rfl, b17⟩
    have bbf := bbk.trans (b17.mono bbk.size)
    go_wp2_with fail
    go_ret
    exact ⟨rfl, bbf⟩
end Go.Proofs.Ytakdjiojahlnmaa
