/- What the claim DECollectCycles stands on, part 4 of 4: texts of one seat put together, with what the claim needs of them. No conditions. -/
import Derived.Test.YtiojoailjiojjaaDoorShCc
namespace Go.Proofs.YtiojoailjiojjaaDoor
open Go.RowKit
set_option maxRecDepth 100000
theorem tiny_cycles (h : Hp) (l : List Int) : Tiny (Hps.cyclesH h l).1.1 ∧ (Hps.cyclesH h l).1.2.length ≤ 40 := by
  cases h1 : Hps.okCt h l
  · rw [Hps.cyclesH, if_neg (by rw [h1]; decide)]
    exact ⟨tiny_zero, by simp⟩
  · obtain ⟨hv, hl⟩ := Hps.okCt_iff.1 (Hps.cycles_right h1).1
    refine ⟨tiny_valid hv, ?_⟩
    rw [hl, Hps.counts_len]
    exact (Hps.valid_iff.1 hv).2.1
set_option maxHeartbeats 8000000 in
theorem exactCollectCycles_walk (A R K : Option Addr) (n c m d p q : Nat) (h : Hp) (l : List Int) (w : World) (hT : TzT w) (hs : HS w w.heap.size A n R m h) (hk : IS w w.heap.size K p l) (hn : n ≤ 9223372036854775807) (hm : m ≤ 9223372036854775807) (hp : p ≤ 9223372036854775807) (hb : ∀ cl ∈ h.cs, cl.r.length ≤ 9223372036854775807) :
    Calls Tryd.prog 8 #[ctV A n c R m d K p q] w fun e w' => e = .returned (.bool true) ∧ Below w.heap.size w w' := by
  have b0 : Below w.heap.size w (w.alloc (.cells #[.slice A n c, .slice R m d, .slice K p q] 62)) := (Below.refl _ _).alloc (Nat.le_refl _) _
  have s0 := hs.up b0
  have k0 := hk.up b0
  have q0 := Rw.new w 62 #[.slice A n c, .slice R m d, .slice K p q]
  have hlc := hs.cells.1
  have hlr := hs.roots.1
  have hlk := hk.1
  go_enter Tryd.func8, Tryd.ntmps8
  go_wp2_with fail
  refine (szCounted_any _ _ _ _ _ _ _ _ _ h l _ _ s0 k0 (by omega) (by omega) hn hm hp hb).mono ?_
  rintro e w1 ⟨rfl, b1⟩
  replace q0 := q0.keep b1 q0.lt
  have bbk := b0.trans (b1.mono b0.size)
  clear b1 s0 k0 b0
  by_cases hz : sizeC h l ≤ 1048576
  case neg =>
    have HL : leftOf 1048576 (sizeC h l) = -1 := by rw [leftOf, if_neg (by omega)]
    rw [HL]
    go_wp2_with fail
    go_ret
    exact ⟨rfl, bbk⟩
  have HL : leftOf 1048576 (sizeC h l) = 1048576 - (sizeC h l : Int) := by rw [leftOf, if_pos (by omega)]
  rw [HL]
  have hz2 : sizeH h ≤ 1048576 ∧ l.length ≤ 1048576 := by unfold sizeC at hz; omega
  obtain ⟨z1, z2, z3⟩ := sizeC_small hz2.1
  have z4 := hz2.2
  rw [hlc] at z1
  rw [hlr] at z2
  rw [hlk] at z4
  have Z3 := Lib.hid (fun cl (hcl : cl ∈ h.cs) => show cl.r.length ≤ 1099511627776 by have := z3 cl hcl; omega)
  have HZX := Lib.hid (show sizeH h ≤ 1000000000 by omega)
  obtain ⟨lz, hlz⟩ : ∃ lz : Int, (1048576 : Int) - (sizeC h l : Int) = lz := ⟨_, rfl⟩
  have hlz0 : decide (lz < 0) = false := decide_eq_false (by omega)
  rw [hlz]
  obtain ⟨ga, hga⟩ : ∃ ga, w.heap.size = ga := ⟨_, rfl⟩
  rw [hga] at q0 ⊢
  have HGA := Lib.hid hga
  have hgl := q0.lt
  have xa0 : w1.cell? ⟨ga, 0, none⟩ = some (.slice A n c) := q0.cell 0
  have xa1 : w1.cell? ⟨ga, 1, none⟩ = some (.slice R m d) := q0.cell 1
  have xa2 : w1.cell? ⟨ga, 2, none⟩ = some (.slice K p q) := q0.cell 2
  clear HL hlz hz hz2 z3 hb hlc hlr hlk hga
  obtain ⟨T, TC⟩ := tiny_cycles h l
  obtain ⟨hh, hhe⟩ : ∃ hh, (Hps.cyclesH h l).1.1 = hh := ⟨_, rfl⟩
  obtain ⟨ct, hce⟩ : ∃ ct, (Hps.cyclesH h l).1.2 = ct := ⟨_, rfl⟩
  obtain ⟨vb, hvb⟩ : ∃ vb, (Hps.cyclesH h l).2 = vb := ⟨_, rfl⟩
  rw [hhe] at T
  rw [hce] at TC
  have HH := Lib.hid hhe
  have HCT := Lib.hid hce
  have HVB := Lib.hid hvb
  obtain ⟨pp, hpp⟩ : ∃ pp, ct.length = pp := ⟨_, rfl⟩
  have hp40 : pp ≤ 40 := by omega
  have E5 := Lib.hid hpp
  have E6 := Lib.hid hk.1
  obtain ⟨nn, hnn⟩ : ∃ nn, hh.cs.length = nn := ⟨_, rfl⟩
  obtain ⟨mm, hmm⟩ : ∃ mm, hh.rt.length = mm := ⟨_, rfl⟩
  have hn40 : nn ≤ 40 := by have := T.1; omega
  have hm4 : mm ≤ 4 := by have := T.2.1; omega
  have H3 := Lib.hid (fun cl (hcl : cl ∈ hh.cs) => show cl.r.length ≤ 1099511627776 by have := T.2.2 cl hcl; omega)
  have HSZ := Lib.hid T.size
  have E0 := Lib.hid hnn
  have E4 := Lib.hid hmm
  have EA := Lib.hid hs.cells.1
  have EB := Lib.hid hs.roots.1
  have hvv : (vb != vb) = false := by simp
  obtain ⟨kv, hkv⟩ : ∃ kv, markKH 1 hh + (pp : Int) = kv := ⟨_, rfl⟩
  have hk0 : decide (kv < 0) = false := by
    rw [← hkv]
    refine decide_eq_false ?_
    simp only [markKH, mkK]
    omega
  have hkk : (kv != kv) = false := by simp
  obtain ⟨kx, hkx⟩ : ∃ kx, markKH 1 h + (p : Int) = kx := ⟨_, rfl⟩
  have hx0 : decide (kx < 0) = false := by
    rw [← hkx]
    refine decide_eq_false ?_
    simp only [markKH, mkK]
    omega
  have HKV := Lib.hid hkv
  have HKX := Lib.hid hkx
  clear T TC hhe hce hvb hpp hnn hmm hkv hkx
  go_wp2_with fail
  refine (toCounted_any _ _ _ _ _ _ _ _ _ h l w1 (hs.up bbk) (hk.up bbk) (by omega) (by omega) (by omega) Z3.out).mono ?_
  rintro e w1a ⟨u1, u2, u3, rfl, ⟨rv, ow⟩, b5⟩
  have hr9 := ow.heap.reads
  have hk9 := ow.cnts.reads
  replace q0 := q0.keep b5 q0.lt
  replace bbk := bbk.trans (b5.mono bbk.size)
  clear ow b5 xa0 xa1 xa2
  go_wp2_with fail
  refine (mCollectCycles_any _ _ _ _ _ _ _ _ _ h l w1a (hr9) (hk9) (by omega) (by omega) (by omega)).mono ?_
  rw [HH.out, HCT.out, HVB.out]
  rintro e w1b ⟨vc, vr, vk, rfl, ⟨rvs0, o0⟩, b6⟩
  obtain ⟨A0, c0, R0, d0, K0, q09, rfl, rfl, rfl⟩ := o0.slices
  rw [E0.out, E4.out, E5.out] at o0 ⊢
  have bA : Below w1b.heap.size w1b (w1b.alloc (.cells #[.slice A0 nn c0, .slice R0 mm d0, .slice K0 pp q09] 38)) := (Below.refl _ _).alloc (Nat.le_refl _) _
  have x0 := Rw.new w1b 38 #[.slice A0 nn c0, .slice R0 mm d0, .slice K0 pp q09]
  replace o0 := o0.below bA (Nat.le_refl _)
  replace q0 := q0.keep b6 q0.lt
  replace q0 := q0.keep bA q0.lt
  have hb6 := b6.size
  replace bbk := (bbk.trans (b6.mono bbk.size)).trans (bA.mono (bbk.trans (b6.mono bbk.size)).size)
  clear b6 bA
  clear hr9 hk9
  go_upto_region 6 with fail
  generalize w1b.alloc (.cells #[.slice A0 nn c0, .slice R0 mm d0, .slice K0 pp q09] 38) = w5 at x0 o0 bbk q0 ⊢
  obtain ⟨g5, hgne⟩ : ∃ g5, w1b.heap.size = g5 := ⟨_, rfl⟩
  rw [hgne] at x0 hb6 ⊢
  have hg5 := hb6
  clear hgne hb6
  have bb1 := bbk
  clear hgl bbk
  have hp5 := x0.lt
  have hqq1 := q0.lt
  have hs5 := bb1.size
  have s1 := hs.up bb1
  have k1 := hk.up bb1
  have SA := Lib.hid (fun u (hu : u ∈ (Value.slice A0 nn c0) :: (Value.slice R0 mm d0) :: (Value.slice K0 pp q09) :: rvs0) k (hk : u.ownBlock = some k) => (o0.blocks hu hk).2)
  have xa0 : w5.cell? ⟨ga, 0, none⟩ = some (.slice A n c) := q0.cell 0
  have xa1 : w5.cell? ⟨ga, 1, none⟩ = some (.slice R m d) := q0.cell 1
  have xa2 : w5.cell? ⟨ga, 2, none⟩ = some (.slice K p q) := q0.cell 2
  go_wp2_with fail
  refine (toCounted_any _ _ _ _ _ _ _ _ _ h l _ s1 k1 (by omega) (by omega) (by omega) Z3.out).mono ?_
  rintro e w6 ⟨g1, g2, g3, rfl, ⟨rvsx, own⟩, b2⟩
  have bA : Below w6.heap.size w6 (w6.alloc (.cells #[.slice (some ⟨g1, 0, none⟩) n n, .slice (some ⟨g2, 0, none⟩) m m, .slice (some ⟨g3, 0, none⟩) p p] 38)) := (Below.refl _ _).alloc (Nat.le_refl _) _
  have rx := own.heap.reads.up bA
  have kx := own.cnts.reads.up bA
  have ox := own.below bA (Nat.le_refl _)
  have qx := Rw.new w6 38 #[.slice (some ⟨g1, 0, none⟩) n n, .slice (some ⟨g2, 0, none⟩) m m, .slice (some ⟨g3, 0, none⟩) p p]
  replace q0 := (q0.keep b2 q0.lt).alloc (.cells #[.slice (some ⟨g1, 0, none⟩) n n, .slice (some ⟨g2, 0, none⟩) m m, .slice (some ⟨g3, 0, none⟩) p p] 38)
  have bbk := (bb1.trans (b2.mono bb1.size)).trans (bA.mono (bb1.trans (b2.mono bb1.size)).size)
  have hwx := b2.size
  replace x0 := (x0.keep b2 x0.lt).alloc (.cells #[.slice (some ⟨g1, 0, none⟩) n n, .slice (some ⟨g2, 0, none⟩) m m, .slice (some ⟨g3, 0, none⟩) p p] 38)
  replace o0 := (o0.below b2 (Nat.le_refl _)).below bA (Nat.le_refl _)
  have SX := Lib.hid (fun u (hu : u ∈ (Value.slice (some ⟨g1, 0, none⟩) n n) :: (Value.slice (some ⟨g2, 0, none⟩) m m) :: (Value.slice (some ⟨g3, 0, none⟩) p p) :: rvsx) k (hk : u.ownBlock = some k) => own.blocks hu hk)
  clear own bA b2 s1 k1 xa0 xa1 xa2
  go_upto_region 7 with fail
  generalize w6.alloc (.cells #[.slice (some ⟨g1, 0, none⟩) n n, .slice (some ⟨g2, 0, none⟩) m m, .slice (some ⟨g3, 0, none⟩) p p] 38) = w7 at rx kx ox qx q0 bbk x0 o0 ⊢
  obtain ⟨gx, hgxe⟩ : ∃ gx, w6.heap.size = gx := ⟨_, rfl⟩
  rw [hgxe] at qx hwx SX ⊢
  have hgx := qx.lt
  have hgl := q0.lt
  have xc0 : w7.cell? ⟨gx, 0, none⟩ = some (.slice (some ⟨g1, 0, none⟩) n n) := qx.cell 0
  have xc1 : w7.cell? ⟨gx, 1, none⟩ = some (.slice (some ⟨g2, 0, none⟩) m m) := qx.cell 1
  have xc2 : w7.cell? ⟨gx, 2, none⟩ = some (.slice (some ⟨g3, 0, none⟩) p p) := qx.cell 2
  clear hgxe bb1
  go_wp2_with fail
  refine (collectCycles_any _ _ _ _ _ _ _ _ _ h l w7 (hT.below bbk) (rx) (kx) (by omega) (by omega) (by omega) (Nat.le_refl _) (Nat.le_refl _)).mono ?_
  rw [HH.out, HCT.out, HVB.out]
  rintro e w7b ⟨vc, vr, vk, rfl, ⟨rvs1, o1⟩, b6⟩
  obtain ⟨A1, c1, R1, d1, K1, q19, rfl, rfl, rfl⟩ := o1.slices
  rw [E0.out, E4.out, E5.out] at o1 ⊢
  have bA : Below w7b.heap.size w7b (w7b.alloc (.cells #[.slice A1 nn c1, .slice R1 mm d1, .slice K1 pp q19] 38)) := (Below.refl _ _).alloc (Nat.le_refl _) _
  have x1 := Rw.new w7b 38 #[.slice A1 nn c1, .slice R1 mm d1, .slice K1 pp q19]
  replace o1 := o1.below bA (Nat.le_refl _)
  replace q0 := q0.keep b6 q0.lt
  replace q0 := q0.keep bA q0.lt
  replace qx := qx.keep b6 qx.lt
  replace qx := qx.keep bA qx.lt
  replace x0 := x0.keep b6 x0.lt
  replace x0 := x0.keep bA x0.lt
  replace o0 := o0.below b6 (Nat.le_refl _)
  replace o0 := o0.below bA (Nat.le_refl _)
  replace ox := ox.below b6 (Nat.le_refl _)
  replace ox := ox.below bA (Nat.le_refl _)
  have hb6 := b6.size
  replace bbk := (bbk.trans (b6.mono bbk.size)).trans (bA.mono (bbk.trans (b6.mono bbk.size)).size)
  clear b6 bA
  go_upto_region 8 with fail
  generalize w7b.alloc (.cells #[.slice A1 nn c1, .slice R1 mm d1, .slice K1 pp q19] 38) = w8 at x1 o1 bbk q0 qx x0 o0 ox ⊢
  obtain ⟨g9, hgne⟩ : ∃ g9, w7b.heap.size = g9 := ⟨_, rfl⟩
  rw [hgne] at x1 hb6 ⊢
  have hg9 := hb6
  clear hgne hb6
  have SB := Lib.hid (fun u (hu : u ∈ (Value.slice A1 nn c1) :: (Value.slice R1 mm d1) :: (Value.slice K1 pp q19) :: rvs1) k (hk : u.ownBlock = some k) => o1.blocks hu hk)
  have hw7 := hgx
  have S01 := Lib.hid (fun v (hv : v ∈ (Value.slice A0 nn c0) :: (Value.slice R0 mm d0) :: (Value.slice K0 pp q09) :: rvs0) u (hu : u ∈ (Value.slice A1 nn c1) :: (Value.slice R1 mm d1) :: (Value.slice K1 pp q19) :: rvs1) => show v.ownBlock = none ∨ v.ownBlock ≠ u.ownBlock by
    cases e : v.ownBlock with
    | none => exact .inl rfl
    | some k =>
      right
      intro e'
      have h1 := SA.out v hv k e
      have h2 := (SB.out u hu k e'.symm).1
      omega)
  have S0X := Lib.hid (fun v (hv : v ∈ (Value.slice A0 nn c0) :: (Value.slice R0 mm d0) :: (Value.slice K0 pp q09) :: rvs0) u (hu : u ∈ (Value.slice (some ⟨g1, 0, none⟩) n n) :: (Value.slice (some ⟨g2, 0, none⟩) m m) :: (Value.slice (some ⟨g3, 0, none⟩) p p) :: rvsx) => show v.ownBlock = none ∨ v.ownBlock ≠ u.ownBlock by
    cases e : v.ownBlock with
    | none => exact .inl rfl
    | some k =>
      right
      intro e'
      have h1 := SA.out v hv k e
      have h2 := (SX.out u hu k e'.symm).1
      omega)
  have S1X := Lib.hid (fun v (hv : v ∈ (Value.slice A1 nn c1) :: (Value.slice R1 mm d1) :: (Value.slice K1 pp q19) :: rvs1) u (hu : u ∈ (Value.slice (some ⟨g1, 0, none⟩) n n) :: (Value.slice (some ⟨g2, 0, none⟩) m m) :: (Value.slice (some ⟨g3, 0, none⟩) p p) :: rvsx) => show v.ownBlock = none ∨ v.ownBlock ≠ u.ownBlock by
    cases e : v.ownBlock with
    | none => exact .inl rfl
    | some k =>
      right
      intro e'
      have h1 := (SB.out v hv k e).1
      have h2 := (SX.out u hu k e'.symm).2
      omega)
  clear xc0 xc1 xc2 hgl hgx
  have y0 : w8.cell? ⟨g5, 0, none⟩ = some (.slice A0 nn c0) := x0.cell 0
  have y1 : w8.cell? ⟨g5, 1, none⟩ = some (.slice R0 mm d0) := x0.cell 1
  have y1k : w8.cell? ⟨g5, 2, none⟩ = some (.slice K0 pp q09) := x0.cell 2
  have y2 : w8.cell? ⟨g9, 0, none⟩ = some (.slice A1 nn c1) := x1.cell 0
  have y3 : w8.cell? ⟨g9, 1, none⟩ = some (.slice R1 mm d1) := x1.cell 1
  have y3k : w8.cell? ⟨g9, 2, none⟩ = some (.slice K1 pp q19) := x1.cell 2
  go_wp2_with fail
  refine (eqCounted_any _ _ _ _ _ _ _ _ _ _ _ _ _ _ _ _ _ _ hh hh ct ct _ o1.heap.reads o1.cnts.reads o0.heap.reads o0.cnts.reads (by omega) (by omega) (by omega) (by omega) (by omega) (by omega) H3.out H3.out).mono ?_
  rw [decide_eq_true (show hh = hh ∧ ct = ct from ⟨rfl, rfl⟩)]
  rintro e w9 ⟨rfl, b9⟩
  replace o0 := o0.below b9 (Nat.le_refl _)
  replace o1 := o1.below b9 (Nat.le_refl _)
  replace ox := ox.below b9 (Nat.le_refl _)
  replace x0 := x0.keep b9 x0.lt
  replace x1 := x1.keep b9 x1.lt
  replace qx := qx.keep b9 qx.lt
  replace q0 := q0.keep b9 q0.lt
  replace bbk := bbk.trans (b9.mono bbk.size)
  clear b9 y0 y1 y1k y2 y3 y3k rx kx
  have rx := ox.heap.reads
  have kx := ox.cnts.reads
  have hgx := qx.lt
  have hgl := q0.lt
  have xa0 : w9.cell? ⟨ga, 0, none⟩ = some (.slice A n c) := q0.cell 0
  have xa1 : w9.cell? ⟨ga, 1, none⟩ = some (.slice R m d) := q0.cell 1
  have xa2 : w9.cell? ⟨ga, 2, none⟩ = some (.slice K p q) := q0.cell 2
  have xc0 : w9.cell? ⟨gx, 0, none⟩ = some (.slice (some ⟨g1, 0, none⟩) n n) := qx.cell 0
  have xc1 : w9.cell? ⟨gx, 1, none⟩ = some (.slice (some ⟨g2, 0, none⟩) m m) := qx.cell 1
  have xc2 : w9.cell? ⟨gx, 2, none⟩ = some (.slice (some ⟨g3, 0, none⟩) p p) := qx.cell 2
  go_upto_region 10 with fail
  refine wp_region_inv (by kernel_rfl) (by kernel_rfl) (fun L ac ww => ∃ t41 t42 t43 t44 t45 : Value, ac = { tmps := #[ctV A n c R m d K p q, Value.pointer (some { block := ga, off := 0 }), Value.bool false, Value.int IntKind.i64 lz, Value.pointer (some { block := g5, off := 0 }), Value.int IntKind.i64 vb, Value.pointer (some { block := gx, off := 0 }), Value.pointer (some { block := g9, off := 0 }), Value.int IntKind.i64 vb, undef, undef, undef, undef, undef, Value.agg #[Value.slice A n c, Value.slice R m d, Value.slice K p q], Value.int IntKind.i64 1048576, Value.int IntKind.i64 lz, Value.int IntKind.i64 lz, Value.bool false, Value.tuple #[Value.agg #[Value.slice A0 nn c0, Value.slice R0 mm d0, Value.slice K0 pp q09], Value.int IntKind.i64 vb], Value.agg #[Value.slice A n c, Value.slice R m d, Value.slice K p q], ctV (some { block := u1, off := 0 }) n n (some { block := u2, off := 0 }) m m (some { block := u3, off := 0 }) p p, Value.tuple #[Value.agg #[Value.slice A0 nn c0, Value.slice R0 mm d0, Value.slice K0 pp q09], Value.int IntKind.i64 vb], Value.agg #[Value.slice A0 nn c0, Value.slice R0 mm d0, Value.slice K0 pp q09], Value.int IntKind.i64 vb, Value.agg #[Value.slice A n c, Value.slice R m d, Value.slice K p q], ctV (some { block := g1, off := 0 }) n n (some { block := g2, off := 0 }) m m (some { block := g3, off := 0 }) p p, Value.tuple #[Value.agg #[Value.slice A1 nn c1, Value.slice R1 mm d1, Value.slice K1 pp q19], Value.int IntKind.i64 vb], Value.agg #[Value.slice (some { block := g1, off := 0 }) n n, Value.slice (some { block := g2, off := 0 }) m m, Value.slice (some { block := g3, off := 0 }) p p], Value.tuple #[Value.agg #[Value.slice A1 nn c1, Value.slice R1 mm d1, Value.slice K1 pp q19], Value.int IntKind.i64 vb], Value.agg #[Value.slice A1 nn c1, Value.slice R1 mm d1, Value.slice K1 pp q19], Value.int IntKind.i64 vb, Value.agg #[Value.slice A1 nn c1, Value.slice R1 mm d1, Value.slice K1 pp q19], Value.agg #[Value.slice A0 nn c0, Value.slice R0 mm d0, Value.slice K0 pp q09], Value.bool true, Value.bool false, Value.bool false, Value.int IntKind.i64 vb, Value.int IntKind.i64 vb, Value.bool false, Value.bool false, t41, t42, t43, t44, t45, undef, undef, undef, undef, undef, undef, undef, undef, undef, undef, undef, undef, undef, undef, undef, undef, undef, undef, undef, undef, undef, undef, undef, undef, undef, undef, undef, undef, undef, undef, undef, undef, undef, undef, undef, undef, undef, undef, undef, undef, undef, undef, undef, undef, undef, undef, undef, undef, undef, undef], defers := [] } ∧ (Below w9.heap.size w9 ww) ∧ (L 0 = true → t41 = .agg #[.slice (some ⟨g1, 0, none⟩) n n, .slice (some ⟨g2, 0, none⟩) m m, .slice (some ⟨g3, 0, none⟩) p p]) ∧ (L 1 = true → t42 = .agg #[.slice A n c, .slice R m d, .slice K p q]) ∧ (L 2 = true → ∃ u1 u2 u3 : Nat, t43 = .agg #[.slice (some ⟨u1, 0, none⟩) n n, .slice (some ⟨u2, 0, none⟩) m m, .slice (some ⟨u3, 0, none⟩) p p] ∧ HS ww ww.heap.size (some ⟨u1, 0, none⟩) n (some ⟨u2, 0, none⟩) m h ∧ IS ww ww.heap.size (some ⟨u3, 0, none⟩) p l) ∧ (L 3 = true → t44 = .bool true) ∧ (L 4 = true → t45 = .bool false)) ?h0 ?hstep ?hdone
  case h0 => exact ⟨_, _, _, _, _, rfl, (Below.refl _ _).drew, (fun h => absurd h Bool.false_ne_true), (fun h => absurd h Bool.false_ne_true), (fun h => absurd h Bool.false_ne_true), (fun h => absurd h Bool.false_ne_true), (fun h => absurd h Bool.false_ne_true)⟩
  case hstep =>
    rintro L ac ww i o ho hL hd ⟨t41, t42, t43, t44, t45, rfl, I0, f0, f1, f2, f3, f4⟩
    have hi : i < 5 := (Array.getElem?_eq_some_iff.1 ho).1
    obtain rfl | rfl | rfl | rfl | rfl : i = 0 ∨ i = 1 ∨ i = 2 ∨ i = 3 ∨ i = 4 := by omega
    · obtain rfl := Option.some.inj ho
      have y0 : ww.cell? ⟨gx, 0, none⟩ = some (.slice (some ⟨g1, 0, none⟩) n n) := (I0.cell (p := ⟨gx, 0, none⟩) hgx).trans xc0
      have y1 : ww.cell? ⟨gx, 1, none⟩ = some (.slice (some ⟨g2, 0, none⟩) m m) := (I0.cell (p := ⟨gx, 1, none⟩) hgx).trans xc1
      have y2 : ww.cell? ⟨gx, 2, none⟩ = some (.slice (some ⟨g3, 0, none⟩) p p) := (I0.cell (p := ⟨gx, 2, none⟩) hgx).trans xc2
      refine wpOp_step rfl (fun K' hK => ?_)
      go_simp
      refine hK _ _ ?_
      exact ⟨_, _, _, _, _, rfl, (I0), (fun _ => rfl), (kp f1), (kp f2), (kp f3), (kp f4)⟩
    · obtain rfl := Option.some.inj ho
      have y0 : ww.cell? ⟨ga, 0, none⟩ = some (.slice A n c) := (I0.cell (p := ⟨ga, 0, none⟩) hgl).trans xa0
      have y1 : ww.cell? ⟨ga, 1, none⟩ = some (.slice R m d) := (I0.cell (p := ⟨ga, 1, none⟩) hgl).trans xa1
      have y2 : ww.cell? ⟨ga, 2, none⟩ = some (.slice K p q) := (I0.cell (p := ⟨ga, 2, none⟩) hgl).trans xa2
      refine wpOp_step rfl (fun K' hK => ?_)
      go_simp
      refine hK _ _ ?_
      exact ⟨_, _, _, _, _, rfl, (I0), (kp f0), (fun _ => rfl), (kp f2), (kp f3), (kp f4)⟩
    · obtain rfl := Option.some.inj ho
      have g1 := f1 (hd ⟨1, .data⟩ (by simp) rfl)
      subst g1
      refine wpOp_step rfl (fun K' hK => ?_)
      go_simp
      refine (toCounted_any _ _ _ _ _ _ _ _ _ h l ww (hs.up (bbk.trans (I0.mono bbk.size))) (hk.up (bbk.trans (I0.mono bbk.size))) (by omega) (by omega) (by omega) Z3.out).mono ?_
      rintro e w' ⟨u1, u2, u3, rfl, oc, b5⟩
      obtain ⟨rv, ow⟩ := oc
      have hr9 := ow.heap.reads
      have hk9 := ow.cnts.reads
      refine hK _ _ ?_
      exact ⟨_, _, _, _, _, rfl, (I0.trans (b5.mono I0.size)), (kp f0), (kp f1), (fun _ => ⟨u1, u2, u3, rfl, hr9, hk9⟩), (kp f3), (kp f4)⟩
    · obtain rfl := Option.some.inj ho
      have g0 := f0 (hd ⟨0, .data⟩ (by simp) rfl)
      have g2 := f2 (hd ⟨2, .data⟩ (by simp) rfl)
      subst g0
      obtain ⟨u1, u2, u3, rfl, hr9, hk9⟩ := g2
      refine wpOp_step rfl (fun K' hK => ?_)
      go_simp
      refine (eqCounted_any _ _ _ _ _ _ _ _ _ _ _ _ _ _ _ _ _ _ h h l l ww (rx.up I0) (kx.up I0) hr9 hk9 (by omega) (by omega) (by omega) (by omega) (by omega) (by omega) Z3.out Z3.out).mono ?_
      rw [decide_eq_true (show h = h ∧ l = l from ⟨rfl, rfl⟩)]
      rintro e w' ⟨rfl, b5⟩
      refine hK _ _ ?_
      exact ⟨_, _, _, _, _, rfl, (I0.trans (b5.mono I0.size)), (kp f0), (kp f1), (fun _ => ⟨u1, u2, u3, rfl, hr9.up b5, hk9.up b5⟩), (fun _ => rfl), (kp f4)⟩
    · obtain rfl := Option.some.inj ho
      have g3 := f3 (hd ⟨3, .data⟩ (by simp) rfl)
      subst g3
      refine wpOp_step rfl (fun K' hK => ?_)
      go_simp
      refine hK _ _ ?_
      exact ⟨_, _, _, _, _, rfl, (I0), (kp f0), (kp f1), (kp f2), (kp f3), (fun _ => rfl)⟩
  case hdone =>
    rintro L ac ww hall ⟨t41, t42, t43, t44, t45, rfl, I0, f0, f1, f2, f3, f4⟩
    have e0 := f0 (hall 0 (by decide))
    have e1 := f1 (hall 1 (by decide))
    have e2 := f2 (hall 2 (by decide))
    have e3 := f3 (hall 3 (by decide))
    have e4 := f4 (hall 4 (by decide))
    clear f0 f1 f2 f3 f4
    subst e3 e4
    clear e0 e1 e2 hall
    replace o0 := o0.below I0 (Nat.le_refl _)
    replace o1 := o1.below I0 (Nat.le_refl _)
    replace ox := ox.below I0 (Nat.le_refl _)
    replace x0 := x0.keep I0 x0.lt
    replace x1 := x1.keep I0 x1.lt
    replace qx := qx.keep I0 qx.lt
    replace q0 := q0.keep I0 q0.lt
    replace bbk := bbk.trans (I0.mono bbk.size)
    clear xa0 xa1 xa2 xc0 xc1 xc2 I0 rx kx hgx hgl
    generalize ww = w10 at *
    have xc0 : w10.cell? ⟨gx, 0, none⟩ = some (.slice (some ⟨g1, 0, none⟩) n n) := qx.cell 0
    have xc1 : w10.cell? ⟨gx, 1, none⟩ = some (.slice (some ⟨g2, 0, none⟩) m m) := qx.cell 1
    have xc2 : w10.cell? ⟨gx, 2, none⟩ = some (.slice (some ⟨g3, 0, none⟩) p p) := qx.cell 2
    have APX := ox.apart_box qx
    go_wp2_with fail
    refine (markCounted_any _ _ _ rvsx h l _ _ _ ox (by omega) (by omega) HZX.out (by have := E6.out; omega)).mono ?_
    rw [E6.out, HKX.out]
    rintro e w11 ⟨rfl, -, tx⟩
    replace o0 := o0.touched' tx S0X.out
    replace o1 := o1.touched' tx S1X.out
    replace x0 := x0.touched tx (fun u hu e => by have := (SX.out u hu _ e).1; omega)
    replace x1 := x1.touched tx (fun u hu e => by have := (SX.out u hu _ e).2; omega)
    replace q0 := q0.touched tx (fun u hu e => by have := (SX.out u hu _ e).1; omega)
    replace bbk : Below w.heap.size w w11 := tx.below bbk bbk.size (fun u hu k hk => by have := (SX.out u hu k hk).1; omega)
    clear ox qx tx xc0 xc1 xc2 APX
    have y0 : w11.cell? ⟨g5, 0, none⟩ = some (.slice A0 nn c0) := x0.cell 0
    have y1 : w11.cell? ⟨g5, 1, none⟩ = some (.slice R0 mm d0) := x0.cell 1
    have y1k : w11.cell? ⟨g5, 2, none⟩ = some (.slice K0 pp q09) := x0.cell 2
    have y2 : w11.cell? ⟨g9, 0, none⟩ = some (.slice A1 nn c1) := x1.cell 0
    have y3 : w11.cell? ⟨g9, 1, none⟩ = some (.slice R1 mm d1) := x1.cell 1
    have y3k : w11.cell? ⟨g9, 2, none⟩ = some (.slice K1 pp q19) := x1.cell 2
    go_wp2_with fail
    refine (eqCounted_any _ _ _ _ _ _ _ _ _ _ _ _ _ _ _ _ _ _ hh hh ct ct _ o1.heap.reads o1.cnts.reads o0.heap.reads o0.cnts.reads (by omega) (by omega) (by omega) (by omega) (by omega) (by omega) H3.out H3.out).mono ?_
    rw [decide_eq_true (show hh = hh ∧ ct = ct from ⟨rfl, rfl⟩)]
    rintro e w12 ⟨rfl, b12⟩
    replace o0 := o0.below b12 (Nat.le_refl _)
    replace o1 := o1.below b12 (Nat.le_refl _)
    replace x0 := x0.keep b12 x0.lt
    replace x1 := x1.keep b12 x1.lt
    replace q0 := q0.keep b12 q0.lt
    replace bbk := bbk.trans (b12.mono bbk.size)
    clear b12 y0 y1 y1k y2 y3 y3k
    have y2 : w12.cell? ⟨g9, 0, none⟩ = some (.slice A1 nn c1) := x1.cell 0
    have y3 : w12.cell? ⟨g9, 1, none⟩ = some (.slice R1 mm d1) := x1.cell 1
    have y3k : w12.cell? ⟨g9, 2, none⟩ = some (.slice K1 pp q19) := x1.cell 2
    have AP1 := o1.apart_box x1
    go_wp2_with fail
    refine (markCounted_any _ _ _ rvs1 hh ct _ _ _ o1 (by omega) (by omega) HSZ.out (by have := E5.out; omega)).mono ?_
    rw [E5.out, HKV.out]
    rintro e w13 ⟨rfl, m6, t6⟩
    replace o0 := o0.touched' t6 S01.out
    replace x0 := x0.touched t6 (fun u hu e => by have := (SB.out u hu _ e).1; omega)
    replace x1 := x1.touched t6 (fun u hu e => by rcases AP1 u hu with h1 | h1; rw [h1] at e; cases e; exact h1 e)
    replace q0 := q0.touched t6 (fun u hu e => by have := (SB.out u hu _ e).1; omega)
    replace bbk : Below w.heap.size w w13 := t6.below bbk bbk.size (fun u hu k hk => by have := (SB.out u hu k hk).1; omega)
    have r6 := m6.heap.reads
    have k6 := m6.cnts.reads
    clear o1 t6 m6 y2 y3 y3k AP1
    have y2 : w13.cell? ⟨g9, 0, none⟩ = some (.slice A1 nn c1) := x1.cell 0
    have y3 : w13.cell? ⟨g9, 1, none⟩ = some (.slice R1 mm d1) := x1.cell 1
    have y3k : w13.cell? ⟨g9, 2, none⟩ = some (.slice K1 pp q19) := x1.cell 2
    go_wp2_with fail
    refine (heldCounted_any _ _ _ _ _ _ _ _ _ hh _ _ r6 k6 E0.out E4.out (by omega) (by omega) HSZ.out (by omega)).mono ?_
    rw [HKV.out]
    rintro e w14 ⟨rfl, b14⟩
    replace o0 := o0.below b14 (Nat.le_refl _)
    replace x0 := x0.keep b14 x0.lt
    replace x1 := x1.keep b14 x1.lt
    replace q0 := q0.keep b14 q0.lt
    replace r6 := r6.up b14
    replace k6 := k6.up b14
    replace bbk := bbk.trans (b14.mono bbk.size)
    clear b14 y2 y3 y3k
    have hgl := q0.lt
    have xa0 : w14.cell? ⟨ga, 0, none⟩ = some (.slice A n c) := q0.cell 0
    have xa1 : w14.cell? ⟨ga, 1, none⟩ = some (.slice R m d) := q0.cell 1
    have xa2 : w14.cell? ⟨ga, 2, none⟩ = some (.slice K p q) := q0.cell 2
    clear hg5 hg9 S0X S1X SX
    go_wp2_with fail
    refine (toCounted_any _ _ _ _ _ _ _ _ _ h l w14 (hs.up bbk) (hk.up bbk) (by omega) (by omega) (by omega) Z3.out).mono ?_
    rintro e w14a ⟨u1, u2, u3, rfl, ⟨rv, ow⟩, b5⟩
    have hr9 := ow.heap.reads
    have hk9 := ow.cnts.reads
    replace o0 := o0.below b5 (Nat.le_refl _)
    replace x0 := x0.keep b5 x0.lt
    replace x1 := x1.keep b5 x1.lt
    replace r6 := r6.up b5
    replace k6 := k6.up b5
    replace bbk := bbk.trans (b5.mono bbk.size)
    clear ow b5 xa0 xa1 xa2
    go_wp2_with fail
    refine (collectCycles_any _ _ _ _ _ _ _ _ _ h l w14a (hT.below bbk) (hr9) (hk9) (by omega) (by omega) (by omega) (Nat.le_refl _) (Nat.le_refl _)).mono ?_
    rw [HH.out, HCT.out, HVB.out]
    rintro e w14b ⟨vc, vr, vk, rfl, ⟨rvs2, o2⟩, b6⟩
    obtain ⟨A2, c2, R2, d2, K2, q29, rfl, rfl, rfl⟩ := o2.slices
    rw [E0.out, E4.out, E5.out] at o2 ⊢
    have bA : Below w14b.heap.size w14b (w14b.alloc (.cells #[.slice A2 nn c2, .slice R2 mm d2, .slice K2 pp q29] 38)) := (Below.refl _ _).alloc (Nat.le_refl _) _
    have x2 := Rw.new w14b 38 #[.slice A2 nn c2, .slice R2 mm d2, .slice K2 pp q29]
    replace o2 := o2.below bA (Nat.le_refl _)
    replace o0 := o0.below b6 (Nat.le_refl _)
    replace o0 := o0.below bA (Nat.le_refl _)
    replace x0 := x0.keep b6 x0.lt
    replace x0 := x0.keep bA x0.lt
    replace x1 := x1.keep b6 x1.lt
    replace x1 := x1.keep bA x1.lt
    replace r6 := r6.up b6
    replace r6 := r6.up bA
    replace k6 := k6.up b6
    replace k6 := k6.up bA
    have hb6 := b6.size
    replace bbk := (bbk.trans (b6.mono bbk.size)).trans (bA.mono (bbk.trans (b6.mono bbk.size)).size)
    clear b6 bA
    clear hr9 hk9
    go_upto_region 25 with fail
    generalize w14b.alloc (.cells #[.slice A2 nn c2, .slice R2 mm d2, .slice K2 pp q29] 38) = w15 at x2 o2 bbk o0 x0 x1 r6 k6 ⊢
    obtain ⟨g14, hgne⟩ : ∃ g14, w14b.heap.size = g14 := ⟨_, rfl⟩
    rw [hgne] at x2 hb6 ⊢
    have hg14 := hb6
    clear hgne hb6
    have r9 := o2.heap.reads
    have k9 := o2.cnts.reads
    have y0 : w15.cell? ⟨g5, 0, none⟩ = some (.slice A0 nn c0) := x0.cell 0
    have y1 : w15.cell? ⟨g5, 1, none⟩ = some (.slice R0 mm d0) := x0.cell 1
    have y1k : w15.cell? ⟨g5, 2, none⟩ = some (.slice K0 pp q09) := x0.cell 2
    have y4 : w15.cell? ⟨g14, 0, none⟩ = some (.slice A2 nn c2) := x2.cell 0
    have y5 : w15.cell? ⟨g14, 1, none⟩ = some (.slice R2 mm d2) := x2.cell 1
    have y5k : w15.cell? ⟨g14, 2, none⟩ = some (.slice K2 pp q29) := x2.cell 2
    go_wp2_with fail
    refine (eqCounted_any _ _ _ _ _ _ _ _ _ _ _ _ _ _ _ _ _ _ hh hh ct ct _ r9 k9 o0.heap.reads o0.cnts.reads (by omega) (by omega) (by omega) (by omega) (by omega) (by omega) H3.out H3.out).mono ?_
    rw [decide_eq_true (show hh = hh ∧ ct = ct from ⟨rfl, rfl⟩)]
    rintro e w16 ⟨rfl, b16⟩
    replace x1 := x1.keep b16 x1.lt
    replace r6 := r6.up b16
    replace k6 := k6.up b16
    replace bbk := bbk.trans (b16.mono bbk.size)
    clear b16 y0 y1 y1k y4 y5 y5k o0 x0 x2 r9 k9
    have y2 : w16.cell? ⟨g9, 0, none⟩ = some (.slice A1 nn c1) := x1.cell 0
    have y3 : w16.cell? ⟨g9, 1, none⟩ = some (.slice R1 mm d1) := x1.cell 1
    have y3k : w16.cell? ⟨g9, 2, none⟩ = some (.slice K1 pp q19) := x1.cell 2
    go_wp2_with fail
    refine (heldCounted_any _ _ _ _ _ _ _ _ _ hh _ _ r6 k6 E0.out E4.out (by omega) (by omega) HSZ.out (by omega)).mono ?_
    rw [HKV.out]
    rintro e w17 ⟨rfl, b17⟩
    have bbf := bbk.trans (b17.mono bbk.size)
    go_wp2_with fail
    go_ret
    exact ⟨rfl, bbf⟩
end Go.Proofs.YtiojoailjiojjaaDoor

namespace Go.Proofs.YtiojoailjiojjaaDoor
open Go.ChangeShapes Go.WideShapes Go.ChangeAt Go.RowKit Go.Deep
section
variable {H : Type} {enc : TypeId × Value → H} {P : Program} {W : World}
/-- a slice of numbers -/
theorem nums_trod {t e : TypeId} {fuel : Nat} {v : Value} {x : DataW H × List MemPlace} (ht : P.underlying t = some (.slice e)) (he : P.underlying e = some (.int .i64)) (ce : P.cellsOf e = 1)
    (hf : DataW.trod enc P W 0 (fun _ => true) true fuel t [v] = some x) (hlt : ∀ y ∈ x.2, y.block < W.heap.size) :
    ∃ (A : Option Addr) (n c : Nat) (xs : List Int), v = .slice A n c ∧ n ≤ c ∧ n ≤ 9223372036854775807 ∧ IS W W.heap.size A n xs ∧ AllN xs := by
  rcases open_ints ht he ce hf with ⟨h0, _⟩ | ⟨a, len, cap, zs, hcs, hb, hl, hm, hz, hx, hi, hwf⟩
  · injection h0 with h0
    subst h0
    exact ⟨none, 0, 0, [], rfl, by omega, by omega, IS.none_ _ _ _, fun k v hv => by simp at hv⟩
  · injection hcs with hcs
    subst hcs
    simp only [if_true] at hz
    refine ⟨some a, len, cap, zs.take len, rfl, hl, by unfold maxLen at hm; omega, ⟨by rw [List.length_take]; omega, fun hn => ?_⟩, fun k v hv => i64_of_wf (hwf v (List.mem_of_mem_take (List.mem_of_getElem? hv)))⟩
    have h0 := hi 0 (by omega)
    simp [Addr.add] at h0
    have ha := addr_of_cell h0
    have hblt : a.block < W.heap.size := by
      apply hlt (.cell a.block a.off)
      rw [hx, hz, ha]
      simp [MemPlace.row]
      omega
    refine ⟨a.block, a.off, by rw [← ha], hblt, fun k y hk => ?_⟩
    have hkn := (List.getElem?_eq_some_iff.1 hk).1
    rw [List.length_take] at hkn
    rw [List.getElem?_take_of_lt (by omega)] at hk
    have hc := hi k (by omega)
    rw [ha, add_none, List.getD_eq_getElem?_getD, hk] at hc
    exact hc
/-- a slice of cells -/
theorem cells_trod {t e tb ti tr : TypeId} {f0 f1 f2 : Field} {fuel : Nat} {v : Value} {x : DataW H × List MemPlace} (ht : P.underlying t = some (.slice e)) (he : P.underlying e = some (.struct #[f0, f1, f2])) (ce : P.cellsOf e = 3)
    (t0 : f0.type = tb) (t1 : f1.type = ti) (t2 : f2.type = tr) (o0 : f0.offset = 0) (o1 : f1.offset = 1) (o2 : f2.offset = 2)
    (htb : P.underlying tb = some .bool) (hti : P.underlying ti = some (.int .i64)) (htr : P.underlying tr = some (.slice ti)) (cb : P.cellsOf tb = 1) (ci : P.cellsOf ti = 1) (cr : P.cellsOf tr = 1)
    (hf : DataW.trod enc P W 0 (fun _ => true) true fuel t [v] = some x) (hlt : ∀ y ∈ x.2, y.block < W.heap.size) :
    ∃ (A : Option Addr) (n c : Nat) (cs : List Cl), v = .slice A n c ∧ n ≤ c ∧ n ≤ 9223372036854775807 ∧ CS W W.heap.size A n cs ∧ ∀ cl ∈ cs, I64 cl.d ∧ AllN cl.r ∧ cl.r.length ≤ 9223372036854775807 := by
  rcases open_slice ht hf with ⟨h0, _⟩ | ⟨a, len, cap, m, n', D, Pl, hcs, hb, hl, hm, hmm, hx, hi⟩
  · injection h0 with h0
    subst h0
    exact ⟨none, 0, 0, [], rfl, by omega, by omega, CS.none_ _ _ _, fun cl hcl => by simp at hcl⟩
  · injection hcs with hcs
    subst hcs
    simp only [if_true] at hmm
    subst hmm
    have each : ∀ i, i < len → ∃ q : Cl × Option Addr × Nat × Nat, I64 q.1.d ∧ AllN q.1.r ∧ q.2.2.1 ≤ 9223372036854775807 ∧ W.cell? (a.add (i * 3)) = some (.bool q.1.u) ∧ W.cell? (a.add (i * 3 + 1)) = some (.int .i64 q.1.d) ∧ W.cell? (a.add (i * 3 + 2)) = some (.slice q.2.1 q.2.2.1 q.2.2.2) ∧ q.2.2.1 ≤ q.2.2.2 ∧ IS W W.heap.size q.2.1 q.2.2.1 q.1.r := by
      intro i hin
      obtain ⟨cs', h1, h2⟩ := hi i (by omega)
      rw [ce] at h1
      obtain ⟨_, hlen, hcell⟩ := World.cells?_some h1
      obtain ⟨ys, k, _, hys, _, hyl, hfd⟩ := DataW.trod_struct he h2
      match cs', hlen with
      | [v0, v1, v2], _ =>
        have g0 := hfd 0 f0 rfl
        have g1 := hfd 1 f1 rfl
        have g2 := hfd 2 f2 rfl
        rw [t0, o0, cb] at g0
        rw [t1, o1, ci] at g1
        rw [t2, o2, cr] at g2
        rw [List.getElem?_eq_getElem (by rw [hyl]; simp)] at g0 g1 g2
        obtain ⟨u, e0, _⟩ := DataW.trod_bool htb g0
        obtain ⟨n1, e1, _, w1⟩ := DataW.trod_int hti g1
        simp at e0 e1
        subst e0 e1
        have hlt2 : ∀ y ∈ (ys[2]'(by rw [hyl]; simp)).2, y.block < W.heap.size := fun y hy => by
          apply hlt
          rw [hx]
          apply List.mem_append_right
          rw [List.mem_flatMap]
          refine ⟨i, by simp; omega, ?_⟩
          have := congrArg Prod.snd hys
          simp only [] at this
          rw [this, List.mem_flatMap]
          exact ⟨_, List.getElem_mem _, hy⟩
        obtain ⟨A2, n2, c2, xs2, e2, hnc, hn2, hi2, ha2⟩ := nums_trod htr hti ci g2 hlt2
        subst e2
        have q0 := hcell 0 (by omega)
        have q1 := hcell 1 (by omega)
        have q2 := hcell 2 (by omega)
        rw [add_add] at q0 q1 q2
        exact ⟨(⟨u, n1, xs2⟩, A2, n2, c2), i64_of_wf w1, ha2, hn2, by simpa using q0, by simpa using q1, by simpa using q2, hnc, hi2⟩
    obtain ⟨F, hF⟩ := choose_lt each
    refine ⟨some a, len, _, (List.range len).map fun i => (F i).1, rfl, hl, by unfold maxLen at hm; omega, ⟨by simp, fun hn => ?_⟩, fun cl hcl => ?_⟩
    · have h0 := (hF 0 hn).2.2.2.1
      simp [Addr.add] at h0
      have ha := addr_of_cell h0
      have hblt : a.block < W.heap.size := by
        apply hlt (.cell a.block a.off)
        rw [hx, ce]
        apply List.mem_append_left
        rw [ha]
        simp [MemPlace.row]
        omega
      refine ⟨a.block, a.off, by rw [← ha], hblt, fun k c hk => ?_⟩
      have hkn : k < len := by
        have := (List.getElem?_eq_some_iff.1 hk).1
        simpa using this
      simp only [List.getElem?_map] at hk
      rw [List.getElem?_range hkn] at hk
      simp at hk
      subst hk
      obtain ⟨_, _, _, q1, q2, q3, q4, q5⟩ := hF k hkn
      rw [ha, add_none] at q1 q2 q3
      exact ⟨q1, by rw [Nat.add_assoc]; exact q2, _, _, _, by rw [Nat.add_assoc]; exact q3, q4, q5⟩
    · obtain ⟨i, hi', rfl⟩ := List.mem_map.1 hcl
      obtain ⟨q1, q2, q3, _, _, _, _, q5⟩ := hF i (by simpa using hi')
      exact ⟨q1, q2, by rw [q5.1]; exact q3⟩
end
end Go.Proofs.YtiojoailjiojjaaDoor

namespace Go.Proofs.YtiojoailjiojjaaDoor
open Go.ChangeShapes Go.WideShapes Go.ChangeAt Go.RowKit Go.Deep
set_option maxRecDepth 100000
end Go.Proofs.YtiojoailjiojjaaDoor

namespace Go.Proofs.YtiojoailjiojjaaDoor
open Go.ChangeShapes Go.WideShapes Go.ChangeAt Go.RowKit Go.Deep
set_option maxRecDepth 100000
section
variable {H : Type} {enc : TypeId × Value → H} {P : Program} {W : World}
theorem heap_trod {t tc tn e tb ti : TypeId} {h0 h1 f0 f1 f2 : Field} {v0 v1 : Value} {fuel : Nat} {x : DataW H × List MemPlace}
    (hh : P.underlying t = some (.struct #[h0, h1])) (s0 : h0.type = tc) (s1 : h1.type = tn) (p0 : h0.offset = 0) (p1 : h1.offset = 1) (ctc : P.cellsOf tc = 1) (ctn : P.cellsOf tn = 1)
    (htc : P.underlying tc = some (.slice e)) (htn : P.underlying tn = some (.slice ti)) (he : P.underlying e = some (.struct #[f0, f1, f2])) (ce : P.cellsOf e = 3)
    (t0 : f0.type = tb) (t1 : f1.type = ti) (t2 : f2.type = tn) (o0 : f0.offset = 0) (o1 : f1.offset = 1) (o2 : f2.offset = 2)
    (htb : P.underlying tb = some .bool) (hti : P.underlying ti = some (.int .i64)) (cb : P.cellsOf tb = 1) (ci : P.cellsOf ti = 1)
    (hf : DataW.trod enc P W 0 (fun _ => true) true fuel t [v0, v1] = some x) (hlt : ∀ y ∈ x.2, y.block < W.heap.size) :
    ∃ (A R : Option Addr) (n c m dd : Nat) (hp : Hp), v0 = .slice A n c ∧ v1 = .slice R m dd ∧ n ≤ 9223372036854775807 ∧ m ≤ 9223372036854775807 ∧ HS W W.heap.size A n R m hp ∧ ∀ cl ∈ hp.cs, cl.r.length ≤ 9223372036854775807 := by
  obtain ⟨d, ps⟩ := x
  obtain ⟨ys, k, _, hys, _, hyl, hfd⟩ := DataW.trod_struct hh hf
  have g0 := hfd 0 h0 rfl
  have g1 := hfd 1 h1 rfl
  rw [s0, p0, ctc] at g0
  rw [s1, p1, ctn] at g1
  rw [List.getElem?_eq_getElem (by rw [hyl]; simp)] at g0 g1
  simp at g0 g1
  have hpl : ∀ (i : Nat) (hi : i < ys.length), ∀ y ∈ (ys[i]).2, y.block < W.heap.size := fun i hi y hy => by
    apply hlt
    have := congrArg Prod.snd hys
    simp only [] at this
    rw [this, List.mem_flatMap]
    exact ⟨_, List.getElem_mem _, hy⟩
  obtain ⟨A, n, c, cs, e0, _, hn, hC, ha⟩ := cells_trod htc he ce t0 t1 t2 o0 o1 o2 htb hti htn cb ci ctn g0 (hpl 0 _)
  obtain ⟨R, m, dd, xs, e1, _, hm, hI, hx⟩ := nums_trod htn hti ci g1 (hpl 1 _)
  subst e0 e1
  exact ⟨A, R, n, c, m, dd, ⟨cs, xs⟩, rfl, rfl, hn, hm, ⟨hC, hI⟩, fun cl hcl => (ha cl hcl).2.2⟩
theorem open_counted {u t tc tn e tb ti : TypeId} {k0 k1 h0 h1 f0 f1 f2 : Field} {r : Reach} {b0 : Nat} {v : Value} {d : DataW H} {ps : List MemPlace}
    (hu : P.underlying u = some (.struct #[k0, k1])) (cu : P.cellsOf u = 3) (y0 : k0.type = t) (y1 : k1.type = tn) (x0 : k0.offset = 0) (x1 : k1.offset = 2) (ct : P.cellsOf t = 2)
    (hh : P.underlying t = some (.struct #[h0, h1])) (s0 : h0.type = tc) (s1 : h1.type = tn) (p0 : h0.offset = 0) (p1 : h1.offset = 1) (ctc : P.cellsOf tc = 1) (ctn : P.cellsOf tn = 1)
    (htc : P.underlying tc = some (.slice e)) (htn : P.underlying tn = some (.slice ti)) (he : P.underlying e = some (.struct #[f0, f1, f2])) (ce : P.cellsOf e = 3)
    (t0 : f0.type = tb) (t1 : f1.type = ti) (t2 : f2.type = tn) (o0 : f0.offset = 0) (o1 : f1.offset = 1) (o2 : f2.offset = 2)
    (htb : P.underlying tb = some .bool) (hti : P.underlying ti = some (.int .i64)) (cb : P.cellsOf tb = 1) (ci : P.cellsOf ti = 1)
    (hval : Value.okWide P W r b0 u v) (h : DataW.Trod enc P W 0 (fun _ => true) true u v d ps) (hlt : ∀ x ∈ ps, x.block < W.heap.size) :
    ∃ (A R K : Option Addr) (n c m dd p q : Nat) (hp : Hp) (l : List Int), v = .agg #[.slice A n c, .slice R m dd, .slice K p q] ∧ n ≤ 9223372036854775807 ∧ m ≤ 9223372036854775807 ∧ p ≤ 9223372036854775807 ∧ HS W W.heap.size A n R m hp ∧ IS W W.heap.size K p l ∧ ∀ cl ∈ hp.cs, cl.r.length ≤ 9223372036854775807 := by
  obtain ⟨cs, rfl, hsz⟩ := okWide_struct hu hval
  rw [cu] at hsz
  obtain ⟨fuel, hf⟩ := h
  obtain ⟨ys, k, _, hys, _, hyl, hfd⟩ := DataW.trod_struct hu hf
  obtain ⟨l⟩ := cs
  match l, hsz with
  | [v0, v1, v2], _ =>
    have g0 := hfd 0 k0 rfl
    have g1 := hfd 1 k1 rfl
    rw [y0, x0, ct] at g0
    rw [y1, x1, ctn] at g1
    rw [List.getElem?_eq_getElem (by rw [hyl]; simp)] at g0 g1
    simp at g0 g1
    have hpl : ∀ (i : Nat) (hi : i < ys.length), ∀ y ∈ (ys[i]).2, y.block < W.heap.size := fun i hi y hy => by
      apply hlt
      have := congrArg Prod.snd hys
      simp only [] at this
      rw [this, List.mem_flatMap]
      exact ⟨_, List.getElem_mem _, hy⟩
    obtain ⟨A, R, n, c, m, dd, hp, rfl, rfl, hn, hm, hs, hb⟩ := heap_trod hh s0 s1 p0 p1 ctc ctn htc htn he ce t0 t1 t2 o0 o1 o2 htb hti cb ci g0 (hpl 0 _)
    obtain ⟨K, p, q, xs, rfl, _, hp3, hI, _⟩ := nums_trod htn hti ci g1 (hpl 1 _)
    exact ⟨A, R, K, n, c, m, dd, p, q, hp, xs, rfl, hn, hm, hp3, hs, hI, hb⟩
end
theorem open_lawsCounted {H : Type} {enc : TypeId × Value → H} {W : World} {r : Reach} {base : Nat} {v : Value} {d : DataW H} {ps : List MemPlace} (hval : Value.okWide Tryd.prog W r base 62 v) (h : DataW.Trod enc Tryd.prog W 0 (fun _ => true) true 62 v d ps) (hlt : ∀ x ∈ ps, x.block < W.heap.size) :
    ∃ (A R K : Option Addr) (n c m dd p q : Nat) (hp : Hp) (l : List Int), v = .agg #[.slice A n c, .slice R m dd, .slice K p q] ∧ n ≤ 9223372036854775807 ∧ m ≤ 9223372036854775807 ∧ p ≤ 9223372036854775807 ∧ HS W W.heap.size A n R m hp ∧ IS W W.heap.size K p l ∧ ∀ cl ∈ hp.cs, cl.r.length ≤ 9223372036854775807 :=
  open_counted (t := 55) (tc := 53) (tn := 24) (e := 143) (tb := 4) (ti := 3) Tryd.underlying62 (by kernel_rfl) rfl rfl rfl rfl (by kernel_rfl) Tryd.underlying55 rfl rfl rfl rfl (by kernel_rfl) (by kernel_rfl) Tryd.underlying53 Tryd.underlying24 Tryd.underlying143 (by kernel_rfl) rfl rfl rfl rfl rfl rfl Tryd.underlying4 Tryd.underlying3 (by kernel_rfl) (by kernel_rfl) hval h hlt
end Go.Proofs.YtiojoailjiojjaaDoor

namespace Go.Proofs.YtiojoailjiojjaaDoor
open Go.ChangeShapes Go.WideShapes Go.ChangeAt Go.RowKit Go.Deep
theorem var_ltU {P : Program} {W : World} {n : String} {g : Nat} {cs : Array Value} (hg : P.globalNamed n = some g) (h : W.var? P n = some cs) : g < W.heap.size := by
  unfold World.var? at h
  simp only [hg, Option.bind_some] at h
  split at h
  · next h2 => exact (Array.getElem?_eq_some_iff.1 h2).1
  · cases h
theorem gTz : Tryd.prog.globalNamed "math/bits.deBruijn64tab" = some 0 := by kernel_rfl
theorem tab_cast : ∀ i : Nat, i < 64 → ([0, 1, 56, 2, 57, 49, 28, 3, 61, 58, 42, 50, 38, 29, 17, 4, 62, 47, 59, 36, 45, 43, 51, 22, 53, 39, 33, 30, 24, 18, 12, 5, 63, 55, 48, 27, 60, 41, 37, 16, 46, 35, 44, 21, 52, 32, 23, 11, 54, 26, 40, 15, 34, 20, 31, 10, 25, 14, 19, 9, 13, 8, 7, 6] : List Int).getD i 0 = (Lib.deBruijn64tab.getD i 0 : Nat) := by decide +kernel
theorem tzT_of_laid {W : World} (h : laidMetH Tryd.prog [("math/bits.deBruijn64tab", Rows.laid_math_bits_deBruijn64tab)] W) : TzT W := by
  rw [MakeChecks.laidMetH_plain _ _ _ (by kernel_rfl)] at h
  have hT : Lib.TabIs Tryd.prog W "math/bits.deBruijn64tab" .u8 [0, 1, 56, 2, 57, 49, 28, 3, 61, 58, 42, 50, 38, 29, 17, 4, 62, 47, 59, 36, 45, 43, 51, 22, 53, 39, 33, 30, 24, 18, 12, 5, 63, 55, 48, 27, 60, 41, 37, 16, 46, 35, 44, 21, 52, 32, 23, 11, 54, 26, 40, 15, 34, 20, 31, 10, 25, 14, 19, 9, 13, 8, 7, 6] :=
    Lib.tabIs_of_head (k := .u8) (zs := [0, 1, 56, 2, 57, 49, 28, 3, 61, 58, 42, 50, 38, 29, 17, 4, 62, 47, 59, 36, 45, 43, 51, 22, 53, 39, 33, 30, 24, 18, 12, 5, 63, 55, 48, 27, 60, 41, 37, 16, 46, 35, 44, 21, 52, 32, 23, 11, 54, 26, 40, 15, 34, 20, 31, 10, 25, 14, 19, 9, 13, 8, 7, 6]) (rest := []) (n := 64) (t := 151) (e := 5) gTz (by kernel_rfl) Tryd.underlying151 Tryd.underlying5 (by kernel_rfl) (by kernel_rfl) h
  exact ⟨var_ltU gTz hT, fun i hi => by
    rw [← tab_cast i hi]
    exact hT.cell gTz i (by simpa using hi)⟩
/-- the door's own heap meets the condition -/
theorem door_tz (os : Os) (args : Array Value) : laidMetH Tryd.prog [("math/bits.deBruijn64tab", Rows.laid_math_bits_deBruijn64tab)] ((World.doorLaid Tryd.prog 14 os).forCall (fun _ _ => 0) ⟨#[], args, []⟩).memory :=
  laidMetH_of_parts3 (fuel := 8) (laidMet_of_run' 8 (by kernel_rfl) (by kernel_rfl)) (by kernel_rfl) (by kernel_rfl)
end Go.Proofs.YtiojoailjiojjaaDoor

