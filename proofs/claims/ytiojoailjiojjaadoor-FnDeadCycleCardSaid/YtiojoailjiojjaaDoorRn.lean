/- What the program's hasCounted and deadSet return, in every memory in which the table of math/bits lies as laid: the cells that can be freed on suspicion. -/
import Derived.Test.YtiojoailjiojjaaDoorRc
import Derived.Test.YtiojoailjiojjaaDoorRm
import Derived.Test.YtiojoailjiojjaaDoorGa
namespace Go.Proofs.YtiojoailjiojjaaDoor
open Go.RowKit
set_option maxRecDepth 100000

set_option maxHeartbeats 1000000 in
theorem hasCounted_any (V n c : Nat) (A : Option Addr) (L : List Int) (w : World) (hT : TzT w) (hV : V < 18446744073709551616) (hbit : ∀ i, V.testBit i = true → i < n) (_hn : n ≤ 40) (h : IS w w.heap.size A n (Hps.cntN n L)) :
    Calls Tryd.prog 90 #[.int .u64 V, .slice A n c] w fun e w' => e = .returned (.bool (Hps.hasL V L)) ∧ Below w.heap.size w w' := by
  have HNB := Lib.hid (fun (x : Int) (hx : x ∈ Hps.numsB V) => Hps.mem_numsB.1 hx)
  have hnl := Hps.nums_len V
  obtain ⟨N, hN⟩ : ∃ N, Hps.numsB V = N := ⟨_, rfl⟩
  have HN := Lib.hid hN
  rw [hN] at HNB hnl
  have HB := Lib.hid hbit
  have HNV := Lib.hid (numbers_any V w hT hV)
  rw [hN] at HNV
  have HR := Lib.hid (show Hps.hasL V L = N.any fun x => decide (x ∈ L) by rw [← hN]; rfl)
  clear hN hbit
  go_enter Tryd.func90, Tryd.ntmps90
  go_wp2_with fail
  refine HNV.out.mono ?_
  rintro e w1 ⟨v1, rfl, o1, b1⟩
  obtain ⟨A1, c1, e1, _⟩ := o1.form
  subst e1
  obtain ⟨q, hq⟩ : ∃ q, N.length = q := ⟨_, rfl⟩
  have HQ := Lib.hid hq
  rw [hq] at o1 hnl
  have hr := o1.reads
  have h1 := h.below b1
  rw [hq]
  clear HNV hq o1
  go_wp2_with fail
  go_loopw [10] (fun i wr => ∃ k : Nat, k ≤ q ∧ i = .int .i64 k ∧ Hid (∀ (j : Nat) (x : Int), j < k → N[j]? = some x → x ∉ L) ∧ wr = w1) (fun i _ => q - (intOf i).toNat)
  case atStart => exact ⟨0, Nat.zero_le _, rfl, Lib.hid (fun j x hj => by omega), rfl⟩
  case round =>
    obtain ⟨k, hk, rfl, HP, rfl⟩ := hrel
    by_cases hlt : k < q
    · obtain ⟨g, o, x, rfl, hg, hx, d1⟩ := hr.at_ hlt
      obtain ⟨y, hy, _, hb⟩ := HNB.out x (List.mem_of_getElem? hx)
      subst hy
      have hyn := HB.out y hb
      obtain ⟨g', o', z, rfl, hg', hz, d2⟩ := h1.at_ (k := y) hyn
      rw [Hps.cntN_at _ hyn] at hz
      have hz := Option.some.inj hz
      have hlt' : (k : Int) < q := by omega
      have hyn' : (y : Int) < n := by omega
      have HX := Lib.hid hx
      by_cases hc : (y : Int) ∈ L
      · have hpos : z > 0 := by have := List.count_pos_iff.2 hc; omega
        have HR2 := Lib.hid (show Hps.hasL V L = true by rw [HR.out, List.any_eq_true]; exact ⟨_, List.mem_of_getElem? HX.out, by simpa using hc⟩)
        clear hx hz hc hb
        go_wp2_with fail
        go_ret
        exact ⟨by rw [HR2.out]; rfl, b1⟩
      · have hpos : ¬ z > 0 := by have := List.count_eq_zero.2 hc; omega
        have HP2 : Hid (∀ (j : Nat) (x : Int), j < k + 1 → N[j]? = some x → x ∉ L) := Lib.hid fun j x hj hx2 => by
          rcases Nat.lt_or_ge j k with h2 | h2
          · exact HP.out j x h2 hx2
          · obtain rfl : j = k := by omega
            rw [HX.out] at hx2
            rw [← Option.some.inj hx2]
            exact hc
        clear hx hz hc hb
        go_wp2_with fail
        go_roundw
        case rel => exact ⟨k + 1, by omega, by go_num, HP2, trivial⟩
        case measure => simp [intOf]; omega
    · obtain rfl : k = q := by omega
      have HR2 := Lib.hid (show Hps.hasL V L = false by
        rw [HR.out, List.any_eq_false]
        intro x hx
        obtain ⟨j, hj⟩ := List.mem_iff_getElem?.1 hx
        simpa using HP.out j x (by have := (List.getElem?_eq_some_iff.1 hj).1; rw [HQ.out] at this; exact this) hj)
      go_wp2_with fail
      go_ret
      exact ⟨by rw [HR2.out]; rfl, b1⟩

set_option maxHeartbeats 4000000 in
theorem deadSet_any (A R : Option Addr) (n c m d v : Nat) (h : Hp) (w : World) (hT : TzT w) (hs : HS w w.heap.size A n R m h) (hv : Hps.validH h = true) (hu : Hps.usedAt h.cs v = true) :
    Calls Tryd.prog 44 #[heapV A n c R m d, .int .i64 v] w fun e w' => e = .returned (.int .u64 (Bm.wordN (Hps.deadL h v) true : Nat)) ∧ Below w.heap.size w w' := by
  have hlc := hs.cells.1
  have hlr := hs.roots.1
  obtain ⟨s1, s2, s3⟩ := Hps.valid_small hv
  have hvn : v < n := by have := Hps.usedAt_lt hu; omega
  have b0 : Below w.heap.size w (w.alloc (.cells #[.slice A n c, .slice R m d] 26)) := (Below.refl _ _).alloc (Nat.le_refl _) _
  have hbx := Rw.new w 26 #[.slice A n c, .slice R m d]
  have r1 := hs.up b0
  obtain ⟨V, hVV⟩ : ∃ V, Hps.reachW ⟨h.cs, [(v : Int)]⟩ = V := ⟨_, rfl⟩
  have hVl : V < 18446744073709551616 := by rw [← hVV]; exact Hps.reachW_lt (by simp only; omega)
  have HG := Lib.hid ((Hps.OkG.valid hv).one hu)
  have HV := Lib.hid hv
  have HW := Lib.hid hVV
  have HLT : Hid (∀ k, Hps.Rch h.cs [(v : Int)] k → k < h.cs.length) := Lib.hid fun k hk => Hps.usedAt_lt (Hps.from_used hv hu hk)
  have HRF := Lib.hid (Hps.valid_refs hv)
  have HS3 := Lib.hid s3
  have HOUT := Lib.hid (show Hps.outW h V n = Hps.outOf h (Hps.reachL h.cs [(v : Int)]) by
    rw [Hps.outOf, ← hlc, ← hVV]
    exact Hps.outW_eq (fun i => by unfold Hps.reachW; rw [Bm.wordN_bit]) _)
  have HOL := Lib.hid (show (Hps.outW h V n).length ≤ 400000000 by
    have h1 := Hps.outW_len h V n (by omega)
    have h2 := Hps.refsTo_len (h := h) (fun cl hcl => by have := s3 cl hcl; omega) (k := n) (by omega)
    omega)
  obtain ⟨w1, hw1⟩ : ∃ w1, w.alloc (.cells #[.slice A n c, .slice R m d] 26) = w1 := ⟨_, rfl⟩
  rw [hw1] at b0 hbx r1
  have z0 : w1.cell? ⟨w.heap.size, 0, none⟩ = some (.slice A n c) := hbx.cell 0
  have z1 : w1.cell? ⟨w.heap.size, 1, none⟩ = some (.slice R m d) := hbx.cell 1
  have hwl := hbx.lt
  have hvn' : (v : Int) < n := by omega
  clear hv s3 hVV hu hs
  go_enter Tryd.func44, Tryd.ntmps44
  go_wp2_with fail
  refine wp_region_inv (by kernel_rfl) (by kernel_rfl) (fun L ac ww => ∃ t5 t11 t12 t13 t14 t15 t16 t17 : Value, ac = { tmps := #[heapV A n c R m d, .int .i64 v, .pointer (some ⟨w.heap.size, 0, none⟩), undef, .int .u64 0, t5, undef, undef, undef, undef, undef, t11, t12, t13, t14, t15, t16, t17, undef, undef, undef, undef, undef, undef, undef, undef, undef, undef, undef, undef, undef, undef, undef, undef, undef, undef, undef, undef, undef, undef, undef, undef, undef, undef, undef, undef, undef, undef, undef, undef, undef, undef], defers := [] } ∧ (Below w1.heap.size w1 ww) ∧ (L 0 = true → t11 = heapV A n c R m d) ∧ (L 1 = true → t12 = (.pointer (some ⟨w.heap.size, 0, none⟩))) ∧ (L 2 = true → t13 = .slice A n c) ∧ (L 3 = true → t14 = .int .i64 (v : Nat)) ∧ (L 4 = true → OwnI ww w1.heap.size t15 [(v : Int)]) ∧ (L 5 = true → t16 = .int .u64 (V : Nat)) ∧ (L 6 = true → OwnI ww w1.heap.size t17 (Hps.cntN n (Hps.outW h V n))) ∧ (L 7 = true → OwnI ww w1.heap.size t5 (Hps.cntN n (Hps.outW h V n)))) ?h0 ?hstep ?hdone
  case h0 => exact ⟨_, _, _, _, _, _, _, _, rfl, (Below.refl _ _).drew, (fun h => absurd h Bool.false_ne_true), (fun h => absurd h Bool.false_ne_true), (fun h => absurd h Bool.false_ne_true), (fun h => absurd h Bool.false_ne_true), (fun h => absurd h Bool.false_ne_true), (fun h => absurd h Bool.false_ne_true), (fun h => absurd h Bool.false_ne_true), (fun h => absurd h Bool.false_ne_true)⟩
  case hstep =>
    rintro L ac ww i o ho hL hd ⟨t5, t11, t12, t13, t14, t15, t16, t17, rfl, I0, f0, f1, f2, f3, f4, f5, f6, f7⟩
    have hi : i < 8 := (Array.getElem?_eq_some_iff.1 ho).1
    obtain rfl | rfl | rfl | rfl | rfl | rfl | rfl | rfl : i = 0 ∨ i = 1 ∨ i = 2 ∨ i = 3 ∨ i = 4 ∨ i = 5 ∨ i = 6 ∨ i = 7 := by omega
    · obtain rfl := Option.some.inj ho
      have y0 : ww.cell? ⟨w.heap.size, 0, none⟩ = some (.slice A n c) := (I0.cell (p := ⟨w.heap.size, 0, none⟩) hwl).trans z0
      have y1 : ww.cell? ⟨w.heap.size, 1, none⟩ = some (.slice R m d) := (I0.cell (p := ⟨w.heap.size, 1, none⟩) hwl).trans z1
      refine wpOp_step rfl (fun K' hK => ?_)
      go_simp
      refine hK _ _ ?_
      exact ⟨_, _, _, _, _, _, _, _, rfl, (I0), (fun _ => rfl), (kp f1), (kp f2), (kp f3), (kp f4), (kp f5), (kp f6), (kp f7)⟩
    · obtain rfl := Option.some.inj ho
      refine wpOp_step rfl (fun K' hK => ?_)
      go_simp
      refine hK _ _ ?_
      exact ⟨_, _, _, _, _, _, _, _, rfl, (I0), (kp f0), (fun _ => rfl), (kp f2), (kp f3), (kp f4), (kp f5), (kp f6), (kp f7)⟩
    · obtain rfl := Option.some.inj ho
      have g1 := f1 (hd ⟨1, .data⟩ (by simp) rfl)
      subst g1
      have y0 : ww.cell? ⟨w.heap.size, 0, none⟩ = some (.slice A n c) := (I0.cell (p := ⟨w.heap.size, 0, none⟩) hwl).trans z0
      have y1 : ww.cell? ⟨w.heap.size, 1, none⟩ = some (.slice R m d) := (I0.cell (p := ⟨w.heap.size, 1, none⟩) hwl).trans z1
      refine wpOp_step rfl (fun K' hK => ?_)
      go_simp
      refine hK _ _ ?_
      exact ⟨_, _, _, _, _, _, _, _, rfl, (I0), (kp f0), (kp f1), (fun _ => rfl), (kp f3), (kp f4), (kp f5), (kp f6), (kp f7)⟩
    · obtain rfl := Option.some.inj ho
      refine wpOp_step rfl (fun K' hK => ?_)
      go_simp
      refine hK _ _ ?_
      exact ⟨_, _, _, _, _, _, _, _, rfl, (I0), (kp f0), (kp f1), (kp f2), (fun _ => rfl), (kp f4), (kp f5), (kp f6), (kp f7)⟩
    · obtain rfl := Option.some.inj ho
      have g3 := f3 (hd ⟨3, .data⟩ (by simp) rfl)
      subst g3
      refine wpOp_step rfl (fun K' hK => ?_)
      go_simp
      refine hK _ _ ?_
      have o5 := own_oneI ww (v : Int) w1.heap.size I0.size
      exact ⟨_, _, _, _, _, _, _, _, rfl, (I0.alloc I0.size _), (kp f0), (kp f1), (kp f2), (kp f3), (fun _ => o5), (kp f5), (fun h => World.ownsRow.alloc (f6 (upd_ne h (by decide))) _), (fun h => World.ownsRow.alloc (f7 (upd_ne h (by decide))) _)⟩
    · obtain rfl := Option.some.inj ho
      have g2 := f2 (hd ⟨2, .data⟩ (by simp) rfl)
      have g4 := f4 (hd ⟨4, .data⟩ (by simp) rfl)
      subst g2
      obtain ⟨A5, c5, e5, _⟩ := g4.form
      subst e5
      refine wpOp_step rfl (fun K' hK => ?_)
      go_simp
      refine (ledTo_any A A5 n c 1 c5 ⟨h.cs, [(v : Int)]⟩ ww (r1.up I0).cells g4.reads HG.out).mono ?_
      rw [HW.out]
      rintro e w' ⟨rfl, b5⟩
      refine hK _ _ ?_
      exact ⟨_, _, _, _, _, _, _, _, rfl, (I0.trans (b5.mono I0.size)), (kp f0), (kp f1), (kp f2), (kp f3), (fun h => (f4 (upd_ne h (by decide))).below b5 (Nat.le_refl _)), (fun _ => rfl), (fun h => (f6 (upd_ne h (by decide))).below b5 (Nat.le_refl _)), (fun h => (f7 (upd_ne h (by decide))).below b5 (Nat.le_refl _))⟩
    · obtain rfl := Option.some.inj ho
      have g0 := f0 (hd ⟨0, .data⟩ (by simp) rfl)
      have g5 := f5 (hd ⟨5, .data⟩ (by simp) rfl)
      subst g0
      subst g5
      refine wpOp_step rfl (fun K' hK => ?_)
      go_simp
      refine (countsWithout_any A R n c m d V h ww (r1.up I0) HV.out hVl).mono ?_
      rintro e w' ⟨v5, rfl, o5, b5⟩
      refine hK _ _ ?_
      exact ⟨_, _, _, _, _, _, _, _, rfl, (I0.trans (b5.mono I0.size)), (kp f0), (kp f1), (kp f2), (kp f3), (fun h => (f4 (upd_ne h (by decide))).below b5 (Nat.le_refl _)), (kp f5), (fun _ => o5.base I0.size), (fun h => (f7 (upd_ne h (by decide))).below b5 (Nat.le_refl _))⟩
    · obtain rfl := Option.some.inj ho
      have g6 := f6 (hd ⟨6, .data⟩ (by simp) rfl)
      refine wpOp_step rfl (fun K' hK => ?_)
      go_simp
      refine hK _ _ ?_
      exact ⟨_, _, _, _, _, _, _, _, rfl, (I0), (kp f0), (kp f1), (kp f2), (kp f3), (kp f4), (kp f5), (kp f6), (fun _ => g6)⟩
  case hdone =>
    rintro L ac ww hall ⟨t5, t11, t12, t13, t14, t15, t16, t17, rfl, I0, f0, f1, f2, f3, f4, f5, f6, f7⟩
    have e0 := f0 (hall 0 (by decide))
    have e1 := f1 (hall 1 (by decide))
    have e2 := f2 (hall 2 (by decide))
    have e3 := f3 (hall 3 (by decide))
    have e4 := f4 (hall 4 (by decide))
    have e5 := f5 (hall 5 (by decide))
    have e6 := f6 (hall 6 (by decide))
    have e7 := f7 (hall 7 (by decide))
    clear f0 f1 f2 f3 f4 f5 f6 f7
    obtain ⟨A5, c5, e5, hA5⟩ := e7.form
    rw [Hps.cntN_len] at e5 hA5
    obtain ⟨g5, rfl, hg5, _⟩ := hA5 (by omega)
    subst e0 e1 e2 e3 e5
    have y0 := (I0.cell (p := ⟨w.heap.size, 0, none⟩) hwl).trans z0
    have HC := Lib.hid (componentsFrom_any A n c v h.cs ww (r1.up I0).cells HRF.out HS3.out (by omega) hvn)
    clear e4 e5 e6 hA5
    go_wp2_with fail
    refine HC.out.mono ?_
    rintro e w3 ⟨fv, f, rfl, C, oF, b3⟩
    have bb3 := I0.trans (b3.mono I0.size)
    have o3 := e7.below b3 (Nat.le_refl _)
    have oF3 := OwnU.base oF I0.size
    have HCC := Lib.hid C
    have hfl := C.len
    obtain ⟨q, hq⟩ : ∃ q, f.reverse.length = q := ⟨_, rfl⟩
    have hnl := natsI_len f.reverse
    rw [hq] at hnl
    have hq40 : q ≤ 40 := by rw [← hq, List.length_reverse]; exact hfl
    obtain ⟨A6, c6, e6, _⟩ := oF3.form
    rw [hnl] at e6
    subst e6
    have HQ := Lib.hid hq
    have HD := Lib.hid (Hps.DeadSt.start HLT.out)
    rw [← HOUT.out] at HD
    obtain ⟨B, hB⟩ : ∃ B, w1.heap.size = B := ⟨_, rfl⟩
    have C1 := r1.cells
    have hwB : w.heap.size ≤ B := by omega
    rw [hB] at bb3 o3 oF3 hg5 hwl C1
    clear e7 oF hq HC C y0 I0 b3
    go_wp2_with fail
    go_loopw [6, 23] (fun D i wr => ∃ (k DD : Nat) (L : List Int), k ≤ q ∧ i = .int .i64 k ∧ D = .int .u64 DD ∧ Hid (DD < 18446744073709551616) ∧ Hid (Hps.DeadSt h v (f.reverse.take k) L DD) ∧ Hid (L.length ≤ 400000000 + 1000 * k) ∧ OwnI wr B (.slice (some ⟨g5, 0, none⟩) n c5) (Hps.cntN n L) ∧ OwnU wr B (.slice A6 q c6) (natsI f.reverse) ∧ Below B w1 wr) (fun _ i _ => q - (intOf i).toNat)
    case atStart => exact ⟨0, 0, _, Nat.zero_le _, rfl, rfl, Lib.hid (by omega), HD, HOL, o3, oF3, bb3⟩
    case round =>
      clear HD o3 oF3 bb3
      obtain ⟨k, DD, L, hk, rfl, rfl, HDD, HD, HL, o3, oF3, bb⟩ := hrel
      by_cases hlt : k < q
      · have hgl5 := (World.ownsRow.lt o3 g5 rfl).2
        obtain ⟨g, o, x, rfl, hg, hx, d1⟩ := oF3.reads.at_ hlt
        have hkf : k < f.reverse.length := by rw [HQ.out]; exact hlt
        obtain ⟨W0, hW0⟩ : ∃ W0, f.reverse[k] = W0 := ⟨_, rfl⟩
        have hxW : x = (W0 : Int) := by
          rw [natsI, List.getElem?_map, List.getElem?_eq_getElem hkf, hW0] at hx
          exact (Option.some.inj hx).symm
        subst hxW
        have HSP := Lib.hid (show f.reverse = f.reverse.take k ++ W0 :: f.reverse.drop (k + 1) by
          rw [← hW0, List.getElem_cons_drop, List.take_append_drop])
        have HTK := Lib.hid (show f.reverse.take (k + 1) = f.reverse.take k ++ [W0] by rw [List.take_add_one, List.getElem?_eq_getElem hkf, hW0]; rfl)
        have hWf : W0 ∈ f := by rw [← List.mem_reverse, ← hW0]; exact List.getElem_mem hkf
        have hbit : ∀ i, W0.testBit i = true → i < n := fun i hi => by have := HLT.out i ((HCC.out.all i).1 ⟨W0, hWf, hi⟩); omega
        have hW64 : W0 < 18446744073709551616 := Nat.lt_trans (HCC.out.lt HLT.out (by omega) hWf) (by decide)
        have HBIT := Lib.hid hbit
        have hTr := hT.below (b0.trans (bb.mono hwB))
        have HH := Lib.hid (hasCounted_any W0 n c5 _ L wr hTr hW64 hbit (by omega) o3.reads)
        have hlt' : (k : Int) < q := by omega
        cases hh : Hps.hasL W0 L
        · have HN := Lib.hid (HD.out.dead HCC.out HSP.out (fun q => by rw [(Hps.hasL_iff (fun i hi => by have := HBIT.out i hi; omega)).2 q] at hh; cases hh))
          rw [← HTK.out] at HN
          have hor := u64_or_nat DD W0 HDD.out hW64
          have HO : Hid (DD ||| W0 < 18446744073709551616) := Lib.hid (Nat.or_lt_two_pow (n := 64) HDD.out hW64)
          have HHF := Lib.hid hh
          clear hx hkf hW0 hWf hbit hh
          go_wp2_with fail
          refine HH.out.mono ?_
          rw [HHF.out]
          rintro e w4 ⟨rfl, b4⟩
          have o4 := o3.below b4 (Nat.le_refl _)
          have oF4 := oF3.below b4 (Nat.le_refl _)
          have bb4 := bb.trans (b4.mono (by have := bb.size; omega))
          clear HH
          go_wp2_with fail
          go_roundw
          case rel => exact ⟨k + 1, DD ||| W0, L, by omega, by go_num, rfl, HO, HN, Lib.hid (by have := HL.out; omega), o4, oF4, bb4⟩
          case measure => simp [intOf]; omega
        · have HN := Lib.hid (HD.out.alive HCC.out HSP.out (fun i hi => by have := HBIT.out i hi; omega) ((Hps.hasL_iff (fun i hi => by have := HBIT.out i hi; omega)).1 hh))
          rw [← HTK.out] at HN
          have HNB := Lib.hid (fun (x : Int) (hx : x ∈ Hps.numsB W0) => Hps.mem_numsB.1 hx)
          have hnl := Hps.nums_len W0
          have HRL := Lib.hid (Hps.refsB_len HS3.out (Hps.numsB W0))
          obtain ⟨N, hN⟩ : ∃ N, Hps.numsB W0 = N := ⟨_, rfl⟩
          have HNE := Lib.hid hN
          rw [hN] at HN HNB hnl HRL
          have HRT : Hid (∀ j, (Hps.refsB h.cs (N.take j)).length ≤ 3 * 64) := Lib.hid fun j => by
            have h1 := Hps.refsB_len HS3.out (N.take j)
            have h2 : (N.take j).length ≤ N.length := by rw [List.length_take]; omega
            omega
          have HHF := Lib.hid hh
          clear hx hkf hW0 hWf hbit hh hN
          go_wp2_with fail
          refine HH.out.mono ?_
          rw [HHF.out]
          rintro e w4 ⟨rfl, b4⟩
          have o4 := o3.below b4 (Nat.le_refl _)
          have oF4 := oF3.below b4 (Nat.le_refl _)
          have bb4 := bb.trans (b4.mono (by have := bb.size; omega))
          have HNV := Lib.hid (numbers_any W0 w4 (hT.below (b0.trans (bb4.mono hwB))) hW64)
          rw [HNE.out] at HNV
          have hgl4 := b4.size
          clear HH
          go_wp2_with fail
          refine HNV.out.mono ?_
          rintro e w5 ⟨nv, rfl, on, b5⟩
          obtain ⟨A7, c7, e7, _⟩ := on.form
          subst e7
          obtain ⟨p, hp⟩ : ∃ p, N.length = p := ⟨_, rfl⟩
          have HP := Lib.hid hp
          rw [hp] at on hnl
          rw [hp]
          have hne7 : (Value.slice A7 p c7).ownBlock ≠ some g5 := fun e => by have := (World.ownsRow.lt on g5 e).1; omega
          have o5 := o4.below b5 (Nat.le_refl _)
          have oF5 := oF4.below b5 (Nat.le_refl _)
          have bb5 := bb4.trans (b5.mono (by have := bb4.size; omega))
          have on5 := on.base (show B ≤ w4.heap.size by have := bb4.size; omega)
          clear HNV hp on b4 b5 bb4 o4 oF4 o3 oF3
          go_wp2_with fail
          go_loopw [37] (fun i wr => ∃ j : Nat, j ≤ p ∧ i = .int .i64 j ∧ OwnI wr B (.slice (some ⟨g5, 0, none⟩) n c5) (Hps.cntN n (L ++ Hps.refsB h.cs (N.take j))) ∧ OwnI wr B (.slice A7 p c7) N ∧ OwnU wr B (.slice (some ⟨g, o, none⟩) q c6) (natsI f.reverse) ∧ Below B w1 wr) (fun i _ => p - (intOf i).toNat)
          case atStart => exact ⟨0, Nat.zero_le _, rfl, by rw [List.take_zero]; simpa [Hps.refsB] using o5, on5, oF5, bb5⟩
          case round =>
            clear o5 on5 oF5 bb5 bb
            obtain ⟨j, hj, rfl, o5, on5, oF5, bb⟩ := hrel
            by_cases hlj : j < p
            · obtain ⟨g7, o7, x, rfl, hg7, hx7, d7⟩ := on5.reads.at_ hlj
              obtain ⟨y, rfl, _, hyb⟩ := HNB.out x (List.mem_of_getElem? hx7)
              have hyn := HBIT.out y hyb
              obtain ⟨gc, oc, cl, A', m', cc, e1, hgc, hcl, _, _, e3, hmc, hi⟩ := C1.at_ hyn
              subst e1
              have e3' := (bb.cell (p := ⟨gc, oc + y * 3 + 2, none⟩) hgc).trans e3
              have x0 := (bb.cell (p := ⟨w.heap.size, 0, none⟩) hwl).trans z0
              have HSN := Lib.hid (show L ++ Hps.refsB h.cs (N.take (j + 1)) = L ++ Hps.refsB h.cs (N.take j) ++ cl.r by rw [take_snocI hx7, Hps.refsB_snoc hcl, List.append_assoc])
              have hm3 : m' ≤ 3 := by have := HS3.out cl (List.mem_of_getElem? hcl); have := hi.1; omega
              have hlen : (L ++ Hps.refsB h.cs (N.take j)).length ≤ 1000000000 := by
                have h1 := HL.out
                have h2 := HRT.out j
                rw [List.length_append]
                omega
              have HT := Lib.hid (countTargetsC_any g5 n c5 m' cc A' h.cs (L ++ Hps.refsB h.cs (N.take j)) cl.r wr B hlc o5 (hi.below bb) (HRF.out cl (List.mem_of_getElem? hcl)) (by omega) (by omega) hlen hg5 (by have := bb.size; omega))
              have hlj' : (j : Int) < p := by omega
              have hyn' : (y : Int) < n := by omega
              have HF7 := Lib.hid (rows_type oF5 o5 (by decide))
              clear hcl hlen hyb hx7 o5 e3
              go_wp2_with fail
              refine HT.out.mono ?_
              rintro e w8 ⟨rfl, o8, b8, g8⟩
              rw [← HSN.out] at o8
              have on8 := on5.far g8 (.inr hne7)
              have oF8 := oF5.far g8 HF7.out
              have bb8 := bb.trans b8
              clear HT
              go_wp2_with fail
              go_roundw
              case rel => exact ⟨j + 1, by omega, by go_num, o8, on8, oF8, bb8⟩
              case measure => simp [intOf]; omega
            · obtain rfl : j = p := by omega
              rw [List.take_of_length_le (by rw [HP.out]; omega)] at o5
              go_wp2_with fail
              go_roundw
              case rel => exact ⟨k + 1, DD, _, by omega, by go_num, rfl, HDD, HN, Lib.hid (by have := HL.out; have := HRL.out; rw [HP.out] at this; rw [List.length_append]; omega), o5, oF5, bb⟩
              case measure => simp [intOf]; omega
      · obtain rfl : k = q := by omega
        rw [List.take_of_length_le (by rw [HQ.out]; omega)] at HD
        have HE := Lib.hid (HD.out.fin HCC.out HLT.out)
        go_wp2_with fail
        go_ret
        exact ⟨by rw [← HE.out]; rfl, b0.trans (bb.mono hwB)⟩
end Go.Proofs.YtiojoailjiojjaaDoor
