/- What the program's LazyValid returns: for every heap, marks and number. No conditions. -/
import Derived.Test.YtakdjiojahlnmaaTi
import Derived.Test.YtakdjiojahlnmaaHx
import Derived.Test.YtakdjiojahlnmaaTq
import Derived.Test.YtakdjiojahlnmaaGa
namespace Go.Proofs.Ytakdjiojahlnmaa
open Go.RowKit
set_option maxRecDepth 100000

theorem Hps.lazy_words {h : Hp} {ms : List Bool} {j : Nat} (hv : Hps.validH h = true) (hl : ms.length = h.cs.length) (hj : j ≤ ms.length) :
    Hps.okLz ⟨h, ms, (j : Int)⟩ ↔ (Hps.reachW h &&& (18446744073709551615 - Bm.wordN ms true) = 0 ∧ Bm.wordN ms true &&& (18446744073709551615 - Hps.usedW h.cs) = 0 ∧ (Hps.usedW h.cs &&& (2 ^ j - 1)) &&& (18446744073709551615 - Bm.wordN ms true) = 0) := by
  have h40 := (Hps.valid_small hv).1
  have hR := Hps.reachW_lt (h := h) (by omega)
  have hM := Bm.wordN_lt ms true (by omega)
  have hU := Hps.usedW_lt (cs := h.cs) (by omega)
  rw [Hps.holds_iff hM hR, Hps.holds_iff hU hM, Hps.holds_iff hM (Nat.lt_of_le_of_lt Nat.and_le_left hU)]
  have bM : ∀ k, (Bm.wordN ms true).testBit k = true ↔ ms[k]? = some true := fun k => by rw [Bm.wordN_bit]; simp
  have bR : ∀ k, (Hps.reachW h).testBit k = true ↔ (Hps.reachL h.cs h.rt)[k]? = some true := fun k => by unfold Hps.reachW; rw [Bm.wordN_bit]; simp
  have bU : ∀ k, (Hps.usedW h.cs).testBit k = true ↔ Hps.usedAt h.cs k = true := fun k => by rw [Hps.usedW_bit]
  have bF : ∀ k, (Hps.usedW h.cs &&& (2 ^ j - 1)).testBit k = true ↔ (Hps.usedAt h.cs k = true ∧ k < j) := fun k => by
    rw [Nat.testBit_and, Nat.testBit_two_pow_sub_one, Hps.usedW_bit]
    simp
  constructor
  · intro ok
    refine ⟨fun k hk => (bM k).2 (ok.reach ((Hps.reachL_true ?_).1 ((bR k).1 hk))), fun k hk => (bU k).2 (ok.used ((bM k).1 hk)), fun k hk => ?_⟩
    · have := (List.getElem?_eq_some_iff.1 ((bR k).1 hk)).1
      rw [Hps.reachL_len] at this
      exact this
    · obtain ⟨h1, h2⟩ := (bF k).1 hk
      rw [bM]
      cases e : ms[k]? with
      | none =>
        have := List.getElem?_eq_none_iff.1 e
        omega
      | some b =>
        cases b
        · have := ok.swept (k := k) (show (k : Int) < (j : Int) by omega) e
          have h1' : Hps.usedAt h.cs k = false := this
          rw [h1] at h1'
          cases h1'
        · rfl
  · rintro ⟨h1, h2, h3⟩
    refine Hps.okLz.of hv hl ⟨?_, ?_⟩ (fun k hk => ?_) (fun k hk => (bU k).1 (h2 k ((bM k).2 hk))) (fun k hk hm => ?_)
    · show (0 : Int) ≤ (j : Int)
      omega
    · show (j : Int) ≤ (ms.length : Int)
      omega
    · have hlt : k < h.cs.length := Hps.usedAt_lt (hk.live hv)
      exact (bM k).1 (h1 k ((bR k).2 ((Hps.reachL_true hlt).2 hk)))
    · have hkj : k < j := by
        have : (k : Int) < (j : Int) := hk
        omega
      cases e : Hps.usedAt h.cs k
      · rfl
      · have h4 := (bM k).1 (h3 k ((bF k).2 ⟨e, hkj⟩))
        have hm' : ms[k]? = some false := hm
        rw [hm'] at h4
        cases h4

set_option maxHeartbeats 16000000 in
theorem lazyValid_any (A R D : Option Addr) (n c m d q ce : Nat) (i : Int) (h : Hp) (ms : List Bool) (w : World) (hs : HS w w.heap.size A n R m h) (hk : OS w w.heap.size D q ms) (hn : n ≤ 1099511627776) (hm : m ≤ 1099511627776) (hq : q ≤ 1099511627776) (hnc : n ≤ c) (hmd : m ≤ d) :
    Calls Try.prog 19 #[lzV A n c R m d D q ce i] w fun e w' => (∃ b : Bool, e = .returned (.bool b) ∧ (b = true ↔ Hps.okLz ⟨h, ms, i⟩)) ∧ Below w.heap.size w w' := by
  have b0 : Below w.heap.size w (w.alloc (.cells #[.slice A n c, .slice R m d, .slice D q ce, .int .i64 i] 30)) := (Below.refl _ _).alloc (Nat.le_refl _) _
  have r0 := hs.up b0
  have k0 := hk.up b0
  have q0 := Rw.new w 30 #[.slice A n c, .slice R m d, .slice D q ce, .int .i64 i]
  have HLC := Lib.hid hs.cells.1
  have HLM := Lib.hid hk.1
  clear hs hk
  go_enter Try.func19, Try.ntmps19
  go_wp2_with fail
  refine (heapValid_any _ _ _ _ _ _ h _ r0 hn hm hnc hmd).mono ?_
  cases hv : Hps.validH h
  · have HE : Hid (¬ Hps.okLz ⟨h, ms, i⟩) := Lib.hid (fun x => by
      have := x.1
      simp only [hv] at this
      cases this)
    clear hv
    rintro e w1 ⟨rfl, b1⟩
    have bb1 := b0.trans (b1.mono b0.size)
    clear b1 r0 k0 q0 b0
    go_wp2_with fail
    go_ret
    exact ⟨⟨false, rfl, ⟨fun x => (by cases x), fun x => absurd x HE.out⟩⟩, bb1⟩
  have HV := Lib.hid hv
  have hv40 := (Hps.valid_small hv).1
  rw [HLC.out] at hv40
  clear hv
  rintro e w1 ⟨rfl, b1⟩
  have bb1 := b0.trans (b1.mono b0.size)
  have r1 := r0.up b1
  have k1 := k0.up b1
  have q1 := q0.keep b1 q0.lt
  have x0 : w1.cell? ⟨w.heap.size, 0, none⟩ = some (.slice A n c) := q1.cell 0
  have x1 : w1.cell? ⟨w.heap.size, 1, none⟩ = some (.slice R m d) := q1.cell 1
  have x2 : w1.cell? ⟨w.heap.size, 2, none⟩ = some (.slice D q ce) := q1.cell 2
  have x3 : w1.cell? ⟨w.heap.size, 3, none⟩ = some (.int .i64 i) := q1.cell 3
  clear b1 r0 k0 q0 b0
  by_cases hqn : q = n
  case neg =>
    have HE : Hid (¬ Hps.okLz ⟨h, ms, i⟩) := Lib.hid (fun x => hqn (by
      have h1 := x.2.1
      have h2 := HLC.out
      have h3 := HLM.out
      show q = n
      rw [← h2, ← h3]
      exact h1))
    have hne : ((q : Int) != (n : Int)) = true := by
      rw [bne_iff_ne]
      omega
    clear hqn
    go_wp2_with fail
    go_ret
    exact ⟨⟨false, rfl, ⟨fun x => (by cases x), fun x => absurd x HE.out⟩⟩, bb1⟩
  subst hqn
  have hne : ((q : Int) != (q : Int)) = false := by simp
  by_cases hi : 0 ≤ i ∧ i ≤ (q : Int)
  case neg =>
    have HE : Hid (¬ Hps.okLz ⟨h, ms, i⟩) := Lib.hid (fun x => hi (by
      have h1 := x.2.2.1
      have h3 := HLM.out
      rw [← h3]
      exact h1))
    have HD := Lib.hid (show Hps.inR i 0 q = false by
      rw [Hps.inR, Bool.and_eq_false_iff, decide_eq_false_iff_not, decide_eq_false_iff_not]
      omega)
    clear hi
    go_wp2_with fail
    refine (upTo_any i q _).mono ?_
    rw [HD.out]
    rintro e w4 ⟨rfl, rfl⟩
    go_wp2_with fail
    go_ret
    exact ⟨⟨false, rfl, ⟨fun x => (by cases x), fun x => absurd x HE.out⟩⟩, bb1⟩
  have HD := Lib.hid (show Hps.inR i 0 q = true by rw [Hps.inR, decide_eq_true hi.1, decide_eq_true hi.2]; rfl)
  obtain ⟨j, rfl⟩ : ∃ j : Nat, i = j := ⟨i.toNat, by omega⟩
  have hjq : j ≤ q := by omega
  have HOK := Lib.hid (Hps.lazy_words (j := j) HV.out (by rw [HLM.out, HLC.out]) (by rw [HLM.out]; exact hjq))
  have hRW := Hps.reachW_lt (h := h) (by rw [HLC.out]; omega)
  have hMW := Bm.wordN_lt ms true (by rw [HLM.out]; omega)
  have hUW := Hps.usedW_lt (cs := h.cs) (by rw [HLC.out]; omega)
  have hRe := Lib.hid (rfl : Hps.reachW h = Hps.reachW h)
  obtain ⟨RW, hRWe⟩ : ∃ RW, Hps.reachW h = RW := ⟨_, rfl⟩
  replace hRe := Lib.hid hRWe
  rw [hRWe] at HOK hRW
  have hMe := Lib.hid (rfl : Bm.wordN ms true = Bm.wordN ms true)
  obtain ⟨M, hMWe⟩ : ∃ M, Bm.wordN ms true = M := ⟨_, rfl⟩
  replace hMe := Lib.hid hMWe
  rw [hMWe] at HOK hMW
  have hUe := Lib.hid (rfl : Hps.usedW h.cs = Hps.usedW h.cs)
  obtain ⟨U, hUWe⟩ : ∃ U, Hps.usedW h.cs = U := ⟨_, rfl⟩
  replace hUe := Lib.hid hUWe
  rw [hUWe] at HOK hUW
  clear hi hRWe hMWe hUWe
  go_wp2_with fail
  refine (upTo_any (j : Int) q _).mono ?_
  rw [HD.out]
  rintro e w4 ⟨rfl, rfl⟩
  clear HD
  have hql := q1.lt
  have SS := Lib.hid r1
  have KK := Lib.hid k1
  clear r1 k1 hne
  have HP0 := Lib.hid bb1
  obtain ⟨p, hp⟩ : ∃ p, w.heap.size = p := ⟨_, rfl⟩
  rw [hp] at q1 x0 x1 x2 x3 hql ⊢
  clear hp bb1
  go_upto_region 4 with fail
  refine wp_region_inv (by kernel_rfl) (by kernel_rfl) (fun L ac ww => ∃ t4 t5 t28 t29 t30 t31 t32 t33 t34 : Value, ac = { tmps := #[lzV A q c R m d D q ce ↑j, Value.pointer (some { block := p, off := 0 }), Value.bool false, Value.int IntKind.i64 ↑q, t4, t5, Value.pointer (some { block := p, off := 0 }), Value.pointer (some { block := p, off := 0 }), Value.slice A q c, Value.int IntKind.i64 ↑q, Value.pointer (some { block := p, off := 0 }), Value.agg #[Value.slice A q c, Value.slice R m d], Value.bool true, Value.bool false, Value.bool false, Value.pointer (some { block := p, off := 2 }), Value.slice D q ce, Value.int IntKind.i64 ↑q, Value.int IntKind.i64 ↑q, Value.bool false, Value.bool false, Value.bool false, Value.pointer (some { block := p, off := 3 }), Value.int IntKind.i64 ↑j, Value.int IntKind.i64 ↑q, Value.bool true, Value.bool false, Value.bool false, t28, t29, t30, t31, t32, t33, t34, undef, undef, undef, undef, undef, undef, undef, undef, undef, undef, undef, undef, undef, undef, undef, undef, undef, undef, undef], defers := [] } ∧ (Below w1.heap.size w1 ww) ∧ (L 0 = true → t28 = .pointer (some ⟨p, 2, none⟩)) ∧ (L 1 = true → t29 = .slice D q ce) ∧ (L 2 = true → t30 = .int .u64 (M : Nat)) ∧ (L 3 = true → t31 = .pointer (some ⟨p, 0, none⟩)) ∧ (L 4 = true → t32 = .pointer (some ⟨p, 0, none⟩)) ∧ (L 5 = true → t33 = .slice A q c) ∧ (L 6 = true → t34 = .int .u64 (U : Nat)) ∧ (L 7 = true → t4 = .int .u64 (M : Nat)) ∧ (L 8 = true → t5 = .int .u64 (U : Nat))) ?h0 ?hstep ?hdone
  case h0 => exact ⟨_, _, _, _, _, _, _, _, _, rfl, (Below.refl _ _).drew, (fun h => absurd h Bool.false_ne_true), (fun h => absurd h Bool.false_ne_true), (fun h => absurd h Bool.false_ne_true), (fun h => absurd h Bool.false_ne_true), (fun h => absurd h Bool.false_ne_true), (fun h => absurd h Bool.false_ne_true), (fun h => absurd h Bool.false_ne_true), (fun h => absurd h Bool.false_ne_true), (fun h => absurd h Bool.false_ne_true)⟩
  case hstep =>
    rintro L ac ww i o ho hL hd ⟨t4, t5, t28, t29, t30, t31, t32, t33, t34, rfl, I0, f0, f1, f2, f3, f4, f5, f6, f7, f8⟩
    have hi : i < 9 := (Array.getElem?_eq_some_iff.1 ho).1
    obtain rfl | rfl | rfl | rfl | rfl | rfl | rfl | rfl | rfl : i = 0 ∨ i = 1 ∨ i = 2 ∨ i = 3 ∨ i = 4 ∨ i = 5 ∨ i = 6 ∨ i = 7 ∨ i = 8 := by omega
    · obtain rfl := Option.some.inj ho
      refine wpOp_step rfl (fun K' hK => ?_)
      go_simp
      refine hK _ _ ?_
      exact ⟨_, _, _, _, _, _, _, _, _, rfl, (I0), (fun _ => rfl), (kp f1), (kp f2), (kp f3), (kp f4), (kp f5), (kp f6), (kp f7), (kp f8)⟩
    · obtain rfl := Option.some.inj ho
      have g0 := f0 (hd ⟨0, .data⟩ (by simp) rfl)
      subst g0
      have z2 : ww.cell? ⟨p, 2, none⟩ = some (.slice D q ce) := (I0.cell (p := ⟨p, 2, none⟩) hql).trans x2
      refine wpOp_step rfl (fun K' hK => ?_)
      go_simp
      refine hK _ _ ?_
      exact ⟨_, _, _, _, _, _, _, _, _, rfl, (I0), (kp f0), (fun _ => rfl), (kp f2), (kp f3), (kp f4), (kp f5), (kp f6), (kp f7), (kp f8)⟩
    · obtain rfl := Option.some.inj ho
      have g1 := f1 (hd ⟨1, .data⟩ (by simp) rfl)
      subst g1
      refine wpOp_step rfl (fun K' hK => ?_)
      go_simp
      refine (flaggedSet_any D q ce ms ww (KK.out.up I0) (by omega)).mono ?_
      rw [hMe.out]
      rintro e w' ⟨rfl, rfl⟩
      refine hK _ _ ?_
      exact ⟨_, _, _, _, _, _, _, _, _, rfl, (I0), (kp f0), (kp f1), (fun _ => rfl), (kp f3), (kp f4), (kp f5), (kp f6), (kp f7), (kp f8)⟩
    · obtain rfl := Option.some.inj ho
      refine wpOp_step rfl (fun K' hK => ?_)
      go_simp
      refine hK _ _ ?_
      exact ⟨_, _, _, _, _, _, _, _, _, rfl, (I0), (kp f0), (kp f1), (kp f2), (fun _ => rfl), (kp f4), (kp f5), (kp f6), (kp f7), (kp f8)⟩
    · obtain rfl := Option.some.inj ho
      have g3 := f3 (hd ⟨3, .data⟩ (by simp) rfl)
      subst g3
      refine wpOp_step rfl (fun K' hK => ?_)
      go_simp
      refine hK _ _ ?_
      exact ⟨_, _, _, _, _, _, _, _, _, rfl, (I0), (kp f0), (kp f1), (kp f2), (kp f3), (fun _ => rfl), (kp f5), (kp f6), (kp f7), (kp f8)⟩
    · obtain rfl := Option.some.inj ho
      have g4 := f4 (hd ⟨4, .data⟩ (by simp) rfl)
      subst g4
      have z0 : ww.cell? ⟨p, 0, none⟩ = some (.slice A q c) := (I0.cell (p := ⟨p, 0, none⟩) hql).trans x0
      refine wpOp_step rfl (fun K' hK => ?_)
      go_simp
      refine hK _ _ ?_
      exact ⟨_, _, _, _, _, _, _, _, _, rfl, (I0), (kp f0), (kp f1), (kp f2), (kp f3), (kp f4), (fun _ => rfl), (kp f6), (kp f7), (kp f8)⟩
    · obtain rfl := Option.some.inj ho
      have g5 := f5 (hd ⟨5, .data⟩ (by simp) rfl)
      subst g5
      refine wpOp_step rfl (fun K' hK => ?_)
      go_simp
      refine (usedSet_any A q c h.cs ww (SS.out.up I0).cells (by omega)).mono ?_
      rw [hUe.out]
      rintro e w' ⟨rfl, b5⟩
      refine hK _ _ ?_
      exact ⟨_, _, _, _, _, _, _, _, _, rfl, (I0.trans (b5.mono I0.size)), (kp f0), (kp f1), (kp f2), (kp f3), (kp f4), (kp f5), (fun _ => rfl), (kp f7), (kp f8)⟩
    · obtain rfl := Option.some.inj ho
      have g2 := f2 (hd ⟨2, .data⟩ (by simp) rfl)
      subst g2
      refine wpOp_step rfl (fun K' hK => ?_)
      go_simp
      refine hK _ _ ?_
      exact ⟨_, _, _, _, _, _, _, _, _, rfl, (I0), (kp f0), (kp f1), (kp f2), (kp f3), (kp f4), (kp f5), (kp f6), (fun _ => rfl), (kp f8)⟩
    · obtain rfl := Option.some.inj ho
      have g6 := f6 (hd ⟨6, .data⟩ (by simp) rfl)
      subst g6
      refine wpOp_step rfl (fun K' hK => ?_)
      go_simp
      refine hK _ _ ?_
      exact ⟨_, _, _, _, _, _, _, _, _, rfl, (I0), (kp f0), (kp f1), (kp f2), (kp f3), (kp f4), (kp f5), (kp f6), (kp f7), (fun _ => rfl)⟩
  case hdone =>
    rintro L ac ww hall ⟨t4, t5, t28, t29, t30, t31, t32, t33, t34, rfl, I0, f0, f1, f2, f3, f4, f5, f6, f7, f8⟩
    have e0 := f0 (hall 0 (by decide))
    have e1 := f1 (hall 1 (by decide))
    have e2 := f2 (hall 2 (by decide))
    have e3 := f3 (hall 3 (by decide))
    have e4 := f4 (hall 4 (by decide))
    have e5 := f5 (hall 5 (by decide))
    have e6 := f6 (hall 6 (by decide))
    have e7 := f7 (hall 7 (by decide))
    have e8 := f8 (hall 8 (by decide))
    clear f0 f1 f2 f3 f4 f5 f6 f7 f8
    subst e0
    subst e1
    subst e2
    subst e3
    subst e4
    subst e5
    subst e6
    subst e7
    subst e8
    have BW := Lib.hid (HP0.out.trans (I0.mono HP0.out.size))
    have S2 := Lib.hid (SS.out.up I0)
    have y0 : ww.cell? ⟨p, 0, none⟩ = some (.slice A q c) := (I0.cell (p := ⟨p, 0, none⟩) hql).trans x0
    have y1 : ww.cell? ⟨p, 1, none⟩ = some (.slice R m d) := (I0.cell (p := ⟨p, 1, none⟩) hql).trans x1
    have y3 : ww.cell? ⟨p, 3, none⟩ = some (.int .i64 j) := (I0.cell (p := ⟨p, 3, none⟩) hql).trans x3
    replace hql := Nat.lt_of_lt_of_le hql I0.size
    clear I0 x0 x1 x2 x3 SS KK q1 HP0 hall
    go_wp2_with fail
    refine (reachedSet_any A R q c m d h ww S2.out HV.out).mono ?_
    rw [hRe.out]
    rintro e w5 ⟨rfl, b5⟩
    have y3 : w5.cell? ⟨p, 3, none⟩ = some (.int .i64 j) := (b5.cell (p := ⟨p, 3, none⟩) hql).trans y3
    have bb := BW.out.trans (b5.mono BW.out.size)
    clear BW S2 b5 y0 y1
    go_wp2_with fail
    refine (holds_any M RW w5 hMW hRW).mono ?_
    have HR1 : ∀ b : Bool, decide (RW &&& (18446744073709551615 - M) = 0) = b → (b = true ↔ RW &&& (18446744073709551615 - M) = 0) := fun b e => by rw [← e]; simp
    obtain ⟨r1, hr1⟩ : ∃ r1, decide (RW &&& (18446744073709551615 - M) = 0) = r1 := ⟨_, rfl⟩
    have H1 := Lib.hid (HR1 r1 hr1)
    rw [hr1]
    clear hr1 HR1
    rintro e w6 ⟨rfl, rfl⟩
    cases r1
    case false =>
      have HE : Hid (false = true ↔ Hps.okLz ⟨h, ms, (j : Int)⟩) := Lib.hid ⟨fun x => (by cases x), fun x => H1.out.2 (HOK.out.1 x).1⟩
      go_wp2_with fail
      go_ret
      exact ⟨⟨false, rfl, HE.out⟩, bb⟩

    go_wp2_with fail
    refine (holds_any U M w5 hUW hMW).mono ?_
    have HR2 : ∀ b : Bool, decide (M &&& (18446744073709551615 - U) = 0) = b → (b = true ↔ M &&& (18446744073709551615 - U) = 0) := fun b e => by rw [← e]; simp
    obtain ⟨r2, hr2⟩ : ∃ r2, decide (M &&& (18446744073709551615 - U) = 0) = r2 := ⟨_, rfl⟩
    have H2 := Lib.hid (HR2 r2 hr2)
    rw [hr2]
    clear hr2 HR2
    rintro e w6 ⟨rfl, rfl⟩
    cases r2
    case false =>
      have HE : Hid (false = true ↔ Hps.okLz ⟨h, ms, (j : Int)⟩) := Lib.hid ⟨fun x => (by cases x), fun x => H2.out.2 (HOK.out.1 x).2.1⟩
      go_wp2_with fail
      go_ret
      exact ⟨⟨false, rfl, HE.out⟩, bb⟩

    have hp : 2 ^ j - 1 < 18446744073709551616 := Nat.lt_of_le_of_lt (Nat.sub_le _ _) (Nat.pow_lt_pow_right (a := 2) (by omega) (show j < 64 by omega))
    have hand := u64_and_nat U (2 ^ j - 1) hUW hp
    obtain ⟨F1, hF1⟩ : ∃ F1, 2 ^ j - 1 = F1 := ⟨_, rfl⟩
    have HF1 := Lib.hid hF1
    rw [hF1] at HOK hand
    have hUF : U &&& F1 < 18446744073709551616 := Nat.lt_of_le_of_lt Nat.and_le_left hUW
    obtain ⟨UF, hUFe⟩ : ∃ UF, U &&& F1 = UF := ⟨_, rfl⟩
    rw [hUFe] at HOK hand hUF
    clear hp hF1 hUFe
    go_wp2_with fail
    refine (firstCells_any j w5 (by omega)).mono ?_
    rw [HF1.out]
    rintro e w6 ⟨rfl, rfl⟩
    go_wp2_with fail
    refine (holds_any M UF w5 hMW hUF).mono ?_
    have HR3 : ∀ b : Bool, decide (UF &&& (18446744073709551615 - M) = 0) = b → (b = true ↔ UF &&& (18446744073709551615 - M) = 0) := fun b e => by rw [← e]; simp
    obtain ⟨r3, hr3⟩ : ∃ r3, decide (UF &&& (18446744073709551615 - M) = 0) = r3 := ⟨_, rfl⟩
    have H3 := Lib.hid (HR3 r3 hr3)
    rw [hr3]
    clear hr3 HR3 hand
    rintro e w6 ⟨rfl, rfl⟩
    have HE : Hid (r3 = true ↔ Hps.okLz ⟨h, ms, (j : Int)⟩) := Lib.hid ⟨fun x => HOK.out.2 ⟨H1.out.1 (by simp), H2.out.1 (by simp), H3.out.1 x⟩, fun x => H3.out.2 (HOK.out.1 x).2.2⟩
    go_wp2_with fail
    go_ret
    exact ⟨⟨r3, rfl, HE.out⟩, bb⟩
end Go.Proofs.Ytakdjiojahlnmaa
