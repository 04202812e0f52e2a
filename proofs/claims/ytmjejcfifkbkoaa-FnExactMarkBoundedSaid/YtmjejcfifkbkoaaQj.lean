/- What the program's marker does with a stack of few places, and MarkBounded: for every heap and every number of places. No conditions. -/
import Derived.Test.YtmjejcfifkbkoaaQi
import Derived.Test.YtmjejcfifkbkoaaQh
import Derived.Test.YtmjejcfifkbkoaaHw
import Derived.Test.YtmjejcfifkbkoaaGa
import Derived.Deep.Cut
namespace Go.Proofs.Ytmjejcfifkbkoaa
open Go.RowKit
set_option maxRecDepth 100000

/-- how many cells are not in the set that lies in the box b -/
def idleB (w : World) (b n : Nat) : Nat := match w.cell? ⟨b, 1, none⟩ with
  | some (.int _ V) => n - pcN V.toNat n
  | _ => 0
theorem Hps.count_two : ∀ mk : List Bool, mk.count true + mk.count false = mk.length
  | [] => rfl
  | b :: mk => by
    have := Hps.count_two mk
    cases b <;> simp <;> omega
theorem idleB_eq {w : World} {B b pl n : Nat} {vc sv : Value} {st : List Int} {mk : List Bool} (W : MkSt w B b vc (Bm.wordN mk true) pl sv st) (h : mk.length = n) : idleB w b n = mk.count false := by
  have x1 : w.cell? ⟨b, 1, none⟩ = some (.int .u64 (Bm.wordN mk true : Nat)) := W.box.cell 1
  rw [idleB, x1]
  show n - pcN ((Bm.wordN mk true : Nat) : Int).toNat n = _
  rw [Int.toNat_natCast, Hps.pc_word, List.take_of_length_le (by omega)]
  have := Hps.count_two mk
  omega
theorem Hps.isU_marks {cs : List Cl} {mk : List Bool} {n : Nat} {x : Int} (hx : okRef cs x = true) (hc : cs.length = n) (hl : mk.length = n) : isU (Bm.wordN mk true) x = true ↔ 0 ≤ x ∧ mk[x.toNat]? = some false := by
  rcases okRef_iff.1 hx with h1 | ⟨h1, h2⟩
  · subst h1
    constructor
    · intro h
      exact absurd h (by simp [isU])
    · rintro ⟨h, _⟩
      omega
  · obtain ⟨k, rfl⟩ := Int.eq_ofNat_of_zero_le h1
    have hk : k < mk.length := by
      obtain ⟨k', e, hk, _⟩ := okRef_nat hx h1
      omega
    rw [isU, show ((k : Int) != -1) = true by rw [bne_iff_ne]; omega, Bool.true_and, hasB, decide_eq_true (by omega : (0 : Int) ≤ (k : Int)), Bool.true_and, Int.toNat_natCast, Bm.wordN_bit, List.getElem?_eq_getElem hk]
    cases mk[k] <;> simp
theorem putS_len (pl : Nat) (st : List Int) (x : Int) : (putS pl st x).length ≤ st.length + 1 := by
  unfold putS
  split
  · simp
  · omega
theorem Hps.Nums.put {n pl : Nat} {st : List Int} (h : Nums n st) {k : Nat} (hk : k < n) : Nums n (putS pl st (k : Int)) := by
  unfold putS
  split
  · exact h.snoc hk
  · exact h
theorem Hps.push_put {pl : Nat} {mk : List Bool} {st : List Int} {k : Nat} (h : mk[k]? = some false) : pushP pl (mk, st) (k : Int) = (mk.set k true, putS pl st (k : Int)) := push_new h

set_option maxHeartbeats 4000000 in
theorem workOff_any (B b n c pl : Nat) (A : Option Addr) (sv : Value) (cs : List Cl) (w0 w : World) (mk : List Bool) (st : List Int) (hcs : CS w0 B A n cs) (hrf : ∀ cl ∈ cs, Hps.okRefs cs cl.r = true) (h3 : ∀ cl ∈ cs, cl.r.length ≤ 3) (hn : n ≤ 40) (hB : B ≤ w0.heap.size)
    (W : MkSt w B b (.slice A n c) (Bm.wordN mk true) pl sv st) (hm : mk.length = n) (hst : Hps.Nums n st) (hp : pl ≤ 1000) (hcw : mk.count false + st.length ≤ 100) (bb : Below B w0 w) :
    Calls Try.prog 132 #[.pointer (some ⟨b, 0, none⟩)] w fun e w' => e = .returned (.tuple #[]) ∧ ∃ sv', MkSt w' B b (.slice A n c) (Bm.wordN (Hps.drainL cs pl mk st) true) pl sv' [] ∧ Below B w w' := by
  have hlc := hcs.1
  have HRF := Lib.hid hrf
  have HC3 := Lib.hid h3
  have HD := Lib.hid (Hps.drain_spec cs pl mk st)
  obtain ⟨r0, hr0⟩ : ∃ r0, Hps.drainL cs pl mk st = r0 := ⟨_, rfl⟩
  rw [hr0] at HD ⊢
  have HN := Lib.hid hst
  clear hrf h3 hr0 hst
  go_enter Try.func132, Try.ntmps132
  go_wp2_with fail
  go_loopw [3] (fun _ wr => ∃ (mk : List Bool) (sv : Value) (st : List Int), MkSt wr B b (.slice A n c) (Bm.wordN mk true) pl sv st ∧ Hid (Hps.Drain cs pl mk st r0) ∧ mk.length = n ∧ Hid (Hps.Nums n st) ∧ mk.count false + st.length ≤ 100 ∧ Below B w wr) (fun _ wr => idleB wr b n + stackW wr b)
  case atStart => exact ⟨mk, sv, st, W, HD, hm, HN, hcw, Below.refl _ _⟩
  case round =>
    clear W HD hm HN hcw
    obtain ⟨mk, sv, st, W, HD, hm, HN, hcw, b2⟩ := hrel
    have HE := Lib.hid (isEmpty_any B b _ pl _ sv st wr W)
    by_cases hst : st = []
    · subst hst
      have HF := Lib.hid (HD.out.fin rfl)
      go_wp2_with fail
      refine HE.out.mono ?_
      rintro e w3 ⟨rfl, rfl⟩
      go_wp2_with fail
      exact bodyPost_end (results_none rfl _ _ _) rfl ⟨rfl, sv, by rw [HF.out]; exact W, b2⟩
    · obtain ⟨st', x, rfl⟩ := Hps.snoc_of hst
      obtain ⟨k, rfl, hk⟩ := HN.out x (by simp)
      have HNP := Lib.hid HN.out.pre
      have HDN := Lib.hid (HD.out.next rfl)
      have HM0 := Lib.hid (idleB_eq W hm)
      have HSW := Lib.hid (stackW_eq W)
      have hne : (st' ++ [(k : Int)]).isEmpty = false := by simp
      have HNE := Lib.hid hne
      rw [List.length_append, List.length_singleton] at hcw
      have HCW := Lib.hid hcw
      have HL1 := Lib.hid (show st'.length ≤ 1000 by omega)
      obtain ⟨g, oo, cl, A', q', cc, e1, hg, hcl, d1, d2, d3, hmc, hi⟩ := hcs.at_ (k := k) hk
      subst e1
      have HPR := Lib.hid (Hps.pop_refs (pl := pl) (mk := mk) (st := st') hcl)
      have hq3 : q' ≤ 3 := by have := HC3.out cl (List.mem_of_getElem? hcl); have := hi.1; omega
      have HCK := Lib.hid (HRF.out cl (List.mem_of_getElem? hcl))
      have HRL := Lib.hid hi.1
      have HIX := Lib.hid hi
      have hk' : (k : Int) < n := by omega
      have HE3 := Lib.hid ((bb.cell (p := ⟨g, oo + k * 3 + 2, none⟩) hg).trans d3)
      have HGB := Lib.hid hg
      have HWD := Lib.hid (W.up (Below.refl _ wr).drew)
      have HBD := Lib.hid b2.drew
      have HVB := Lib.hid (Bm.wordN_lt mk true (by omega))
      have HML := Lib.hid hm
      obtain ⟨V, hV⟩ : ∃ V, Bm.wordN mk true = V := ⟨_, rfl⟩
      have HV := Lib.hid hV
      rw [hV] at HWD HVB
      clear hst hne hcl d1 d2 d3 hi W HD HN hcw hV hm b2 hg
      go_wp2_with fail
      refine HE.out.mono ?_
      rw [HNE.out]
      rintro e w3 ⟨rfl, rfl⟩
      clear HE HNE
      go_upto_region 1 with fail
      refine wp_region_inv (by kernel_rfl) (by kernel_rfl) (fun L ac ww => ∃ t9 t10 t11 t12 t13 t14 t15 t16 t17 t18 t19 t20 t21 : Value, ac = { tmps := #[Value.pointer (some { block := b, off := 0 }), undef, undef, u3, Value.pointer (some { block := b, off := 0 }), Value.pointer (some { block := b, off := 0 }), Value.pointer (some { block := b, off := 2 }), Value.bool false, Value.bool true, t9, t10, t11, t12, t13, t14, t15, t16, t17, t18, t19, t20, t21, u22, u23, u24, u25, u26, u27, u28, u29, u30, u31], defers := [] } ∧ (∃ sv1, MkSt ww B b (.slice (some ⟨g, oo, none⟩) n c) V pl sv1 (if L 7 = true then st' else st' ++ [(k : Int)])) ∧ (Below B w ww) ∧ (L 0 = true → t9 = .pointer (some ⟨b, 0, none⟩)) ∧ (L 1 = true → t10 = .pointer (some ⟨b, 0, none⟩)) ∧ (L 2 = true → t11 = .pointer (some ⟨b, 0, none⟩)) ∧ (L 3 = true → t12 = .slice (some ⟨g, oo, none⟩) n c) ∧ (L 4 = true → t13 = .pointer (some ⟨b, 0, none⟩)) ∧ (L 5 = true → t14 = .pointer (some ⟨b, 0, none⟩)) ∧ (L 6 = true → t15 = .pointer (some ⟨b, 2, none⟩)) ∧ (L 7 = true → t16 = .int .i64 k) ∧ (L 8 = true → t17 = .pointer (some ⟨g, oo + k * 3, none⟩)) ∧ (L 9 = true → t18 = .pointer (some ⟨g, oo + k * 3 + 2, none⟩)) ∧ (L 10 = true → t19 = .slice A' q' cc) ∧ (L 11 = true → t20 = .int .i64 q') ∧ (L 12 = true → t21 = .int .i64 0)) ?h0 ?hstep ?hdone
      case h0 => exact ⟨_, _, _, _, _, _, _, _, _, _, _, _, _, rfl, ⟨_, by rw [if_neg Bool.false_ne_true]; exact HWD.out⟩, HBD.out, (fun h => absurd h Bool.false_ne_true), (fun h => absurd h Bool.false_ne_true), (fun h => absurd h Bool.false_ne_true), (fun h => absurd h Bool.false_ne_true), (fun h => absurd h Bool.false_ne_true), (fun h => absurd h Bool.false_ne_true), (fun h => absurd h Bool.false_ne_true), (fun h => absurd h Bool.false_ne_true), (fun h => absurd h Bool.false_ne_true), (fun h => absurd h Bool.false_ne_true), (fun h => absurd h Bool.false_ne_true), (fun h => absurd h Bool.false_ne_true), (fun h => absurd h Bool.false_ne_true)⟩
      case hstep =>
        rintro L ac ww i o ho hL hd ⟨t9, t10, t11, t12, t13, t14, t15, t16, t17, t18, t19, t20, t21, rfl, I0, I1, f0, f1, f2, f3, f4, f5, f6, f7, f8, f9, f10, f11, f12⟩
        have hi : i < 13 := (Array.getElem?_eq_some_iff.1 ho).1
        obtain rfl | rfl | rfl | rfl | rfl | rfl | rfl | rfl | rfl | rfl | rfl | rfl | rfl : i = 0 ∨ i = 1 ∨ i = 2 ∨ i = 3 ∨ i = 4 ∨ i = 5 ∨ i = 6 ∨ i = 7 ∨ i = 8 ∨ i = 9 ∨ i = 10 ∨ i = 11 ∨ i = 12 := by omega
        · obtain rfl := Option.some.inj ho
          refine wpOp_step rfl (fun K' hK => ?_)
          go_simp
          refine hK _ _ ?_
          exact ⟨_, _, _, _, _, _, _, _, _, _, _, _, _, rfl, (by
            rw [show upd L 0 7 = L 7 by simp [upd]]
            exact I0), (I1), (fun _ => rfl), (kp f1), (kp f2), (kp f3), (kp f4), (kp f5), (kp f6), (kp f7), (kp f8), (kp f9), (kp f10), (kp f11), (kp f12)⟩
        · obtain rfl := Option.some.inj ho
          have g0 := f0 (hd ⟨0, .data⟩ (by simp) rfl)
          subst g0
          refine wpOp_step rfl (fun K' hK => ?_)
          go_simp
          refine hK _ _ ?_
          exact ⟨_, _, _, _, _, _, _, _, _, _, _, _, _, rfl, (by
            rw [show upd L 1 7 = L 7 by simp [upd]]
            exact I0), (I1), (kp f0), (fun _ => rfl), (kp f2), (kp f3), (kp f4), (kp f5), (kp f6), (kp f7), (kp f8), (kp f9), (kp f10), (kp f11), (kp f12)⟩
        · obtain rfl := Option.some.inj ho
          have g1 := f1 (hd ⟨1, .data⟩ (by simp) rfl)
          subst g1
          refine wpOp_step rfl (fun K' hK => ?_)
          go_simp
          refine hK _ _ ?_
          exact ⟨_, _, _, _, _, _, _, _, _, _, _, _, _, rfl, (by
            rw [show upd L 2 7 = L 7 by simp [upd]]
            exact I0), (I1), (kp f0), (kp f1), (fun _ => rfl), (kp f3), (kp f4), (kp f5), (kp f6), (kp f7), (kp f8), (kp f9), (kp f10), (kp f11), (kp f12)⟩
        · obtain rfl := Option.some.inj ho
          have g2 := f2 (hd ⟨2, .data⟩ (by simp) rfl)
          subst g2
          obtain ⟨sv1, S1⟩ := I0
          have z0 : ww.cell? ⟨b, 0, none⟩ = some (.slice (some ⟨g, oo, none⟩) n c) := S1.box.cell 0
          refine wpOp_step rfl (fun K' hK => ?_)
          go_simp
          refine hK _ _ ?_
          exact ⟨_, _, _, _, _, _, _, _, _, _, _, _, _, rfl, (by
            rw [show upd L 3 7 = L 7 by simp [upd]]
            exact ⟨sv1, S1⟩), (I1), (kp f0), (kp f1), (kp f2), (fun _ => rfl), (kp f4), (kp f5), (kp f6), (kp f7), (kp f8), (kp f9), (kp f10), (kp f11), (kp f12)⟩
        · obtain rfl := Option.some.inj ho
          refine wpOp_step rfl (fun K' hK => ?_)
          go_simp
          refine hK _ _ ?_
          exact ⟨_, _, _, _, _, _, _, _, _, _, _, _, _, rfl, (by
            rw [show upd L 4 7 = L 7 by simp [upd]]
            exact I0), (I1), (kp f0), (kp f1), (kp f2), (kp f3), (fun _ => rfl), (kp f5), (kp f6), (kp f7), (kp f8), (kp f9), (kp f10), (kp f11), (kp f12)⟩
        · obtain rfl := Option.some.inj ho
          have g4 := f4 (hd ⟨4, .data⟩ (by simp) rfl)
          subst g4
          refine wpOp_step rfl (fun K' hK => ?_)
          go_simp
          refine hK _ _ ?_
          exact ⟨_, _, _, _, _, _, _, _, _, _, _, _, _, rfl, (by
            rw [show upd L 5 7 = L 7 by simp [upd]]
            exact I0), (I1), (kp f0), (kp f1), (kp f2), (kp f3), (kp f4), (fun _ => rfl), (kp f6), (kp f7), (kp f8), (kp f9), (kp f10), (kp f11), (kp f12)⟩
        · obtain rfl := Option.some.inj ho
          have g5 := f5 (hd ⟨5, .data⟩ (by simp) rfl)
          subst g5
          refine wpOp_step rfl (fun K' hK => ?_)
          go_simp
          refine hK _ _ ?_
          exact ⟨_, _, _, _, _, _, _, _, _, _, _, _, _, rfl, (by
            rw [show upd L 6 7 = L 7 by simp [upd]]
            exact I0), (I1), (kp f0), (kp f1), (kp f2), (kp f3), (kp f4), (kp f5), (fun _ => rfl), (kp f7), (kp f8), (kp f9), (kp f10), (kp f11), (kp f12)⟩
        · obtain rfl := Option.some.inj ho
          have g6 := f6 (hd ⟨6, .data⟩ (by simp) rfl)
          subst g6
          obtain ⟨sv1, S1⟩ := I0
          rw [hL, if_neg Bool.false_ne_true] at S1
          refine wpOp_step rfl (fun K' hK => ?_)
          go_simp
          refine (takeTop_any B b V pl _ sv1 st' (k : Int) ww S1 HL1.out).mono ?_
          rintro e w' ⟨rfl, sv2, S2, b5, -⟩
          refine hK _ _ ?_
          exact ⟨_, _, _, _, _, _, _, _, _, _, _, _, _, rfl, (⟨sv2, by
            rw [show upd L 7 7 = true by simp [upd], if_pos rfl]
            exact S2⟩), (I1.trans b5), (kp f0), (kp f1), (kp f2), (kp f3), (kp f4), (kp f5), (kp f6), (fun _ => rfl), (kp f8), (kp f9), (kp f10), (kp f11), (kp f12)⟩
        · obtain rfl := Option.some.inj ho
          have g3 := f3 (hd ⟨3, .data⟩ (by simp) rfl)
          have g7 := f7 (hd ⟨7, .data⟩ (by simp) rfl)
          subst g3
          subst g7
          refine wpOp_step rfl (fun K' hK => ?_)
          go_simp
          refine hK _ _ ?_
          exact ⟨_, _, _, _, _, _, _, _, _, _, _, _, _, rfl, (by
            rw [show upd L 8 7 = L 7 by simp [upd]]
            exact I0), (I1), (kp f0), (kp f1), (kp f2), (kp f3), (kp f4), (kp f5), (kp f6), (kp f7), (fun _ => rfl), (kp f9), (kp f10), (kp f11), (kp f12)⟩
        · obtain rfl := Option.some.inj ho
          have g8 := f8 (hd ⟨8, .data⟩ (by simp) rfl)
          subst g8
          refine wpOp_step rfl (fun K' hK => ?_)
          go_simp
          refine hK _ _ ?_
          exact ⟨_, _, _, _, _, _, _, _, _, _, _, _, _, rfl, (by
            rw [show upd L 9 7 = L 7 by simp [upd]]
            exact I0), (I1), (kp f0), (kp f1), (kp f2), (kp f3), (kp f4), (kp f5), (kp f6), (kp f7), (kp f8), (fun _ => rfl), (kp f10), (kp f11), (kp f12)⟩
        · obtain rfl := Option.some.inj ho
          have g9 := f9 (hd ⟨9, .data⟩ (by simp) rfl)
          subst g9
          have z3 : ww.cell? ⟨g, oo + k * 3 + 2, none⟩ = some (.slice A' q' cc) := (I1.cell (p := ⟨g, oo + k * 3 + 2, none⟩) HGB.out).trans HE3.out
          refine wpOp_step rfl (fun K' hK => ?_)
          go_simp
          refine hK _ _ ?_
          exact ⟨_, _, _, _, _, _, _, _, _, _, _, _, _, rfl, (by
            rw [show upd L 10 7 = L 7 by simp [upd]]
            exact I0), (I1), (kp f0), (kp f1), (kp f2), (kp f3), (kp f4), (kp f5), (kp f6), (kp f7), (kp f8), (kp f9), (fun _ => rfl), (kp f11), (kp f12)⟩
        · obtain rfl := Option.some.inj ho
          have g10 := f10 (hd ⟨10, .data⟩ (by simp) rfl)
          subst g10
          refine wpOp_step rfl (fun K' hK => ?_)
          go_simp
          refine hK _ _ ?_
          exact ⟨_, _, _, _, _, _, _, _, _, _, _, _, _, rfl, (by
            rw [show upd L 11 7 = L 7 by simp [upd]]
            exact I0), (I1), (kp f0), (kp f1), (kp f2), (kp f3), (kp f4), (kp f5), (kp f6), (kp f7), (kp f8), (kp f9), (kp f10), (fun _ => rfl), (kp f12)⟩
        · obtain rfl := Option.some.inj ho
          refine wpOp_step rfl (fun K' hK => ?_)
          go_simp
          refine hK _ _ ?_
          exact ⟨_, _, _, _, _, _, _, _, _, _, _, _, _, rfl, (by
            rw [show upd L 12 7 = L 7 by simp [upd]]
            exact I0), (I1), (kp f0), (kp f1), (kp f2), (kp f3), (kp f4), (kp f5), (kp f6), (kp f7), (kp f8), (kp f9), (kp f10), (kp f11), (fun _ => rfl)⟩
      case hdone =>
        rintro L ac ww hall ⟨t9, t10, t11, t12, t13, t14, t15, t16, t17, t18, t19, t20, t21, rfl, I0, I1, f0, f1, f2, f3, f4, f5, f6, f7, f8, f9, f10, f11, f12⟩
        have e0 := f0 (hall 0 (by decide))
        have e1 := f1 (hall 1 (by decide))
        have e2 := f2 (hall 2 (by decide))
        have e3 := f3 (hall 3 (by decide))
        have e4 := f4 (hall 4 (by decide))
        have e5 := f5 (hall 5 (by decide))
        have e6 := f6 (hall 6 (by decide))
        have e7 := f7 (hall 7 (by decide))
        have e8 := f8 (hall 8 (by decide))
        have e9 := f9 (hall 9 (by decide))
        have e10 := f10 (hall 10 (by decide))
        have e11 := f11 (hall 11 (by decide))
        have e12 := f12 (hall 12 (by decide))
        clear f0 f1 f2 f3 f4 f5 f6 f7 f8 f9 f10 f11 f12
        obtain ⟨sv1, S1⟩ := I0
        rw [if_pos (hall 7 (by decide))] at S1
        subst e0
        subst e1
        subst e2
        subst e3
        subst e4
        subst e5
        subst e6
        subst e7
        subst e8
        subst e9
        subst e10
        subst e11
        subst e12
        rw [← HV.out] at S1
        have HMS := Lib.hid HML.out
        have b3 := I1
        clear I1 hall HWD HBD HVB hk'
        generalize ww = w5 at S1 b3 ⊢
        go_wp2_with fail
        go_loopw [21] (fun i ww => ∃ (j : Nat) (mk2 : List Bool) (sv2 : Value) (st2 : List Int), j ≤ q' ∧ i = .int .i64 j ∧ MkSt ww B b (.slice (some ⟨g, oo, none⟩) n c) (Bm.wordN mk2 true) pl sv2 st2 ∧ mk2.length = n ∧ Hid ((cl.r.take j).foldl (Hps.pushP pl) (mk, st') = (mk2, st2)) ∧ Hid (Hps.Nums n st2) ∧ Below B w ww) (fun i _ => q' - (intOf i).toNat)
        case atStart => exact ⟨0, mk, sv1, st', Nat.zero_le _, rfl, S1, HMS.out, Lib.hid (by rw [List.take_zero]; rfl), HNP, b3⟩
        case round =>
          clear S1 b3
          obtain ⟨j, mk2, sv2, st2, hj, rfl, S, hm2, HF, HN2, b2⟩ := hrel
          have HFW := Lib.hid (show mk2.count false + st2.length ≤ mk.count false + st'.length by
            have := Hps.fold_weight pl (cl.r.take j) (mk, st')
            rw [HF.out] at this
            simpa using this)
          by_cases hlt : j < q'
          · obtain ⟨gr, or, x, e2, hgr, hx, d0⟩ := HIX.out.at_ hlt
            subst e2
            have e0 := ((bb.trans b2).cell (p := ⟨gr, or + j, none⟩) hgr).trans d0
            have hlt' : (j : Int) < q' := by omega
            have HT := Lib.hid (take_snocI hx)
            have hok := Hps.okRefs_at HCK.out hx
            have HFS := Lib.hid (show (cl.r.take (j + 1)).foldl (Hps.pushP pl) (mk, st') = Hps.pushP pl (mk2, st2) x by rw [HT.out, Hps.fold_snoc, HF.out])
            have hV2 := Bm.wordN_lt mk2 true (by omega)
            have HIU := Lib.hid (isUnmarked_any B b _ pl _ sv2 st2 x wr S hV2)
            have hui := Hps.isU_marks hok hlc hm2
            have hl2 : st2.length ≤ 1000 := by have := HFW.out; have := HCW.out; omega
            have hws : B ≤ wr.heap.size := by have := bb.size; have := b2.size; omega
            obtain ⟨u, hu⟩ : ∃ u, Hps.isU (Bm.wordN mk2 true) x = u := ⟨_, rfl⟩
            rw [show (x != -1 && !Hps.hasB (Bm.wordN mk2 true) x) = u from hu] at HIU
            rw [hu] at hui
            cases u
            · have HP := Lib.hid (Hps.push_old (pl := pl) (mk := mk2) (st := st2) (m := x) (by
                rcases Int.lt_or_le x 0 with h1 | h1
                · exact .inl h1
                · right
                  intro h2
                  have := hui.2 ⟨h1, h2⟩
                  cases this))
              rw [HP.out] at HFS
              clear hx hok hu hui
              go_wp2_with fail
              refine HIU.out.mono ?_
              rintro e w6 ⟨rfl, rfl⟩
              go_wp2_with fail
              go_roundw
              case rel => exact ⟨j + 1, mk2, sv2, st2, by omega, by go_num, S, hm2, HFS, HN2, b2⟩
              case measure => simp [intOf]; omega
            · obtain ⟨hx0, hxm⟩ := hui.1 rfl
              obtain ⟨z, rfl⟩ := Int.eq_ofNat_of_zero_le hx0
              rw [Int.toNat_natCast] at hxm
              have hz : z < n := by rw [← hm2]; exact (List.getElem?_eq_some_iff.1 hxm).1
              have HP := Lib.hid (Hps.push_put (pl := pl) (st := st2) hxm)
              rw [HP.out] at HFS
              have HMK := Lib.hid (mark_any B b _ pl z _ sv2 st2 wr S hV2 (by omega) hp hl2 hws)
              have HWM := Lib.hid (Hps.word_mark (mk := mk2) (k := z) (by omega))
              have HN3 := Lib.hid (HN2.out.put (pl := pl) hz)
              have hm3 : (mk2.set z true).length = n := by simpa using hm2
              clear hx hok hu hui hx0 hxm hV2
              go_wp2_with fail
              refine HIU.out.mono ?_
              rintro e w6 ⟨rfl, rfl⟩
              go_wp2_with fail
              refine HMK.out.mono ?_
              rintro e w7 ⟨rfl, sv7, S7, b7, -⟩
              rw [HWM.out] at S7
              have b8 := b2.trans b7
              clear HMK HIU S b7 b2 e0
              go_wp2_with fail
              go_roundw
              case rel => exact ⟨j + 1, _, sv7, _, by omega, by go_num, S7, hm3, HFS, HN3, b8⟩
              case measure => simp [intOf]; omega
          · obtain rfl : j = q' := by omega
            rw [List.take_of_length_le (by rw [HRL.out]; omega)] at HF
            rw [HPR.out, HF.out] at HDN
            have HMS := Lib.hid (idleB_eq S hm2)
            have HLS := Lib.hid (stackW_eq S)
            have hw2 : mk2.count false + st2.length ≤ 100 := by have := HFW.out; have := HCW.out; omega
            go_wp2_with fail
            go_roundw
            case rel => exact ⟨mk2, sv2, st2, S, HDN, hm2, HN2, hw2, b2⟩
            case measure => rw [HMS.out, HLS.out, HM0.out, HSW.out, List.length_append, List.length_singleton]; have := HFW.out; omega

theorem wasLeft_any (B b n c pl k : Nat) (A : Option Addr) (sv : Value) (cs : List Cl) (st : List Int) (w0 w : World) (mk : List Bool) (hcs : CS w0 B A n cs) (hrf : ∀ cl ∈ cs, Hps.okRefs cs cl.r = true) (h3 : ∀ cl ∈ cs, cl.r.length ≤ 3) (hn : n ≤ 40) (hB : B ≤ w0.heap.size)
    (W : MkSt w B b (.slice A n c) (Bm.wordN mk true) pl sv st) (hm : mk.length = n) (hk : k < n) (bb : Below B w0 w) :
    Calls Try.prog 133 #[.pointer (some ⟨b, 0, none⟩), .int .i64 k] w fun e w' => e = .returned (.bool (Hps.openAt cs mk k)) ∧ w = w' := by
  have hlc := hcs.1
  have hV := Bm.wordN_lt mk true (by omega)
  have x0 : w.cell? ⟨b, 0, none⟩ = some (.slice A n c) := W.box.cell 0
  have x1 : w.cell? ⟨b, 1, none⟩ = some (.int .u64 (Bm.wordN mk true : Nat)) := W.box.cell 1
  have HH := Lib.hid (has_any (Bm.wordN mk true) (k : Int) w hV)
  have hhb : Hps.hasB (Bm.wordN mk true) (k : Int) = decide (mk[k]? = some true) := by
    rw [Hps.hasB, decide_eq_true (by omega : (0 : Int) ≤ (k : Int)), Bool.true_and, Int.toNat_natCast, Bm.wordN_bit]
  rw [hhb] at HH
  obtain ⟨g, oo, cl, A', q', cc, e1, hg, hcl, d1, d2, d3, hmc, hi⟩ := hcs.at_ (k := k) hk
  subst e1
  have HRA := Lib.hid (show Hps.refsAt cs (k : Int) = cl.r by rw [Hps.refsAt, Int.toNat_natCast, hcl])
  have hq3 : q' ≤ 3 := by have := h3 cl (List.mem_of_getElem? hcl); have := hi.1; omega
  have hck := hrf cl (List.mem_of_getElem? hcl)
  have e3 := (bb.cell (p := ⟨g, oo + k * 3 + 2, none⟩) hg).trans d3
  have hk' : (k : Int) < n := by omega
  have hf := (hi.below bb).more (B' := w.heap.size) (by have := bb.size; omega)
  have HC := Lib.hid (containsFunc_any B b _ pl _ sv st A' q' cc cl.r w W hV hf (by omega))
  by_cases hb : mk[k]? = some true
  · have HO : Hid (decide (0 ≤ Hps.idxU (Bm.wordN mk true) cl.r) = Hps.openAt cs mk k) := Lib.hid (by
      rw [Bool.eq_iff_iff, decide_eq_true_eq, Hps.openAt_iff, HRA.out]
      rcases Hps.idxU_cases (Bm.wordN mk true) cl.r with ⟨h1, h2⟩ | ⟨a, x, t, h1, h2, h4, h5⟩
      · rw [h1]
        constructor
        · intro h; omega
        · rintro ⟨_, m, hm1, hm2, hm3⟩
          have := (Hps.isU_marks (Hps.okRefs_iff.1 hck m hm1) hlc hm).2 ⟨hm2, hm3⟩
          rw [h2 m hm1] at this
          cases this
      · rw [h5]
        constructor
        · intro _
          have hxm : x ∈ cl.r := by rw [h1]; simp
          obtain ⟨g1, g2⟩ := (Hps.isU_marks (Hps.okRefs_iff.1 hck x hxm) hlc hm).1 h4
          exact ⟨hb, x, hxm, g1, g2⟩
        · intro _; omega)
    have hd : decide (mk[k]? = some true) = true := decide_eq_true hb
    rw [hd] at HH
    clear hd hb hhb hcl d1 d2 d3 hck W hf hi
    go_enter Try.func133, Try.ntmps133
    go_wp2_with fail
    refine HH.out.mono ?_
    rintro e w1 ⟨rfl, rfl⟩
    go_wp2_with fail
    refine HC.out.mono ?_
    rw [HO.out]
    rintro e w1 ⟨rfl, rfl⟩
    go_wp2_with fail
    go_ret
    exact ⟨rfl, rfl⟩
  · have HO := Lib.hid (show Hps.openAt cs mk k = false by
      cases e : Hps.openAt cs mk k
      · rfl
      · exact absurd (Hps.openAt_iff.1 e).1 hb)
    have hd : decide (mk[k]? = some true) = false := decide_eq_false hb
    rw [hd] at HH
    rw [HO.out]
    clear hd hb hhb hcl d1 d2 d3 hck W hf hi HC
    go_enter Try.func133, Try.ntmps133
    go_wp2_with fail
    refine HH.out.mono ?_
    rintro e w1 ⟨rfl, rfl⟩
    go_wp2_with fail
    go_ret
    exact ⟨rfl, rfl⟩

theorem isDone_any (B b n c pl : Nat) (A : Option Addr) (sv : Value) (cs : List Cl) (st : List Int) (w0 w : World) (mk : List Bool) (hcs : CS w0 B A n cs) (hrf : ∀ cl ∈ cs, Hps.okRefs cs cl.r = true) (h3 : ∀ cl ∈ cs, cl.r.length ≤ 3) (hn : n ≤ 40) (hB : B ≤ w0.heap.size)
    (W : MkSt w B b (.slice A n c) (Bm.wordN mk true) pl sv st) (hm : mk.length = n) (bb : Below B w0 w) :
    Calls Try.prog 91 #[.pointer (some ⟨b, 0, none⟩)] w fun e w' => e = .returned (.bool (!Hps.anyOpen cs mk)) ∧ w = w' := by
  have x0 : w.cell? ⟨b, 0, none⟩ = some (.slice A n c) := W.box.cell 0
  have HM := Lib.hid hm
  have HRF := Lib.hid hrf
  have HC3 := Lib.hid h3
  clear hrf h3 hm
  go_enter Try.func91, Try.ntmps91
  go_wp2_with fail
  go_loopw [9] (fun i wr => ∃ j : Nat, j ≤ n ∧ i = .int .i64 j ∧ Hid (∀ p, p < j → Hps.openAt cs mk p = false) ∧ wr = w) (fun i _ => n - (intOf i).toNat)
  case atStart => exact ⟨0, Nat.zero_le _, rfl, Lib.hid (fun p hp => by omega), rfl⟩
  case round =>
    obtain ⟨j, hj, rfl, HP, rfl⟩ := hrel
    by_cases hlt : j < n
    · have hlt' : (j : Int) < n := by omega
      have HO := Lib.hid (wasLeft_any B b n c pl j A sv cs st w0 wr mk hcs HRF.out HC3.out hn hB W HM.out hlt bb)
      go_wp2_with fail
      refine HO.out.mono ?_
      rintro e w3 ⟨rfl, rfl⟩
      cases ho' : Hps.openAt cs mk j
      · have HN : Hid (∀ p, p < j + 1 → Hps.openAt cs mk p = false) := Lib.hid fun p hp => by
          rcases Nat.lt_or_ge p j with h1 | h1
          · exact HP.out p h1
          · obtain rfl : p = j := by omega
            exact ho'
        clear ho' HO
        go_wp2_with fail
        go_roundw
        case rel => exact ⟨j + 1, by omega, by go_num, HN, trivial⟩
        case measure => simp [intOf]; omega
      · have HE := Lib.hid (show Hps.anyOpen cs mk = true from Hps.anyOpen_iff.2 ⟨j, by have := HM.out; omega, ho'⟩)
        clear ho' HO
        go_wp2_with fail
        go_ret
        exact ⟨by rw [HE.out]; rfl, rfl⟩
    · obtain rfl : j = n := by omega
      have HE := Lib.hid (show Hps.anyOpen cs mk = false by
        cases e : Hps.anyOpen cs mk
        · rfl
        · obtain ⟨k, hk, h1⟩ := Hps.anyOpen_iff.1 e
          rw [HP.out k (by have := HM.out; omega)] at h1
          cases h1)
      go_wp2_with fail
      go_ret
      exact ⟨by rw [HE.out]; rfl, rfl⟩

set_option maxHeartbeats 1000000 in
theorem firstPass_any (B b n c pl m d : Nat) (A R : Option Addr) (sv : Value) (h : Hp) (w0 w : World) (hcs : CS w0 B A n h.cs) (hrs : IS w0 B R m h.rt) (hro : Hps.okRefs h.cs h.rt = true) (hrf : ∀ cl ∈ h.cs, Hps.okRefs h.cs cl.r = true) (h3 : ∀ cl ∈ h.cs, cl.r.length ≤ 3) (hn : n ≤ 40) (hB : B ≤ w0.heap.size) (hp1 : 1 ≤ pl) (hp : pl ≤ 1000) (hm : m ≤ 1000)
    (W : MkSt w B b (.slice A n c) (0 : Nat) pl sv []) (bb : Below B w0 w) :
    Calls Try.prog 90 #[.pointer (some ⟨b, 0, none⟩), .slice R m d] w fun e w' => e = .returned (.tuple #[]) ∧ ∃ sv', MkSt w' B b (.slice A n c) (Bm.wordN (Hps.firstTo h.cs pl h.rt m) true) pl sv' [] ∧ Below B w w' := by
  have hlc := hcs.1
  have hlr := hrs.1
  have HRF := Lib.hid hrf
  have HC3 := Lib.hid h3
  have HRO := Lib.hid hro
  rw [← Hps.word_zero n] at W
  have HLN := Lib.hid (fun k => (Hps.first_len h.cs pl h.rt k).trans hlc)
  clear hrf h3 hro
  go_enter Try.func90, Try.ntmps90
  go_wp2_with fail
  go_loopw [8] (fun i wr => ∃ (k : Nat) (mk : List Bool) (sv : Value), k ≤ m ∧ i = .int .i64 k ∧ MkSt wr B b (.slice A n c) (Bm.wordN mk true) pl sv [] ∧ Hid (mk = Hps.firstTo h.cs pl h.rt k) ∧ Below B w wr) (fun i _ => m - (intOf i).toNat)
  case atStart => exact ⟨0, _, sv, Nat.zero_le _, rfl, W, Lib.hid (by rw [Hps.firstTo, List.take_zero, hlc]; rfl), Below.refl _ _⟩
  case round =>
    clear W
    obtain ⟨k, mk, sv, hk, rfl, W, HM, b2⟩ := hrel
    have hml : mk.length = n := by rw [HM.out]; exact HLN.out k
    by_cases hlt : k < m
    · obtain ⟨gr, or, x, e2, hgr, hx, d0⟩ := hrs.at_ hlt
      subst e2
      have e0 := ((bb.trans b2).cell (p := ⟨gr, or + k, none⟩) hgr).trans d0
      have hlt' : (k : Int) < m := by omega
      have hok := Hps.okRefs_at HRO.out hx
      have HFS := Lib.hid (show Hps.firstTo h.cs pl h.rt (k + 1) = Hps.rootP h.cs pl mk x by rw [Hps.first_succ hx, HM.out])
      have hV2 := Bm.wordN_lt mk true (by omega)
      have HIU := Lib.hid (isUnmarked_any B b _ pl _ sv [] x wr W hV2)
      have hui := Hps.isU_marks hok hlc hml
      have hws : B ≤ wr.heap.size := by have := bb.size; have := b2.size; omega
      obtain ⟨u, hu⟩ : ∃ u, Hps.isU (Bm.wordN mk true) x = u := ⟨_, rfl⟩
      rw [show (x != -1 && !Hps.hasB (Bm.wordN mk true) x) = u from hu] at HIU
      rw [hu] at hui
      cases u
      · have HP := Lib.hid (show Hps.rootP h.cs pl mk x = mk by rw [Hps.rootP, if_neg (fun e => by have := hui.2 e; cases this)])
        clear hx hok hu hui
        go_wp2_with fail
        refine HIU.out.mono ?_
        rintro e w6 ⟨rfl, rfl⟩
        go_wp2_with fail
        go_roundw
        case rel => exact ⟨k + 1, mk, sv, by omega, by go_num, W, Lib.hid (by rw [HFS.out, HP.out]), b2⟩
        case measure => simp [intOf]; omega
      · obtain ⟨hx0, hxm⟩ := hui.1 rfl
        obtain ⟨z, rfl⟩ := Int.eq_ofNat_of_zero_le hx0
        rw [Int.toNat_natCast] at hxm
        have hz : z < n := by rw [← hml]; exact (List.getElem?_eq_some_iff.1 hxm).1
        have HP := Lib.hid (show Hps.rootP h.cs pl mk (z : Int) = Hps.drainL h.cs pl (mk.set z true) [(z : Int)] by rw [Hps.rootP, if_pos ⟨hx0, by rw [Int.toNat_natCast]; exact hxm⟩, Int.toNat_natCast])
        have HMK := Lib.hid (mark_any B b _ pl z _ sv [] wr W hV2 (by omega) hp (by simp) hws)
        have HWM := Lib.hid (Hps.word_mark (mk := mk) (k := z) (by omega))
        have HPS := Lib.hid (show putS pl [] (z : Int) = [(z : Int)] by rw [putS, if_pos (by simp; omega)]; rfl)
        have hm3 : (mk.set z true).length = n := by simpa using hml
        have HCT := Lib.hid (show (mk.set z true).count false + [(z : Int)].length ≤ 100 by
          have := List.count_le_length (a := false) (l := mk.set z true)
          simp only [List.length_singleton]
          omega)
        clear hx hok hu hui hx0 hxm hV2 hml
        go_wp2_with fail
        refine HIU.out.mono ?_
        rintro e w6 ⟨rfl, rfl⟩
        go_wp2_with fail
        refine HMK.out.mono ?_
        rintro e w7 ⟨rfl, sv7, S7, b7, -⟩
        rw [HWM.out, HPS.out] at S7
        have b8 := b2.trans b7
        have HWO := Lib.hid (workOff_any B b n c pl A sv7 h.cs w0 w7 _ _ hcs HRF.out HC3.out hn hB S7 hm3 (Hps.Nums.snoc (st := []) (fun x hx => by simp at hx) hz) hp HCT.out (bb.trans b8))
        clear HMK HIU W b7 b2 e0 S7
        go_wp2_with fail
        refine HWO.out.mono ?_
        rintro e w9 ⟨rfl, sv9, S9, b9⟩
        have b10 := b8.trans b9
        clear HWO b9 b8
        go_wp2_with fail
        go_roundw
        case rel => exact ⟨k + 1, _, sv9, by omega, by go_num, S9, Lib.hid (by rw [HFS.out, HP.out]), b10⟩
        case measure => simp [intOf]; omega
    · obtain rfl : k = m := by omega
      rw [HM.out] at W
      go_wp2_with fail
      exact bodyPost_end (results_none rfl _ _ _) rfl ⟨rfl, sv, W, b2⟩

set_option maxHeartbeats 1000000 in
theorem furtherPass_any (B b n c pl : Nat) (A : Option Addr) (sv : Value) (cs : List Cl) (w0 w : World) (mk : List Bool) (hcs : CS w0 B A n cs) (hrf : ∀ cl ∈ cs, Hps.okRefs cs cl.r = true) (h3 : ∀ cl ∈ cs, cl.r.length ≤ 3) (hn : n ≤ 40) (hB : B ≤ w0.heap.size) (hp1 : 1 ≤ pl) (hp : pl ≤ 1000)
    (W : MkSt w B b (.slice A n c) (Bm.wordN mk true) pl sv []) (hm : mk.length = n) (bb : Below B w0 w) :
    Calls Try.prog 92 #[.pointer (some ⟨b, 0, none⟩)] w fun e w' => e = .returned (.tuple #[]) ∧ ∃ sv', MkSt w' B b (.slice A n c) (Bm.wordN (Hps.passTo cs pl mk n) true) pl sv' [] ∧ Below B w w' := by
  have hlc := hcs.1
  have HRF := Lib.hid hrf
  have HC3 := Lib.hid h3
  have HLN := Lib.hid (fun k => Hps.pass_len cs pl mk k)
  have HML := Lib.hid hm
  have x0 : w.cell? ⟨b, 0, none⟩ = some (.slice A n c) := W.box.cell 0
  clear hrf h3 hm
  go_enter Try.func92, Try.ntmps92
  go_wp2_with fail
  go_loopw [8] (fun i wr => ∃ (k : Nat) (mk2 : List Bool) (sv : Value), k ≤ n ∧ i = .int .i64 k ∧ MkSt wr B b (.slice A n c) (Bm.wordN mk2 true) pl sv [] ∧ Hid (mk2 = Hps.passTo cs pl mk k) ∧ Below B w wr) (fun i _ => n - (intOf i).toNat)
  case atStart => exact ⟨0, mk, sv, Nat.zero_le _, rfl, W, Lib.hid rfl, Below.refl _ _⟩
  case round =>
    clear W x0
    obtain ⟨k, mk2, sv, hk, rfl, W, HM, b2⟩ := hrel
    have hml : mk2.length = n := by rw [HM.out]; exact (HLN.out k).trans HML.out
    by_cases hlt : k < n
    · have hlt' : (k : Int) < n := by omega
      have hws : B ≤ wr.heap.size := by have := bb.size; have := b2.size; omega
      have HO := Lib.hid (wasLeft_any B b n c pl k A sv cs [] w0 wr mk2 hcs HRF.out HC3.out hn hB W hml hlt (bb.trans b2))
      cases ho : Hps.openAt cs mk2 k
      · have HN := Lib.hid (Hps.pass_shut (pl := pl) (mk := mk) (by rw [← HM.out]; exact ho))
        rw [ho] at HO
        clear ho
        go_wp2_with fail
        refine HO.out.mono ?_
        rintro e w6 ⟨rfl, rfl⟩
        go_wp2_with fail
        go_roundw
        case rel => exact ⟨k + 1, mk2, sv, by omega, by go_num, W, Lib.hid (by rw [HN.out, HM.out]), b2⟩
        case measure => simp [intOf]; omega
      · have HN := Lib.hid (Hps.pass_open (pl := pl) (mk := mk) (by rw [← HM.out]; exact ho))
        rw [ho] at HO
        have HPU := Lib.hid (putStack_any B b _ pl _ sv [] (k : Int) wr W hws hp (by simp))
        have HPS := Lib.hid (show putS pl [] (k : Int) = [(k : Int)] by rw [putS, if_pos (by simp; omega)]; rfl)
        have HCT := Lib.hid (show mk2.count false + [(k : Int)].length ≤ 100 by
          have := List.count_le_length (a := false) (l := mk2)
          simp only [List.length_singleton]
          omega)
        have HL2 := Lib.hid hml
        clear ho hml
        go_wp2_with fail
        refine HO.out.mono ?_
        rintro e w6 ⟨rfl, rfl⟩
        go_wp2_with fail
        refine HPU.out.mono ?_
        rintro e w7 ⟨rfl, sv7, S7, b7, -⟩
        rw [HPS.out] at S7
        have b8 := b2.trans b7
        have HWO := Lib.hid (workOff_any B b n c pl A sv7 cs w0 w7 _ _ hcs HRF.out HC3.out hn hB S7 HL2.out (Hps.Nums.snoc (st := []) (fun x hx => by simp at hx) hlt) hp HCT.out (bb.trans b8))
        clear HPU HO W b7 b2 S7
        go_wp2_with fail
        refine HWO.out.mono ?_
        rintro e w9 ⟨rfl, sv9, S9, b9⟩
        have b10 := b8.trans b9
        clear HWO b9 b8
        go_wp2_with fail
        go_roundw
        case rel => exact ⟨k + 1, _, sv9, by omega, by go_num, S9, Lib.hid (by rw [HN.out, ← HM.out]), b10⟩
        case measure => simp [intOf]; omega
    · obtain rfl : k = n := by omega
      rw [HM.out] at W
      go_wp2_with fail
      exact bodyPost_end (results_none rfl _ _ _) rfl ⟨rfl, sv, W, b2⟩
end Go.Proofs.Ytmjejcfifkbkoaa
