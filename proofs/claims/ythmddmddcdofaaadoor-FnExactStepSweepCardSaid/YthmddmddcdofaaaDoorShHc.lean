/- What the claim DEStepSweep stands on, part 3 of 4: texts of one seat put together, with what the claim needs of them. No conditions. -/
import Derived.Test.YthmddmddcdofaaaDoorShHb
namespace Go.Proofs.YthmddmddcdofaaaDoor
open Go.RowKit
set_option maxRecDepth 100000
set_option maxHeartbeats 8000000 in
theorem newCellAt_any {a ob p : Nat} {oc : Int} {h : Hp} (hv : Hps.validH h = true) (ha : a < 4) (hb3 : ob ≤ 3) (hp : p ≤ h.cs.length) (T : TypeId) (K : Beside) (w0 w1 : World) (b : Nat) (vc vr : Value) (rvs : List Value) (S0 : BoxX T K w0 w1 b vc vr rvs h) :
    Calls Tryd.prog 144 #[cmV ⟨1, a, ob, oc⟩, .pointer (some ⟨b, 0, none⟩), .int .i64 p] w1 fun e w' => (∃ v, e = .returned v) ∧ ∃ vc' vr' rvs', BoxX T K w0 w' b vc' vr' rvs' (Hps.doH h ⟨1, a, ob, oc⟩ p) := by
  have hr4 := (Hps.valid_iff.1 hv).2.2.1
  have h40 := (Hps.valid_iff.1 hv).2.1
  have ham : (a : Int) < 4 := by omega
  obtain ⟨n, hn⟩ : ∃ n, h.cs.length = n := ⟨_, rfl⟩
  obtain ⟨C, hC⟩ : ∃ C, C = if p = n then h.cs ++ [Hps.zeroCl] else h.cs := ⟨_, rfl⟩
  have HF := Lib.hid (show Hps.doH h ⟨1, a, ob, oc⟩ p = ⟨C.set p ⟨true, oc, (List.replicate ob (-1))⟩, h.rt.set a (p : Int)⟩ by
    rw [Hps.doH, if_pos rfl, hC]
    simp only [Hps.putCl, Hps.newCl]
    by_cases e : p = n
    · subst e
      rw [if_pos hn.symm, if_pos rfl, ← hn, List.set_append_right _ _ (Nat.le_refl _), Nat.sub_self]
      rfl
    · rw [if_neg (by rw [hn]; exact e), if_neg e]
      rfl)
  have HC := Lib.hid hC
  have hCl : C.length = if p = n then n + 1 else n := by
    rw [hC]
    split
    · rw [List.length_append, hn]; rfl
    · exact hn
  obtain ⟨N9, hN9⟩ : ∃ N9, C.length = N9 := ⟨_, rfl⟩
  have hpN : p < N9 := by rw [← hN9, hCl]; split <;> omega
  have hN41 : N9 ≤ 41 := by rw [← hN9, hCl]; split <;> omega
  have HL := Lib.hid hr4
  have HN := Lib.hid hn
  have HN9 := Lib.hid hN9
  obtain ⟨A, c, gr, d, rfl, rfl, -⟩ := S0.form (by omega)
  rw [hr4, hn] at S0
  rw [hn] at h40 hp
  have S := S0.up ((Below.refl w1.heap.size w1).alloc (Nat.le_refl _) (.cells #[.int .i64 1, .int .i64 a, .int .i64 ob, .int .i64 oc] 49))
  have Q := Rw.new w1 49 #[.int .i64 1, .int .i64 a, .int .i64 ob, .int .i64 oc]
  have QW : w0.heap.size ≤ w1.heap.size := S0.low.size
  have QB : b < w1.heap.size := S0.box.lt
  have QR : gr < w1.heap.size := (S0.own.blocks (v := .slice (some ⟨gr, 0, none⟩) 4 d) (by simp) rfl).2
  clear S0 hr4 hv hn hC hCl hN9
  go_enter Tryd.func144, Tryd.ntmps144
  go_upto_region 1 with fail
  generalize w1.alloc (.cells #[.int .i64 1, .int .i64 a, .int .i64 ob, .int .i64 oc] 49) = w2 at S Q ⊢
  generalize w1.heap.size = q at Q QW QB QR ⊢
  have x0 : w2.cell? ⟨b, 0, none⟩ = some (.slice A n c) := S.c0
  go_upto_if 12 with fail
  go_cut [] from 6 (fun wc => ∃ (A9 : Option Addr) (c9 : Nat) (rv : List Value), BoxX T K w0 wc b (.slice A9 N9 c9) (.slice (some ⟨gr, 0, none⟩) 4 d) rv ⟨C, h.rt⟩ ∧ Rw wc q 49 #[.int .i64 1, .int .i64 a, .int .i64 ob, .int .i64 oc])
  case first =>
    by_cases hpn : p = n
    · have HC1 : C = h.cs ++ [Hps.zeroCl] := by rw [HC.out, if_pos hpn]
      have hN9e : N9 = n + 1 := by rw [← HN9.out, HC1, List.length_append, HN.out]; rfl
      subst hN9e
      subst hpn
      have own' := World.ownsRow.alloc S.own.row (.cells #[.bool false, .int .i64 0, .slice none 0 0] 40)
      rw [HN.out] at own'
      have rr := Rw.new w2 40 #[.bool false, .int .i64 0, .slice none 0 0]
      have B1 : Below w2.heap.size w2 (w2.alloc (.cells #[.bool false, .int .i64 0, .slice none 0 0] 40)) := (Below.refl _ _).alloc (Nat.le_refl _) _
      have SB := S.up B1
      have QA := Q.alloc (.cells #[.bool false, .int .i64 0, .slice none 0 0] 40)
      have hbase : w0.heap.size ≤ (w2.alloc (.cells #[.bool false, .int .i64 0, .slice none 0 0] 40)).heap.size := SB.low.size
      have GO := Lib.hid (fun v9 w9 (g9 : (w2.alloc (.cells #[.bool false, .int .i64 0, .slice none 0 0] 40)).grownBy w9 (Value.slice A p c).ownBlock) o9 s9 => SB.snoc (cl := Hps.zeroCl) (v9 := v9) (v8 := .slice none 0 0) (w1 := w9) g9 (by rw [HN.out]; exact o9) s9 (World.ownsRow_nil _ _ _ _) (fun _ _ => .inl rfl) (by simp [Value.ownBlock]) (fun _ _ => by simp [Value.ownBlock]))
      have hvcb : some b ≠ (Value.slice A p c).ownBlock := by
        rcases S.apart (Value.slice A p c) (by simp) with e | e
        · rw [e]; simp
        · exact fun h => e h.symm
      have FB := Lib.hid (fun w9 (g9 : (w2.alloc (.cells #[.bool false, .int .i64 0, .slice none 0 0] 40)).grownBy w9 (Value.slice A p c).ownBlock) => Rw.far SB.box g9 hvcb)
      have FQ := Lib.hid (fun w9 (g9 : (w2.alloc (.cells #[.bool false, .int .i64 0, .slice none 0 0] 40)).grownBy w9 (Value.slice A p c).ownBlock) => Rw.far QA g9 (row_type own' QA (by decide)))
      have FK := Lib.hid (fun w9 (B9 : Rw w9 b T (K.cells (.slice A p c) (.slice (some ⟨gr, 0, none⟩) 4 d))) => show w9.cell? ⟨b, 0, none⟩ = some (.slice A p c) from (B9.cell 0).trans (by cases K <;> rfl))
      have HC1 := Lib.hid HC1
      clear S SB B1 Q QA hvcb
      go_wp2_with (at_builtin; go_must (refine wpList_appendC rfl (.tmp 17) (.tmp 19) rfl w0.heap.size _ p (flatC h.cs rvs) rfl own' w2.heap.size false 0 none 0 0 rfl rr (by omega) hbase ?_; intro v9 w9 A9 c9 e9 o9 g9 s9; subst e9; have SN := GO.out _ w9 g9 o9 s9; have B9 := FB.out w9 g9; have Q9 := FQ.out w9 g9; have z9 := FK.out w9 B9; have f9 := B9.frozen 0; clear o9 g9 s9))
      go_meet
      case rel => exact ⟨_, _, _, by rw [HC1.out]; exact SN, Q9.other (fun e => by omega) _⟩
    · have hpn2 : ¬ (p : Int) = n := by omega
      have HC1 : C = h.cs := by rw [HC.out, if_neg hpn]
      have hN9e : N9 = n := by rw [← HN9.out, HC1, HN.out]
      subst hN9e
      have hpn' : ((p : Int) == (N9 : Int)) = false := by rw [beq_eq_false_iff_ne]; omega
      have SH := Lib.hid S
      have QH := Lib.hid Q
      have HC1 := Lib.hid HC1
      clear S Q hpn
      go_wp2_with fail
      go_meet
      case rel => exact ⟨_, _, _, by rw [HC1.out]; exact SH.out, QH.out⟩
  case rest =>
    clear S Q HC HN x0
    obtain ⟨A9, c9, rv, S, Q⟩ := hcut
    obtain ⟨old, hold⟩ : ∃ old, C[p]? = some old := ⟨_, List.getElem?_eq_getElem (by rw [HN9.out]; exact hpN)⟩
    obtain ⟨gc, v0, e0, -, -, -, -, -, -, -, -⟩ := S.own.cell_at (h := ⟨C, h.rt⟩) hold
    subst e0
    have HOLD := Lib.hid hold
    have hql := Q.lt
    have hbl := S.box.lt
    have hpN' : (p : Int) < N9 := by omega
    have x0 : wc.cell? ⟨b, 0, none⟩ = some (.slice (some ⟨gc, 0, none⟩) N9 c9) := S.c0
    have y2 : wc.cell? ⟨q, 2, none⟩ = some (.int .i64 ob) := Q.cell 2
    have y3 : wc.cell? ⟨q, 3, none⟩ = some (.int .i64 oc) := Q.cell 3
    have SS := Lib.hid S
    have QQ := Lib.hid Q
    clear S Q hold
    go_upto_region 3 with fail
    refine wp_region_inv (by kernel_rfl) (by kernel_rfl) (fun L ac ww => ∃ t23 t24 t25 t26 t27 t28 t29 t30 t31 t32 t33 t34 t35 : Value, ac = { tmps := #[cmV { op := 1, a := ↑a, b := ↑ob, c := oc }, Value.pointer (some { block := b, off := 0 }), Value.int IntKind.i64 ↑p, Value.pointer (some { block := q, off := 0 }), undef, undef, u6, u7, u8, u9, u10, u11, u12, u13, u14, u15, u16, u17, u18, u19, u20, u21, u22, t23, t24, t25, t26, t27, t28, t29, t30, t31, t32, t33, t34, t35, u36, u37, u38, u39, u40, u41, u42, u43], defers := [] } ∧ (L 13 = false → Below wc.heap.size wc ww) ∧ (L 0 = true → t23 = .pointer (some ⟨b, 0, none⟩)) ∧ (L 1 = true → t24 = .pointer (some ⟨b, 0, none⟩)) ∧ (L 2 = true → t25 = .pointer (some ⟨b, 0, none⟩)) ∧ (L 3 = true → t26 = .slice (some ⟨gc, 0, none⟩) N9 c9) ∧ (L 4 = true → t27 = .int .i64 p) ∧ (L 5 = true → t28 = .pointer (some ⟨q, 3, none⟩)) ∧ (L 6 = true → t29 = .int .i64 oc) ∧ (L 7 = true → ∃ g2, t30 = .slice (some ⟨g2, 0, none⟩) 1 1 ∧ (L 10 = false → g2 < ww.heap.size ∧ ww.cell? ⟨g2, 0, none⟩ = some (.int .i64 (-1)))) ∧ (L 8 = true → t31 = .pointer (some ⟨q, 2, none⟩)) ∧ (L 9 = true → t32 = .int .i64 ob) ∧ (L 10 = true → ∃ A8 c8, t33 = .slice A8 ob c8 ∧ (L 13 = false → OwnI ww wc.heap.size t33 (List.replicate ob (-1)))) ∧ (L 11 = true → t34 = .agg #[.bool true, .int .i64 oc, t33] ∧ L 10 = true) ∧ (L 12 = true → (∀ q, q < 12 → L q = true) ∧ t35 = .pointer (some ⟨gc, p * 3, none⟩)) ∧ (L 13 = true → (∀ q, q < 13 → L q = true) ∧ ∃ A8 c8 wp, ww = ((wp.setCell ⟨gc, p * 3, none⟩ (.bool true)).setCell ⟨gc, p * 3 + 1, none⟩ (.int .i64 oc)).setCell ⟨gc, p * 3 + 2, none⟩ (.slice A8 ob c8) ∧ Below wc.heap.size wc wp ∧ OwnI wp wc.heap.size (.slice A8 ob c8) (List.replicate ob (-1)))) ?h0 ?hstep ?hdone
    case h0 => exact ⟨_, _, _, _, _, _, _, _, _, _, _, _, _, rfl, fun _ => (Below.refl _ _).drew, (fun h => absurd h Bool.false_ne_true), (fun h => absurd h Bool.false_ne_true), (fun h => absurd h Bool.false_ne_true), (fun h => absurd h Bool.false_ne_true), (fun h => absurd h Bool.false_ne_true), (fun h => absurd h Bool.false_ne_true), (fun h => absurd h Bool.false_ne_true), (fun h => absurd h Bool.false_ne_true), (fun h => absurd h Bool.false_ne_true), (fun h => absurd h Bool.false_ne_true), (fun h => absurd h Bool.false_ne_true), (fun h => absurd h Bool.false_ne_true), (fun h => absurd h Bool.false_ne_true), (fun h => absurd h Bool.false_ne_true)⟩
    case hstep =>
      rintro L ac ww i o ho hL hd ⟨t23, t24, t25, t26, t27, t28, t29, t30, t31, t32, t33, t34, t35, rfl, I0, f0, f1, f2, f3, f4, f5, f6, f7, f8, f9, f10, f11, f12, f13⟩
      have hi : i < 14 := (Array.getElem?_eq_some_iff.1 ho).1
      obtain rfl | rfl | rfl | rfl | rfl | rfl | rfl | rfl | rfl | rfl | rfl | rfl | rfl | rfl : i = 0 ∨ i = 1 ∨ i = 2 ∨ i = 3 ∨ i = 4 ∨ i = 5 ∨ i = 6 ∨ i = 7 ∨ i = 8 ∨ i = 9 ∨ i = 10 ∨ i = 11 ∨ i = 12 ∨ i = 13 := by omega
      · obtain rfl := Option.some.inj ho
        have hL13 : L 13 = false := by
          cases e : L 13
          · rfl
          · exact absurd ((f13 e).1 0 (by decide)) (by rw [hL]; decide)
        have J := I0 hL13
        refine wpOp_step rfl (fun K' hK => ?_)
        go_simp
        refine hK _ _ ?_
        exact ⟨_, _, _, _, _, _, _, _, _, _, _, _, _, rfl, (fun _ => J), (fun _ => rfl), (kp f1), (kp f2), (kp f3), (kp f4), (kp f5), (kp f6), (fun h => by
          obtain ⟨g2, e2, r2⟩ := f7 (upd_ne h (by decide))
          exact ⟨g2, e2, fun h5 => r2 (by rw [upd_other (by decide)] at h5; exact h5)⟩), (kp f8), (kp f9), (fun h => by
          obtain ⟨A8, c8, e8, r8⟩ := f10 (upd_ne h (by decide))
          exact ⟨A8, c8, e8, fun h7 => r8 (by rw [upd_other (by decide)] at h7; exact h7)⟩), (fun h => ⟨(f11 (upd_ne h (by decide))).1, upd_mono (f11 (upd_ne h (by decide))).2⟩), (fun h => absurd ((f12 (upd_ne h (by decide))).1 0 (by decide)) (by rw [hL]; decide)), (fun h => absurd hL13 (by rw [upd_ne h (by decide)]; decide))⟩
      · obtain rfl := Option.some.inj ho
        have g0 := f0 (hd ⟨0, .data⟩ (by simp) rfl)
        subst g0
        have hL13 : L 13 = false := by
          cases e : L 13
          · rfl
          · exact absurd ((f13 e).1 1 (by decide)) (by rw [hL]; decide)
        have J := I0 hL13
        refine wpOp_step rfl (fun K' hK => ?_)
        go_simp
        refine hK _ _ ?_
        exact ⟨_, _, _, _, _, _, _, _, _, _, _, _, _, rfl, (fun _ => J), (kp f0), (fun _ => rfl), (kp f2), (kp f3), (kp f4), (kp f5), (kp f6), (fun h => by
          obtain ⟨g2, e2, r2⟩ := f7 (upd_ne h (by decide))
          exact ⟨g2, e2, fun h5 => r2 (by rw [upd_other (by decide)] at h5; exact h5)⟩), (kp f8), (kp f9), (fun h => by
          obtain ⟨A8, c8, e8, r8⟩ := f10 (upd_ne h (by decide))
          exact ⟨A8, c8, e8, fun h7 => r8 (by rw [upd_other (by decide)] at h7; exact h7)⟩), (fun h => ⟨(f11 (upd_ne h (by decide))).1, upd_mono (f11 (upd_ne h (by decide))).2⟩), (fun h => absurd ((f12 (upd_ne h (by decide))).1 1 (by decide)) (by rw [hL]; decide)), (fun h => absurd hL13 (by rw [upd_ne h (by decide)]; decide))⟩
      · obtain rfl := Option.some.inj ho
        have g1 := f1 (hd ⟨1, .data⟩ (by simp) rfl)
        subst g1
        have hL13 : L 13 = false := by
          cases e : L 13
          · rfl
          · exact absurd ((f13 e).1 2 (by decide)) (by rw [hL]; decide)
        have J := I0 hL13
        refine wpOp_step rfl (fun K' hK => ?_)
        go_simp
        refine hK _ _ ?_
        exact ⟨_, _, _, _, _, _, _, _, _, _, _, _, _, rfl, (fun _ => J), (kp f0), (kp f1), (fun _ => rfl), (kp f3), (kp f4), (kp f5), (kp f6), (fun h => by
          obtain ⟨g2, e2, r2⟩ := f7 (upd_ne h (by decide))
          exact ⟨g2, e2, fun h5 => r2 (by rw [upd_other (by decide)] at h5; exact h5)⟩), (kp f8), (kp f9), (fun h => by
          obtain ⟨A8, c8, e8, r8⟩ := f10 (upd_ne h (by decide))
          exact ⟨A8, c8, e8, fun h7 => r8 (by rw [upd_other (by decide)] at h7; exact h7)⟩), (fun h => ⟨(f11 (upd_ne h (by decide))).1, upd_mono (f11 (upd_ne h (by decide))).2⟩), (fun h => absurd ((f12 (upd_ne h (by decide))).1 2 (by decide)) (by rw [hL]; decide)), (fun h => absurd hL13 (by rw [upd_ne h (by decide)]; decide))⟩
      · obtain rfl := Option.some.inj ho
        have g2 := f2 (hd ⟨2, .data⟩ (by simp) rfl)
        subst g2
        have hL13 : L 13 = false := by
          cases e : L 13
          · rfl
          · exact absurd ((f13 e).1 3 (by decide)) (by rw [hL]; decide)
        have J := I0 hL13
        have z0 : ww.cell? ⟨b, 0, none⟩ = some (.slice (some ⟨gc, 0, none⟩) N9 c9) := (J.cell (p := ⟨b, 0, none⟩) hbl).trans x0
        refine wpOp_step rfl (fun K' hK => ?_)
        go_simp
        refine hK _ _ ?_
        exact ⟨_, _, _, _, _, _, _, _, _, _, _, _, _, rfl, (fun _ => J), (kp f0), (kp f1), (kp f2), (fun _ => rfl), (kp f4), (kp f5), (kp f6), (fun h => by
          obtain ⟨g2, e2, r2⟩ := f7 (upd_ne h (by decide))
          exact ⟨g2, e2, fun h5 => r2 (by rw [upd_other (by decide)] at h5; exact h5)⟩), (kp f8), (kp f9), (fun h => by
          obtain ⟨A8, c8, e8, r8⟩ := f10 (upd_ne h (by decide))
          exact ⟨A8, c8, e8, fun h7 => r8 (by rw [upd_other (by decide)] at h7; exact h7)⟩), (fun h => ⟨(f11 (upd_ne h (by decide))).1, upd_mono (f11 (upd_ne h (by decide))).2⟩), (fun h => absurd ((f12 (upd_ne h (by decide))).1 3 (by decide)) (by rw [hL]; decide)), (fun h => absurd hL13 (by rw [upd_ne h (by decide)]; decide))⟩
      · obtain rfl := Option.some.inj ho
        have hL13 : L 13 = false := by
          cases e : L 13
          · rfl
          · exact absurd ((f13 e).1 4 (by decide)) (by rw [hL]; decide)
        have J := I0 hL13
        refine wpOp_step rfl (fun K' hK => ?_)
        go_simp
        refine hK _ _ ?_
        exact ⟨_, _, _, _, _, _, _, _, _, _, _, _, _, rfl, (fun _ => J), (kp f0), (kp f1), (kp f2), (kp f3), (fun _ => rfl), (kp f5), (kp f6), (fun h => by
          obtain ⟨g2, e2, r2⟩ := f7 (upd_ne h (by decide))
          exact ⟨g2, e2, fun h5 => r2 (by rw [upd_other (by decide)] at h5; exact h5)⟩), (kp f8), (kp f9), (fun h => by
          obtain ⟨A8, c8, e8, r8⟩ := f10 (upd_ne h (by decide))
          exact ⟨A8, c8, e8, fun h7 => r8 (by rw [upd_other (by decide)] at h7; exact h7)⟩), (fun h => ⟨(f11 (upd_ne h (by decide))).1, upd_mono (f11 (upd_ne h (by decide))).2⟩), (fun h => absurd ((f12 (upd_ne h (by decide))).1 4 (by decide)) (by rw [hL]; decide)), (fun h => absurd hL13 (by rw [upd_ne h (by decide)]; decide))⟩
      · obtain rfl := Option.some.inj ho
        have hL13 : L 13 = false := by
          cases e : L 13
          · rfl
          · exact absurd ((f13 e).1 5 (by decide)) (by rw [hL]; decide)
        have J := I0 hL13
        refine wpOp_step rfl (fun K' hK => ?_)
        go_simp
        refine hK _ _ ?_
        exact ⟨_, _, _, _, _, _, _, _, _, _, _, _, _, rfl, (fun _ => J), (kp f0), (kp f1), (kp f2), (kp f3), (kp f4), (fun _ => rfl), (kp f6), (fun h => by
          obtain ⟨g2, e2, r2⟩ := f7 (upd_ne h (by decide))
          exact ⟨g2, e2, fun h5 => r2 (by rw [upd_other (by decide)] at h5; exact h5)⟩), (kp f8), (kp f9), (fun h => by
          obtain ⟨A8, c8, e8, r8⟩ := f10 (upd_ne h (by decide))
          exact ⟨A8, c8, e8, fun h7 => r8 (by rw [upd_other (by decide)] at h7; exact h7)⟩), (fun h => ⟨(f11 (upd_ne h (by decide))).1, upd_mono (f11 (upd_ne h (by decide))).2⟩), (fun h => absurd ((f12 (upd_ne h (by decide))).1 5 (by decide)) (by rw [hL]; decide)), (fun h => absurd hL13 (by rw [upd_ne h (by decide)]; decide))⟩
      · obtain rfl := Option.some.inj ho
        have g5 := f5 (hd ⟨5, .data⟩ (by simp) rfl)
        subst g5
        have hL13 : L 13 = false := by
          cases e : L 13
          · rfl
          · exact absurd ((f13 e).1 6 (by decide)) (by rw [hL]; decide)
        have J := I0 hL13
        have z3 : ww.cell? ⟨q, 3, none⟩ = some (.int .i64 oc) := (J.cell (p := ⟨q, 3, none⟩) hql).trans y3
        refine wpOp_step rfl (fun K' hK => ?_)
        go_simp
        refine hK _ _ ?_
        exact ⟨_, _, _, _, _, _, _, _, _, _, _, _, _, rfl, (fun _ => J), (kp f0), (kp f1), (kp f2), (kp f3), (kp f4), (kp f5), (fun _ => rfl), (fun h => by
          obtain ⟨g2, e2, r2⟩ := f7 (upd_ne h (by decide))
          exact ⟨g2, e2, fun h5 => r2 (by rw [upd_other (by decide)] at h5; exact h5)⟩), (kp f8), (kp f9), (fun h => by
          obtain ⟨A8, c8, e8, r8⟩ := f10 (upd_ne h (by decide))
          exact ⟨A8, c8, e8, fun h7 => r8 (by rw [upd_other (by decide)] at h7; exact h7)⟩), (fun h => ⟨(f11 (upd_ne h (by decide))).1, upd_mono (f11 (upd_ne h (by decide))).2⟩), (fun h => absurd ((f12 (upd_ne h (by decide))).1 6 (by decide)) (by rw [hL]; decide)), (fun h => absurd hL13 (by rw [upd_ne h (by decide)]; decide))⟩
      · obtain rfl := Option.some.inj ho
        have hL13 : L 13 = false := by
          cases e : L 13
          · rfl
          · exact absurd ((f13 e).1 7 (by decide)) (by rw [hL]; decide)
        have J := I0 hL13
        have b5 : Below ww.heap.size ww (ww.alloc (.cells #[.int .i64 (-1)] 3)) := (Below.refl _ _).alloc (Nat.le_refl _) _
        have c7 := (Rw.new ww 3 #[.int .i64 (-1)]).cell 0
        refine wpOp_step rfl (fun K' hK => ?_)
        go_simp
        refine hK _ _ ?_
        exact ⟨_, _, _, _, _, _, _, _, _, _, _, _, _, rfl, (fun _ => J.alloc J.size _), (kp f0), (kp f1), (kp f2), (kp f3), (kp f4), (kp f5), (kp f6), (fun _ => ⟨_, rfl, fun _ => ⟨by simp, c7⟩⟩), (kp f8), (kp f9), (fun h => by
          obtain ⟨A8, c8, e8, r8⟩ := f10 (upd_ne h (by decide))
          exact ⟨A8, c8, e8, fun _ => (r8 hL13).below b5 (Nat.le_refl _)⟩), (fun h => ⟨(f11 (upd_ne h (by decide))).1, upd_mono (f11 (upd_ne h (by decide))).2⟩), (fun h => absurd ((f12 (upd_ne h (by decide))).1 7 (by decide)) (by rw [hL]; decide)), (fun h => absurd hL13 (by rw [upd_ne h (by decide)]; decide))⟩
      · obtain rfl := Option.some.inj ho
        have hL13 : L 13 = false := by
          cases e : L 13
          · rfl
          · exact absurd ((f13 e).1 8 (by decide)) (by rw [hL]; decide)
        have J := I0 hL13
        refine wpOp_step rfl (fun K' hK => ?_)
        go_simp
        refine hK _ _ ?_
        exact ⟨_, _, _, _, _, _, _, _, _, _, _, _, _, rfl, (fun _ => J), (kp f0), (kp f1), (kp f2), (kp f3), (kp f4), (kp f5), (kp f6), (fun h => by
          obtain ⟨g2, e2, r2⟩ := f7 (upd_ne h (by decide))
          exact ⟨g2, e2, fun h5 => r2 (by rw [upd_other (by decide)] at h5; exact h5)⟩), (fun _ => rfl), (kp f9), (fun h => by
          obtain ⟨A8, c8, e8, r8⟩ := f10 (upd_ne h (by decide))
          exact ⟨A8, c8, e8, fun h7 => r8 (by rw [upd_other (by decide)] at h7; exact h7)⟩), (fun h => ⟨(f11 (upd_ne h (by decide))).1, upd_mono (f11 (upd_ne h (by decide))).2⟩), (fun h => absurd ((f12 (upd_ne h (by decide))).1 8 (by decide)) (by rw [hL]; decide)), (fun h => absurd hL13 (by rw [upd_ne h (by decide)]; decide))⟩
      · obtain rfl := Option.some.inj ho
        have g8 := f8 (hd ⟨8, .data⟩ (by simp) rfl)
        subst g8
        have hL13 : L 13 = false := by
          cases e : L 13
          · rfl
          · exact absurd ((f13 e).1 9 (by decide)) (by rw [hL]; decide)
        have J := I0 hL13
        have z2 : ww.cell? ⟨q, 2, none⟩ = some (.int .i64 ob) := (J.cell (p := ⟨q, 2, none⟩) hql).trans y2
        refine wpOp_step rfl (fun K' hK => ?_)
        go_simp
        refine hK _ _ ?_
        exact ⟨_, _, _, _, _, _, _, _, _, _, _, _, _, rfl, (fun _ => J), (kp f0), (kp f1), (kp f2), (kp f3), (kp f4), (kp f5), (kp f6), (fun h => by
          obtain ⟨g2, e2, r2⟩ := f7 (upd_ne h (by decide))
          exact ⟨g2, e2, fun h5 => r2 (by rw [upd_other (by decide)] at h5; exact h5)⟩), (kp f8), (fun _ => rfl), (fun h => by
          obtain ⟨A8, c8, e8, r8⟩ := f10 (upd_ne h (by decide))
          exact ⟨A8, c8, e8, fun h7 => r8 (by rw [upd_other (by decide)] at h7; exact h7)⟩), (fun h => ⟨(f11 (upd_ne h (by decide))).1, upd_mono (f11 (upd_ne h (by decide))).2⟩), (fun h => absurd ((f12 (upd_ne h (by decide))).1 9 (by decide)) (by rw [hL]; decide)), (fun h => absurd hL13 (by rw [upd_ne h (by decide)]; decide))⟩
      · obtain rfl := Option.some.inj ho
        have g7 := f7 (hd ⟨7, .data⟩ (by simp) rfl)
        have g9 := f9 (hd ⟨9, .data⟩ (by simp) rfl)
        subst g9
        have hL13 : L 13 = false := by
          cases e : L 13
          · rfl
          · exact absurd ((f13 e).1 10 (by decide)) (by rw [hL]; decide)
        have J := I0 hL13
        obtain ⟨g2, e2, r2⟩ := g7
        obtain ⟨hg2, hc2⟩ := r2 hL
        subst e2
        refine wpOp_step rfl (fun K' hK => ?_)
        go_simp
        refine (repeat_ones ob hb3 g2 ww hg2 hc2).mono ?_
        rintro e w' ⟨v1, rfl, o1, b5⟩
        obtain ⟨A8, c8, e8, -⟩ := o1.form
        rw [List.length_replicate] at e8
        refine hK _ _ ?_
        exact ⟨_, _, _, _, _, _, _, _, _, _, _, _, _, rfl, (fun _ => J.trans (b5.mono J.size)), (kp f0), (kp f1), (kp f2), (kp f3), (kp f4), (kp f5), (kp f6), (fun _ => ⟨g2, rfl, fun h => absurd h (by rw [upd_self]; decide)⟩), (kp f8), (kp f9), (fun _ => ⟨A8, c8, e8, fun _ => o1.base J.size⟩), (fun h => absurd (f11 (upd_ne h (by decide))).2 (by rw [hL]; decide)), (fun h => absurd ((f12 (upd_ne h (by decide))).1 10 (by decide)) (by rw [hL]; decide)), (fun h => absurd hL13 (by rw [upd_ne h (by decide)]; decide))⟩
      · obtain rfl := Option.some.inj ho
        have g6 := f6 (hd ⟨6, .data⟩ (by simp) rfl)
        have g10 := f10 (hd ⟨10, .data⟩ (by simp) rfl)
        subst g6
        have hL13 : L 13 = false := by
          cases e : L 13
          · rfl
          · exact absurd ((f13 e).1 11 (by decide)) (by rw [hL]; decide)
        have J := I0 hL13
        have l5 := Lib.hid (hd ⟨10, .data⟩ (by simp) rfl)
        obtain ⟨A8, c8, e8, r8⟩ := g10
        subst e8
        refine wpOp_step rfl (fun K' hK => ?_)
        go_simp
        refine hK _ _ ?_
        exact ⟨_, _, _, _, _, _, _, _, _, _, _, _, _, rfl, (fun _ => J), (kp f0), (kp f1), (kp f2), (kp f3), (kp f4), (kp f5), (kp f6), (fun h => by
          obtain ⟨g2, e2, r2⟩ := f7 (upd_ne h (by decide))
          exact ⟨g2, e2, fun h5 => r2 (by rw [upd_other (by decide)] at h5; exact h5)⟩), (kp f8), (kp f9), (fun _ => ⟨A8, c8, rfl, fun h7 => r8 (by rw [upd_other (by decide)] at h7; exact h7)⟩), (fun _ => ⟨rfl, upd_mono l5.out⟩), (fun h => absurd ((f12 (upd_ne h (by decide))).1 11 (by decide)) (by rw [hL]; decide)), (fun h => absurd hL13 (by rw [upd_ne h (by decide)]; decide))⟩
      · obtain rfl := Option.some.inj ho
        have g3 := f3 (hd ⟨3, .data⟩ (by simp) rfl)
        have g4 := f4 (hd ⟨4, .data⟩ (by simp) rfl)
        subst g3
        subst g4
        have hL13 : L 13 = false := by
          cases e : L 13
          · rfl
          · exact absurd ((f13 e).1 12 (by decide)) (by rw [hL]; decide)
        have J := I0 hL13
        have lq : Hid (∀ q, q < 12 → L q = true) := Lib.hid (by
          intro q hq
          obtain rfl | rfl | rfl | rfl | rfl | rfl | rfl | rfl | rfl | rfl | rfl | rfl : q = 0 ∨ q = 1 ∨ q = 2 ∨ q = 3 ∨ q = 4 ∨ q = 5 ∨ q = 6 ∨ q = 7 ∨ q = 8 ∨ q = 9 ∨ q = 10 ∨ q = 11 := by omega
          · exact hd ⟨0, .phase⟩ (by simp) rfl
          · exact hd ⟨1, .phase⟩ (by simp) rfl
          · exact hd ⟨2, .phase⟩ (by simp) rfl
          · exact hd ⟨3, .phase⟩ (by simp) rfl
          · exact hd ⟨4, .phase⟩ (by simp) rfl
          · exact hd ⟨5, .phase⟩ (by simp) rfl
          · exact hd ⟨6, .phase⟩ (by simp) rfl
          · exact hd ⟨7, .phase⟩ (by simp) rfl
          · exact hd ⟨8, .phase⟩ (by simp) rfl
          · exact hd ⟨9, .phase⟩ (by simp) rfl
          · exact hd ⟨10, .phase⟩ (by simp) rfl
          · exact hd ⟨11, .phase⟩ (by simp) rfl)
        refine wpOp_step rfl (fun K' hK => ?_)
        go_simp
        refine hK _ _ ?_
        exact ⟨_, _, _, _, _, _, _, _, _, _, _, _, _, rfl, (fun _ => J), (kp f0), (kp f1), (kp f2), (kp f3), (kp f4), (kp f5), (kp f6), (fun h => by
          obtain ⟨g2, e2, r2⟩ := f7 (upd_ne h (by decide))
          exact ⟨g2, e2, fun h5 => r2 (by rw [upd_other (by decide)] at h5; exact h5)⟩), (kp f8), (kp f9), (fun h => by
          obtain ⟨A8, c8, e8, r8⟩ := f10 (upd_ne h (by decide))
          exact ⟨A8, c8, e8, fun h7 => r8 (by rw [upd_other (by decide)] at h7; exact h7)⟩), (fun h => ⟨(f11 (upd_ne h (by decide))).1, upd_mono (f11 (upd_ne h (by decide))).2⟩), (fun _ => ⟨fun q hq => upd_mono (lq.out q hq), rfl⟩), (fun h => absurd hL13 (by rw [upd_ne h (by decide)]; decide))⟩
      · obtain rfl := Option.some.inj ho
        have g11 := f11 (hd ⟨11, .data⟩ (by simp) rfl)
        have g12 := f12 (hd ⟨12, .data⟩ (by simp) rfl)
        have lq : Hid (∀ q, q < 13 → L q = true) := Lib.hid (by
          intro q hq
          obtain rfl | rfl | rfl | rfl | rfl | rfl | rfl | rfl | rfl | rfl | rfl | rfl | rfl : q = 0 ∨ q = 1 ∨ q = 2 ∨ q = 3 ∨ q = 4 ∨ q = 5 ∨ q = 6 ∨ q = 7 ∨ q = 8 ∨ q = 9 ∨ q = 10 ∨ q = 11 ∨ q = 12 := by omega
          · exact hd ⟨0, .phase⟩ (by simp) rfl
          · exact hd ⟨1, .phase⟩ (by simp) rfl
          · exact hd ⟨2, .phase⟩ (by simp) rfl
          · exact hd ⟨3, .phase⟩ (by simp) rfl
          · exact hd ⟨4, .phase⟩ (by simp) rfl
          · exact hd ⟨5, .phase⟩ (by simp) rfl
          · exact hd ⟨6, .phase⟩ (by simp) rfl
          · exact hd ⟨7, .phase⟩ (by simp) rfl
          · exact hd ⟨8, .phase⟩ (by simp) rfl
          · exact hd ⟨9, .phase⟩ (by simp) rfl
          · exact hd ⟨10, .phase⟩ (by simp) rfl
          · exact hd ⟨11, .phase⟩ (by simp) rfl
          · exact hd ⟨12, .data⟩ (by simp) rfl)
        have J := I0 hL
        obtain ⟨-, e35⟩ := g12
        subst e35
        obtain ⟨e34, -⟩ := g11
        subst e34
        obtain ⟨A8, c8, e8, r8⟩ := f10 (lq.out 10 (by decide))
        subst e8
        have o8 := r8 hL
        have S6 := SS.out.up J
        obtain ⟨gc9, v9, e9, -, -, -, -, zc0, zc1, zc2, fz⟩ := S6.own.cell_at (h := ⟨C, h.rt⟩) HOLD.out
        have eg : gc = gc9 := by
          injection e9 with e9
          injection e9
        subst eg
        have zf0 := fz (p * 3)
        have zf1 := fz (p * 3 + 1)
        have zf2 := fz (p * 3 + 2)
        clear fz e9
        refine wpOp_step rfl (fun K' hK => ?_)
        go_simp
        refine hK _ _ ?_
        exact ⟨_, _, _, _, _, _, _, _, _, _, _, _, _, rfl, (fun h => absurd h (by rw [upd_self]; decide)), (kp f0), (kp f1), (kp f2), (kp f3), (kp f4), (kp f5), (kp f6), (fun h => by
          obtain ⟨g2, e2, r2⟩ := f7 (upd_ne h (by decide))
          exact ⟨g2, e2, fun h5 => absurd (lq.out 10 (by decide)) (by rw [upd_other (by decide)] at h5; rw [h5]; decide)⟩), (kp f8), (kp f9), (fun _ => ⟨A8, c8, rfl, fun h => absurd h (by rw [upd_self]; decide)⟩), (fun _ => ⟨rfl, upd_mono (lq.out 10 (by decide))⟩), (fun _ => ⟨fun q hq => upd_mono (lq.out q (by omega)), rfl⟩), (fun _ => ⟨fun q hq => upd_mono (lq.out q hq), A8, c8, ww, rfl, J, o8⟩)⟩
    case hdone =>
      rintro L ac ww hall ⟨t23, t24, t25, t26, t27, t28, t29, t30, t31, t32, t33, t34, t35, rfl, I0, f0, f1, f2, f3, f4, f5, f6, f7, f8, f9, f10, f11, f12, f13⟩
      have e0 := f0 (hall 0 (by decide))
      have e1 := f1 (hall 1 (by decide))
      have e2 := f2 (hall 2 (by decide))
      have e3 := f3 (hall 3 (by decide))
      have e4 := f4 (hall 4 (by decide))
      have e5 := f5 (hall 5 (by decide))
      have e6 := f6 (hall 6 (by decide))
      have e7 := f7 (hall 7 (by decide))
      have e8 := f8 (hall 8 (by decide))
      have e9 := f9 (hall 9 (by decide))
      have e10 := f10 (hall 10 (by decide))
      have e11 := f11 (hall 11 (by decide))
      have e12 := f12 (hall 12 (by decide))
      have e13 := f13 (hall 13 (by decide))
      clear f0 f1 f2 f3 f4 f5 f6 f7 f8 f9 f10 f11 f12 f13
      obtain ⟨-, A8, c8, wp, rfl, r1, r9⟩ := e13
      have SP := SS.out.up r1
      have hlo6 := SS.out.low.size
      have hap : ∀ v ∈ (Value.slice (some ⟨gc, 0, none⟩) N9 c9) :: (.slice (some ⟨gr, 0, none⟩) 4 d) :: rv, (Value.slice A8 ob c8).ownBlock = none ∨ (Value.slice A8 ob c8).ownBlock ≠ v.ownBlock := fun v hv => by
        cases e : (Value.slice A8 ob c8).ownBlock with
        | none => exact .inl rfl
        | some k =>
          right
          intro e'
          have a1 := (World.ownsRow.lt r9 k e).1
          have a2 := (SS.out.own.blocks hv e'.symm).2
          omega
      have h8b : (Value.slice A8 ob c8).ownBlock = none ∨ (Value.slice A8 ob c8).ownBlock ≠ some b := by
        right
        intro e
        have := (World.ownsRow.lt r9 b e).1
        omega
      have h8k : ∀ g5, K.Has g5 → (Value.slice A8 ob c8).ownBlock ≠ some g5 := fun g5 hg5 e => by
        have a1 := (World.ownsRow.lt r9 g5 e).1
        have a2 := SS.out.side.lt hg5
        omega
      have SN := SP.cell (cl := ⟨true, oc, (List.replicate ob (-1))⟩) (rv := .slice A8 ob c8) HN9.out HOLD.out (r9.base hlo6) hap h8b h8k
      have QC : gc ≠ q := fun e => by
        have a1 := row_type SS.out.own.row QQ.out (by decide)
        exact a1 (by rw [e]; rfl)
      have QN : Rw (((wp.setCell ⟨gc, p * 3, none⟩ (.bool true)).setCell ⟨gc, p * 3 + 1, none⟩ (.int .i64 oc)).setCell ⟨gc, p * 3 + 2, none⟩ (.slice A8 ob c8)) q 49 #[.int .i64 1, .int .i64 a, .int .i64 ob, .int .i64 oc] := (((QQ.out.keep r1 hql).other (Ne.symm QC) (.bool true)).other (Ne.symm QC) (.int .i64 oc)).other (Ne.symm QC) (.slice A8 ob c8)
      clear I0 e0 e1 e2 e3 e4 e5 e6 e7 e8 e9 e10 e11 e12 hall r1 r9 SP hap h8b h8k x0 y2 y3 SS QQ HOLD QC
      go_upto_region 4 with fail
      generalize ((wp.setCell ⟨gc, p * 3, none⟩ (.bool true)).setCell ⟨gc, p * 3 + 1, none⟩ (.int .i64 oc)).setCell ⟨gc, p * 3 + 2, none⟩ (.slice A8 ob c8) = w7 at SN QN ⊢
      have x1 : w7.cell? ⟨b, 1, none⟩ = some (.slice (some ⟨gr, 0, none⟩) 4 d) := SN.c1
      have y1 : w7.cell? ⟨q, 1, none⟩ = some (.int .i64 a) := QN.cell 1
      have SS := Lib.hid SN
      clear SN QN
      go_still_tail 8, (by kernel_rfl)
      change wpList _ _ _ _ _ w7.drew
      have S4 := SS.out.drew
      generalize w7.drew = w8 at S4 ⊢
      obtain ⟨xo, hxo, cr⟩ := S4.own.roots.cell_at (j := a) (by omega)
      have fz : w8.frozen? ⟨gr, a, none⟩ = false := S4.own.roots.frozen HL.out a
      have S5 := S4.root (i := a) HL.out (p : Int)
      clear S4 SS x1 y1
      go_wp2_with fail
      go_end0
      exact ⟨⟨_, rfl⟩, _, _, _, by rw [HF.out]; exact S5⟩
end Go.Proofs.YthmddmddcdofaaaDoor

namespace Go.Proofs.YthmddmddcdofaaaDoor
open Go.RowKit
set_option maxRecDepth 100000
theorem exec_2 {a b cc : Int} {h : Hp} (hc : Hps.canH h ⟨2, a, b, cc⟩ = true) : ExecF 149 ⟨2, a, b, cc⟩ h := by
  obtain ⟨hv, ho⟩ := Hps.canH_parts hc
  rw [Hps.canH_get hv ho rfl] at hc
  obtain ⟨⟨a1, a2⟩, ⟨b1, b2⟩, ⟨c1, c2⟩⟩ := (Hps.okCm_get (.inl rfl)).1 ho
  simp only at a1 a2 b1 b2 c1 c2 hc
  obtain ⟨a, rfl⟩ := Int.eq_ofNat_of_zero_le a1
  obtain ⟨b, rfl⟩ := Int.eq_ofNat_of_zero_le b1
  obtain ⟨cc, rfl⟩ := Int.eq_ofNat_of_zero_le c1
  obtain ⟨k, cl, hk, hcl, hp⟩ := Hps.placeH_iff.1 hc
  exact exec_get hv (by omega) (by omega) hk hcl (by omega)
theorem exec_3 {a b cc : Int} {h : Hp} (hc : Hps.canH h ⟨3, a, b, cc⟩ = true) : ExecF 151 ⟨3, a, b, cc⟩ h := by
  obtain ⟨hv, ho⟩ := Hps.canH_parts hc
  rw [Hps.canH_set hv ho rfl] at hc
  obtain ⟨⟨a1, a2⟩, ⟨b1, b2⟩, ⟨c1, c2⟩⟩ := (Hps.okCm_get (.inr rfl)).1 ho
  simp only at a1 a2 b1 b2 c1 c2 hc
  obtain ⟨a, rfl⟩ := Int.eq_ofNat_of_zero_le a1
  obtain ⟨b, rfl⟩ := Int.eq_ofNat_of_zero_le b1
  obtain ⟨cc, rfl⟩ := Int.eq_ofNat_of_zero_le c1
  obtain ⟨k, cl, hk, hcl, hp⟩ := Hps.placeH_iff.1 hc
  exact exec_set hv (by omega) (by omega) hk hcl (by omega)
theorem exec_4 {a b cc : Int} {h : Hp} (hc : Hps.canH h ⟨4, a, b, cc⟩ = true) : ExecF 152 ⟨4, a, b, cc⟩ h := by
  obtain ⟨hv, ho⟩ := Hps.canH_parts hc
  obtain ⟨⟨a1, a2⟩, ⟨b1, b2⟩, _⟩ := (Hps.okCm_copy rfl).1 ho
  simp only at a1 a2 b1 b2
  obtain ⟨a, rfl⟩ := Int.eq_ofNat_of_zero_le a1
  obtain ⟨b, rfl⟩ := Int.eq_ofNat_of_zero_le b1
  exact exec_copy hv (by omega) (by omega)
theorem exec_5 {a b cc : Int} {h : Hp} (hc : Hps.canH h ⟨5, a, b, cc⟩ = true) : ExecF 153 ⟨5, a, b, cc⟩ h := by
  obtain ⟨hv, ho⟩ := Hps.canH_parts hc
  obtain ⟨a1, a2⟩ := Hps.okCm_a ho
  simp only at a1 a2
  obtain ⟨a, rfl⟩ := Int.eq_ofNat_of_zero_le a1
  exact exec_drop hv (by omega)
theorem exec_6 {a b cc : Int} {h : Hp} (hc : Hps.canH h ⟨6, a, b, cc⟩ = true) : ExecF 155 ⟨6, a, b, cc⟩ h := by
  obtain ⟨hv, ho⟩ := Hps.canH_parts hc
  obtain ⟨a1, a2⟩ := Hps.okCm_a ho
  rw [Hps.canH_data hv ho rfl, decide_eq_true_iff] at hc
  simp only at a1 a2 hc
  obtain ⟨a, rfl⟩ := Int.eq_ofNat_of_zero_le a1
  have hr4 := (Hps.valid_iff.1 hv).2.2.1
  have hx := List.getElem?_eq_getElem (show a < h.rt.length by omega)
  generalize h.rt[a]'(by omega) = x at hx
  have hk := Hps.rootAt_nat hx
  rw [hk] at hc
  obtain ⟨k, rfl⟩ := Int.eq_ofNat_of_zero_le hc
  obtain ⟨k', e, hl, _⟩ := Hps.okRef_nat (Hps.valid_root hv hx) hc
  have e : k = k' := by omega
  subst e
  exact exec_data hv (by omega) hk (List.getElem?_eq_getElem hl)
end Go.Proofs.YthmddmddcdofaaaDoor

namespace Go.Proofs.YthmddmddcdofaaaDoor
open Go.RowKit
set_option maxRecDepth 100000
/-- k times -1, then 0 -/
def rep4 (k : Nat) : List Value := List.replicate k (.int .i64 (-1)) ++ List.replicate (4 - k) (.int .i64 0)
def RowK (w : World) (g k : Nat) : Prop := w.heap[g]? = some (.cells (rep4 k).toArray 3 (0, 0))
theorem RowK.cell {w : World} {g k j : Nat} (h : RowK w g k) (hj : j < k) : w.cell? ⟨g, j, none⟩ = some (.int .i64 (-1)) := by
  have : (rep4 k)[j]? = some (.int .i64 (-1)) := by
    unfold rep4
    rw [List.getElem?_append_left (by simpa using hj)]
    simp [hj]
  have e : w.cell? ⟨g, j, none⟩ = (rep4 k).toArray[j]? := Rw.cell (cs := (rep4 k).toArray) h j
  rw [e]
  simpa using this
theorem RowK.put {w : World} {g k : Nat} (h : RowK w g k) (j : Nat) : RowK (w.setRow g (rep4 j).toArray) g j := setRow_heap w g _ _ _ _ h
end Go.Proofs.YthmddmddcdofaaaDoor

namespace Go.Proofs.YthmddmddcdofaaaDoor
open Go.RowKit
set_option maxRecDepth 100000
end Go.Proofs.YthmddmddcdofaaaDoor

namespace Go.Proofs.YthmddmddcdofaaaDoor
open Go.ChangeShapes Go.WideShapes Go.ChangeAt Go.RowKit Go.Deep
theorem own : ownKnob Tryd.prog.godebug = none := by kernel_rfl
theorem laidOut : laidOutB Tryd.prog = true := by kernel_rfl
section
variable {H : Type} {enc : TypeId × Value → H} {P : Program} {W W' : World}
/-- all arguments read as they did -/
theorem stay_all (hl : laidOutB P = true) (hb : Below W.heap.size W W') : ∀ {ts : List TypeId} {vs : List Value} {ds : List (DataW H)} {p : List MemPlace},
    (∀ t ∈ ts, P.readableRec t = true ∧ t < P.types.size) → DataW.TrodAll enc P W 0 (fun _ => true) true ts vs ds p → (∀ x ∈ p, x.block < W.heap.size) →
    DataW.TrodAll enc P W' 0 (fun b => decide (b < W.heap.size)) true ts vs ds p
  | [], _, _, _, _, h, _ => by
    obtain ⟨rfl, rfl, rfl⟩ := trodAll_nil h
    exact trodAll_mk0
  | t :: ts, _, _, _, hts, h, hlt => by
    obtain ⟨v, vs, d, ds, p, q, rfl, rfl, rfl, h0, hr⟩ := trodAll_cons h
    have ht := hts t (by simp)
    exact trodAll_cons_mk (Below.trod hl ht.1 ht.2 h0 hb (fun x hx => hlt x (by simp [hx])))
      (stay_all hl hb (fun t' h' => hts t' (by simp [h'])) hr (fun x hx => hlt x (by simp [hx])))
/-- a law that returned true and left old memory alone has met its row -/
theorem law_post {f : Func} {s : ChangeSpec} {args : Array Value} {ds gs : List (DataW H)} {before : List MemPlace} {tb : TypeId}
    (hl : laidOutB P = true) (hts : ∀ t ∈ f.params.toList, P.readableRec t = true ∧ t < P.types.size) (hrt : f.resultTypes = #[tb]) (htb : P.underlying tb = some .bool)
    (hvars : s.vars = []) (hfn : s.fn H ds = { results := [.lit (.bool true)], args := ds })
    (hW : DataW.Whole enc P f.params.toList s.vars false W args.toList ds gs before) (hb : Below W.heap.size W W') :
    s.post enc P f false true false false W args (.bool true) W' := by
  have hW' := hW
  obtain ⟨p, q, hA, hV, rfl, hfz, hnd⟩ := hW
  rw [hvars] at hV
  obtain ⟨rfl, rfl⟩ := trodVars_none hV
  have hlt : ∀ x ∈ p, x.block < W.heap.size := fun x hx => by simpa using hW'.lt x (by simp [hx])
  refine ⟨ds, [], p ++ [], [], p, [], hW', ?_, ?_, ?_, ?_, fun h => by cases h⟩
  · rw [List.append_nil, hfn, hrt]
    exact trodAll_mk1 (shut_bool htb true)
  · rw [List.append_nil, hfn]
    exact stay_all hl hb hts hA hlt
  · rw [List.append_nil, hfn, hvars]
    rfl
  · exact hb.frame _
/-- an address at which a cell lies has no spot -/
theorem addr_of_cell {w : World} {a : Addr} {v : Value} (h : w.cell? a = some v) : a = ⟨a.block, a.off, none⟩ := by
  obtain ⟨b, o, sp⟩ := a
  cases sp with
  | none => rfl
  | some s =>
    unfold World.cell? at h
    simp only [] at h
    split at h <;> simp at h
theorem add_none (b o n : Nat) : (⟨b, o, none⟩ : Addr).add n = ⟨b, o + n, none⟩ := by
  unfold Addr.add
  split
  · next h => subst h; rfl
  · rfl
theorem i64_of_wf {n : Int} (h : (Lit.int .i64 n).wf = true) : I64 n := by
  simpa [Lit.wf, IntKind.min, IntKind.max, IntKind.signed, IntKind.bits, I64] using h
end
end Go.Proofs.YthmddmddcdofaaaDoor

namespace Go.Proofs.YthmddmddcdofaaaDoor
open Go.ChangeShapes Go.WideShapes Go.ChangeAt Go.RowKit Go.Deep
theorem set_takeI {xs : List Int} {n k : Nat} {y : Int} (hl : xs.length = n) (hk : k < n) (hy : xs[k]? = some y) : (xs.take k ++ List.replicate (n - k) (0 : Int)).set k y = xs.take (k + 1) ++ List.replicate (n - (k + 1)) (0 : Int) := by
  have h1 : (xs.take k).length = k := by rw [List.length_take]; omega
  rw [List.set_append_right _ _ (by omega), h1, Nat.sub_self, show n - k = (n - (k + 1)) + 1 by omega, List.replicate_succ, List.set_cons_zero, List.take_add_one, hy]
  simp
set_option maxHeartbeats 1000000 in
theorem toIntS_any (A : Option Addr) (n c : Nat) (xs : List Int) (w : World) (h : IS w w.heap.size A n xs) (hn : n ≤ 1099511627776) :
    Calls Tryd.prog 101 #[.slice A n c] w fun e w' => e = .returned (.slice (some ⟨w.heap.size, 0, none⟩) n n) ∧ OwnI w' w.heap.size (.slice (some ⟨w.heap.size, 0, none⟩) n n) xs ∧ Below w.heap.size w w' := by
  have hl := h.1
  have hmk := makeI w n hn
  have o2 := own_madeI w n hn
  have b2 : Below w.heap.size w (w.alloc (.cells (Array.replicate n (.int .i64 0)) 3)) := (Below.refl _ _).alloc (Nat.le_refl _) _
  obtain ⟨w2, hw2⟩ : ∃ w2, w.alloc (.cells (Array.replicate n (.int .i64 0)) 3) = w2 := ⟨_, rfl⟩
  rw [hw2] at hmk o2 b2
  have o2 : OwnI w2 w.heap.size (.slice (some ⟨w.heap.size, 0, none⟩) n n) (xs.take 0 ++ List.replicate (n - 0) (0 : Int)) := by simpa using o2
  clear hw2
  go_enter Tryd.func101, Tryd.ntmps101
  go_wp2
  clear hmk
  go_loopw [4] (fun i wr => ∃ k : Nat, k ≤ n ∧ i = .int .i64 k ∧ OwnI wr w.heap.size (.slice (some ⟨w.heap.size, 0, none⟩) n n) (xs.take k ++ List.replicate (n - k) (0 : Int)) ∧ Below w.heap.size w wr) (fun i _ => n - (intOf i).toNat)
  case atStart => exact ⟨0, Nat.zero_le _, rfl, o2, b2⟩
  case round =>
    clear o2 b2
    obtain ⟨k, hk, rfl, ho, hb⟩ := hrel
    have hlen : (xs.take k ++ List.replicate (n - k) (0 : Int)).length = n := by simp; omega
    by_cases hlt : k < n
    · obtain ⟨g', o', x, e', _, _, c1⟩ := ho.reads.at_ (k := k) (by omega)
      injection e' with e'
      injection e' with e1 e2
      subst e1 e2
      rw [Nat.zero_add] at c1
      obtain ⟨g, o, y, rfl, hg, hy, c2⟩ := (h.below hb).at_ hlt
      have fz : wr.frozen? ⟨w.heap.size, k, none⟩ = false := ho.frozen hlen k
      have t1 : (k : Int) < n := by omega
      have on := OwnI.cast (set_takeI hl hlt hy) (ho.put' (j := k) hlen y)
      have bn := hb.setCell (p := ⟨w.heap.size, k, none⟩) (Nat.le_refl _) (.int .i64 y)
      clear ho hlen hy
      go_wp2_with fail
      go_roundw
      case rel => exact ⟨k + 1, by omega, by go_num, on, bn⟩
      case measure => simp [intOf]; omega
    · obtain rfl : k = n := by omega
      rw [List.take_of_length_le (by omega), Nat.sub_self] at ho
      have ho : OwnI wr w.heap.size (.slice (some ⟨w.heap.size, 0, none⟩) k k) xs := by simpa using ho
      clear hlen
      go_wp2_with fail
      go_ret
      exact ⟨rfl, ho, hb⟩
theorem eqIntS_any (A B : Option Addr) (n m c d : Nat) (xs ys : List Int) (w : World) (h : IS w w.heap.size A n xs) (h' : IS w w.heap.size B m ys) (hn : n ≤ 1099511627776) (hm : m ≤ 1099511627776) :
    Calls Tryd.prog 103 #[.slice A n c, .slice B m d] w fun e w' => e = .returned (.bool (decide (xs = ys))) ∧ Below w.heap.size w w' := by
  have HL := Lib.hid h.1
  have HL' := Lib.hid h'.1
  by_cases hnm : n = m
  · subst hnm
    go_enter Tryd.func103, Tryd.ntmps103
    go_wp2
    go_loopw [5] (fun i wr => ∃ (k : Nat), k ≤ n ∧ i = .int .i64 k ∧ Hid (xs.take k = ys.take k) ∧ Below w.heap.size w wr) (fun i _ => n - (intOf i).toNat)
    case atStart => exact ⟨0, Nat.zero_le _, rfl, by simp [Hid], Below.refl _ _⟩
    case round =>
      obtain ⟨k, hk, rfl, hpre, hb⟩ := hrel
      by_cases hlt : k < n
      · obtain ⟨g, o, x, rfl, hg, hx, c1⟩ := (h.below hb).at_ hlt
        obtain ⟨g', o', y, rfl, hg', hx', c1'⟩ := (h'.below hb).at_ hlt
        have HX := Lib.hid hx
        have HX' := Lib.hid hx'
        have hlt' : (k : Int) < n := by omega
        clear hx hx'
        by_cases hxy : x = y
        · subst hxy
          go_wp2_with fail
          go_quiet (fail)
          go_wp2
          go_roundw
          case rel => exact ⟨k + 1, by omega, by go_num, Lib.hid (take_eq_succI hpre.out HX.out HX'.out), below_drewN hb _⟩
          case measure => simp [intOf]; omega
        · have hne : (x == y) = false := by rw [beq_eq_false_iff_ne]; exact hxy
          have hne2 : (x != y) = true := by rw [bne_iff_ne]; exact hxy
          have HNE := Lib.hid (show xs ≠ ys from fun e => hxy (by
            have a := HX.out
            have b := HX'.out
            rw [e, b] at a
            exact (Option.some.inj a).symm))
          clear hxy
          go_wp2_with fail
          go_quiet (fail)
          go_wp2
          go_ret
          exact ⟨ret_bool (decide_eq_false HNE.out).symm, below_drewN hb _⟩
      · have hkn : k = n := by omega
        have HK := Lib.hid hkn
        clear hkn
        go_wp2
        go_ret
        refine ⟨ret_bool ?_, hb⟩
        have hp := hpre.out
        rw [HK.out, List.take_of_length_le (by rw [HL.out]; omega), List.take_of_length_le (by rw [HL'.out]; omega)] at hp
        simp [hp]
  · have hne : ((n : Int) != m) = true := by rw [bne_iff_ne]; omega
    have HN := Lib.hid hnm
    clear hnm
    go_enter Tryd.func103, Tryd.ntmps103
    go_wp2
    go_ret
    refine ⟨ret_bool ?_, Below.refl _ _⟩
    simp
    rintro rfl
    exact HN.out (HL.out.symm.trans HL'.out)
/-- the marks that are laid into a slice of numbers -/
def marksI (k : Int) (n : Nat) : List Int := (List.range n).map fun (i : Nat) => k + (i : Int)
theorem marksI_len (k : Int) (n : Nat) : (marksI k n).length = n := by simp [marksI]
theorem marksI_at (k : Int) {n i : Nat} (h : i < n) : (marksI k n)[i]? = some (k + i) := by
  simp [marksI, h]
theorem set_marksI (k : Int) (xs : List Int) {i : Nat} (h : i < xs.length) : (marksI k i ++ xs.drop i).set i (k + i) = marksI k (i + 1) ++ xs.drop (i + 1) := by
  rw [List.set_append_right _ _ (by rw [marksI_len]; omega), marksI_len, Nat.sub_self]
  rw [List.drop_eq_getElem_cons h, List.set_cons_zero]
  simp [marksI, List.range_succ]
set_option maxHeartbeats 1000000 in
theorem markIntS_any (v : Value) (xs : List Int) (k : Int) (base : Nat) (w : World) (h : OwnI w base v xs) (hk : 0 ≤ k) (hk2 : k ≤ 1099511627776) (hn : xs.length ≤ 1099511627776) :
    Calls Tryd.prog 105 #[v, .int .i64 k] w fun e w' => e = .returned (.int .i64 (k + xs.length)) ∧ OwnI w' base v (marksI k xs.length) ∧ w.grownBy w' v.ownBlock := by
  obtain ⟨A, c, rfl, hA⟩ := h.form
  obtain ⟨n, hn'⟩ : ∃ n, xs.length = n := ⟨_, rfl⟩
  rw [hn'] at h hn hA ⊢
  go_enter Tryd.func105, Tryd.ntmps105
  go_wp2
  go_loopw [1, 5] (fun q a wr => ∃ i : Nat, i ≤ n ∧ a = .int .i64 i ∧ q = .int .i64 (k + i) ∧ OwnI wr base (.slice A n c) (marksI k i ++ xs.drop i) ∧ w.grownBy wr (Value.slice A n c).ownBlock) (fun _ a _ => n - (intOf a).toNat)
  case atStart => exact ⟨0, Nat.zero_le _, rfl, by simp, by simpa [marksI] using h, World.grownBy.refl _ _⟩
  case round =>
    clear h
    obtain ⟨i, hi, rfl, rfl, ho, hg⟩ := hrel
    have hl : (marksI k i ++ xs.drop i).length = n := by simp [marksI]; omega
    by_cases hlt : i < n
    · obtain ⟨g, rfl, hbg, hgl⟩ := hA (by omega)
      obtain ⟨g', o', x, e', _, _, c1⟩ := ho.reads.at_ (k := i) (by omega)
      injection e' with e'
      injection e' with e1 e2
      subst e1 e2
      rw [Nat.zero_add] at c1
      have fz : wr.frozen? ⟨g, i, none⟩ = false := ho.frozen hl i
      have t1 : (i : Int) < n := by omega
      have on := OwnI.cast (set_marksI k xs (show i < xs.length by omega)) (ho.put' (j := i) hl (k + i))
      have gn := only_put hg i (.int .i64 (k + i))
      clear ho hl hA
      go_wp2
      go_roundw
      case rel => exact ⟨i + 1, by omega, by go_num, int_eq (by omega), on, gn⟩
      case measure => simp [intOf]; omega
    · obtain rfl : i = n := by omega
      have ho : OwnI wr base (.slice A i c) (marksI k i) := by
        rw [List.drop_of_length_le (by omega), List.append_nil] at ho
        exact ho
      clear hl hA
      go_wp2
      go_ret
      exact ⟨rfl, ho, hg⟩
theorem heldIntS_any (A : Option Addr) (n c : Nat) (k : Int) (w : World) (h : IS w w.heap.size A n (marksI k n)) (hk : 0 ≤ k) (hk2 : k ≤ 1099511627776) (hn : n ≤ 1099511627776) :
    Calls Tryd.prog 107 #[.slice A n c, .int .i64 k] w fun e w' => e = .returned (.int .i64 (k + n)) ∧ w = w' := by
  go_enter Tryd.func107, Tryd.ntmps107
  go_wp2
  go_loop [1, 5] (fun q a => ∃ i : Nat, i ≤ n ∧ a = .int .i64 i ∧ q = .int .i64 (k + i)) (fun _ a => n - (intOf a).toNat)
  case atStart => exact ⟨0, Nat.zero_le _, rfl, by simp⟩
  case round =>
    obtain ⟨i, hi, rfl, rfl⟩ := hrel
    by_cases hlt : i < n
    · obtain ⟨g, o, x, rfl, hg, hx, c1⟩ := h.at_ hlt
      rw [marksI_at k hlt] at hx
      injection hx with hx
      subst hx
      go_wp2
      go_round
      case rel => exact ⟨i + 1, by omega, by go_num, int_eq (by omega)⟩
      case measure => simp [intOf]; omega
    · have hin : i = n := by omega
      have HI := Lib.hid hin
      clear hin
      go_wp2
      go_ret
      exact ⟨by rw [← HI.out]; rfl, rfl⟩
theorem szIntS_any (A : Option Addr) (n c : Nat) (l : Int) (w : World) (h0 : 0 ≤ l) (h1 : l ≤ 1099511627776) (hn : n ≤ 9223372036854775807) :
    Calls Tryd.prog 99 #[.slice A n c, .int .i64 l] w fun e w' => e = .returned (.int .i64 (if n ≤ l then l - n else -1)) ∧ w = w' := by
  by_cases h : (n : Int) ≤ l
  · have h' : decide (l - (n : Int) < 0) = false := decide_eq_false (by omega)
    rw [if_pos h]
    go_enter Tryd.func99, Tryd.ntmps99
    go_wp2
    go_ret
    exact ⟨rfl, rfl⟩
  · have h' : l - (n : Int) < 0 := by omega
    rw [if_neg h]
    go_enter Tryd.func99, Tryd.ntmps99
    go_wp2
    go_ret
    exact ⟨rfl, rfl⟩
section
variable {H : Type} {enc : TypeId × Value → H} {P : Program} {W W' : World}
end
end Go.Proofs.YthmddmddcdofaaaDoor
namespace Go.Proofs.YthmddmddcdofaaaDoor
open Go.RowKit
set_option maxHeartbeats 1000000 in
theorem toCell_any (cl : Cl) (A : Option Addr) (m cc : Nat) (w : World) (hi : IS w w.heap.size A m cl.r) (hm : m ≤ 1099511627776) :
    Calls Tryd.prog 136 #[.agg #[.bool cl.u, .int .i64 cl.d, .slice A m cc]] w fun e w' => ∃ g, e = .returned (.agg #[.bool cl.u, .int .i64 cl.d, .slice (some ⟨g, 0, none⟩) m m]) ∧ OwnI w' w.heap.size (.slice (some ⟨g, 0, none⟩) m m) cl.r ∧ Below w.heap.size w w' := by
  have b3 : Below w.heap.size w (((w.alloc (.cells #[.bool cl.u, .int .i64 cl.d, .slice A m cc] 161)).alloc (.cells #[.bool false, .int .i64 0, .slice none 0 0] 40)).alloc (.cells #[.bool cl.u, .int .i64 cl.d, .slice none 0 0] 40)) := (((Below.refl w.heap.size w).alloc (Nat.le_refl _) _).alloc (by simp) _).alloc (by simp; omega) _
  have i3 := hi.up b3
  have r1 := (Rw.new (w.alloc (.cells #[.bool cl.u, .int .i64 cl.d, .slice A m cc] 161)) 40 #[.bool false, .int .i64 0, .slice none 0 0]).alloc (.cells #[.bool cl.u, .int .i64 cl.d, .slice none 0 0] 40)
  have r2 := Rw.new ((w.alloc (.cells #[.bool cl.u, .int .i64 cl.d, .slice A m cc] 161)).alloc (.cells #[.bool false, .int .i64 0, .slice none 0 0] 40)) 40 #[.bool cl.u, .int .i64 cl.d, .slice none 0 0]
  have hsz : (((w.alloc (.cells #[.bool cl.u, .int .i64 cl.d, .slice A m cc] 161)).alloc (.cells #[.bool false, .int .i64 0, .slice none 0 0] 40)).alloc (.cells #[.bool cl.u, .int .i64 cl.d, .slice none 0 0] 40)).heap.size = w.heap.size + 3 := by simp
  simp only [World.size_alloc] at r1 r2
  go_enter Tryd.func136, Tryd.ntmps136
  go_wp2_with fail
  refine (toIntS_any _ _ _ cl.r _ i3 hm).mono ?_
  rw [hsz]
  rintro e w1 ⟨rfl, o1, b1⟩
  have c1 := r1.keep b1 (by omega)
  have c2 := r2.keep b1 (by omega)
  have bb1 := b3.trans (b1.mono (by omega))
  have x0 : w1.cell? ⟨w.heap.size + 1 + 1, 0, none⟩ = some (.bool cl.u) := c2.cell 0
  have x1 : w1.cell? ⟨w.heap.size + 1 + 1, 1, none⟩ = some (.int .i64 cl.d) := c2.cell 1
  have x2 : w1.cell? ⟨w.heap.size + 1 + 1, 2, none⟩ = some (.slice none 0 0) := c2.cell 2
  have x3 := c2.frozen 2
  have c3 := c2.put 2 (.slice (some ⟨w.heap.size + 3, 0, none⟩) m m)
  have d1 := Rw.other (w := w1) c1 (show w.heap.size + 1 ≠ w.heap.size + 1 + 1 by omega) (i := 2) (.slice (some ⟨w.heap.size + 3, 0, none⟩) m m)
  have o2 := o1.far (only_put (g := w.heap.size + 1 + 1) (World.grownBy.refl _ _) 2 (.slice (some ⟨w.heap.size + 3, 0, none⟩) m m)) (.inr (by simp [Value.ownBlock]))
  have bb2 := bb1.setCell (p := ⟨w.heap.size + 1 + 1, 2, none⟩) (by simp; omega) (.slice (some ⟨w.heap.size + 3, 0, none⟩) m m)
  obtain ⟨w2, hw2⟩ : ∃ w2, w1.setCell ⟨w.heap.size + 1 + 1, 2, none⟩ (.slice (some ⟨w.heap.size + 3, 0, none⟩) m m) = w2 := ⟨_, rfl⟩
  rw [hw2] at c3 d1 o2 bb2
  have y0 : w2.cell? ⟨w.heap.size + 1 + 1, 0, none⟩ = some (.bool cl.u) := c3.cell 0
  have y1 : w2.cell? ⟨w.heap.size + 1 + 1, 1, none⟩ = some (.int .i64 cl.d) := c3.cell 1
  have y2 : w2.cell? ⟨w.heap.size + 1 + 1, 2, none⟩ = some (.slice (some ⟨w.heap.size + 3, 0, none⟩) m m) := c3.cell 2
  have u0 : w2.cell? ⟨w.heap.size + 1, 0, none⟩ = some (.bool false) := d1.cell 0
  have u1 : w2.cell? ⟨w.heap.size + 1, 1, none⟩ = some (.int .i64 0) := d1.cell 1
  have u2 : w2.cell? ⟨w.heap.size + 1, 2, none⟩ = some (.slice none 0 0) := d1.cell 2
  have f0 := d1.frozen 0
  have f1 := d1.frozen 1
  have f2 := d1.frozen 2
  have d2 := ((d1.put 0 (.bool cl.u)).put 1 (.int .i64 cl.d)).put 2 (.slice (some ⟨w.heap.size + 3, 0, none⟩) m m)
  have q0 := d2.cell 0
  have q1 := d2.cell 1
  have q2 := d2.cell 2
  have bb3 := ((bb2.setCell (p := ⟨w.heap.size + 1, 0, none⟩) (by simp) (.bool cl.u)).setCell (p := ⟨w.heap.size + 1, 1, none⟩) (by simp) (.int .i64 cl.d)).setCell (p := ⟨w.heap.size + 1, 2, none⟩) (by simp) (.slice (some ⟨w.heap.size + 3, 0, none⟩) m m)
  have hne : ((Value.slice (some ⟨w.heap.size + 3, 0, none⟩) m m).ownBlock = none ∨ (Value.slice (some ⟨w.heap.size + 3, 0, none⟩) m m).ownBlock ≠ some (w.heap.size + 1)) := .inr (by simp [Value.ownBlock])
  have o3 := ((o2.far (only_put (g := w.heap.size + 1) (World.grownBy.refl _ _) 0 (.bool cl.u)) hne).far (only_put (g := w.heap.size + 1) (World.grownBy.refl _ _) 1 (.int .i64 cl.d)) hne).far (only_put (g := w.heap.size + 1) (World.grownBy.refl _ _) 2 (.slice (some ⟨w.heap.size + 3, 0, none⟩) m m)) hne
  simp at q0 q1 q2
  clear c1 c2 c3 d1 d2 o1 o2 b1 b3 bb1 bb2 r1 r2 i3 hsz hne
  go_wp2_with fail
  exact bodyPost_ret (v := .agg #[.bool cl.u, .int .i64 cl.d, .slice (some ⟨w.heap.size + 3, 0, none⟩) m m]) (by simp [results, Tryd.results136, go_sem, *]) rfl ⟨_, rfl, o3.base (by omega), bb3⟩
/-- a cell that is not used -/
def noCl : Cl := ⟨false, 0, []⟩
theorem madeC_list (n : Nat) : (madeCells (Value.agg #[.bool false, .int .i64 0, .slice none 0 0]).cells (n * 3)).toList = flatC (List.replicate n noCl) (List.replicate n (.slice none 0 0)) := by
  have hl := flatC_length (List.replicate n noCl) (List.replicate n (.slice none 0 0)) (by simp)
  rw [List.length_replicate] at hl
  apply List.ext_getElem?
  intro j
  rcases Nat.lt_or_ge j (n * 3) with hj | hj
  · have hk : j / 3 < n := by omega
    obtain ⟨f1, f2, f3⟩ := flatC_at (List.replicate n noCl) (List.replicate n (.slice none 0 0)) (j / 3) noCl (.slice none 0 0) (by simp [hk]) (by simp [hk])
    have hm : (madeCells (Value.agg #[.bool false, .int .i64 0, .slice none 0 0]).cells (n * 3)).toList[j]? = some ((Value.agg #[.bool false, .int .i64 0, .slice none 0 0]).cells[j % 3]!) := by
      simp [madeCells, hj, Value.cells]
    rw [hm]
    have h3 : j % 3 = 0 ∨ j % 3 = 1 ∨ j % 3 = 2 := by omega
    rcases h3 with e | e | e
    · rw [e]
      rw [show j = j / 3 * 3 by omega, f1]
      rfl
    · rw [e]
      rw [show j = j / 3 * 3 + 1 by omega, f2]
      rfl
    · rw [e]
      rw [show j = j / 3 * 3 + 2 by omega, f3]
      rfl
  · rw [List.getElem?_eq_none (by simp [madeCells]; omega), List.getElem?_eq_none (by omega)]
theorem makeC (W : World) (n : Nat) (hn : n ≤ 1099511627776) : (Instr.makeSlice 23 (.int .i64 n) (.int .i64 n)).run Tryd.prog W = .ok (.slice (some ⟨W.heap.size, 0, none⟩) n n) (W.alloc (.cells (flatC (List.replicate n noCl) (List.replicate n (.slice none 0 0))).toArray 40)) := by
  obtain ⟨i0, hi0, hz0, hz1, hz2⟩ := info_parts info_cell
  have := run_make (P := Tryd.prog) W 23 40 i0 _ Tryd.underlying23 hi0 hz0 .i64 .i64 n n (by omega) (by omega) (by rw [hz2]; omega) (by omega)
  rw [hz1] at this
  rw [← madeC_list]
  simpa using this
theorem own_madeC (w : World) (n : Nat) (hn : n ≤ 1099511627776) : OwnHx (w.alloc (.cells (flatC (List.replicate n noCl) (List.replicate n (.slice none 0 0))).toArray 40)) w.heap.size (.slice (some ⟨w.heap.size, 0, none⟩) n n) (.slice none 0 0) (List.replicate n (.slice none 0 0)) ⟨List.replicate n noCl, []⟩ := by
  have hl := flatC_length (List.replicate n noCl) (List.replicate n (.slice none 0 0)) (by simp)
  rw [List.length_replicate] at hl
  refine ⟨by simp, ?_, fun k c v hc hv => ?_, World.ownsRow_nil _ _ _ _, ?_⟩
  · have := World.ownsRow_lit (base := w.heap.size) (e := 40) (size := 3) w (flatC (List.replicate n noCl) (List.replicate n (.slice none 0 0))).toArray n (Nat.le_refl _) (by unfold maxLen; omega) (by simp [hl])
    simpa using this
  · rw [List.getElem?_replicate] at hc hv
    split at hc
    · injection hc with hc
      rename_i hk
      rw [if_pos hk] at hv
      injection hv with hv
      subst hc hv
      exact World.ownsRow_nil _ _ _ _
    · cases hc
  · unfold Sep
    rw [List.pairwise_cons, List.pairwise_cons]
    refine ⟨fun v hv => ?_, fun v hv => .inl rfl, ?_⟩
    · simp only [List.mem_cons, List.mem_replicate] at hv
      rcases hv with rfl | ⟨_, rfl⟩ <;> exact .inr (by simp [Value.ownBlock])
    · rw [List.pairwise_replicate]
      exact .inr (.inl rfl)
theorem set_takeC {cs : List Cl} {n k : Nat} {y : Cl} (hl : cs.length = n) (hk : k < n) (hy : cs[k]? = some y) : (cs.take k ++ List.replicate (n - k) noCl).set k y = cs.take (k + 1) ++ List.replicate (n - (k + 1)) noCl := by
  have h1 : (cs.take k).length = k := by rw [List.length_take]; omega
  rw [List.set_append_right _ _ (by omega), h1, Nat.sub_self, show n - k = (n - (k + 1)) + 1 by omega, List.replicate_succ, List.set_cons_zero, List.take_add_one, hy]
  simp
set_option maxHeartbeats 2000000 in
theorem toCellS_any (A : Option Addr) (n c : Nat) (cs : List Cl) (w : World) (h : CS w w.heap.size A n cs) (hn : n ≤ 1099511627776) (hb : ∀ cl ∈ cs, cl.r.length ≤ 1099511627776) :
    Calls Tryd.prog 100 #[.slice A n c] w fun e w' => ∃ rvs, e = .returned (.slice (some ⟨w.heap.size, 0, none⟩) n n) ∧ OwnHx w' w.heap.size (.slice (some ⟨w.heap.size, 0, none⟩) n n) (.slice none 0 0) rvs ⟨cs, []⟩ ∧ Below w.heap.size w w' := by
  have hl := h.1
  have HB := Lib.hid hb
  clear hb
  have hmk := makeC w n hn
  have o2 := own_madeC w n hn
  have b2 : Below w.heap.size w (w.alloc (.cells (flatC (List.replicate n noCl) (List.replicate n (.slice none 0 0))).toArray 40)) := (Below.refl _ _).alloc (Nat.le_refl _) _
  have s2 : w.heap.size < (w.alloc (.cells (flatC (List.replicate n noCl) (List.replicate n (.slice none 0 0))).toArray 40)).heap.size := by simp
  obtain ⟨w2, hw2⟩ : ∃ w2, w.alloc (.cells (flatC (List.replicate n noCl) (List.replicate n (.slice none 0 0))).toArray 40) = w2 := ⟨_, rfl⟩
  rw [hw2] at hmk o2 b2 s2
  clear hw2
  go_enter Tryd.func100, Tryd.ntmps100
  go_wp2
  clear hmk
  go_loopw [4] (fun i wr => ∃ (k : Nat) (rvs : List Value), k ≤ n ∧ i = .int .i64 k ∧ OwnHx wr w.heap.size (.slice (some ⟨w.heap.size, 0, none⟩) n n) (.slice none 0 0) rvs ⟨cs.take k ++ List.replicate (n - k) noCl, []⟩ ∧ Below w.heap.size w wr ∧ w.heap.size < wr.heap.size) (fun i _ => n - (intOf i).toNat)
  case atStart => exact ⟨0, _, Nat.zero_le _, rfl, by simpa using o2, b2, s2⟩
  case round =>
    clear o2 b2 s2
    obtain ⟨k, rvs, hk, rfl, S, bb, hsz⟩ := hrel
    have hlen : (cs.take k ++ List.replicate (n - k) noCl).length = n := by simp; omega
    by_cases hlt : k < n
    · obtain ⟨g, o, cl, A', m', cc, e1, hg, hcl, d1, d2, d3, hmc, hi⟩ := (h.below bb).at_ hlt
      subst e1
      have hlt' : (k : Int) < n := by omega
      have hl3 := hi.1
      have hm3 : m' ≤ 1099511627776 := by have := HB.out cl (List.mem_of_getElem? hcl); omega
      have HST := Lib.hid (set_takeC hl hlt hcl)
      have hold : (cs.take k ++ List.replicate (n - k) noCl)[k]? = some noCl := by
        rw [List.getElem?_append_right (by rw [List.length_take]; omega), List.length_take, Nat.min_eq_left (by omega), Nat.sub_self, List.getElem?_replicate, if_pos (by omega)]
      have hi' := hi.more bb.size
      clear hcl
      go_wp2_with fail
      refine (toCell_any cl _ _ _ _ hi' hm3).mono ?_
      rintro e w1 ⟨g1, rfl, o1, b1⟩
      have S1 := S.below b1 (Nat.le_refl _)
      have bb1 := bb.trans (b1.mono bb.size)
      have hg1 := (World.ownsRow.lt o1 g1 (by simp [Value.ownBlock]))
      have ST : OwnHx w1 w.heap.size (.slice (some ⟨w.heap.size, 0, none⟩) (Hp.mk (cs.take k ++ List.replicate (n - k) noCl) []).cs.length n) (.slice none 0 0) rvs ⟨cs.take k ++ List.replicate (n - k) noCl, []⟩ := by
        show OwnHx w1 w.heap.size (.slice (some ⟨w.heap.size, 0, none⟩) (cs.take k ++ List.replicate (n - k) noCl).length n) (.slice none 0 0) rvs ⟨cs.take k ++ List.replicate (n - k) noCl, []⟩
        rw [hlen]
        exact S1
      have N := ST.cell (k := k) (cl := cl) (old := noCl) hold (o1.base bb.size) (fun v hv => .inr fun e => by
        have hb := (S.blocks (v := v) (by simpa only [hlen] using hv) (k := g1) (by rw [← e]; simp [Value.ownBlock])).2
        omega)
      simp only [hlen] at N
      rw [HST.out] at N
      have row := S1.row
      simp only [hlen] at row
      obtain ⟨v0, hv0⟩ : ∃ v0, rvs[k]? = some v0 := ⟨_, List.getElem?_eq_getElem (by rw [S1.len]; simp only [hlen]; exact hlt)⟩
      obtain ⟨f1, f2, f3⟩ := flatC_at _ _ _ _ _ hold hv0
      have q1 := (World.ownsRow.cellAt row (k * 3) (by omega)).trans f1
      have q2 := (World.ownsRow.cellAt row (k * 3 + 1) (by omega)).trans f2
      have q3 := (World.ownsRow.cellAt row (k * 3 + 2) (by omega)).trans f3
      have z1 := World.ownsRow.frozenAt row (k * 3)
      have z2 := World.ownsRow.frozenAt row (k * 3 + 1)
      have z3 := World.ownsRow.frozenAt row (k * 3 + 2)
      have bn := ((bb1.setCell (p := ⟨w.heap.size, k * 3, none⟩) (Nat.le_refl _) (.bool cl.u)).setCell (p := ⟨w.heap.size, k * 3 + 1, none⟩) (Nat.le_refl _) (.int .i64 cl.d)).setCell (p := ⟨w.heap.size, k * 3 + 2, none⟩) (Nat.le_refl _) (.slice (some ⟨g1, 0, none⟩) m' m')
      have hsz1 := b1.size
      have NN := Lib.hid N
      clear N ST S S1 row f1 f2 f3 hold o1 b1 d1 d2 d3 hi hi' bb1
      go_wp2_with fail
      go_roundw
      case rel => exact ⟨k + 1, _, by omega, by go_num, NN.out, bn, by simp; omega⟩
      case measure => simp [intOf]; omega
    · obtain rfl : k = n := by omega
      have e : cs.take k ++ List.replicate (k - k) noCl = cs := by rw [List.take_of_length_le (by omega)]; simp
      rw [e] at S
      clear hlen e
      go_wp2_with fail
      go_ret
      exact ⟨rvs, rfl, S, bb⟩
end Go.Proofs.YthmddmddcdofaaaDoor
namespace Go.Proofs.YthmddmddcdofaaaDoor
open Go.RowKit
theorem OwnHx.withRoots {w : World} {base base2 : Nat} {vc vr : Value} {rvs : List Value} {cs : List Cl} {rt : List Int} (S : OwnHx w base vc (.slice none 0 0) rvs ⟨cs, []⟩) (o : OwnI w base2 vr rt) (hb : base ≤ base2) (hf : ∀ v ∈ vc :: rvs, ∀ k, v.ownBlock = some k → k < base2) : OwnHx w base vc vr rvs ⟨cs, rt⟩ := by
  have hs := S.sep
  unfold Sep at hs
  rw [List.pairwise_cons, List.pairwise_cons] at hs
  have hne : ∀ v ∈ vc :: rvs, v.ownBlock = none ∨ v.ownBlock ≠ vr.ownBlock := fun v hv => by
    cases e : v.ownBlock with
    | none => exact .inl rfl
    | some k =>
      right
      intro e'
      have h1 := hf v hv k e
      have h2 := (World.ownsRow.lt o k e'.symm).1
      omega
  refine ⟨S.len, S.row, S.refs, o.base hb, ?_⟩
  unfold Sep
  rw [List.pairwise_cons, List.pairwise_cons]
  refine ⟨fun v hv => ?_, fun v hv => sep_back (hne v (by simp [hv])), hs.2.2⟩
  rcases List.mem_cons.1 hv with rfl | hv
  · exact hne vc (by simp)
  · exact hs.1 v (by simp [hv])
set_option maxHeartbeats 2000000 in
theorem toHeap_any (A R : Option Addr) (n c m d : Nat) (h : Hp) (w : World) (hs : HS w w.heap.size A n R m h) (hn : n ≤ 1099511627776) (hm : m ≤ 1099511627776) (hb : ∀ cl ∈ h.cs, cl.r.length ≤ 1099511627776) :
    Calls Tryd.prog 42 #[heapV A n c R m d] w fun e w' => ∃ g1 g2, e = .returned (heapV (some ⟨g1, 0, none⟩) n n (some ⟨g2, 0, none⟩) m m) ∧ OwnH w' w.heap.size (.slice (some ⟨g1, 0, none⟩) n n) (.slice (some ⟨g2, 0, none⟩) m m) h ∧ Below w.heap.size w w' := by
  have b3 : Below w.heap.size w (((w.alloc (.cells #[.slice A n c, .slice R m d] 60)).alloc (.cells #[.slice none 0 0, .slice none 0 0] 26)).alloc (.cells #[.slice none 0 0, .slice none 0 0] 26)) := (((Below.refl w.heap.size w).alloc (Nat.le_refl _) _).alloc (by simp) _).alloc (by simp; omega) _
  have i3 := hs.up b3
  have r0 := ((Rw.new w 60 #[.slice A n c, .slice R m d]).alloc (.cells #[.slice none 0 0, .slice none 0 0] 26)).alloc (.cells #[.slice none 0 0, .slice none 0 0] 26)
  have r1 := (Rw.new (w.alloc (.cells #[.slice A n c, .slice R m d] 60)) 26 #[.slice none 0 0, .slice none 0 0]).alloc (.cells #[.slice none 0 0, .slice none 0 0] 26)
  have r2 := Rw.new ((w.alloc (.cells #[.slice A n c, .slice R m d] 60)).alloc (.cells #[.slice none 0 0, .slice none 0 0] 26)) 26 #[.slice none 0 0, .slice none 0 0]
  have hsz : (((w.alloc (.cells #[.slice A n c, .slice R m d] 60)).alloc (.cells #[.slice none 0 0, .slice none 0 0] 26)).alloc (.cells #[.slice none 0 0, .slice none 0 0] 26)).heap.size = w.heap.size + 3 := by simp
  simp only [World.size_alloc] at r1 r2
  have HB := Lib.hid hb
  clear hb
  go_enter Tryd.func42, Tryd.ntmps42
  go_wp2_with fail
  refine (toCellS_any _ _ _ h.cs _ i3.cells hn HB.out).mono ?_
  rw [hsz]
  rintro e w1 ⟨rvs, rfl, S, b1⟩
  have c0 := r0.keep b1 (by omega)
  have c1 := r1.keep b1 (by omega)
  have c2 := r2.keep b1 (by omega)
  have bb1 := b3.trans (b1.mono (by omega))
  have x0 : w1.cell? ⟨w.heap.size + 1 + 1, 0, none⟩ = some (.slice none 0 0) := c2.cell 0
  have x1 : w1.cell? ⟨w.heap.size + 1 + 1, 1, none⟩ = some (.slice none 0 0) := c2.cell 1
  have x3 := c2.frozen 0
  -- the cells are put into the box
  have S2 := S.far (put_any w1 (w.heap.size + 1 + 1) 0 (.slice (some ⟨w.heap.size + 3, 0, none⟩) n n)) (S.apart_below (by omega))
  have e0 := Rw.other (w := w1) c0 (show w.heap.size ≠ w.heap.size + 1 + 1 by omega) (i := 0) (.slice (some ⟨w.heap.size + 3, 0, none⟩) n n)
  have e1 := Rw.other (w := w1) c1 (show w.heap.size + 1 ≠ w.heap.size + 1 + 1 by omega) (i := 0) (.slice (some ⟨w.heap.size + 3, 0, none⟩) n n)
  have e2 := c2.put 0 (.slice (some ⟨w.heap.size + 3, 0, none⟩) n n)
  have bb2 := bb1.setCell (p := ⟨w.heap.size + 1 + 1, 0, none⟩) (by simp; omega) (.slice (some ⟨w.heap.size + 3, 0, none⟩) n n)
  have hsz1 := b1.size
  have hsz2 : (w1.setCell ⟨w.heap.size + 1 + 1, 0, none⟩ (.slice (some ⟨w.heap.size + 3, 0, none⟩) n n)).heap.size = w1.heap.size := by simp
  obtain ⟨w2, hw2⟩ : ∃ w2, w1.setCell ⟨w.heap.size + 1 + 1, 0, none⟩ (.slice (some ⟨w.heap.size + 3, 0, none⟩) n n) = w2 := ⟨_, rfl⟩
  rw [hw2] at S2 e0 e1 e2 bb2 hsz2
  have hs2 := (hs.below bb2).more bb2.size
  have z1 : w2.cell? ⟨w.heap.size, 1, none⟩ = some (.slice R m d) := e0.cell 1
  have e2' : Rw w2 (w.heap.size + 1 + 1) 26 #[.slice (some ⟨w.heap.size + 3, 0, none⟩) n n, .slice none 0 0] := e2
  clear c0 c1 c2 S b1 b3 bb1 r0 r1 r2 i3 e0 e2
  go_wp2_with fail
  refine (toIntS_any _ _ _ h.rt _ hs2.roots hm).mono ?_
  rintro e w3 ⟨rfl, o3, b3⟩
  have S3 := S2.below b3 (Nat.le_refl _)
  have f1 := e1.keep b3 e1.lt
  have f2 := e2'.keep b3 e2'.lt
  have bb3 := bb2.trans (b3.mono bb2.size)
  have H3 := S3.withRoots o3 (by omega) (fun v hv k hk => (S2.blocks (v := v) (by simp only [List.mem_cons] at hv ⊢; rcases hv with h | h <;> simp [h]) hk).2)
  have hge : w.heap.size + 3 ≤ w2.heap.size := by omega
  obtain ⟨g2, hg2⟩ : ∃ g2, w2.heap.size = g2 := ⟨_, rfl⟩
  rw [hg2] at H3 hge
  rw [hg2]
  have y0 : w3.cell? ⟨w.heap.size + 1 + 1, 0, none⟩ = some (.slice (some ⟨w.heap.size + 3, 0, none⟩) n n) := f2.cell 0
  have y1 : w3.cell? ⟨w.heap.size + 1 + 1, 1, none⟩ = some (.slice none 0 0) := f2.cell 1
  have y2 := f2.frozen 1
  -- the roots are put into the box
  have H4 := H3.far (put_any w3 (w.heap.size + 1 + 1) 1 (.slice (some ⟨g2, 0, none⟩) m m)) (H3.apart_below (by omega))
  have k1 := Rw.other (w := w3) f1 (show w.heap.size + 1 ≠ w.heap.size + 1 + 1 by omega) (i := 1) (.slice (some ⟨g2, 0, none⟩) m m)
  have k2 : Rw (w3.setCell ⟨w.heap.size + 1 + 1, 1, none⟩ (.slice (some ⟨g2, 0, none⟩) m m)) (w.heap.size + 1 + 1) 26 #[.slice (some ⟨w.heap.size + 3, 0, none⟩) n n, .slice (some ⟨g2, 0, none⟩) m m] := f2.put 1 _
  have bb4 := bb3.setCell (p := ⟨w.heap.size + 1 + 1, 1, none⟩) (by simp; omega) (.slice (some ⟨g2, 0, none⟩) m m)
  obtain ⟨w4, hw4⟩ : ∃ w4, w3.setCell ⟨w.heap.size + 1 + 1, 1, none⟩ (.slice (some ⟨g2, 0, none⟩) m m) = w4 := ⟨_, rfl⟩
  rw [hw4] at H4 k1 k2 bb4
  have u0 : w4.cell? ⟨w.heap.size + 1 + 1, 0, none⟩ = some (.slice (some ⟨w.heap.size + 3, 0, none⟩) n n) := k2.cell 0
  have u1 : w4.cell? ⟨w.heap.size + 1 + 1, 1, none⟩ = some (.slice (some ⟨g2, 0, none⟩) m m) := k2.cell 1
  have v0 : w4.cell? ⟨w.heap.size + 1, 0, none⟩ = some (.slice none 0 0) := k1.cell 0
  have v1 : w4.cell? ⟨w.heap.size + 1, 1, none⟩ = some (.slice none 0 0) := k1.cell 1
  have v2 := k1.frozen 0
  have v3 := k1.frozen 1
  have k3 := (k1.put 0 (.slice (some ⟨w.heap.size + 3, 0, none⟩) n n)).put 1 (.slice (some ⟨g2, 0, none⟩) m m)
  have q0 := k3.cell 0
  have q1 := k3.cell 1
  have bb5 := (bb4.setCell (p := ⟨w.heap.size + 1, 0, none⟩) (by simp) (.slice (some ⟨w.heap.size + 3, 0, none⟩) n n)).setCell (p := ⟨w.heap.size + 1, 1, none⟩) (by simp) (.slice (some ⟨g2, 0, none⟩) m m)
  have ap := H4.apart_below (b := w.heap.size + 1) (by omega)
  have H5 := ((H4.far (put_any w4 (w.heap.size + 1) 0 (.slice (some ⟨w.heap.size + 3, 0, none⟩) n n)) ap).far (put_any _ (w.heap.size + 1) 1 (.slice (some ⟨g2, 0, none⟩) m m)) ap).base (show w.heap.size ≤ w.heap.size + 3 by omega)
  simp at q0 q1
  have OH := Lib.hid H5
  clear S2 S3 H3 H4 H5 e1 e2' f1 f2 k1 k2 k3 o3 b3 bb2 bb3 bb4 ap hs2
  go_wp2_with fail
  exact bodyPost_ret (v := heapV (some ⟨w.heap.size + 3, 0, none⟩) n n (some ⟨g2, 0, none⟩) m m) (by simp [results, Tryd.results42, go_sem, *]) rfl ⟨_, _, rfl, ⟨_, OH.out⟩, bb5⟩
end Go.Proofs.YthmddmddcdofaaaDoor
namespace Go.Proofs.YthmddmddcdofaaaDoor
open Go.RowKit
set_option maxRecDepth 100000
set_option maxHeartbeats 1000000 in
theorem eqCell_any (x y : Cl) (A B : Option Addr) (m q c d : Nat) (w : World) (hx : IS w w.heap.size A m x.r) (hy : IS w w.heap.size B q y.r) (hm : m ≤ 1099511627776) (hq : q ≤ 1099511627776) :
    Calls Tryd.prog 137 #[.agg #[.bool x.u, .int .i64 x.d, .slice A m c], .agg #[.bool y.u, .int .i64 y.d, .slice B q d]] w fun e w' => e = .returned (.bool (decide (x = y))) ∧ Below w.heap.size w w' := by
  have b2 : Below w.heap.size w ((w.alloc (.cells #[.bool x.u, .int .i64 x.d, .slice A m c] 40)).alloc (.cells #[.bool y.u, .int .i64 y.d, .slice B q d] 40)) := ((Below.refl w.heap.size w).alloc (Nat.le_refl _) _).alloc (by simp) _
  have x2 := hx.up b2
  have y2 := hy.up b2
  by_cases hu : x.u = y.u
  · have hu' : (!x.u == y.u) = false := by simp [hu]
    have HU := Lib.hid hu
    clear hu
    by_cases hd : x.d = y.d
    · have hd' : (x.d != y.d) = false := by rw [bne_eq_false_iff_eq]; exact hd
      have HD := Lib.hid hd
      clear hd
      cases hr : decide (x.r = y.r)
      · have HR := Lib.hid (show decide (x = y) = false by
          have hne := of_decide_eq_false hr
          apply decide_eq_false
          rintro rfl
          exact hne rfl)
        have HRR := Lib.hid hr
        clear hr
        go_enter Tryd.func137, Tryd.ntmps137
        go_wp2_with fail
        refine (eqIntS_any _ _ _ _ _ _ x.r y.r _ x2 y2 hm hq).mono ?_
        rw [HRR.out]
        rintro e w1 ⟨rfl, b1⟩
        go_wp2_with fail
        go_ret
        exact ⟨by rw [HR.out]; rfl, b2.trans (b1.mono b2.size)⟩
      · have HR := Lib.hid (show decide (x = y) = true by
          have hrr := of_decide_eq_true hr
          apply decide_eq_true
          have h1 := HU.out
          have h2 := HD.out
          cases x
          cases y
          simp_all)
        have HRR := Lib.hid hr
        clear hr
        go_enter Tryd.func137, Tryd.ntmps137
        go_wp2_with fail
        refine (eqIntS_any _ _ _ _ _ _ x.r y.r _ x2 y2 hm hq).mono ?_
        rw [HRR.out]
        rintro e w1 ⟨rfl, b1⟩
        go_wp2_with fail
        go_ret
        exact ⟨by rw [HR.out]; rfl, b2.trans (b1.mono b2.size)⟩
    · have hd' : (x.d != y.d) = true := by rw [bne_iff_ne]; exact hd
      have HR := Lib.hid (show decide (x = y) = false by apply decide_eq_false; rintro rfl; exact hd rfl)
      clear hd
      go_enter Tryd.func137, Tryd.ntmps137
      go_wp2_with fail
      go_ret
      exact ⟨by rw [HR.out]; rfl, b2⟩
  · have hu' : (!x.u == y.u) = true := by simp [hu]
    have HR := Lib.hid (show decide (x = y) = false by apply decide_eq_false; rintro rfl; exact hu rfl)
    clear hu
    go_enter Tryd.func137, Tryd.ntmps137
    go_wp2_with fail
    go_ret
    exact ⟨by rw [HR.out]; rfl, b2⟩
theorem take_eq_succC {xs ys : List Cl} {k : Nat} {x y : Cl} (h : xs.take k = ys.take k) (hx : xs[k]? = some x) (hy : ys[k]? = some y) (he : decide (x = y) = true) : xs.take (k + 1) = ys.take (k + 1) := by
  rw [List.take_add_one, List.take_add_one, h, hx, hy, of_decide_eq_true he]
theorem ne_of_atC {xs ys : List Cl} {k : Nat} {x y : Cl} (hx : xs[k]? = some x) (hy : ys[k]? = some y) (he : decide (x = y) = false) : decide (xs = ys) = false := by
  apply decide_eq_false
  rintro rfl
  rw [hx] at hy
  injection hy with hy
  exact of_decide_eq_false he hy
set_option maxHeartbeats 1000000 in
theorem eqCellS_any (A B : Option Addr) (n m c d : Nat) (xs ys : List Cl) (w : World) (h : CS w w.heap.size A n xs) (h' : CS w w.heap.size B m ys) (hn : n ≤ 1099511627776) (hm : m ≤ 1099511627776) (hb : ∀ cl ∈ xs, cl.r.length ≤ 1099511627776) (hb' : ∀ cl ∈ ys, cl.r.length ≤ 1099511627776) :
    Calls Tryd.prog 102 #[.slice A n c, .slice B m d] w fun e w' => e = .returned (.bool (decide (xs = ys))) ∧ Below w.heap.size w w' := by
  have HL := Lib.hid h.1
  have HL' := Lib.hid h'.1
  have HB := Lib.hid hb
  have HB' := Lib.hid hb'
  clear hb hb'
  by_cases hnm : n = m
  · subst hnm
    go_enter Tryd.func102, Tryd.ntmps102
    go_wp2
    go_loopw [5] (fun i wr => ∃ (k : Nat), k ≤ n ∧ i = .int .i64 k ∧ Hid (xs.take k = ys.take k) ∧ Below w.heap.size w wr) (fun i _ => n - (intOf i).toNat)
    case atStart => exact ⟨0, Nat.zero_le _, rfl, by simp [Hid], Below.refl _ _⟩
    case round =>
      obtain ⟨k, hk, rfl, hpre, hb⟩ := hrel
      by_cases hlt : k < n
      · obtain ⟨g, o, x, A1, m1, c1, rfl, hg, hx, p1, p2, p3, _, hi⟩ := (h.below hb).at_ hlt
        obtain ⟨g', o', y, B1, q1, d1, rfl, hg', hx', r1, r2, r3, _, hi'⟩ := (h'.below hb).at_ hlt
        have HX := Lib.hid hx
        have HX' := Lib.hid hx'
        have hm1 : m1 ≤ 1099511627776 := by have := HB.out x (List.mem_of_getElem? hx); have := hi.1; omega
        have hq1 : q1 ≤ 1099511627776 := by have := HB'.out y (List.mem_of_getElem? hx'); have := hi'.1; omega
        have hi2 : IS wr.drew wr.drew.heap.size A1 m1 x.r := hi.more hb.size
        have hi2' : IS wr.drew wr.drew.heap.size B1 q1 y.r := hi'.more hb.size
        clear hx hx' hi hi'
        go_wp2
        go_still_tail 8, (by kernel_rfl)
        change wpList _ _ _ _ _ wr.drew
        have hbd : Below w.heap.size w wr.drew := hb.drew
        generalize wr.drew = w2 at hbd hi2 hi2'
        cases he : decide (x = y)
        all_goals
          have HE := Lib.hid he
          clear he
          go_wp2_with (go_at_call 137; refine (eqCell_any x y _ _ _ _ _ _ _ hi2 hi2' hm1 hq1).mono ?_; rw [HE.out]; rintro e w1 ⟨rfl, hb1⟩)
        · go_ret
          exact ⟨ret_bool (ne_of_atC HX.out HX'.out HE.out).symm, hbd.trans (hb1.mono hbd.size)⟩
        · go_roundw
          case rel => exact ⟨k + 1, by omega, by go_num, Lib.hid (take_eq_succC hpre.out HX.out HX'.out HE.out), hbd.trans (hb1.mono hbd.size)⟩
          case measure => simp [intOf]; omega
      · have hkn : k = n := by omega
        have HK := Lib.hid hkn
        clear hkn
        go_wp2
        go_ret
        refine ⟨ret_bool ?_, hb⟩
        have hp := hpre.out
        rw [HK.out, List.take_of_length_le (by rw [HL.out]; omega), List.take_of_length_le (by rw [HL'.out]; omega)] at hp
        simp [hp]
  · have hne : ((n : Int) != m) = true := by rw [bne_iff_ne]; omega
    have HN := Lib.hid hnm
    clear hnm
    go_enter Tryd.func102, Tryd.ntmps102
    go_wp2
    go_ret
    refine ⟨ret_bool ?_, Below.refl _ _⟩
    simp
    rintro rfl
    exact HN.out (HL.out.symm.trans HL'.out)
set_option maxHeartbeats 1000000 in
theorem eqHeap_any (A R A' R' : Option Addr) (n c m d n' c' m' d' : Nat) (x y : Hp) (w : World) (hx : HS w w.heap.size A n R m x) (hy : HS w w.heap.size A' n' R' m' y) (hn : n ≤ 1099511627776) (hm : m ≤ 1099511627776) (hn' : n' ≤ 1099511627776) (hm' : m' ≤ 1099511627776) (hb : ∀ cl ∈ x.cs, cl.r.length ≤ 1099511627776) (hb' : ∀ cl ∈ y.cs, cl.r.length ≤ 1099511627776) :
    Calls Tryd.prog 44 #[heapV A n c R m d, heapV A' n' c' R' m' d'] w fun e w' => e = .returned (.bool (decide (x = y))) ∧ Below w.heap.size w w' := by
  have b2 : Below w.heap.size w ((w.alloc (.cells #[.slice A n c, .slice R m d] 26)).alloc (.cells #[.slice A' n' c', .slice R' m' d'] 26)) := ((Below.refl w.heap.size w).alloc (Nat.le_refl _) _).alloc (by simp) _
  have x2 := hx.up b2
  have y2 := hy.up b2
  have r0 := (Rw.new w 26 #[.slice A n c, .slice R m d]).alloc (.cells #[.slice A' n' c', .slice R' m' d'] 26)
  have r1 := Rw.new (w.alloc (.cells #[.slice A n c, .slice R m d] 26)) 26 #[.slice A' n' c', .slice R' m' d']
  simp only [World.size_alloc] at r1
  cases hc : decide (x.cs = y.cs)
  · have HC := Lib.hid hc
    have HR := Lib.hid (show decide (x = y) = false by
      have hne := of_decide_eq_false hc
      apply decide_eq_false
      rintro rfl
      exact hne rfl)
    clear hc
    go_enter Tryd.func44, Tryd.ntmps44
    go_wp2_with fail
    refine (eqCellS_any _ _ _ _ _ _ x.cs y.cs _ x2.cells y2.cells hn hn' hb hb').mono ?_
    rw [HC.out]
    rintro e w1 ⟨rfl, b1⟩
    go_wp2_with fail
    go_ret
    exact ⟨by rw [HR.out]; rfl, b2.trans (b1.mono b2.size)⟩
  · have HC := Lib.hid hc
    clear hc
    cases hr : decide (x.rt = y.rt)
    all_goals
      have HRT := Lib.hid hr
      have HR := Lib.hid (show decide (x = y) = decide (x.rt = y.rt) by
        have e1 := of_decide_eq_true HC.out
        rw [decide_eq_decide]
        cases x
        cases y
        simp_all)
      clear hr
      go_enter Tryd.func44, Tryd.ntmps44
      go_wp2_with fail
      refine (eqCellS_any _ _ _ _ _ _ x.cs y.cs _ x2.cells y2.cells hn hn' hb hb').mono ?_
      rw [HC.out]
      rintro e w1 ⟨rfl, b1⟩
      have bb1 := b2.trans (b1.mono b2.size)
      have c0 := r0.keep b1 (by simp; omega)
      have c1 := r1.keep b1 (by simp)
      have x3 := x2.up b1
      have y3 := y2.up b1
      have z0 : w1.cell? ⟨w.heap.size, 1, none⟩ = some (.slice R m d) := c0.cell 1
      have z1 : w1.cell? ⟨w.heap.size + 1, 1, none⟩ = some (.slice R' m' d') := c1.cell 1
      clear c0 c1 r0 r1 x2 y2
      go_wp2_with fail
      refine (eqIntS_any _ _ _ _ _ _ x.rt y.rt _ x3.roots y3.roots hm hm').mono ?_
      rw [HRT.out]
      rintro e w2 ⟨rfl, b2'⟩
      go_wp2_with fail
      go_ret
      exact ⟨by rw [HR.out, HRT.out]; rfl, bb1.trans (b2'.mono bb1.size)⟩
end Go.Proofs.YthmddmddcdofaaaDoor
namespace Go.Proofs.YthmddmddcdofaaaDoor
open Go.ChangeShapes Go.WideShapes Go.ChangeAt Go.RowKit Go.Deep
set_option maxRecDepth 100000
/-- how many references the first k cells have -/
def refN (cs : List Cl) (k : Nat) : Nat := ((cs.take k).map (·.r.length)).sum
theorem refN_succ {cs : List Cl} {k : Nat} {c : Cl} (h : cs[k]? = some c) : refN cs (k + 1) = refN cs k + c.r.length := by
  simp [refN, List.take_add_one, h]
theorem refN_mono (cs : List Cl) : ∀ {j k : Nat}, j ≤ k → refN cs j ≤ refN cs k := by
  intro j k hjk
  induction hjk with
  | refl => exact Nat.le_refl _
  | step _ ih =>
    refine Nat.le_trans ih ?_
    rename_i k _
    cases h : cs[k]? with
    | none => simp [refN, List.take_add_one, h]
    | some c => rw [refN_succ h]; omega
theorem refN_mem {cs : List Cl} {c : Cl} (hc : c ∈ cs) : c.r.length ≤ refN cs cs.length := by
  obtain ⟨k, hk⟩ := List.mem_iff_getElem?.1 hc
  have h1 := refN_succ hk
  have h2 := refN_mono cs (j := k + 1) (k := cs.length) (List.getElem?_eq_some_iff.1 hk).1
  omega
/-- what is left of l -/
def leftOf (l : Int) (n : Nat) : Int := if (n : Int) ≤ l then l - n else -1
set_option maxHeartbeats 1000000 in
theorem szCell_any (cl : Cl) (A : Option Addr) (m cc : Nat) (l : Int) (w : World) (h0 : 0 ≤ l) (h1 : l ≤ 1099511627776) (hm : m ≤ 9223372036854775807) :
    Calls Tryd.prog 135 #[.agg #[.bool cl.u, .int .i64 cl.d, .slice A m cc], .int .i64 l] w fun e w' => e = .returned (.int .i64 (leftOf l m)) ∧ Below w.heap.size w w' := by
  have b1 : Below w.heap.size w (w.alloc (.cells #[.bool cl.u, .int .i64 cl.d, .slice A m cc] 161)) := (Below.refl _ _).alloc (Nat.le_refl _) _
  unfold leftOf
  by_cases h : (m : Int) ≤ l
  · have HI := Lib.hid (show (if (m : Int) ≤ l then l - m else -1) = l - m from if_pos h)
    have h' : decide (l - (m : Int) < 0) = false := decide_eq_false (by omega)
    go_enter Tryd.func135, Tryd.ntmps135
    go_wp2_with fail
    refine (szIntS_any _ _ _ _ _ h0 h1 hm).mono ?_
    rw [HI.out]
    rintro e w' ⟨rfl, rfl⟩
    go_wp2_with fail
    go_ret
    exact ⟨rfl, b1⟩
  · have HI := Lib.hid (show (if (m : Int) ≤ l then l - m else -1) = -1 from if_neg h)
    go_enter Tryd.func135, Tryd.ntmps135
    go_wp2_with fail
    refine (szIntS_any _ _ _ _ _ h0 h1 hm).mono ?_
    rw [HI.out]
    rintro e w' ⟨rfl, rfl⟩
    go_wp2_with fail
    go_ret
    exact ⟨rfl, b1⟩
set_option maxHeartbeats 2000000 in
theorem szCellS_any (A : Option Addr) (n c : Nat) (cs : List Cl) (l : Int) (w : World) (h : CS w w.heap.size A n cs) (h0 : 0 ≤ l) (h1 : l ≤ 1099511627776) (hn : n ≤ 9223372036854775807) (hb : ∀ cl ∈ cs, cl.r.length ≤ 9223372036854775807) :
    Calls Tryd.prog 98 #[.slice A n c, .int .i64 l] w fun e w' => e = .returned (.int .i64 (leftOf l (n + refN cs n))) ∧ Below w.heap.size w w' := by
  have HB := Lib.hid hb
  clear hb
  by_cases hl : (n : Int) ≤ l
  · have hl' : decide (l - (n : Int) < 0) = false := decide_eq_false (by omega)
    go_enter Tryd.func98, Tryd.ntmps98
    go_wp2_with fail
    go_loopw [1, 5] (fun q i wr => ∃ k : Nat, k ≤ n ∧ i = .int .i64 k ∧ q = .int .i64 (l - n - refN cs k) ∧ (0 : Int) ≤ l - n - refN cs k ∧ Below w.heap.size w wr) (fun _ i _ => n - (intOf i).toNat)
    case atStart => exact ⟨0, Nat.zero_le _, rfl, by simp [refN], by simp [refN]; omega, Below.refl _ _⟩
    case round =>
      obtain ⟨k, hk, rfl, rfl, hnn, bb⟩ := hrel
      by_cases hlt : k < n
      · obtain ⟨g, o, cl, A', m', cc, e1, hg, hcl, d1, d2, d3, hmc, hi⟩ := (h.below bb).at_ hlt
        subst e1
        have hlt' : (k : Int) < n := by omega
        have hm3 : m' ≤ 9223372036854775807 := by have := HB.out cl (List.mem_of_getElem? hcl); have := hi.1; omega
        have hs := refN_succ hcl
        rw [hi.1] at hs
        have hle := refN_mono cs (j := k + 1) (k := n) (by omega)
        obtain ⟨r, hr⟩ : ∃ r, refN cs k = r := ⟨_, rfl⟩
        rw [hr] at hs hnn ⊢
        have HS := Lib.hid hs
        have HLE := Lib.hid hle
        clear hcl hs hle hr
        by_cases hfit : (m' : Int) ≤ l - n - r
        · have HF := Lib.hid (show leftOf (l - n - r) m' = l - n - r - m' from if_pos hfit)
          have hq0 : decide (l - (n : Int) - (r : Int) - (m' : Int) < 0) = false := decide_eq_false (by omega)
          go_wp2_with fail
          refine (szCell_any cl _ _ _ _ _ hnn (by omega) hm3).mono ?_
          rw [HF.out]
          rintro e w1 ⟨rfl, b1⟩
          go_wp2_with fail
          go_roundw
          case rel => exact ⟨k + 1, by omega, by go_num, int_eq (by rw [HS.out]; omega), by rw [HS.out]; omega, bb.trans (b1.mono bb.size)⟩
          case measure => simp [intOf]; omega
        · have HF := Lib.hid (show leftOf (l - n - r) m' = -1 from if_neg hfit)
          have HR := Lib.hid (show leftOf l (n + refN cs n) = -1 from if_neg (by have := HS.out; have := HLE.out; omega))
          go_wp2_with fail
          refine (szCell_any cl _ _ _ _ _ hnn (by omega) hm3).mono ?_
          rw [HF.out]
          rintro e w1 ⟨rfl, b1⟩
          go_wp2_with fail
          go_ret
          exact ⟨by rw [HR.out]; rfl, bb.trans (b1.mono bb.size)⟩
      · obtain rfl : k = n := by omega
        have HR := Lib.hid (show leftOf l (k + refN cs k) = l - k - refN cs k by rw [leftOf, if_pos (by omega)]; omega)
        go_wp2_with fail
        go_ret
        exact ⟨by rw [HR.out]; rfl, bb⟩
  · have hl' : l - (n : Int) < 0 := by omega
    have HR := Lib.hid (show leftOf l (n + refN cs n) = -1 from if_neg (by omega))
    go_enter Tryd.func98, Tryd.ntmps98
    go_wp2_with fail
    go_ret
    exact ⟨by rw [HR.out]; rfl, Below.refl _ _⟩
/-- all that a heap has: cells, references and roots -/
def sizeH (h : Hp) : Nat := h.cs.length + refN h.cs h.cs.length + h.rt.length
set_option maxHeartbeats 1000000 in
theorem szHeap_any (A R : Option Addr) (n c m d : Nat) (h : Hp) (l : Int) (w : World) (hs : HS w w.heap.size A n R m h) (h0 : 0 ≤ l) (h1 : l ≤ 1099511627776) (hn : n ≤ 9223372036854775807) (hm : m ≤ 9223372036854775807) (hb : ∀ cl ∈ h.cs, cl.r.length ≤ 9223372036854775807) :
    Calls Tryd.prog 41 #[heapV A n c R m d, .int .i64 l] w fun e w' => e = .returned (.int .i64 (leftOf l (sizeH h))) ∧ Below w.heap.size w w' := by
  have b1 : Below w.heap.size w (w.alloc (.cells #[.slice A n c, .slice R m d] 60)) := (Below.refl _ _).alloc (Nat.le_refl _) _
  have s1 := hs.up b1
  have r0 := Rw.new w 60 #[.slice A n c, .slice R m d]
  have hsz : sizeH h = n + refN h.cs n + m := by rw [sizeH, hs.cells.1, hs.roots.1]
  by_cases hf : ((n + refN h.cs n : Nat) : Int) ≤ l
  · have HF := Lib.hid (show leftOf l (n + refN h.cs n) = l - (n + refN h.cs n : Nat) from if_pos hf)
    have hq : decide (l - ((n + refN h.cs n : Nat) : Int) < 0) = false := decide_eq_false (by omega)
    obtain ⟨q, hq'⟩ : ∃ q : Int, l - ((n + refN h.cs n : Nat) : Int) = q := ⟨_, rfl⟩
    rw [hq'] at HF hq
    have hq0 : 0 ≤ q := by omega
    have hq1 : q ≤ 1099511627776 := by omega
    have HL := Lib.hid (show leftOf l (sizeH h) = leftOf q m by
      unfold leftOf
      rw [hsz]
      by_cases e : (m : Int) ≤ q
      · rw [if_pos e, if_pos (by omega)]; omega
      · rw [if_neg e, if_neg (by omega)])
    clear hq' hf
    by_cases e : (m : Int) ≤ q
    · have HE := Lib.hid (show (if (m : Int) ≤ q then q - m else -1) = q - m from if_pos e)
      have he : decide (q - (m : Int) < 0) = false := decide_eq_false (by omega)
      go_enter Tryd.func41, Tryd.ntmps41
      go_wp2_with fail
      refine (szCellS_any _ _ _ h.cs _ _ s1.cells h0 h1 hn hb).mono ?_
      rw [HF.out]
      rintro e' w1 ⟨rfl, b2⟩
      have z1 : w1.cell? ⟨w.heap.size, 1, none⟩ = some (.slice R m d) := (r0.keep b2 (by simp)).cell 1
      go_wp2_with fail
      refine (szIntS_any _ _ _ _ _ hq0 hq1 hm).mono ?_
      rw [HE.out]
      rintro e' w2 ⟨rfl, rfl⟩
      go_wp2_with fail
      go_ret
      exact ⟨by rw [HL.out, leftOf, HE.out]; rfl, b1.trans (b2.mono b1.size)⟩
    · have HE := Lib.hid (show (if (m : Int) ≤ q then q - m else -1) = -1 from if_neg e)
      go_enter Tryd.func41, Tryd.ntmps41
      go_wp2_with fail
      refine (szCellS_any _ _ _ h.cs _ _ s1.cells h0 h1 hn hb).mono ?_
      rw [HF.out]
      rintro e' w1 ⟨rfl, b2⟩
      have z1 : w1.cell? ⟨w.heap.size, 1, none⟩ = some (.slice R m d) := (r0.keep b2 (by simp)).cell 1
      go_wp2_with fail
      refine (szIntS_any _ _ _ _ _ hq0 hq1 hm).mono ?_
      rw [HE.out]
      rintro e' w2 ⟨rfl, rfl⟩
      go_wp2_with fail
      go_ret
      exact ⟨by rw [HL.out, leftOf, HE.out]; rfl, b1.trans (b2.mono b1.size)⟩
  · have HF := Lib.hid (show leftOf l (n + refN h.cs n) = -1 from if_neg hf)
    have HL := Lib.hid (show leftOf l (sizeH h) = -1 from if_neg (by rw [hsz]; omega))
    go_enter Tryd.func41, Tryd.ntmps41
    go_wp2_with fail
    refine (szCellS_any _ _ _ h.cs _ _ s1.cells h0 h1 hn hb).mono ?_
    rw [HF.out]
    rintro e' w1 ⟨rfl, b2⟩
    go_wp2_with fail
    go_ret
    exact ⟨by rw [HL.out]; rfl, b1.trans (b2.mono b1.size)⟩
end Go.Proofs.YthmddmddcdofaaaDoor
namespace Go.Proofs.YthmddmddcdofaaaDoor
open Go.RowKit
set_option maxRecDepth 100000
/-- only blocks of the values l have been written -/
structure Touched (w w' : World) (l : List Value) : Prop where
  os : w'.os = w.os
  tape : w'.tape = w.tape
  output : w'.output = w.output
  size : w.heap.size ≤ w'.heap.size
  block : ∀ j, j < w.heap.size → (∀ v ∈ l, v.ownBlock ≠ some j) → w'.heap[j]? = w.heap[j]?
theorem Touched.refl (w : World) (l : List Value) : Touched w w l := ⟨rfl, rfl, rfl, Nat.le_refl _, fun _ _ _ => rfl⟩
theorem Touched.grown {w w1 w2 : World} {l : List Value} {v : Value} (h : Touched w w1 l) (hg : w1.grownBy w2 v.ownBlock) (hv : v ∈ l) : Touched w w2 l :=
  ⟨hg.os.trans h.os, hg.tape.trans h.tape, hg.output.trans h.output, Nat.le_trans h.size hg.size, fun j hj hn => (hg.block j (Nat.lt_of_lt_of_le hj h.size) (fun e => hn v hv e.symm)).trans (h.block j hj hn)⟩
theorem Touched.put {w w1 : World} {l : List Value} {g : Nat} {v : Value} (h : Touched w w1 l) (hv : v ∈ l) (hg : v.ownBlock = some g) (i : Nat) (u : Value) : Touched w (w1.setCell ⟨g, i, none⟩ u) l :=
  h.grown (v := v) (by rw [hg]; exact put_any w1 g i u) hv
theorem Touched.below {w0 w w' : World} {B : Nat} {l : List Value} (h : Touched w w' l) (hb : Below B w0 w) (hB : B ≤ w.heap.size) (hl : ∀ v ∈ l, ∀ k, v.ownBlock = some k → B ≤ k) : Below B w0 w' :=
  ⟨h.os.trans hb.os, h.tape.trans hb.tape, h.output.trans hb.output, Nat.le_trans hb.size h.size, fun j hj => (h.block j (by omega) (fun v hv e => by have := hl v hv j e; omega)).trans (hb.block j hj)⟩
theorem Touched.first {w w' : World} {o : Obj} {l : List Value} (h : Touched (w.alloc o) w' l) : Touched w w' l :=
  ⟨h.os, h.tape, h.output, Nat.le_trans (by simp) h.size, fun j hj hn => (h.block j (by simp; omega) hn).trans (Below.heap_alloc w o j hj)⟩
theorem Touched.more {w w' : World} {l l' : List Value} (h : Touched w w' l) (hl : ∀ v ∈ l, v ∈ l') : Touched w w' l' :=
  ⟨h.os, h.tape, h.output, h.size, fun j hj hn => h.block j hj fun v hv => hn v (hl v hv)⟩
theorem Rw.touched {w w' : World} {g : Nat} {t : TypeId} {cs : Array Value} {l : List Value} (h : Rw w g t cs) (ht : Touched w w' l) (hn : ∀ v ∈ l, v.ownBlock ≠ some g) : Rw w' g t cs := (ht.block g h.lt hn).trans h
theorem row_touched {w w' : World} {base n s : Nat} {e : TypeId} {v : Value} {xs : List Value} {l : List Value} (h : w.ownsRow base e s v n xs) (ht : Touched w w' l) (hne : ∀ u ∈ l, v.ownBlock = none ∨ v.ownBlock ≠ u.ownBlock) : w'.ownsRow base e s v n xs := by
  refine ⟨h.1, ?_⟩
  rcases h.2 with h0 | ⟨g, cap, cur, e, hb', hh, hr⟩
  · exact .inl h0
  · refine .inr ⟨g, cap, cur, e, hb', (ht.block g (Array.getElem?_eq_some_iff.1 hh).1 (fun u hu eu => ?_)).trans hh, hr⟩
    rcases hne u hu with h1 | h1
    · rw [e] at h1; simp [Value.ownBlock] at h1
    · apply h1; rw [e, eu]; simp [Value.ownBlock]
/-- whether a cell is used is written -/
theorem OwnHx.used {w : World} {base g c k : Nat} {vr : Value} {rvs : List Value} {h : Hp} {cl : Cl} (S : OwnHx w base (.slice (some ⟨g, 0, none⟩) h.cs.length c) vr rvs h) (hc : h.cs[k]? = some cl) (b : Bool) :
    OwnHx (w.setCell ⟨g, k * 3, none⟩ (.bool b)) base (.slice (some ⟨g, 0, none⟩) h.cs.length c) vr rvs ⟨h.cs.set k ⟨b, cl.d, cl.r⟩, h.rt⟩ := by
  have ap : ∀ v ∈ vr :: rvs, v.ownBlock = none ∨ v.ownBlock ≠ some g := S.apart_cells
  refine ⟨by simp [S.len], ?_, fun j c' v hc' hv => ?_, S.roots.far (put_any w g _ _) (ap vr (by simp)), S.sep⟩
  · have := (World.ownsRow.stored S.row (k * 3) (.bool b)).1
    rw [flatC_set_u _ _ _ _ _ S.len hc] at this
    simpa using this
  · rw [List.getElem?_set] at hc'
    have hmem := List.mem_of_getElem? hv
    by_cases hj : k = j
    · subst hj
      rw [if_pos rfl, if_pos (List.getElem?_eq_some_iff.1 hc).1] at hc'
      injection hc' with hc'
      subst hc'
      exact (S.refs k cl v hc hv).far (put_any w g _ _) (ap v (by simp [hmem]))
    · rw [if_neg hj] at hc'
      exact (S.refs j c' v hc' hv).far (put_any w g _ _) (ap v (by simp [hmem]))
/-- all references of a cell are written -/
theorem OwnHx.refAll {w w' : World} {base k : Nat} {vc vr v : Value} {rvs : List Value} {h : Hp} {cl : Cl} {xs : List Int} (S : OwnHx w base vc vr rvs h) (hc : h.cs[k]? = some cl) (hv : rvs[k]? = some v) (o : OwnI w' base v xs) (hg : w.grownBy w' v.ownBlock) :
    OwnHx w' base vc vr rvs ⟨h.cs.set k ⟨cl.u, cl.d, xs⟩, h.rt⟩ := by
  have hmem := List.mem_of_getElem? hv
  have hvc : vc.ownBlock = none ∨ vc.ownBlock ≠ v.ownBlock := sep_back (S.apart_cells v (List.mem_cons_of_mem _ hmem))
  have hvr : vr.ownBlock = none ∨ vr.ownBlock ≠ v.ownBlock := sep_back (S.apart_roots v (List.mem_cons_of_mem _ hmem))
  have hgt : ∀ (j : Nat) (u : Value), j ≠ k → rvs[j]? = some u → u.ownBlock = none ∨ u.ownBlock ≠ v.ownBlock := fun j u hj hvj => by
    have hs := S.sep
    unfold Sep at hs
    rw [List.pairwise_cons, List.pairwise_cons] at hs
    rcases Nat.lt_or_ge j k with h1 | h1
    · exact Sep.get hs.2.2 hvj hv h1
    · exact sep_back (Sep.get hs.2.2 hv hvj (by omega))
  refine ⟨by simp [S.len], ?_, fun j c' u hc' hvj => ?_, S.roots.far hg hvr, S.sep⟩
  · have := World.ownsRow.kept S.row hg hvc
    rw [List.length_set, flatC_refs _ _ _ _ _ hc]
    exact this
  · rw [List.getElem?_set] at hc'
    by_cases hj : k = j
    · subst hj
      rw [if_pos rfl, if_pos (List.getElem?_eq_some_iff.1 hc).1] at hc'
      injection hc' with hc'
      subst hc'
      rw [hv] at hvj
      injection hvj with hvj
      subst hvj
      exact o
    · rw [if_neg hj] at hc'
      exact (S.refs j c' u hc' hvj).far hg (hgt j u (by omega) hvj)
/-- the mark before cell i -/
def mkK (k : Int) (cs : List Cl) (i : Nat) : Int := k + 2 * i + refN cs i
def mkCl (k : Int) (c : Cl) : Cl := ⟨k % 3 == 0, k + 1, marksI (k + 1 + 1) c.r.length⟩
/-- the first i cells marked -/
def mkTo (k : Int) (cs : List Cl) : Nat → List Cl
  | 0 => cs
  | i + 1 => match cs[i]? with
    | some c => (mkTo k cs i).set i (mkCl (mkK k cs i) c)
    | none => mkTo k cs i
theorem mkTo_len (k : Int) (cs : List Cl) : ∀ i, (mkTo k cs i).length = cs.length
  | 0 => rfl
  | i + 1 => by
    simp only [mkTo]
    split
    · rw [List.length_set, mkTo_len k cs i]
    · exact mkTo_len k cs i
theorem mkTo_succ {k : Int} {cs : List Cl} {i : Nat} {c : Cl} (h : cs[i]? = some c) : mkTo k cs (i + 1) = (mkTo k cs i).set i (mkCl (mkK k cs i) c) := by simp [mkTo, h]
theorem mkTo_later {k : Int} {cs : List Cl} : ∀ {i j : Nat}, i ≤ j → (mkTo k cs i)[j]? = cs[j]?
  | 0, _, _ => rfl
  | i + 1, j, h => by
    simp only [mkTo]
    split
    · rw [List.getElem?_set, if_neg (by omega), mkTo_later (by omega)]
    · exact mkTo_later (by omega)
theorem mkTo_done {k : Int} {cs : List Cl} {j : Nat} {c : Cl} (hc : cs[j]? = some c) : ∀ {i : Nat}, j < i → (mkTo k cs i)[j]? = some (mkCl (mkK k cs j) c)
  | 0, h => by omega
  | i + 1, h => by
    have hj := (List.getElem?_eq_some_iff.1 hc).1
    rcases Nat.eq_or_lt_of_le (show j ≤ i by omega) with e | e
    · subst e
      rw [mkTo_succ hc, List.getElem?_set, if_pos rfl, if_pos (by rw [mkTo_len]; exact hj)]
    · have ih := mkTo_done (k := k) hc e
      simp only [mkTo]
      split
      · rw [List.getElem?_set, if_neg (by omega)]
        exact ih
      · exact ih
theorem mkK_succ {k : Int} {cs : List Cl} {i : Nat} {c : Cl} (h : cs[i]? = some c) : mkK k cs (i + 1) = mkK k cs i + 1 + 1 + c.r.length := by
  simp only [mkK]
  rw [refN_succ h]
  omega
set_option maxHeartbeats 2000000 in
theorem markCellS_any (vc vr : Value) (rvs : List Value) (h : Hp) (k : Int) (base : Nat) (w : World) (S : OwnHx w base vc vr rvs h) (hk : 0 ≤ k) (hk2 : k ≤ 1000000000) (hn : sizeH h ≤ 1000000000) :
    Calls Tryd.prog 104 #[vc, .int .i64 k] w fun e w' => e = .returned (.int .i64 (mkK k h.cs h.cs.length)) ∧ OwnHx w' base vc vr rvs ⟨mkTo k h.cs h.cs.length, h.rt⟩ ∧ Touched w w' (vc :: rvs) := by
  obtain ⟨A, c, R, d, rfl, rfl, _, _, fA, _⟩ := S.form
  obtain ⟨n, hn'⟩ : ∃ n, h.cs.length = n := ⟨_, rfl⟩
  have hsz : n + refN h.cs n ≤ 1000000000 := by unfold sizeH at hn; rw [hn'] at hn; omega
  obtain ⟨v0, hv0⟩ : ∃ v0, Value.slice R h.rt.length d = v0 := ⟨_, rfl⟩
  rw [hv0] at S ⊢
  rw [hn'] at S fA ⊢
  clear hv0 hn
  go_enter Tryd.func104, Tryd.ntmps104
  go_wp2_with fail
  go_loopw [1, 5] (fun q a wr => ∃ i : Nat, i ≤ n ∧ a = .int .i64 i ∧ q = .int .i64 (mkK k h.cs i) ∧ OwnHx wr base (.slice A n c) v0 rvs ⟨mkTo k h.cs i, h.rt⟩ ∧ Touched w wr (.slice A n c :: rvs)) (fun _ a _ => n - (intOf a).toNat)
  case atStart => exact ⟨0, Nat.zero_le _, rfl, by simp [mkK, refN], S, Touched.refl _ _⟩
  case round =>
    clear S
    obtain ⟨i, hi, rfl, rfl, S, T⟩ := hrel
    have hml := mkTo_len k h.cs i
    rw [hn'] at hml
    by_cases hlt : i < n
    · obtain ⟨g, rfl, hbg, hgl⟩ := fA (by omega)
      have hlt' : (i : Int) < n := by omega
      obtain ⟨cl, hcl⟩ : ∃ cl, h.cs[i]? = some cl := ⟨_, List.getElem?_eq_getElem (by omega)⟩
      have hcm : (mkTo k h.cs i)[i]? = some cl := by rw [mkTo_later (Nat.le_refl _)]; exact hcl
      obtain ⟨rv, hrv, hro⟩ := S.ref (k := i) (c := cl) hcm
      obtain ⟨A8, c8, e8, f8⟩ := hro.form
      subst e8
      have hrs := refN_succ hcl
      have hrm := refN_mono h.cs (j := i + 1) (k := n) (by omega)
      have hri := refN_mono h.cs (j := i) (k := i + 1) (by omega)
      obtain ⟨q, hq⟩ : ∃ q, mkK k h.cs i = q := ⟨_, rfl⟩
      have hq0 : 0 ≤ q := by rw [← hq]; simp only [mkK]; omega
      have hq1 : q + cl.r.length + 2 ≤ 4000000100 := by rw [← hq]; simp only [mkK]; omega
      have HQS := Lib.hid (mkK_succ (k := k) hcl)
      have HTS := Lib.hid (mkTo_succ (k := k) hcl)
      rw [hq] at HQS HTS ⊢
      -- the two numbers of the cell
      have ST : OwnHx wr base (.slice (some ⟨g, 0, none⟩) (Hp.mk (mkTo k h.cs i) h.rt).cs.length c) v0 rvs ⟨mkTo k h.cs i, h.rt⟩ := by
        show OwnHx wr base (.slice (some ⟨g, 0, none⟩) (mkTo k h.cs i).length c) v0 rvs ⟨mkTo k h.cs i, h.rt⟩
        rw [hml]
        exact S
      have S1 := ST.used hcm (q % 3 == 0)
      have hc1 : ((mkTo k h.cs i).set i ⟨q % 3 == 0, cl.d, cl.r⟩)[i]? = some ⟨q % 3 == 0, cl.d, cl.r⟩ := by simp [hml, hlt]
      have S1' : OwnHx (wr.setCell ⟨g, i * 3, none⟩ (.bool (q % 3 == 0))) base (.slice (some ⟨g, 0, none⟩) (Hp.mk ((mkTo k h.cs i).set i ⟨q % 3 == 0, cl.d, cl.r⟩) h.rt).cs.length c) v0 rvs ⟨(mkTo k h.cs i).set i ⟨q % 3 == 0, cl.d, cl.r⟩, h.rt⟩ := by
        simpa using S1
      have S2 := S1'.data hc1 (q + 1)
      have row := S.row
      simp only [hml] at row
      obtain ⟨p1, p2, p3⟩ := flatC_at _ _ _ _ _ hcm hrv
      have x1 := (World.ownsRow.cellAt row (i * 3) (by omega)).trans p1
      have x2 := (World.ownsRow.cellAt row (i * 3 + 1) (by omega)).trans p2
      have z1 := World.ownsRow.frozenAt row (i * 3)
      have row2 := S2.row
      have hl2 : (Hp.mk (((mkTo k h.cs i).set i ⟨q % 3 == 0, cl.d, cl.r⟩).set i ⟨q % 3 == 0, q + 1, cl.r⟩) h.rt).cs.length = n := by simp [hml]
      have T2 := (T.put (v := .slice (some ⟨g, 0, none⟩) n c) (by simp) rfl (i * 3) (.bool (q % 3 == 0))).put (v := .slice (some ⟨g, 0, none⟩) n c) (by simp) rfl (i * 3 + 1) (.int .i64 (q + 1))
      have hro2 := S2.refs i ⟨q % 3 == 0, q + 1, cl.r⟩ (.slice A8 cl.r.length c8) (by simp [hml, hlt]) hrv
      have hl1 : (Hp.mk ((mkTo k h.cs i).set i ⟨q % 3 == 0, cl.d, cl.r⟩) h.rt).cs.length = n := by simp [hml]
      have row1 := S1'.row
      simp only [hl1] at row1
      obtain ⟨_, p2', _⟩ := flatC_at _ _ _ _ _ hc1 hrv
      have y2 := (World.ownsRow.cellAt row1 (i * 3 + 1) (by omega)).trans p2'
      have z2 := World.ownsRow.frozenAt row1 (i * 3 + 1)
      simp only [hl1, hl2] at row2
      have hc2 : (((mkTo k h.cs i).set i ⟨q % 3 == 0, cl.d, cl.r⟩).set i ⟨q % 3 == 0, q + 1, cl.r⟩)[i]? = some ⟨q % 3 == 0, q + 1, cl.r⟩ := by simp [hml, hlt]
      obtain ⟨_, _, p3'⟩ := flatC_at _ _ _ _ _ hc2 hrv
      have y3 := (World.ownsRow.cellAt row2 (i * 3 + 2) (by omega)).trans p3'
      simp only [hl1] at S2
      have FIN := Lib.hid (fun w' (o : OwnI w' base (.slice A8 cl.r.length c8) (marksI (q + 1 + 1) cl.r.length)) hg => S2.refAll (w' := w') hc2 hrv o hg)
      have HRO := Lib.hid hro2
      have hwr : ∀ W : World, W = W := fun _ => rfl
      clear ST S S1 S1' S2 row row1 row2 hc1 hc2 p1 p2 p3 p2' p3' hro hro2 f8 hcm hcl hrs hrm hri hq hwr
      go_wp2_with fail
      refine (markIntS_any _ cl.r _ _ _ HRO.out (by omega) (by omega) (by omega)).mono ?_
      rintro e w3 ⟨rfl, o3, g3⟩
      have T3 := T2.grown g3 (List.mem_cons_of_mem _ (List.mem_of_getElem? hrv))
      have F := FIN.out w3 o3 g3
      simp only [List.set_set] at F
      have NN := Lib.hid F
      clear F FIN HRO
      go_wp2_with fail
      go_roundw
      case rel => exact ⟨i + 1, by omega, by go_num, int_eq (by rw [HQS.out]), by rw [HTS.out]; exact NN.out, T3⟩
      case measure => simp [intOf]; omega
    · obtain rfl : i = n := by omega
      clear hml
      go_wp2_with fail
      go_ret
      exact ⟨rfl, S, T⟩
/-- a heap, marked; the mark behind it -/
def markH (k : Int) (h : Hp) : Hp := ⟨mkTo k h.cs h.cs.length, marksI (mkK k h.cs h.cs.length) h.rt.length⟩
def markKH (k : Int) (h : Hp) : Int := mkK k h.cs h.cs.length + h.rt.length
set_option maxHeartbeats 1000000 in
theorem markHeap_any (vc vr : Value) (rvs : List Value) (h : Hp) (k : Int) (base : Nat) (w : World) (S : OwnHx w base vc vr rvs h) (hk : 0 ≤ k) (hk2 : k ≤ 1000000000) (hn : sizeH h ≤ 1000000000) :
    Calls Tryd.prog 46 #[.agg #[vc, vr], .int .i64 k] w fun e w' => e = .returned (.int .i64 (markKH k h)) ∧ OwnHx w' base vc vr rvs (markH k h) ∧ Touched w w' (vc :: vr :: rvs) := by
  have b1 : Below w.heap.size w (w.alloc (.cells #[vc, vr] 26)) := (Below.refl _ _).alloc (Nat.le_refl _) _
  have S1 := S.below b1 (Nat.le_refl _)
  have r1 := Rw.new w 26 #[vc, vr]
  have hfar : ∀ v ∈ vc :: vr :: rvs, v.ownBlock ≠ some w.heap.size := fun v hv e => by have := (S.blocks hv e).2; omega
  have hs1 : h.cs.length + refN h.cs h.cs.length + h.rt.length ≤ 1000000000 := hn
  have hk0 : 0 ≤ mkK k h.cs h.cs.length := by simp only [mkK]; omega
  have hk1 : mkK k h.cs h.cs.length ≤ 1099511627776 := by simp only [mkK]; omega
  obtain ⟨q, hq⟩ : ∃ q, mkK k h.cs h.cs.length = q := ⟨_, rfl⟩
  have HQ := Lib.hid hq
  have HKH := Lib.hid (show markKH k h = q + h.rt.length by rw [markKH, hq])
  have HMH := Lib.hid (show markH k h = ⟨mkTo k h.cs h.cs.length, marksI q h.rt.length⟩ by rw [markH, hq])
  rw [hq] at hk0 hk1
  clear hq
  go_enter Tryd.func46, Tryd.ntmps46
  go_wp2_with fail
  refine (markCellS_any vc vr rvs h k base _ S1 hk hk2 hn).mono ?_
  rw [HQ.out]
  rintro e w2 ⟨rfl, S2, T2⟩
  have z1 : w2.cell? ⟨w.heap.size, 1, none⟩ = some vr := (Rw.touched r1 T2 (fun v hv => hfar v (by simp only [List.mem_cons] at hv ⊢; rcases hv with e | e <;> simp [e]))).cell 1
  have T2' : Touched w w2 (vc :: vr :: rvs) := T2.first.more (fun v hv => by simp only [List.mem_cons] at hv ⊢; rcases hv with e | e <;> simp [e])
  have hro : OwnI w2 base vr h.rt := S2.roots
  go_wp2_with fail
  refine (markIntS_any vr h.rt q base _ hro hk0 hk1 (by omega)).mono ?_
  rintro e w3 ⟨rfl, o3, g3⟩
  have T3 := T2'.grown g3 (by simp)
  have hapr := S2.apart_roots
  have S3 : OwnHx w3 base vc vr rvs (markH k h) := by
    rw [HMH.out]
    exact ⟨S2.len, World.ownsRow.kept S2.row g3 (hapr vc (by simp)), fun j c v hc hv => (S2.refs j c v hc hv).far g3 (hapr v (by simp [List.mem_of_getElem? hv])), o3, S2.sep⟩
  clear S2 T2 T2' hro hapr o3 g3
  go_wp2_with fail
  go_ret
  exact ⟨by rw [HKH.out]; rfl, S3, T3⟩
end Go.Proofs.YthmddmddcdofaaaDoor
namespace Go.Proofs.YthmddmddcdofaaaDoor
open Go.RowKit
set_option maxRecDepth 100000
set_option maxHeartbeats 2000000 in
theorem heldCellS_any (A : Option Addr) (n c : Nat) (cs : List Cl) (k : Int) (w : World) (h : CS w w.heap.size A n (mkTo k cs cs.length)) (hl : cs.length = n) (hk : 0 ≤ k) (hk2 : k ≤ 1000000000) (hn : n + refN cs n ≤ 1000000000) :
    Calls Tryd.prog 106 #[.slice A n c, .int .i64 k] w fun e w' => e = .returned (.int .i64 (mkK k cs n)) ∧ w = w' := by
  go_enter Tryd.func106, Tryd.ntmps106
  go_wp2_with fail
  go_loopw [1, 5] (fun q a wr => ∃ i : Nat, i ≤ n ∧ a = .int .i64 i ∧ q = .int .i64 (mkK k cs i) ∧ wr = w) (fun _ a _ => n - (intOf a).toNat)
  case atStart => exact ⟨0, Nat.zero_le _, rfl, by simp [mkK, refN], rfl⟩
  case round =>
    obtain ⟨i, hi, rfl, rfl, rfl⟩ := hrel
    by_cases hlt : i < n
    · have hlt' : (i : Int) < n := by omega
      obtain ⟨cl, hcl⟩ : ∃ cl, cs[i]? = some cl := ⟨_, List.getElem?_eq_getElem (by omega)⟩
      obtain ⟨g, o, mc, A', m', cc, e1, hg, hmc, d1, d2, d3, _, hir⟩ := h.at_ hlt
      subst e1
      rw [mkTo_done hcl (by omega)] at hmc
      injection hmc with hmc
      subst hmc
      have hm' := hir.1
      have hrs := refN_succ hcl
      have hrm := refN_mono cs (j := i + 1) (k := n) (by omega)
      obtain ⟨q, hq⟩ : ∃ q, mkK k cs i = q := ⟨_, rfl⟩
      have hq0 : 0 ≤ q := by rw [← hq]; simp only [mkK]; omega
      have hq1 : q + cl.r.length + 2 ≤ 4000000100 := by rw [← hq]; simp only [mkK]; omega
      have HQS := Lib.hid (mkK_succ (k := k) hcl)
      rw [hq] at HQS d1 d2 hir hm' ⊢
      simp only [mkCl] at d1 d2 hir hm'
      rw [marksI_len] at hm'
      subst hm'
      have hk0 : decide (q + 1 + 1 + (cl.r.length : Int) < 0) = false := decide_eq_false (by omega)
      clear hcl hrs hrm hq
      go_wp2_with fail
      refine (heldIntS_any _ _ _ _ _ hir (by omega) (by omega) (by omega)).mono ?_
      rintro e w' ⟨rfl, rfl⟩
      go_wp2_with fail
      go_roundw
      case rel => exact ⟨i + 1, by omega, by go_num, int_eq (by rw [HQS.out]), trivial⟩
      case measure => simp [intOf]; omega
    · obtain rfl : i = n := by omega
      go_wp2_with fail
      go_ret
      exact ⟨rfl, rfl⟩
set_option maxHeartbeats 1000000 in
theorem heldHeap_any (A R : Option Addr) (n c m d : Nat) (h : Hp) (k : Int) (w : World) (hs : HS w w.heap.size A n R m (markH k h)) (hl : h.cs.length = n) (hr : h.rt.length = m) (hk : 0 ≤ k) (hk2 : k ≤ 1000000000) (hn : sizeH h ≤ 1000000000) :
    Calls Tryd.prog 48 #[heapV A n c R m d, .int .i64 k] w fun e w' => e = .returned (.int .i64 (markKH k h)) ∧ Below w.heap.size w w' := by
  have b1 : Below w.heap.size w (w.alloc (.cells #[.slice A n c, .slice R m d] 26)) := (Below.refl _ _).alloc (Nat.le_refl _) _
  have s1 := hs.up b1
  have r1 := Rw.new w 26 #[.slice A n c, .slice R m d]
  have z1 : (w.alloc (.cells #[.slice A n c, .slice R m d] 26)).cell? ⟨w.heap.size, 1, none⟩ = some (.slice R m d) := r1.cell 1
  have hs1 : h.cs.length + refN h.cs h.cs.length + h.rt.length ≤ 1000000000 := hn
  have hk0 : 0 ≤ mkK k h.cs n := by simp only [mkK]; omega
  have hk1 : mkK k h.cs n ≤ 1099511627776 := by simp only [mkK]; rw [hl] at hs1; omega
  obtain ⟨q, hq⟩ : ∃ q, mkK k h.cs n = q := ⟨_, rfl⟩
  have HQ := Lib.hid hq
  have HKH := Lib.hid (show markKH k h = q + m by rw [markKH, hl, hr, hq])
  have c1 : CS (w.alloc (.cells #[.slice A n c, .slice R m d] 26)) (w.alloc (.cells #[.slice A n c, .slice R m d] 26)).heap.size A n (mkTo k h.cs h.cs.length) := s1.cells
  have i1 : IS (w.alloc (.cells #[.slice A n c, .slice R m d] 26)) (w.alloc (.cells #[.slice A n c, .slice R m d] 26)).heap.size R m (marksI q m) := by
    have := s1.roots
    simp only [markH] at this
    rw [hl, hq, hr] at this
    exact this
  rw [hq] at hk0 hk1
  have hq0 : decide (q < 0) = false := decide_eq_false (by omega)
  have hq1 : decide (q + (m : Int) < 0) = false := decide_eq_false (by omega)
  clear hq
  go_enter Tryd.func48, Tryd.ntmps48
  go_wp2_with fail
  refine (heldCellS_any _ _ _ h.cs _ _ c1 hl hk hk2 (by rw [hl] at hs1; omega)).mono ?_
  rw [HQ.out]
  rintro e w' ⟨rfl, rfl⟩
  go_wp2_with fail
  refine (heldIntS_any _ _ _ _ _ i1 hk0 hk1 (by omega)).mono ?_
  rintro e w' ⟨rfl, rfl⟩
  go_wp2_with fail
  go_ret
  exact ⟨by rw [HKH.out]; rfl, b1⟩
end Go.Proofs.YthmddmddcdofaaaDoor

namespace Go.Proofs.YthmddmddcdofaaaDoor
open Go.RowKit
set_option maxRecDepth 100000
theorem OwnHx.touched' {w w' : World} {base : Nat} {vc vr : Value} {rvs l : List Value} {h : Hp} (o : OwnHx w base vc vr rvs h) (ht : Touched w w' l) (hne : ∀ v ∈ vc :: vr :: rvs, ∀ u ∈ l, v.ownBlock = none ∨ v.ownBlock ≠ u.ownBlock) : OwnHx w' base vc vr rvs h :=
  ⟨o.len, row_touched o.row ht (hne vc (by simp)), fun k c v hc hv => row_touched (o.refs k c v hc hv) ht (hne v (by simp [List.mem_of_getElem? hv])), row_touched o.roots ht (hne vr (by simp)), o.sep⟩
theorem refN_le {cs : List Cl} {m : Nat} (h : ∀ cl ∈ cs, cl.r.length ≤ m) : ∀ k, k ≤ cs.length → refN cs k ≤ m * k
  | 0, _ => by simp [refN]
  | k + 1, hk => by
    have ih := refN_le h k (by omega)
    have hc := List.getElem?_eq_getElem (show k < cs.length by omega)
    have := h _ (List.mem_of_getElem? hc)
    rw [refN_succ hc, Nat.mul_add]
    omega
/-- what runs from an empty heap is small -/
def Tiny (h : Hp) : Prop := h.cs.length ≤ 40 ∧ h.rt.length ≤ 4 ∧ ∀ cl ∈ h.cs, cl.r.length ≤ 3
theorem Tiny.size {h : Hp} (t : Tiny h) : sizeH h ≤ 1000000000 := by
  have := refN_le t.2.2 _ (Nat.le_refl _)
  have h1 := t.1
  have h2 := t.2.1
  unfold sizeH
  omega
theorem tiny_zero : Tiny Hps.zeroH := ⟨by decide, by decide, fun cl hcl => by simp [Hps.zeroH] at hcl⟩
theorem tiny_valid {h : Hp} (hv : Hps.validH h = true) : Tiny h := by
  obtain ⟨a, b, c⟩ := Hps.valid_small hv
  exact ⟨a, by omega, c⟩
end Go.Proofs.YthmddmddcdofaaaDoor

namespace Go.Proofs.YthmddmddcdofaaaDoor
open Go.RowKit
set_option maxRecDepth 100000
theorem upd_keep {L : Nat → Bool} {i k : Nat} (h : L k = true) : upd L i k = true := by
  unfold upd
  split
  · rfl
  · exact h
abbrev cmCs (o : Cm) : Array Value := #[.int .i64 o.op, .int .i64 o.a, .int .i64 o.b, .int .i64 o.c]
/-- what is known while an instruction is drawn: it lies in the box b, the reader in gr -/
structure CmSt (w wr : World) (gr N b : Nat) (o : Cm) : Prop where
  rd : Rd wr gr N
  grown : w.grownBy wr (some gr)
  box : Rw wr b 49 (cmCs o)
  res : Rw wr w.heap.size 49 (cmCs ⟨0, 0, 0, 0⟩)
  lo : w.heap.size < b
  old : gr < w.heap.size
section
variable {w wr w' : World} {gr N b : Nat} {o : Cm}
theorem CmSt.alloc (S : CmSt w wr gr N b o) (ob : Obj) : CmSt w (wr.alloc ob) gr N b o :=
  ⟨S.rd.below ((Below.refl wr.heap.size wr).alloc (Nat.le_refl _) ob) S.rd.lt, World.grownBy.trans S.grown (World.grownBy_alloc wr ob _), S.box.alloc ob, S.res.alloc ob, S.lo, S.old⟩
theorem CmSt.more {N' : Nat} (S : CmSt w wr gr N b o) (h : N ≤ N') : CmSt w wr gr N' b o := ⟨S.rd.more h, S.grown, S.box, S.res, S.lo, S.old⟩
theorem CmSt.put (S : CmSt w wr gr N b o) (i : Nat) (u : Value) {o' : Cm} (h : (cmCs o).setIfInBounds i u = cmCs o') : CmSt w (wr.setCell ⟨b, i, none⟩ u) gr N b o' := by
  have h1 := S.lo
  have h2 := S.old
  have hb : Below b wr (wr.setCell ⟨b, i, none⟩ u) := (Below.refl b wr).setCell (p := ⟨b, i, none⟩) (Nat.le_refl _) u
  exact ⟨S.rd.below hb (by omega), grown_below S.grown (hb.mono (by omega)), h ▸ S.box.put i u, S.res.other (by omega) u, h1, h2⟩
end
/-- a number out of a table, at any index -/
theorem Tbl.two (w : World) (_gr : Nat) (t : TypeId) (x y : Int) : Rw (w.alloc (.cells #[.int .i64 x, .int .i64 y] t)) w.heap.size t #[.int .i64 x, .int .i64 y] := Rw.new _ _ _
end Go.Proofs.YthmddmddcdofaaaDoor

namespace Go.Proofs.YthmddmddcdofaaaDoor
namespace Hps
/-- the numbers ns are met, in order: those that are none, or are there, are passed over -/
def meet1 (l : List Int) (n : Int) : List Int := if 0 ≤ n ∧ n ∉ l then l ++ [n] else l
def meet (l : List Int) (ns : List Int) : List Int := ns.foldl meet1 l
theorem meet_cons (l : List Int) (n : Int) (ns : List Int) : meet l (n :: ns) = meet (meet1 l n) ns := rfl
theorem meet1_prefix (l : List Int) (n : Int) : l <+: meet1 l n := by
  unfold meet1
  split
  · exact List.prefix_append _ _
  · exact List.prefix_refl _
theorem meet_prefix (ns : List Int) : ∀ l : List Int, l <+: meet l ns := by
  induction ns with
  | nil => intro l; exact List.prefix_refl _
  | cons n ns ih => intro l; rw [meet_cons]; exact (meet1_prefix l n).trans (ih _)
theorem mem_meet1 {l : List Int} {n m : Int} : m ∈ meet1 l n ↔ m ∈ l ∨ (0 ≤ n ∧ m = n) := by
  unfold meet1
  split
  · next h => simp; constructor
              · rintro (h1 | rfl)
                · exact .inl h1
                · exact .inr ⟨h.1, rfl⟩
              · rintro (h1 | ⟨_, h1⟩)
                · exact .inl h1
                · exact .inr h1
  · next h =>
    constructor
    · exact .inl
    · rintro (h1 | ⟨h0, rfl⟩)
      · exact h1
      · by_cases hm : m ∈ l
        · exact hm
        · exact absurd ⟨h0, hm⟩ h
theorem mem_meet {m : Int} (ns : List Int) : ∀ {l : List Int}, m ∈ meet l ns ↔ m ∈ l ∨ (0 ≤ m ∧ m ∈ ns) := by
  induction ns with
  | nil => intro l; simp [meet]
  | cons n ns ih =>
    intro l
    rw [meet_cons, ih, mem_meet1]
    constructor
    · rintro ((h | ⟨h0, rfl⟩) | ⟨h0, h⟩)
      · exact .inl h
      · exact .inr ⟨h0, by simp⟩
      · exact .inr ⟨h0, by simp [h]⟩
    · rintro (h | ⟨h0, h⟩)
      · exact .inl (.inl h)
      · rcases List.mem_cons.1 h with rfl | h
        · exact .inl (.inr ⟨h0, rfl⟩)
        · exact .inr ⟨h0, h⟩
theorem meet1_nodup {l : List Int} (h : l.Nodup) (n : Int) : (meet1 l n).Nodup := by
  unfold meet1
  split
  · next hn =>
    rw [List.nodup_append]
    refine ⟨h, by simp, fun a ha b hb => ?_⟩
    rw [List.mem_singleton] at hb
    rintro rfl
    exact hn.2 (hb ▸ ha)
  · exact h
theorem meet_nodup (ns : List Int) : ∀ {l : List Int}, l.Nodup → (meet l ns).Nodup := by
  induction ns with
  | nil => intro l h; exact h
  | cons n ns ih => intro l h; exact ih (meet1_nodup h n)
/-- the references of the cell with a number -/
def refsAt (cs : List Cl) (n : Int) : List Int := match cs[n.toNat]? with
  | some c => c.r
  | none => []
/-- the list from its place k on is worked off -/
def bfs (cs : List Cl) : Nat → Nat → List Int → List Int
  | 0, _, l => l
  | f + 1, k, l => match l[k]? with
    | none => l
    | some n => bfs cs f (k + 1) (meet l (refsAt cs n))
def orderL (cs : List Cl) (rt : List Int) : List Int := bfs cs (cs.length + 1) 0 (meet [] rt)
def orderH (h : Hp) : List Int := if validH h = true then orderL h.cs h.rt else []
/-- all that is on the list are numbers of cells -/
def InB (cs : List Cl) (l : List Int) : Prop := ∀ n ∈ l, ∃ k : Nat, n = k ∧ k < cs.length
theorem few_numbers : ∀ (n : Nat) (l : List Int), l.Nodup → (∀ x ∈ l, ∃ k : Nat, x = k ∧ k < n) → l.length ≤ n
  | 0, l, _, h => by
    cases l with
    | nil => exact Nat.le_refl _
    | cons x l =>
      obtain ⟨k, _, hk⟩ := h x (by simp)
      omega
  | n + 1, l, hd, h => by
    have h1 := few_numbers n (l.erase (n : Int)) (hd.erase _) (fun x hx => by
      rw [hd.mem_erase_iff] at hx
      obtain ⟨k, e, hk⟩ := h x hx.2
      exact ⟨k, e, by have := hx.1; omega⟩)
    by_cases hm : (n : Int) ∈ l
    · rw [List.length_erase_of_mem hm] at h1
      omega
    · rw [List.erase_of_not_mem hm] at h1
      omega
theorem InB.le {cs : List Cl} {l : List Int} (h : InB cs l) (hd : l.Nodup) : l.length ≤ cs.length := few_numbers _ l hd h
theorem prefix_back {l l' : List Int} (h : l <+: l') {i : Nat} {x : Int} (hi : i < l.length) (hx : l'[i]? = some x) : l[i]? = some x := by
  have := List.prefix_iff_getElem?.1 h i hi
  rw [this] at hx
  rw [List.getElem?_eq_getElem hi]
  exact hx
theorem InB.meet {cs : List Cl} {l ns : List Int} (h : InB cs l) (hn : okRefs cs ns = true) : InB cs (meet l ns) := by
  intro m hm
  rcases (mem_meet ns).1 hm with h1 | ⟨h0, h1⟩
  · exact h m h1
  · obtain ⟨k, e, hk, _⟩ := okRef_nat (okRefs_iff.1 hn m h1) h0
    exact ⟨k, e, hk⟩
theorem refsAt_ok {cs : List Cl} (hc : ∀ c ∈ cs, okRefs cs c.r = true) (n : Int) : okRefs cs (refsAt cs n) = true := by
  unfold refsAt
  cases e : cs[n.toNat]? with
  | none => simp [okRefs]
  | some c => exact hc c (List.mem_of_getElem? e)
/-- what holds while the list is worked off -/
structure Bf (cs : List Cl) (rt : List Int) (k : Nat) (l : List Int) : Prop where
  nodup : l.Nodup
  inb : InB cs l
  rch : ∀ n ∈ l, Rch cs rt n.toNat
  roots : ∀ n ∈ rt, 0 ≤ n → n ∈ l
  done : ∀ (i : Nat) (n : Int), i < k → l[i]? = some n → ∀ m ∈ refsAt cs n, 0 ≤ m → m ∈ l
theorem Bf.start {cs : List Cl} {rt : List Int} (hr : okRefs cs rt = true) : Bf cs rt 0 (meet [] rt) := by
  refine ⟨meet_nodup rt (by simp), InB.meet (fun n hn => by simp at hn) hr, fun n hn => ?_, fun n hn h0 => (mem_meet rt).2 (.inr ⟨h0, hn⟩), fun i n hi => by omega⟩
  rcases (mem_meet rt).1 hn with h1 | ⟨h0, h1⟩
  · simp at h1
  · exact .root (by rwa [Int.toNat_of_nonneg h0])
theorem Bf.next {cs : List Cl} {rt : List Int} {k : Nat} {l : List Int} (h : Bf cs rt k l) (hc : ∀ c ∈ cs, okRefs cs c.r = true) {n : Int} (hn : l[k]? = some n) : Bf cs rt (k + 1) (meet l (refsAt cs n)) := by
  have hp := meet_prefix (refsAt cs n) l
  have hlk := (List.getElem?_eq_some_iff.1 hn).1
  refine ⟨meet_nodup _ h.nodup, h.inb.meet (refsAt_ok hc n), fun m hm => ?_, fun m hm h0 => hp.subset (h.roots m hm h0), fun i m hi hm x hx h0 => ?_⟩
  · rcases (mem_meet _).1 hm with h1 | ⟨h0, h1⟩
    · exact h.rch m h1
    · unfold refsAt at h1
      cases e : cs[n.toNat]? with
      | none => rw [e] at h1; simp at h1
      | some c =>
        rw [e] at h1
        exact .step (h.rch n (List.mem_of_getElem? hn)) e (by rwa [Int.toNat_of_nonneg h0])
  · rcases Nat.lt_or_ge i k with h1 | h1
    · have hm' : l[i]? = some m := prefix_back hp (by omega) hm
      exact hp.subset (h.done i m h1 hm' x hx h0)
    · have hik : i = k := by omega
      subst hik
      have hm' : l[i]? = some m := prefix_back hp hlk hm
      rw [hn] at hm'
      obtain rfl := Option.some.inj hm'
      exact (mem_meet _).2 (.inr ⟨h0, hx⟩)
theorem bfs_fin {cs : List Cl} {rt : List Int} (hc : ∀ c ∈ cs, okRefs cs c.r = true) : ∀ (f k : Nat) (l : List Int), Bf cs rt k l → k ≤ l.length → cs.length + 1 ≤ f + k → ∃ k', Bf cs rt k' (bfs cs f k l) ∧ k' = (bfs cs f k l).length
  | 0, k, l, h, hk, hf => by
    have := h.inb.le h.nodup
    omega
  | f + 1, k, l, h, hk, hf => by
    unfold bfs
    cases e : l[k]? with
    | none =>
      have : l.length ≤ k := by simpa using e
      exact ⟨k, h, by simp; omega⟩
    | some n =>
      have hlk := (List.getElem?_eq_some_iff.1 e).1
      have hp := (meet_prefix (refsAt cs n) l).length_le
      exact bfs_fin hc f (k + 1) _ (h.next hc e) (by omega) (by omega)
theorem orderL_fin {cs : List Cl} {rt : List Int} (hc : ∀ c ∈ cs, okRefs cs c.r = true) (hr : okRefs cs rt = true) : Bf cs rt (orderL cs rt).length (orderL cs rt) := by
  obtain ⟨k, h, e⟩ := bfs_fin hc (cs.length + 1) 0 (meet [] rt) (.start hr) (Nat.zero_le _) (by omega)
  rw [← orderL] at h e
  rw [← e]
  exact h
theorem order_valid {h : Hp} (hv : validH h = true) : orderH h = orderL h.cs h.rt := by rw [orderH, if_pos hv]
theorem orderH_fin {h : Hp} (hv : validH h = true) : Bf h.cs h.rt (orderH h).length (orderH h) := by
  rw [order_valid hv]
  exact orderL_fin (valid_refs hv) (valid_iff.1 hv).2.2.2
theorem order_nodup (h : Hp) : (orderH h).Nodup := by
  cases hv : validH h
  · rw [orderH, if_neg (by rw [hv]; decide)]
    simp
  · exact (orderH_fin hv).nodup
theorem mem_order {h : Hp} (hv : validH h = true) {k : Nat} : (k : Int) ∈ orderH h ↔ Rch h.cs h.rt k := by
  have B := orderH_fin hv
  constructor
  · intro hk
    exact B.rch _ hk
  · intro hr
    refine Rch.inside (S := fun k : Nat => (k : Int) ∈ orderH h) (fun k hk => B.roots _ hk (by omega)) (fun k m c hk hc hm => ?_) hr
    obtain ⟨i, hi⟩ := List.mem_iff_getElem?.1 hk
    exact B.done i _ (List.getElem?_eq_some_iff.1 hi).1 hi m (by unfold refsAt; rw [Int.toNat_natCast, hc]; exact hm) (by omega)
theorem order_nat {h : Hp} {n : Int} (hn : n ∈ orderH h) : ∃ k : Nat, n = k ∧ k < h.cs.length := by
  cases hv : validH h
  · rw [orderH, if_neg (by rw [hv]; decide)] at hn
    simp at hn
  · exact (orderH_fin hv).inb n hn
/-- the place of a number on a list, or -1 -/
def nameL (l : List Int) (n : Int) : Int := if n ∈ l then (l.idxOf n : Int) else -1
theorem nameL_at {l : List Int} {n : Int} {i : Nat} (hd : l.Nodup) (h : l[i]? = some n) : nameL l n = i := by
  obtain ⟨h1, h2⟩ := List.getElem?_eq_some_iff.1 h
  rw [nameL, if_pos (List.mem_of_getElem? h), ← h2, hd.idxOf_getElem i h1]
theorem nameL_none {l : List Int} {n : Int} (h : n ∉ l) : nameL l n = -1 := by rw [nameL, if_neg h]
theorem nameL_neg {l : List Int} {n : Int} (h : nameL l n = -1) : n ∉ l := by
  intro hm
  rw [nameL, if_pos hm] at h
  omega
theorem nameL_get {l : List Int} {n : Int} {i : Nat} (h : nameL l n = i) : l[i]? = some n := by
  by_cases hm : n ∈ l
  · rw [nameL, if_pos hm] at h
    have e : l.idxOf n = i := by omega
    have hlt := List.idxOf_lt_length_of_mem hm
    rw [List.getElem?_eq_some_iff]
    refine ⟨by omega, ?_⟩
    subst e
    exact List.getElem_idxOf hlt
  · rw [nameL_none hm] at h
    omega
/-- what is seen of one cell -/
def cellV (l : List Int) (c : Cl) : List Int := c.d :: (c.r.length : Int) :: c.r.map (nameL l)
def cellAt (cs : List Cl) (n : Int) : Cl := (cs[n.toNat]?).getD ⟨false, 0, []⟩
def viewH (h : Hp) : List Int := if validH h = true then h.rt.map (nameL (orderH h)) ++ ((orderH h).map fun n => cellV (orderH h) (cellAt h.cs n)).flatten else []
theorem view_valid {h : Hp} (hv : validH h = true) : viewH h = h.rt.map (nameL (orderH h)) ++ ((orderH h).map fun n => cellV (orderH h) (cellAt h.cs n)).flatten := by rw [viewH, if_pos hv]
theorem view_not {h : Hp} (hv : validH h = false) : viewH h = [] := by rw [viewH, if_neg (by rw [hv]; decide)]
theorem view_len {h : Hp} (hv : validH h = true) : 4 ≤ (viewH h).length := by
  rw [view_valid hv, List.length_append, List.length_map, (valid_iff.1 hv).2.2.1]
  omega
theorem view_nil {h : Hp} : viewH h = [] ↔ validH h = false := by
  constructor
  · intro e
    cases hv : validH h
    · rfl
    · have := view_len hv
      rw [e] at this
      simp at this
  · exact view_not
def sameV (a b : Hp) : Bool := validH a && decide (viewH a = viewH b)
theorem sameV_iff {a b : Hp} : sameV a b = true ↔ validH a = true ∧ validH b = true ∧ viewH a = viewH b := by
  unfold sameV
  rw [Bool.and_eq_true, decide_eq_true_eq]
  constructor
  · rintro ⟨h1, h2⟩
    refine ⟨h1, ?_, h2⟩
    cases hv : validH b
    · rw [view_not hv, view_nil] at h2
      rw [h1] at h2
      cases h2
    · rfl
  · rintro ⟨h1, _, h2⟩
    exact ⟨h1, h2⟩
theorem sameV_comm (a b : Hp) : sameV a b = sameV b a := by
  rw [Bool.eq_iff_iff, sameV_iff, sameV_iff]
  constructor <;> (rintro ⟨h1, h2, h3⟩; exact ⟨h2, h1, h3.symm⟩)
end Hps
end Go.Proofs.YthmddmddcdofaaaDoor
namespace Go.Proofs.YthmddmddcdofaaaDoor
namespace Hps
/-- references that are related: none of both, or related cells -/
def RR (R : Nat → Nat → Prop) (n m : Int) : Prop := (n = -1 ∧ m = -1) ∨ ∃ k x : Nat, n = k ∧ m = x ∧ R k x
theorem RR.mono {R R' : Nat → Nat → Prop} (h : ∀ k x, R k x → R' k x) {n m : Int} (hr : RR R n m) : RR R' n m := by
  rcases hr with h1 | ⟨k, x, e1, e2, h1⟩
  · exact .inl h1
  · exact .inr ⟨k, x, e1, e2, h _ _ h1⟩
/-- lists of related references -/
def LR (R : Nat → Nat → Prop) (la lb : List Int) : Prop := la.length = lb.length ∧ ∀ (i : Nat) (n m : Int), la[i]? = some n → lb[i]? = some m → RR R n m
theorem LR.nil (R : Nat → Nat → Prop) : LR R [] [] := ⟨rfl, fun i n m h => by simp at h⟩
theorem LR.mono {R R' : Nat → Nat → Prop} (h : ∀ k x, R k x → R' k x) {la lb : List Int} (hr : LR R la lb) : LR R' la lb := ⟨hr.1, fun i n m h1 h2 => (hr.2 i n m h1 h2).mono h⟩
theorem LR.set {R : Nat → Nat → Prop} {la lb : List Int} (h : LR R la lb) (i : Nat) {n m : Int} (hr : RR R n m) : LR R (la.set i n) (lb.set i m) := by
  refine ⟨by simp [h.1], fun j x y h1 h2 => ?_⟩
  rw [List.getElem?_set] at h1 h2
  by_cases e : i = j
  · subst e
    rw [if_pos rfl] at h1 h2
    split at h1
    · split at h2
      · rw [← Option.some.inj h1, ← Option.some.inj h2]
        exact hr
      · cases h2
    · cases h1
  · rw [if_neg e] at h1 h2
    exact h.2 j x y h1 h2
theorem LR.cons {R : Nat → Nat → Prop} {n m : Int} {la lb : List Int} (h : LR R (n :: la) (m :: lb)) : RR R n m ∧ LR R la lb := by
  refine ⟨h.2 0 n m rfl rfl, by simpa using h.1, fun i x y h1 h2 => h.2 (i + 1) x y (by simpa using h1) (by simpa using h2)⟩
theorem LR.get {R : Nat → Nat → Prop} {la lb : List Int} (h : LR R la lb) (i : Nat) : RR R ((la[i]?).getD (-1)) ((lb[i]?).getD (-1)) := by
  rcases Nat.lt_or_ge i la.length with h1 | h1
  · have a1 := List.getElem?_eq_getElem h1
    have a2 := List.getElem?_eq_getElem (show i < lb.length by rw [← h.1]; exact h1)
    rw [a1, a2]
    exact h.2 i _ _ a1 a2
  · rw [List.getElem?_eq_none h1, List.getElem?_eq_none (by rw [← h.1]; exact h1)]
    exact .inl ⟨rfl, rfl⟩
/-- cells of two heaps that are related by turns: what a program sees of them is the same -/
structure Sim (a b : Hp) (R : Nat → Nat → Prop) : Prop where
  one : ∀ k x y : Nat, R k x → R k y → x = y
  back : ∀ k m x : Nat, R k x → R m x → k = m
  roots : LR R a.rt b.rt
  cell : ∀ {k x : Nat}, R k x → ∃ c c', a.cs[k]? = some c ∧ b.cs[x]? = some c' ∧ c.d = c'.d ∧ LR R c.r c'.r
section
variable {a b : Hp} {R : Nat → Nat → Prop}
/-- lists of related cells -/
def CR (R : Nat → Nat → Prop) (la lb : List Int) : Prop := la.length = lb.length ∧ ∀ (i : Nat) (n m : Int), la[i]? = some n → lb[i]? = some m → ∃ k x : Nat, n = k ∧ m = x ∧ R k x
theorem CR.mem (one : ∀ k x y : Nat, R k x → R k y → x = y) {la lb : List Int} (h : CR R la lb) {k x : Nat} (hr : R k x) (hm : (k : Int) ∈ la) : (x : Int) ∈ lb := by
  obtain ⟨i, hi⟩ := List.mem_iff_getElem?.1 hm
  have hl := (List.getElem?_eq_some_iff.1 hi).1
  have hb := List.getElem?_eq_getElem (show i < lb.length by rw [← h.1]; exact hl)
  obtain ⟨k', x', e1, e2, hr'⟩ := h.2 i _ _ hi hb
  have e1 : k = k' := by omega
  subst e1
  have := one _ _ _ hr hr'
  subst this
  rw [← e2]
  exact List.getElem_mem _
theorem CR.mem' (back : ∀ k m x : Nat, R k x → R m x → k = m) {la lb : List Int} (h : CR R la lb) {k x : Nat} (hr : R k x) (hm : (x : Int) ∈ lb) : (k : Int) ∈ la := by
  obtain ⟨i, hi⟩ := List.mem_iff_getElem?.1 hm
  have hl := (List.getElem?_eq_some_iff.1 hi).1
  have hb := List.getElem?_eq_getElem (show i < la.length by rw [h.1]; exact hl)
  obtain ⟨k', x', e1, e2, hr'⟩ := h.2 i _ _ hb hi
  have e2 : x = x' := by omega
  subst e2
  have := back _ _ _ hr hr'
  subst this
  rw [← e1]
  exact List.getElem_mem _
theorem CR.snoc {la lb : List Int} (h : CR R la lb) {k x : Nat} (hr : R k x) : CR R (la ++ [(k : Int)]) (lb ++ [(x : Int)]) := by
  refine ⟨by simp [h.1], fun i n m h1 h2 => ?_⟩
  rcases Nat.lt_or_ge i la.length with hi | hi
  · rw [List.getElem?_append_left hi] at h1
    rw [List.getElem?_append_left (by rw [← h.1]; exact hi)] at h2
    exact h.2 i n m h1 h2
  · rw [List.getElem?_append_right hi] at h1
    rw [List.getElem?_append_right (by rw [← h.1]; exact hi), ← h.1] at h2
    have hz : i - la.length = 0 := by
      have := (List.getElem?_eq_some_iff.1 h1).1
      simp at this
      omega
    rw [hz] at h1 h2
    exact ⟨k, x, by simpa using h1.symm, by simpa using h2.symm, hr⟩
theorem Sim.meet1 (S : Sim a b R) {la lb : List Int} (h : CR R la lb) {n m : Int} (hr : RR R n m) : CR R (meet1 la n) (meet1 lb m) := by
  unfold Hps.meet1
  rcases hr with ⟨rfl, rfl⟩ | ⟨k, x, rfl, rfl, hr⟩
  · rw [if_neg (by omega), if_neg (by omega)]
    exact h
  · by_cases hm : (k : Int) ∈ la
    · have hm' := h.mem S.one hr hm
      rw [if_neg (fun q => q.2 hm), if_neg (fun q => q.2 hm')]
      exact h
    · have hm' : (x : Int) ∉ lb := fun q => hm (h.mem' S.back hr q)
      rw [if_pos ⟨by omega, hm⟩, if_pos ⟨by omega, hm'⟩]
      exact h.snoc hr
theorem Sim.meet (S : Sim a b R) : ∀ (ns ms : List Int) {la lb : List Int}, CR R la lb → LR R ns ms → CR R (meet la ns) (meet lb ms)
  | [], [], la, lb, h, _ => h
  | [], _ :: _, _, _, _, h => by have := h.1; simp at this
  | _ :: _, [], _, _, _, h => by have := h.1; simp at this
  | n :: ns, m :: ms, la, lb, h, hl => by
    obtain ⟨h1, h2⟩ := hl.cons
    rw [meet_cons, meet_cons]
    exact S.meet ns ms (S.meet1 h h1) h2
theorem Sim.bfs (S : Sim a b R) : ∀ (f k : Nat) {la lb : List Int}, CR R la lb → CR R (bfs a.cs f k la) (bfs b.cs f k lb)
  | 0, _, _, _, h => h
  | f + 1, k, la, lb, h => by
    unfold Hps.bfs
    rcases Nat.lt_or_ge k la.length with h1 | h1
    · have a1 := List.getElem?_eq_getElem h1
      have a2 := List.getElem?_eq_getElem (show k < lb.length by rw [← h.1]; exact h1)
      obtain ⟨q, x, e1, e2, hr⟩ := h.2 k _ _ a1 a2
      rw [a1, a2]
      simp only
      obtain ⟨c, c', hc, hc', _, hl⟩ := S.cell hr
      have r1 : refsAt a.cs la[k] = c.r := by rw [e1, refsAt, Int.toNat_natCast, hc]
      have r2 : refsAt b.cs (lb[k]'(by rw [← h.1]; exact h1)) = c'.r := by rw [e2, refsAt, Int.toNat_natCast, hc']
      rw [r1, r2]
      exact S.bfs f (k + 1) (S.meet _ _ h hl)
    · rw [List.getElem?_eq_none h1, List.getElem?_eq_none (by rw [← h.1]; exact h1)]
      exact h
end
/-- more fuel than enough changes nothing -/
theorem bfs_more {cs : List Cl} {rt : List Int} (hc : ∀ c ∈ cs, okRefs cs c.r = true) : ∀ (f k : Nat) (l : List Int), Bf cs rt k l → cs.length + 1 ≤ f + k → bfs cs (f + 1) k l = bfs cs f k l
  | 0, k, l, h, hf => by
    have hl := h.inb.le h.nodup
    unfold bfs
    rw [List.getElem?_eq_none (by omega)]
  | f + 1, k, l, h, hf => by
    rw [bfs, bfs]
    cases e : l[k]? with
    | none => rfl
    | some n => exact bfs_more hc f (k + 1) _ (h.next hc e) (by omega)
theorem bfs_enough {cs : List Cl} {rt : List Int} (hc : ∀ c ∈ cs, okRefs cs c.r = true) (hr : okRefs cs rt = true) : ∀ g, bfs cs (cs.length + 1 + g) 0 (meet [] rt) = orderL cs rt
  | 0 => rfl
  | g + 1 => by
    rw [← Nat.add_assoc, bfs_more hc _ 0 _ (.start hr) (by omega)]
    exact bfs_enough hc hr g
theorem order_fuel {h : Hp} (hv : validH h = true) : orderH h = bfs h.cs 41 0 (meet [] h.rt) := by
  have hl := (valid_iff.1 hv).2.1
  rw [order_valid hv, ← bfs_enough (valid_refs hv) (valid_iff.1 hv).2.2.2 (40 - h.cs.length)]
  congr 1
  omega
theorem Sim.order {a b : Hp} {R : Nat → Nat → Prop} (S : Sim a b R) (ha : validH a = true) (hb : validH b = true) : CR R (orderH a) (orderH b) := by
  rw [order_fuel ha, order_fuel hb]
  exact S.bfs 41 0 (S.meet _ _ ⟨rfl, fun i n m h => by simp at h⟩ S.roots)
theorem Sim.name {a b : Hp} {R : Nat → Nat → Prop} (S : Sim a b R) (ha : validH a = true) (hb : validH b = true) {n m : Int} (hr : RR R n m) : nameL (orderH a) n = nameL (orderH b) m := by
  have C := S.order ha hb
  have neg : ∀ h : Hp, (-1 : Int) ∉ orderH h := fun h hm => by
    obtain ⟨k, e, _⟩ := order_nat hm
    omega
  rcases hr with ⟨rfl, rfl⟩ | ⟨k, x, rfl, rfl, hr⟩
  · rw [nameL_none (neg a), nameL_none (neg b)]
  · by_cases hm : (k : Int) ∈ orderH a
    · obtain ⟨i, hi⟩ := List.mem_iff_getElem?.1 hm
      have hl := (List.getElem?_eq_some_iff.1 hi).1
      have hb' := List.getElem?_eq_getElem (show i < (orderH b).length by rw [← C.1]; exact hl)
      obtain ⟨k', x', e1, e2, hr'⟩ := C.2 i _ _ hi hb'
      have e1 : k = k' := by omega
      subst e1
      have := S.one _ _ _ hr hr'
      subst this
      rw [nameL_at (order_nodup a) hi, nameL_at (order_nodup b) (hb'.trans (by rw [e2]))]
    · rw [nameL_none hm, nameL_none (fun q => hm (C.mem' S.back hr q))]
theorem Sim.names {a b : Hp} {R : Nat → Nat → Prop} (S : Sim a b R) (ha : validH a = true) (hb : validH b = true) {ns ms : List Int} (h : LR R ns ms) : ns.map (nameL (orderH a)) = ms.map (nameL (orderH b)) := by
  apply List.ext_getElem?
  intro i
  rw [List.getElem?_map, List.getElem?_map]
  rcases Nat.lt_or_ge i ns.length with h1 | h1
  · have a1 := List.getElem?_eq_getElem h1
    have a2 := List.getElem?_eq_getElem (show i < ms.length by rw [← h.1]; exact h1)
    rw [a1, a2, Option.map_some, Option.map_some, S.name ha hb (h.2 i _ _ a1 a2)]
  · rw [List.getElem?_eq_none h1, List.getElem?_eq_none (by rw [← h.1]; exact h1)]
    rfl
/-- related heaps: a program sees the same -/
theorem Sim.view {a b : Hp} {R : Nat → Nat → Prop} (S : Sim a b R) (ha : validH a = true) (hb : validH b = true) : viewH a = viewH b := by
  rw [view_valid ha, view_valid hb, S.names ha hb S.roots]
  congr 2
  have C := S.order ha hb
  apply List.ext_getElem?
  intro i
  rw [List.getElem?_map, List.getElem?_map]
  rcases Nat.lt_or_ge i (orderH a).length with h1 | h1
  · have a1 := List.getElem?_eq_getElem h1
    have a2 := List.getElem?_eq_getElem (show i < (orderH b).length by rw [← C.1]; exact h1)
    obtain ⟨k, x, e1, e2, hr⟩ := C.2 i _ _ a1 a2
    obtain ⟨c, c', hc, hc', hd, hl⟩ := S.cell hr
    rw [a1, a2, Option.map_some, Option.map_some, e1, e2, cellAt, cellAt, Int.toNat_natCast, Int.toNat_natCast, hc, hc', Option.getD_some, Option.getD_some, cellV, cellV, hd, hl.1, S.names ha hb hl]
  · rw [List.getElem?_eq_none h1, List.getElem?_eq_none (by rw [← C.1]; exact h1)]
    rfl
/-- a part of a view: it tells its length -/
def SegOK (s : List Int) : Prop := ∃ (d : Int) (xs : List Int), s = d :: (xs.length : Int) :: xs
theorem segs_eq : ∀ (ss ts : List (List Int)), (∀ s ∈ ss, SegOK s) → (∀ t ∈ ts, SegOK t) → ss.flatten = ts.flatten → ss = ts
  | [], [], _, _, _ => rfl
  | [], t :: ts, _, h2, h => by
    obtain ⟨d, xs, rfl⟩ := h2 t (by simp)
    simp at h
  | s :: ss, [], h1, _, h => by
    obtain ⟨d, xs, rfl⟩ := h1 s (by simp)
    simp at h
  | s :: ss, t :: ts, h1, h2, h => by
    obtain ⟨d, xs, rfl⟩ := h1 s (by simp)
    obtain ⟨e, ys, rfl⟩ := h2 t (by simp)
    simp only [List.flatten_cons, List.cons_append, List.cons.injEq] at h
    obtain ⟨q1, q2, q3⟩ := h
    have q2 : xs.length = ys.length := by omega
    obtain ⟨q4, q5⟩ := List.append_inj q3 q2
    rw [q1, q4, segs_eq ss ts (fun x hx => h1 x (by simp [hx])) (fun x hx => h2 x (by simp [hx])) q5]
theorem seg_cell (l : List Int) (c : Cl) : SegOK (cellV l c) := ⟨c.d, c.r.map (nameL l), by simp [cellV]⟩
theorem segs_cells (l : List Int) (f : Int → Cl) (o : List Int) : ∀ s ∈ o.map (fun n => cellV l (f n)), SegOK s := by
  intro s hs
  obtain ⟨n, _, rfl⟩ := List.mem_map.1 hs
  exact seg_cell _ _
/-- cells at the same place of the orders -/
def SameAt (a b : Hp) (k x : Nat) : Prop := ∃ i : Nat, (orderH a)[i]? = some (k : Int) ∧ (orderH b)[i]? = some (x : Int)
/-- references with the same name lead to cells at the same place -/
theorem same_name {a b : Hp} {n m : Int} (ho : nameL (orderH a) n = nameL (orderH b) m) (hn : n = -1 ∨ (0 ≤ n ∧ n ∈ orderH a)) (hm : m = -1 ∨ (0 ≤ m ∧ m ∈ orderH b)) : RR (SameAt a b) n m := by
  have neg : ∀ h : Hp, (-1 : Int) ∉ orderH h := fun h hm => by
    obtain ⟨k, e, _⟩ := order_nat hm
    omega
  rcases hn with rfl | ⟨n0, hn⟩
  · rcases hm with rfl | ⟨m0, hm⟩
    · exact .inl ⟨rfl, rfl⟩
    · rw [nameL_none (neg a)] at ho
      exact absurd hm (nameL_neg ho.symm)
  · obtain ⟨i, hi⟩ := List.mem_iff_getElem?.1 hn
    rw [nameL_at (order_nodup a) hi] at ho
    have hj := nameL_get ho.symm
    obtain ⟨k, rfl, _⟩ := order_nat (List.mem_of_getElem? hi)
    obtain ⟨x, rfl, _⟩ := order_nat (List.mem_of_getElem? hj)
    exact .inr ⟨k, x, rfl, rfl, i, hi, hj⟩
theorem ref_met {h : Hp} (hv : validH h = true) {k : Nat} {c : Cl} (hk : (k : Int) ∈ orderH h) (hc : h.cs[k]? = some c) {n : Int} (hn : n ∈ c.r) : n = -1 ∨ (0 ≤ n ∧ n ∈ orderH h) := by
  have ok := okRefs_iff.1 (valid_refs hv c (List.mem_of_getElem? hc)) n hn
  by_cases h0 : 0 ≤ n
  · obtain ⟨m, rfl, _⟩ := okRef_nat ok h0
    exact .inr ⟨h0, (mem_order hv).2 (.step ((mem_order hv).1 hk) hc hn)⟩
  · rcases okRef_iff.1 ok with e | ⟨e, _⟩
    · exact .inl e
    · omega
theorem root_met {h : Hp} (hv : validH h = true) {n : Int} (hn : n ∈ h.rt) : n = -1 ∨ (0 ≤ n ∧ n ∈ orderH h) := by
  have ok := okRefs_iff.1 (valid_iff.1 hv).2.2.2 n hn
  by_cases h0 : 0 ≤ n
  · obtain ⟨m, rfl, _⟩ := okRef_nat ok h0
    exact .inr ⟨h0, (mem_order hv).2 (.root hn)⟩
  · rcases okRef_iff.1 ok with e | ⟨e, _⟩
    · exact .inl e
    · omega
theorem names_same {a b : Hp} {ns ms : List Int} (he : ns.map (nameL (orderH a)) = ms.map (nameL (orderH b))) (hn : ∀ n ∈ ns, n = -1 ∨ (0 ≤ n ∧ n ∈ orderH a)) (hm : ∀ m ∈ ms, m = -1 ∨ (0 ≤ m ∧ m ∈ orderH b)) : LR (SameAt a b) ns ms := by
  have hl : ns.length = ms.length := by simpa using congrArg List.length he
  refine ⟨hl, fun i n m h1 h2 => same_name ?_ (hn n (List.mem_of_getElem? h1)) (hm m (List.mem_of_getElem? h2))⟩
  have := congrArg (fun l => l[i]?) he
  simp only [List.getElem?_map, h1, h2, Option.map_some, Option.some.injEq] at this
  exact this
/-- heaps of which a program sees the same are related -/
theorem sim_of_view {a b : Hp} (ha : validH a = true) (hb : validH b = true) (he : viewH a = viewH b) : Sim a b (SameAt a b) := by
  rw [view_valid ha, view_valid hb] at he
  obtain ⟨e1, e2⟩ := List.append_inj he (by simp [(valid_iff.1 ha).2.2.1, (valid_iff.1 hb).2.2.1])
  have e3 := segs_eq _ _ (segs_cells _ _ _) (segs_cells _ _ _) e2
  refine ⟨?_, ?_, names_same e1 (fun n hn => root_met ha hn) (fun n hn => root_met hb hn), ?_⟩
  · rintro k x y ⟨i, h1, h2⟩ ⟨j, h3, h4⟩
    have e := nameL_at (order_nodup a) h1
    rw [nameL_at (order_nodup a) h3] at e
    have e : j = i := by omega
    subst e
    rw [h2] at h4
    have := Option.some.inj h4
    omega
  · rintro k m x ⟨i, h1, h2⟩ ⟨j, h3, h4⟩
    have e := nameL_at (order_nodup b) h2
    rw [nameL_at (order_nodup b) h4] at e
    have e : j = i := by omega
    subst e
    rw [h1] at h3
    have := Option.some.inj h3
    omega
  · rintro k x ⟨i, h1, h2⟩
    obtain ⟨k', ek, hk⟩ := order_nat (List.mem_of_getElem? h1)
    obtain ⟨x', ex, hx⟩ := order_nat (List.mem_of_getElem? h2)
    have ek : k = k' := by omega
    have ex : x = x' := by omega
    subst ek ex
    have hc := List.getElem?_eq_getElem hk
    have hc' := List.getElem?_eq_getElem hx
    have := congrArg (fun l => l[i]?) e3
    simp only [List.getElem?_map, h1, h2, Option.map_some, Option.some.injEq, cellAt, Int.toNat_natCast, hc, hc', Option.getD_some, cellV, List.cons.injEq] at this
    exact ⟨_, _, hc, hc', this.1, names_same this.2.2 (fun n hn => ref_met ha (List.mem_of_getElem? h1) hc hn) (fun n hn => ref_met hb (List.mem_of_getElem? h2) hc' hn)⟩
theorem Sim.lt {a b : Hp} {R : Nat → Nat → Prop} (S : Sim a b R) {k x : Nat} (h : R k x) : k < a.cs.length ∧ x < b.cs.length := by
  obtain ⟨c, c', h1, h2, _⟩ := S.cell h
  exact ⟨(List.getElem?_eq_some_iff.1 h1).1, (List.getElem?_eq_some_iff.1 h2).1⟩
/-! what an instruction does to related heaps -/
section
variable {a b : Hp} {R : Nat → Nat → Prop}
theorem Sim.setRoot (S : Sim a b R) (i : Nat) {n m : Int} (hr : RR R n m) : Sim ⟨a.cs, a.rt.set i n⟩ ⟨b.cs, b.rt.set i m⟩ R := ⟨S.one, S.back, S.roots.set i hr, S.cell⟩
theorem Sim.setCell (S : Sim a b R) {k x : Nat} (hr : R k x) {c c' : Cl} (hd : c.d = c'.d) (hl : LR R c.r c'.r) : Sim ⟨a.cs.set k c, a.rt⟩ ⟨b.cs.set x c', b.rt⟩ R := by
  refine ⟨S.one, S.back, S.roots, fun {m y} hm => ?_⟩
  obtain ⟨h1, h2⟩ := S.lt hr
  by_cases e : k = m
  · subst e
    have := S.one _ _ _ hr hm
    subst this
    exact ⟨c, c', by simp [h1], by simp [h2], hd, hl⟩
  · have e' : x ≠ y := fun q => e (S.back _ _ _ hr (q ▸ hm))
    obtain ⟨q, q', g1, g2, g3⟩ := S.cell hm
    exact ⟨q, q', by simp [e, g1], by simp [e', g2], g3⟩
theorem Sim.snoc (S : Sim a b R) {c c' : Cl} (hd : c.d = c'.d) (hl : LR (fun _ _ => False) c.r c'.r) (i : Nat) :
    Sim ⟨a.cs ++ [c], a.rt.set i (a.cs.length : Int)⟩ ⟨b.cs ++ [c'], b.rt.set i (b.cs.length : Int)⟩ (fun k x => R k x ∨ (k = a.cs.length ∧ x = b.cs.length)) := by
  refine ⟨?_, ?_, ?_, ?_⟩
  · rintro k x y (h1 | ⟨rfl, rfl⟩) (h2 | ⟨e, e2⟩)
    · exact S.one _ _ _ h1 h2
    · have := (S.lt h1).1; omega
    · have := (S.lt h2).1; omega
    · omega
  · rintro k m x (h1 | ⟨rfl, rfl⟩) (h2 | ⟨e, e2⟩)
    · exact S.back _ _ _ h1 h2
    · have := (S.lt h1).2; omega
    · have := (S.lt h2).2; omega
    · omega
  · exact (S.roots.mono (fun _ _ h => .inl h)).set i (.inr ⟨_, _, rfl, rfl, .inr ⟨rfl, rfl⟩⟩)
  · rintro k x (h1 | ⟨rfl, rfl⟩)
    · obtain ⟨q, q', g1, g2, g3, g4⟩ := S.cell h1
      obtain ⟨l1, l2⟩ := S.lt h1
      exact ⟨q, q', by rw [List.getElem?_append_left l1]; exact g1, by rw [List.getElem?_append_left l2]; exact g2, g3, g4.mono (fun _ _ h => .inl h)⟩
    · exact ⟨c, c', by simp, by simp, hd, hl.mono (fun _ _ h => h.elim)⟩
theorem Sim.rootAt (S : Sim a b R) (i : Int) : RR R (rootAt a i) (rootAt b i) := S.roots.get i.toNat
theorem Sim.place (S : Sim a b R) {n m : Int} (hr : RR R n m) (p : Int) : placeH a.cs n p = placeH b.cs m p := by
  rcases hr with ⟨rfl, rfl⟩ | ⟨k, x, rfl, rfl, hr⟩
  · rfl
  · obtain ⟨c, c', h1, h2, _, hl⟩ := S.cell hr
    simp [placeH, h1, h2, hl.1]
theorem Sim.refAt (S : Sim a b R) {n m : Int} (hr : RR R n m) (hn : 0 ≤ n) (p : Int) : RR R (refAt a.cs n p) (refAt b.cs m p) := by
  rcases hr with ⟨rfl, rfl⟩ | ⟨k, x, rfl, rfl, hr⟩
  · omega
  · obtain ⟨c, c', h1, h2, _, hl⟩ := S.cell hr
    simp only [Hps.refAt, Int.toNat_natCast, h1, h2]
    exact hl.get _
theorem Sim.can (S : Sim a b R) (ha : validH a = true) (hb : validH b = true) (o : Cm) : canH a o = canH b o := by
  unfold canH
  rw [ha, hb, S.place (S.rootAt o.b), S.place (S.rootAt o.a)]
  have : decide (0 ≤ Hps.rootAt a o.a) = decide (0 ≤ Hps.rootAt b o.a) := by
    rw [decide_eq_decide]
    rcases S.rootAt o.a with ⟨e1, e2⟩ | ⟨k, x, e1, e2, _⟩ <;> omega
  rw [this]
theorem Sim.does (S : Sim a b R) {o : Cm} (hc : canH a o = true) : ∃ R', Sim (doH a o a.cs.length) (doH b o b.cs.length) R' := by
  obtain ⟨⟨hv, ho⟩, hc⟩ : (validH a = true ∧ okCm o = true) ∧ _ := by
    unfold canH at hc
    rw [Bool.and_eq_true, Bool.and_eq_true] at hc
    exact hc
  unfold doH
  by_cases h1 : o.op = 1
  · rw [if_pos h1, if_pos h1, putCl, if_pos rfl, putCl, if_pos rfl]
    refine ⟨_, S.snoc (c := newCl o) (c' := newCl o) rfl ⟨rfl, fun i n m h1 h2 => .inl ?_⟩ _⟩
    have e1 := List.mem_of_getElem? h1
    have e2 := List.mem_of_getElem? h2
    simp only [newCl, List.mem_replicate] at e1 e2
    exact ⟨e1.2, e2.2⟩
  rw [if_neg h1, if_neg h1]
  by_cases h2 : o.op = 2
  · rw [if_pos h2, if_pos h2]
    rw [if_pos h2] at hc
    obtain ⟨k, c, e, _⟩ := placeH_iff.1 hc
    exact ⟨R, S.setRoot _ (S.refAt (S.rootAt o.b) (by omega) _)⟩
  rw [if_neg h2, if_neg h2]
  by_cases h3 : o.op = 3
  · rw [if_pos h3, if_pos h3]
    rw [if_neg h2, if_pos h3] at hc
    obtain ⟨k, c, e, hk, _⟩ := placeH_iff.1 hc
    rcases S.rootAt o.a with ⟨e1, e2⟩ | ⟨k', x, e1, e2, hr⟩
    · omega
    · obtain ⟨c1, c2, g1, g2, g3, g4⟩ := S.cell hr
      rw [e1, e2, Int.toNat_natCast, Int.toNat_natCast, setRef, setRef, g1, g2]
      exact ⟨R, S.setCell hr (c := ⟨c1.u, c1.d, _⟩) (c' := ⟨c2.u, c2.d, _⟩) g3 (g4.set _ (S.rootAt o.b))⟩
  rw [if_neg h3, if_neg h3]
  by_cases h4 : o.op = 4
  · rw [if_pos h4, if_pos h4]
    exact ⟨R, S.setRoot _ (S.rootAt o.b)⟩
  rw [if_neg h4, if_neg h4]
  by_cases h5 : o.op = 5
  · rw [if_pos h5, if_pos h5]
    exact ⟨R, S.setRoot _ (.inl ⟨rfl, rfl⟩)⟩
  rw [if_neg h5, if_neg h5]
  by_cases h6 : o.op = 6
  · rw [if_pos h6, if_pos h6]
    rw [if_neg h2, if_neg h3, if_pos h6] at hc
    have hc := of_decide_eq_true hc
    rcases S.rootAt o.a with ⟨e1, e2⟩ | ⟨k', x, e1, e2, hr⟩
    · omega
    · obtain ⟨c1, c2, g1, g2, g3, g4⟩ := S.cell hr
      rw [e1, e2, Int.toNat_natCast, Int.toNat_natCast, setDat, setDat, g1, g2]
      exact ⟨R, S.setCell hr (c := ⟨c1.u, o.b, _⟩) (c' := ⟨c2.u, o.b, _⟩) rfl g4⟩
  rw [if_neg h6, if_neg h6]
  exact ⟨R, S⟩
theorem Sim.step (S : Sim a b R) (ha : validH a = true) (hb : validH b = true) {o : Cm} (ho : okCm o = true) (la : a.cs.length ≠ 40) (lb : b.cs.length ≠ 40) : ∃ R', Sim (stepH a o).1 (stepH b o).1 R' := by
  have hcan := S.can ha hb o
  cases hc : canH a o
  · rw [hc] at hcan
    have e1 : stepH a o = (a, false) := by simp [stepH, ha, ho, hc]
    have e2 : stepH b o = (b, false) := by simp [stepH, hb, ho, ← hcan]
    rw [e1, e2]
    exact ⟨R, S⟩
  · rw [hc] at hcan
    have e1 : stepH a o = (doH a o a.cs.length, true) := by simp [stepH, ha, ho, hc, la]
    have e2 : stepH b o = (doH b o b.cs.length, true) := by simp [stepH, hb, ho, ← hcan, lb]
    rw [e1, e2]
    exact S.does hc
end
/-- equal views go on equally -/
theorem same_step {a b : Hp} {o : Cm} (h : sameV a b = true) (ho : okCm o = true) (la : a.cs.length ≠ 40) (lb : b.cs.length ≠ 40) : sameV (stepH a o).1 (stepH b o).1 = true := by
  obtain ⟨ha, hb, he⟩ := sameV_iff.1 h
  obtain ⟨R, S⟩ := (sim_of_view ha hb he).step ha hb ho la lb
  have va := stepH_valid ha ho
  have vb := stepH_valid hb ho
  exact sameV_iff.2 ⟨va, vb, S.view va vb⟩
end Hps
end Go.Proofs.YthmddmddcdofaaaDoor
namespace Go.Proofs.YthmddmddcdofaaaDoor
namespace Hps
end Hps
end Go.Proofs.YthmddmddcdofaaaDoor
namespace Go.Proofs.YthmddmddcdofaaaDoor
open Go.RowKit
set_option maxRecDepth 100000
/-- the list of the cells that were met, the marks in a block of their own, the heap's box -/
structure RO (w wr : World) (box : Array Value) (n : Nat) (lv : Value) (cs : List Cl) (outs : List Bool) (l : List Int) : Prop where
  own : OwnO wr w.heap.size (.slice (some ⟨w.heap.size + 2, 0, none⟩) n n) outs
  lst : OwnI wr (w.heap.size + 1) lv l
  ne : lv.ownBlock = none ∨ lv.ownBlock ≠ some (w.heap.size + 2)
  box : Rw wr w.heap.size 26 box
  bel : Below w.heap.size w wr
  len : outs.length = n
  mem : ∀ k : Nat, outs[k]? = some true ↔ (k : Int) ∈ l
  nodup : l.Nodup
  inb : Hps.InB cs l
  cells : cs.length = n
  big : w.heap.size + 3 ≤ wr.heap.size
section
variable {w wr w5 : World} {box : Array Value} {n y : Nat} {lv v5 : Value} {cs : List Cl} {outs : List Bool} {l : List Int}
theorem RO.draws (h : RO w wr box n lv cs outs l) (k : Nat) : RO w (wr.drewN k) box n lv cs outs l :=
  ⟨h.own, h.lst, h.ne, h.box, below_drewN h.bel k, h.len, h.mem, h.nodup, h.inb, h.cells, h.big⟩
theorem RO.le (h : RO w wr box n lv cs outs l) : l.length ≤ n := by
  rw [← h.cells]
  exact h.inb.le h.nodup
theorem RO.pre (h : RO w wr box n lv cs outs l) (y : Nat) : OwnI ((wr.setCell ⟨w.heap.size + 2, y, none⟩ (.bool true)).alloc (.cells #[.int .i64 y] 3)) (w.heap.size + 1) lv l :=
  World.ownsRow.alloc (h.lst.far (only_put (World.grownBy.refl _ _) y (.bool true)) h.ne) _
/-- one more is met -/
theorem RO.mark (h : RO w wr box n lv cs outs l) (hy : outs[y]? = some false) (ho : OwnI w5 (w.heap.size + 1) v5 (l ++ [(y : Int)])) (hg : ((wr.setCell ⟨w.heap.size + 2, y, none⟩ (.bool true)).alloc (.cells #[.int .i64 y] 3)).grownBy w5 lv.ownBlock)
    (hs : v5.ownBlock = lv.ownBlock ∨ v5.ownBlock = some ((wr.setCell ⟨w.heap.size + 2, y, none⟩ (.bool true)).alloc (.cells #[.int .i64 y] 3)).heap.size) : RO w w5 box n v5 cs (outs.set y true) (Hps.meet1 l (y : Int)) := by
  have hlv : ∀ k, lv.ownBlock = some k → w.heap.size + 1 ≤ k := fun k hk => (World.ownsRow.lt h.lst k hk).1
  obtain ⟨hyl, hye⟩ := List.getElem?_eq_some_iff.1 hy
  have hyn : (y : Int) ∉ l := fun hm => by
    have := (h.mem y).2 hm
    rw [hy] at this
    cases this
  have hm1 : Hps.meet1 l (y : Int) = l ++ [(y : Int)] := by rw [Hps.meet1, if_pos ⟨by omega, hyn⟩]
  have o1 := h.own.put' (j := y) h.len true
  have o2 := World.ownsRow.alloc o1 (.cells #[.int .i64 y] 3)
  have o3 : OwnO w5 w.heap.size (.slice (some ⟨w.heap.size + 2, 0, none⟩) n n) (outs.set y true) := World.ownsRow.kept o2 hg (by
    right
    intro e
    rcases h.ne with e' | e'
    · rw [e'] at e; cases e
    · exact e' e.symm)
  have b1 := (h.bel.setCell (p := ⟨w.heap.size + 2, y, none⟩) (by simp) (.bool true)).alloc (by simp; have := h.bel.size; omega) (.cells #[.int .i64 y] 3)
  have hbig := h.big
  refine ⟨o3, by rw [hm1]; exact ho, ?_, ?_, b1.grown hg (by simp; have := h.bel.size; omega) (fun k hk => by have := hlv k hk; omega), by simp [h.len], fun k => ?_, Hps.meet1_nodup h.nodup _, fun x hx => ?_, h.cells, ?_⟩
  · rcases hs with e | e
    · rw [e]; exact h.ne
    · right
      rw [e]
      intro e'
      have := Option.some.inj e'
      simp at this
      omega
  · exact Rw.far ((Rw.other (w := wr) h.box (by omega) _).alloc _) hg (fun e => by have := hlv w.heap.size e.symm; omega)
  · rw [Hps.mem_meet1, ← h.mem, List.getElem?_set]
    by_cases e : y = k
    · subst e
      simp [hyl]
    · rw [if_neg e]
      constructor
      · exact .inl
      · rintro (h1 | ⟨_, h1⟩)
        · exact h1
        · omega
  · rcases Hps.mem_meet1.1 hx with h1 | ⟨_, rfl⟩
    · exact h.inb x h1
    · exact ⟨y, rfl, by rw [h.cells, ← h.len]; exact hyl⟩
  · have := hg.size
    simp at *
    omega
/-- a number that is none, or has been met -/
theorem RO.same (_h : RO w wr box n lv cs outs l) {x : Int} (hx : ¬ 0 ≤ x ∨ x ∈ l) : Hps.meet1 l x = l := by
  rw [Hps.meet1, if_neg]
  rintro ⟨h0, h1⟩
  rcases hx with h2 | h2
  · exact h2 h0
  · exact h1 h2
end
namespace Hps
end Hps
end Go.Proofs.YthmddmddcdofaaaDoor
namespace Go.Proofs.YthmddmddcdofaaaDoor
open Go.RowKit
set_option maxRecDepth 100000
/-- the view so far, the order, the heap's box -/
structure VS (w wr : World) (box : Array Value) (ov : Value) (o : List Int) (lv : Value) (l : List Int) : Prop where
  lst : OwnI wr (w.heap.size + 1) lv l
  ord : OwnI wr (w.heap.size + 1) ov o
  sep : lv.ownBlock = none ∨ lv.ownBlock ≠ ov.ownBlock
  box : Rw wr w.heap.size 26 box
  bel : Below w.heap.size w wr
section
variable {w wr w1 : World} {box : Array Value} {ov lv v5 : Value} {o l xs : List Int}
theorem VS.up (S : VS w wr box ov o lv l) (hb : Below wr.heap.size wr w1) : VS w w1 box ov o lv l :=
  ⟨S.lst.below hb (Nat.le_refl _), S.ord.below hb (Nat.le_refl _), S.sep, S.box.keep hb S.box.lt, S.bel.trans (hb.mono S.bel.size)⟩
end
namespace Hps
end Hps
namespace Hps
end Hps
end Go.Proofs.YthmddmddcdofaaaDoor

namespace Go.Proofs.YthmddmddcdofaaaDoor
namespace Hps
/-- nothing is left of a cell -/
def freeCl : Cl := ⟨false, 0, []⟩
def freeK (h : Hp) (k : Nat) : Hp := ⟨h.cs.set k freeCl, h.rt⟩
/-- used cells to each of which a root or one of them leads -/
def Sup (h : Hp) (K : Nat → Prop) : Prop := ∀ k, K k → usedAt h.cs k = true ∧ ((k : Int) ∈ h.rt ∨ ∃ (m : Nat) (c : Cl), K m ∧ h.cs[m]? = some c ∧ (k : Int) ∈ c.r)
/-- a cell that is never freed -/
def Kept (h : Hp) (k : Nat) : Prop := ∃ K : Nat → Prop, Sup h K ∧ K k
open Classical in
/-- what is left when everything is freed to which nothing leads -/
noncomputable def freeH (h : Hp) : Hp := ⟨(List.range h.cs.length).map fun k => if Kept h k then (h.cs[k]?).getD freeCl else freeCl, h.rt⟩
theorem mem_refsOf {h : Hp} {n : Int} : n ∈ refsOf h ↔ n ∈ h.rt ∨ ∃ (m : Nat) (c : Cl), h.cs[m]? = some c ∧ n ∈ c.r := by
  unfold refsOf
  rw [List.mem_append, List.mem_flatten]
  constructor
  · rintro (h1 | ⟨l, hl, hn⟩)
    · exact .inl h1
    · obtain ⟨c, hc, rfl⟩ := List.mem_map.1 hl
      obtain ⟨m, hm⟩ := List.mem_iff_getElem?.1 hc
      exact .inr ⟨m, c, hm, hn⟩
  · rintro (h1 | ⟨m, c, hm, hn⟩)
    · exact .inl h1
    · exact .inr ⟨c.r, List.mem_map.2 ⟨c, List.mem_of_getElem? hm, rfl⟩, hn⟩
theorem Kept.used {h : Hp} {k : Nat} (hk : Kept h k) : usedAt h.cs k = true := by
  obtain ⟨K, hs, hk⟩ := hk
  exact (hs k hk).1
theorem freeH_len (h : Hp) : (freeH h).cs.length = h.cs.length := by simp [freeH]
theorem freeH_cell {h : Hp} {k : Nat} (hk : Kept h k) : (freeH h).cs[k]? = h.cs[k]? := by
  obtain ⟨c, hc, _⟩ := usedAt_iff.1 hk.used
  have hl := (List.getElem?_eq_some_iff.1 hc).1
  simp [freeH, hl, hk]
theorem freeH_gone {h : Hp} {k : Nat} (hk : ¬ Kept h k) (hl : k < h.cs.length) : (freeH h).cs[k]? = some freeCl := by simp [freeH, hl, hk]
/-- while cells are freed: x is what h has become -/
structure Frees (h x : Hp) : Prop where
  rt : x.rt = h.rt
  len : x.cs.length = h.cs.length
  cell : ∀ k, x.cs[k]? = h.cs[k]? ∨ (x.cs[k]? = some freeCl ∧ ¬ Kept h k)
theorem Frees.refl (h : Hp) : Frees h h := ⟨rfl, rfl, fun _ => .inl rfl⟩
theorem Frees.kept {h x : Hp} (F : Frees h x) {k : Nat} (hk : Kept h k) : x.cs[k]? = h.cs[k]? := by
  rcases F.cell k with e | ⟨_, e⟩
  · exact e
  · exact absurd hk e
theorem Frees.free {h x : Hp} (F : Frees h x) {k : Nat} (hlt : k < x.cs.length) (hn : (k : Int) ∉ refsOf x) : Frees h (freeK x k) := by
  refine ⟨F.rt, by simp [freeK, F.len], fun j => ?_⟩
  by_cases e : k = j
  · subst e
    refine .inr ⟨by simp [freeK, hlt], fun hk => ?_⟩
    obtain ⟨K, hs, hkk⟩ := hk
    obtain ⟨_, h1 | ⟨m, c, hm, hc, hr⟩⟩ := hs k hkk
    · exact hn (mem_refsOf.2 (.inl (by rw [F.rt]; exact h1)))
    · exact hn (mem_refsOf.2 (.inr ⟨m, c, by rw [F.kept ⟨K, hs, hm⟩]; exact hc, hr⟩))
  · rw [freeK, List.getElem?_set_ne e]
    exact F.cell j
theorem valid_unused {h : Hp} (hv : validH h = true) {k : Nat} {c : Cl} (hc : h.cs[k]? = some c) (hu : c.u = false) : c = freeCl := by
  have := okCell_iff.1 (valid_cell hv hc)
  obtain ⟨u, d, r⟩ := c
  simp only at hu this
  subst hu
  rcases this.1 with e | ⟨e1, e2⟩
  · cases e
  · rw [freeCl, e1, e2]
theorem Frees.used {h x : Hp} (F : Frees h x) (hv : validH h = true) {k : Nat} {c : Cl} (hc : x.cs[k]? = some c) (hr : c.r ≠ []) : h.cs[k]? = some c ∧ c.u = true := by
  rcases F.cell k with e | ⟨e, _⟩
  · rw [e] at hc
    refine ⟨hc, ?_⟩
    cases hu : c.u
    · rw [valid_unused hv hc hu] at hr
      exact absurd rfl hr
    · rfl
  · rw [hc] at e
    rw [Option.some.inj e] at hr
    exact absurd rfl hr
/-- when nothing is left that could be freed, it is what is kept -/
theorem Frees.fin {h x : Hp} (F : Frees h x) (hv : validH h = true) (hd : ∀ k, usedAt x.cs k = true → (k : Int) ∈ refsOf x) : x = freeH h := by
  have hs : Sup h (fun k => usedAt x.cs k = true) := fun k hk => by
    obtain ⟨c, hc, hu⟩ := usedAt_iff.1 hk
    refine ⟨?_, ?_⟩
    · rcases F.cell k with e | ⟨e, _⟩
      · exact usedAt_iff.2 ⟨c, by rw [← e]; exact hc, hu⟩
      · rw [hc] at e
        rw [Option.some.inj e] at hu
        cases hu
    · rcases mem_refsOf.1 (hd k hk) with h1 | ⟨m, c', hm, hn⟩
      · exact .inl (by rw [← F.rt]; exact h1)
      · obtain ⟨h1, h2⟩ := F.used hv hm (List.ne_nil_of_mem hn)
        exact .inr ⟨m, c', usedAt_iff.2 ⟨c', hm, h2⟩, h1, hn⟩
  have hcs : x.cs = (freeH h).cs := by
    apply List.ext_getElem?
    intro k
    rcases Nat.lt_or_ge k h.cs.length with hk | hk
    · obtain ⟨c, hc⟩ : ∃ c, h.cs[k]? = some c := ⟨_, List.getElem?_eq_getElem hk⟩
      by_cases q : Kept h k
      · rw [freeH_cell q, F.kept q]
      · rw [freeH_gone q hk]
        rcases F.cell k with e | ⟨e, _⟩
        · rw [e, hc]
          congr 1
          refine valid_unused hv hc ?_
          cases hu : c.u
          · rfl
          · exact absurd ⟨_, hs, usedAt_iff.2 ⟨c, by rw [e]; exact hc, hu⟩⟩ q
        · exact e
    · rw [List.getElem?_eq_none (by rw [F.len]; exact hk), List.getElem?_eq_none (by simp [freeH]; exact hk)]
  obtain ⟨xc, xr⟩ := x
  have := F.rt
  simp only at this hcs
  rw [this, hcs]
  rfl
theorem freeK_valid {x : Hp} (hv : validH x = true) {k : Nat} (hn : (k : Int) ∉ refsOf x) : validH (freeK x k) = true := by
  obtain ⟨v1, v2, v3, v4⟩ := valid_iff.1 hv
  have hu : ∀ n : Int, okRef x.cs n = true → n ≠ (k : Int) → okRef (x.cs.set k freeCl) n = true := fun n ho hne => by
    rcases okRef_iff.1 ho with e | ⟨e, hu⟩
    · exact okRef_iff.2 (.inl e)
    · refine okRef_iff.2 (.inr ⟨e, ?_⟩)
      obtain ⟨c, hc, hcu⟩ := usedAt_iff.1 hu
      exact usedAt_iff.2 ⟨c, by rw [List.getElem?_set_ne (by omega)]; exact hc, hcu⟩
  refine valid_iff.2 ⟨fun c hc => ?_, by simpa [freeK] using v2, v3, okRefs_iff.2 fun n h1 => hu n (okRefs_iff.1 v4 n h1) fun e => hn (mem_refsOf.2 (.inl (e ▸ h1)))⟩
  rcases List.mem_or_eq_of_mem_set hc with h1 | rfl
  · obtain ⟨m, hm⟩ := List.mem_iff_getElem?.1 h1
    obtain ⟨w1, w2, w3, w4⟩ := okCell_iff.1 (v1 c h1)
    exact okCell_iff.2 ⟨w1, w2, w3, okRefs_iff.2 fun n h2 => hu n (okRefs_iff.1 w4 n h2) fun e => hn (mem_refsOf.2 (.inr ⟨m, c, hm, e ▸ h2⟩))⟩
  · exact okCell_iff.2 ⟨.inr ⟨rfl, rfl⟩, by decide, by decide, rfl⟩
/-- a used cell to which nothing leads, the last one below n; -1 if there is none -/
def idleTo (h : Hp) : Nat → Int
  | 0 => -1
  | n + 1 => if usedAt h.cs n = true ∧ (n : Int) ∉ refsOf h then (n : Int) else idleTo h n
theorem idleTo_cases (h : Hp) : ∀ n, (idleTo h n = -1 ∧ ∀ k, k < n → usedAt h.cs k = true → (k : Int) ∈ refsOf h) ∨ ∃ k : Nat, idleTo h n = k ∧ k < n ∧ usedAt h.cs k = true ∧ (k : Int) ∉ refsOf h
  | 0 => .inl ⟨rfl, fun k hk => by omega⟩
  | n + 1 => by
    rw [idleTo]
    by_cases e : usedAt h.cs n = true ∧ (n : Int) ∉ refsOf h
    · rw [if_pos e]
      exact .inr ⟨n, rfl, by omega, e⟩
    · rw [if_neg e]
      rcases idleTo_cases h n with ⟨h1, h2⟩ | ⟨k, h1, h2, h3⟩
      · refine .inl ⟨h1, fun k hk hu => ?_⟩
        rcases Nat.lt_or_ge k n with h3 | h3
        · exact h2 k h3 hu
        · obtain rfl : k = n := by omega
          exact Classical.byContradiction fun q => e ⟨hu, q⟩
      · exact .inr ⟨k, h1, by omega, h3⟩
def usedN (h : Hp) : Nat := usedTo h.cs h.cs.length
theorem usedN_eq (h : Hp) : usedN h = h.cs.countP (·.u) := by simp [usedN, usedTo]
theorem usedN_free {x : Hp} {k : Nat} (hu : usedAt x.cs k = true) : usedN (freeK x k) + 1 = usedN x := by
  rw [usedN_eq, usedN_eq, freeK]
  obtain ⟨c, hc, hcu⟩ := usedAt_iff.1 hu
  have key : ∀ (cs : List Cl) (k : Nat), cs[k]? = some c → (cs.set k freeCl).countP (·.u) + 1 = cs.countP (·.u) := by
    intro cs
    induction cs with
    | nil => intro k h; simp at h
    | cons a l ih =>
      intro k h
      cases k with
      | zero =>
        simp only [List.getElem?_cons_zero, Option.some.injEq] at h
        subst h
        simp [hcu, freeCl]
      | succ k =>
        have := ih k (by simpa using h)
        rw [List.set_cons_succ, List.countP_cons, List.countP_cons]
        omega
  exact key x.cs k hc
def freeF : Nat → Hp → Hp
  | 0, x => x
  | f + 1, x => if idleTo x x.cs.length < 0 then x else freeF f (freeK x (idleTo x x.cs.length).toNat)
theorem freeF_frees {h : Hp} (hv : validH h = true) : ∀ (f : Nat) (x : Hp), Frees h x → validH x = true → usedN x < f → freeF f x = freeH h ∧ validH (freeH h) = true
  | 0, x, _, _, hu => by omega
  | f + 1, x, F, vx, hu => by
    rw [freeF]
    rcases idleTo_cases x x.cs.length with ⟨h1, h2⟩ | ⟨k, h1, h2, h3, h4⟩
    · rw [if_pos (by omega)]
      have := F.fin hv fun k hk => h2 k (usedAt_lt hk) hk
      exact ⟨this, this ▸ vx⟩
    · rw [if_neg (by omega), h1, Int.toNat_natCast]
      exact freeF_frees hv f _ (F.free h2 h4) (freeK_valid vx h4) (by have := usedN_free h3; omega)
theorem usedN_lt (h : Hp) : usedN h < h.cs.length + 1 := by have := usedTo_le h.cs h.cs.length; unfold usedN; omega
theorem freeH_valid {h : Hp} (hv : validH h = true) : validH (freeH h) = true := (freeF_frees hv _ h (Frees.refl h) hv (usedN_lt h)).2
/-- what is left is led to -/
theorem freeH_led {h : Hp} {k : Nat} (hu : usedAt (freeH h).cs k = true) : (k : Int) ∈ refsOf (freeH h) := by
  have hl := usedAt_lt hu
  rw [freeH_len] at hl
  have hk : Kept h k := by
    refine Classical.byContradiction fun q => ?_
    obtain ⟨c, hc, hcu⟩ := usedAt_iff.1 hu
    rw [freeH_gone q hl] at hc
    rw [← Option.some.inj hc] at hcu
    cases hcu
  obtain ⟨K, hs, hkk⟩ := hk
  obtain ⟨_, h1 | ⟨m, c, hm, hc, hr⟩⟩ := hs k hkk
  · exact mem_refsOf.2 (.inl h1)
  · exact mem_refsOf.2 (.inr ⟨m, c, by rw [freeH_cell ⟨K, hs, hm⟩]; exact hc, hr⟩)
theorem reached_kept {h : Hp} (hv : validH h = true) {k : Nat} (hr : Rch h.cs h.rt k) : Kept h k := by
  refine ⟨fun k => Rch h.cs h.rt k, fun k hk => ⟨hk.live hv, ?_⟩, hr⟩
  cases hk with
  | root h1 => exact .inl h1
  | step h1 h2 h3 => exact .inr ⟨_, _, h1, h2, h3⟩
/-- a program sees the same -/
theorem freeH_sim {h : Hp} (hv : validH h = true) : Sim h (freeH h) (fun k x => k = x ∧ Rch h.cs h.rt k) := by
  refine ⟨fun k x y h1 h2 => by omega, fun k m x h1 h2 => by omega, ⟨rfl, fun i n m h1 h2 => ?_⟩, ?_⟩
  · have e : n = m := by
      rw [show (freeH h).rt = h.rt from rfl, h1] at h2
      exact Option.some.inj h2
    subst e
    rcases okRef_iff.1 (valid_root hv h1) with e | ⟨e, _⟩
    · exact .inl ⟨e, e⟩
    · exact .inr ⟨n.toNat, n.toNat, by omega, by omega, rfl, .root (by rw [Int.toNat_of_nonneg e]; exact List.mem_of_getElem? h1)⟩
  · rintro k x ⟨rfl, hr⟩
    obtain ⟨c, hc, _⟩ := usedAt_iff.1 (hr.live hv)
    refine ⟨c, c, hc, by rw [freeH_cell (reached_kept hv hr)]; exact hc, rfl, rfl, fun i n m h1 h2 => ?_⟩
    have e : n = m := by
      rw [h1] at h2
      exact Option.some.inj h2
    subst e
    rcases okRef_iff.1 (valid_ref hv hc h1) with e | ⟨e, _⟩
    · exact .inl ⟨e, e⟩
    · exact .inr ⟨n.toNat, n.toNat, by omega, by omega, rfl, .step hr hc (by rw [Int.toNat_of_nonneg e]; exact List.mem_of_getElem? h1)⟩
theorem freeH_same {h : Hp} (hv : validH h = true) : sameV (freeH h) h = true := by
  rw [sameV_comm]
  exact sameV_iff.2 ⟨hv, freeH_valid hv, (freeH_sim hv).view hv (freeH_valid hv)⟩
/-- the first cell that is not used, or the place behind the last one -/
def gapTo (cs : List Cl) (n : Nat) : Nat := ((List.range n).find? fun k => !usedAt cs k).getD n
def gapH (h : Hp) : Nat := gapTo h.cs h.cs.length
theorem gapH_cases (h : Hp) : (gapH h = h.cs.length ∧ ∀ k, k < h.cs.length → usedAt h.cs k = true) ∨ (gapH h < h.cs.length ∧ usedAt h.cs (gapH h) = false ∧ ∀ k, k < gapH h → usedAt h.cs k = true) := by
  unfold gapH gapTo
  cases e : (List.range h.cs.length).find? fun k => !usedAt h.cs k with
  | none =>
    refine .inl ⟨rfl, fun k hk => ?_⟩
    have := List.find?_eq_none.1 e k (List.mem_range.2 hk)
    simpa using this
  | some k =>
    refine .inr ⟨?_, ?_, ?_⟩
    · exact List.mem_range.1 (List.mem_of_find?_eq_some e)
    · simpa using List.find?_some e
    · intro j hj
      simp only [Option.getD_some] at hj
      obtain ⟨_, l1, l2, e1, e2⟩ := List.find?_eq_some_iff_append.1 e
      have hk := List.mem_range.1 (List.mem_of_find?_eq_some e)
      have hm : j ∈ l1 := by
        have hj1 : j ∈ List.range h.cs.length := List.mem_range.2 (by omega)
        rw [e1, List.mem_append, List.mem_cons] at hj1
        rcases hj1 with h1 | h1 | h1
        · exact h1
        · omega
        · have hs : (l1 ++ k :: l2).Pairwise (· < ·) := by rw [← e1]; exact List.pairwise_lt_range
          rw [List.pairwise_append, List.pairwise_cons] at hs
          have := hs.2.1.1 j h1
          omega
      simpa using e2 j hm
theorem gapH_le (h : Hp) : gapH h ≤ h.cs.length := by rcases gapH_cases h with ⟨e, _⟩ | ⟨e, _⟩ <;> omega
/-- counts are those of RefCounts -/
def okCt (h : Hp) (l : List Int) : Bool := validH h && decide (l = countsL h)
theorem okCt_iff {h : Hp} {l : List Int} : okCt h l = true ↔ validH h = true ∧ l = countsL h := by simp [okCt]
/-- a step with counts -/
noncomputable def stepCt (h : Hp) (l : List Int) (o : Cm) : (Hp × List Int) × Bool :=
  if okCt h l && okCm o then
    (if !canH h o || (decide (o.op = 1) && decide (gapH h = 40)) then ((h, l), false) else ((freeH (doH h o (gapH h)), countsL (freeH (doH h o (gapH h)))), true))
  else ((zeroH, []), false)
theorem stepCt_no {h : Hp} {l : List Int} {o : Cm} (e : okCt h l = false ∨ okCm o = false) : stepCt h l o = ((zeroH, []), false) := by
  rw [stepCt, if_neg]
  rw [Bool.and_eq_true]
  rintro ⟨h1, h2⟩
  rcases e with e | e
  · rw [e] at h1; cases h1
  · rw [e] at h2; cases h2
theorem stepCt_cannot {h : Hp} {l : List Int} {o : Cm} (h1 : okCt h l = true) (h2 : okCm o = true) (h3 : canH h o = false ∨ (o.op = 1 ∧ gapH h = 40)) : stepCt h l o = ((h, l), false) := by
  rw [stepCt, if_pos (by rw [h1, h2]; rfl), if_pos]
  rcases h3 with e | ⟨e1, e2⟩
  · simp [e]
  · simp [e1, e2]
theorem stepCt_does {h : Hp} {l : List Int} {o : Cm} (h1 : okCt h l = true) (h2 : okCm o = true) (h3 : canH h o = true) (h4 : ¬ (o.op = 1 ∧ gapH h = 40)) : stepCt h l o = ((freeH (doH h o (gapH h)), countsL (freeH (doH h o (gapH h)))), true) := by
  rw [stepCt, if_pos (by rw [h1, h2]; rfl), if_neg]
  simp only [h3, Bool.not_true, Bool.false_or, Bool.and_eq_true, decide_eq_true_eq]
  exact h4
theorem gap_room {h : Hp} (hv : validH h = true) {o : Cm} (h4 : ¬ (o.op = 1 ∧ gapH h = 40)) : o.op = 1 → gapH h ≤ h.cs.length ∧ gapH h < 40 := fun h1 => by
  have := gapH_le h
  have := (valid_iff.1 hv).2.1
  exact ⟨gapH_le h, by omega⟩
theorem stepCt_ok {h : Hp} {l : List Int} {o : Cm} (h1 : okCt h l = true) (h2 : okCm o = true) : okCt (stepCt h l o).1.1 (stepCt h l o).1.2 = true := by
  by_cases h3 : canH h o = false ∨ (o.op = 1 ∧ gapH h = 40)
  · rw [stepCt_cannot h1 h2 h3]
    exact h1
  · rw [not_or] at h3
    have h3' : canH h o = true := by simpa using h3.1
    rw [stepCt_does h1 h2 h3' h3.2]
    exact okCt_iff.2 ⟨freeH_valid (doH_valid h3' (gap_room (okCt_iff.1 h1).1 h3.2)), rfl⟩
/-! a new cell at a gap and a new cell behind the last one -/
theorem new_sim {h : Hp} (hv : validH h = true) {p : Nat} (hp : p < h.cs.length) (hu : usedAt h.cs p = false) (c : Cl) (hc : ∀ n ∈ c.r, n = -1) (i : Nat) :
    Sim ⟨h.cs.set p c, h.rt.set i (p : Int)⟩ ⟨h.cs ++ [c], h.rt.set i (h.cs.length : Int)⟩ (fun k x => (k = x ∧ usedAt h.cs k = true) ∨ (k = p ∧ x = h.cs.length)) := by
  have hlt : ∀ k, usedAt h.cs k = true → k < h.cs.length := fun k hk => usedAt_lt hk
  have hne : ∀ k, usedAt h.cs k = true → k ≠ p := fun k hk e => by rw [e, hu] at hk; cases hk
  have hrr : ∀ n : Int, okRef h.cs n = true → RR (fun k x => (k = x ∧ usedAt h.cs k = true) ∨ (k = p ∧ x = h.cs.length)) n n := fun n ho => by
    rcases okRef_iff.1 ho with e | ⟨e, hu⟩
    · exact .inl ⟨e, e⟩
    · exact .inr ⟨n.toNat, n.toNat, by omega, by omega, .inl ⟨rfl, hu⟩⟩
  refine ⟨?_, ?_, ?_, ?_⟩
  · rintro k x y (⟨rfl, h1⟩ | ⟨rfl, rfl⟩) (⟨rfl, h2⟩ | ⟨e, rfl⟩)
    · rfl
    · exact absurd e (hne _ h1)
    · exact absurd rfl (hne _ h2)
    · rfl
  · rintro k m x (⟨rfl, h1⟩ | ⟨rfl, rfl⟩) (⟨rfl, h2⟩ | ⟨rfl, e⟩)
    · rfl
    · have := hlt _ h1; omega
    · have := hlt _ h2; omega
    · rfl
  · refine LR.set (R := fun k x => (k = x ∧ usedAt h.cs k = true) ∨ (k = p ∧ x = h.cs.length)) ⟨rfl, fun j n m h1 h2 => ?_⟩ i (.inr ⟨_, _, rfl, rfl, .inr ⟨rfl, rfl⟩⟩)
    rw [h1] at h2
    rw [← Option.some.inj h2]
    exact hrr n (valid_root hv h1)
  · rintro k x (⟨rfl, h1⟩ | ⟨rfl, rfl⟩)
    · obtain ⟨q, hq, _⟩ := usedAt_iff.1 h1
      refine ⟨q, q, by rw [List.getElem?_set_ne (fun e => hne k h1 e.symm)]; exact hq, by rw [List.getElem?_append_left (hlt k h1)]; exact hq, rfl, rfl, fun j n m h1 h2 => ?_⟩
      rw [h1] at h2
      rw [← Option.some.inj h2]
      exact hrr n (valid_ref hv hq h1)
    · refine ⟨c, c, by simp [hp], by simp, rfl, rfl, fun j n m h1 h2 => ?_⟩
      rw [h1] at h2
      have e := hc n (List.mem_of_getElem? h1)
      exact .inl ⟨e, by rw [← Option.some.inj h2]; exact e⟩
theorem gap_same {h : Hp} {o : Cm} (hv : validH h = true) (hc : canH h o = true) (h4 : ¬ (o.op = 1 ∧ gapH h = 40)) (hl : o.op = 1 → h.cs.length < 40) : sameV (doH h o (gapH h)) (doH h o h.cs.length) = true := by
  have v1 : validH (doH h o (gapH h)) = true := doH_valid hc (gap_room hv h4)
  have v2 : validH (doH h o h.cs.length) = true := doH_valid hc (fun h1 => ⟨Nat.le_refl _, hl h1⟩)
  by_cases h1 : o.op = 1
  · rcases gapH_cases h with ⟨e, _⟩ | ⟨e1, e2, _⟩
    · rw [e] at v1 ⊢
      exact sameV_iff.2 ⟨v1, v1, rfl⟩
    · have S := new_sim hv e1 e2 (newCl o) (fun n hn => by simp only [newCl, List.mem_replicate] at hn; exact hn.2) o.a.toNat
      have d1 : doH h o (gapH h) = ⟨h.cs.set (gapH h) (newCl o), h.rt.set o.a.toNat (gapH h : Int)⟩ := by rw [doH, if_pos h1, putCl, if_neg (by omega)]
      have d2 : doH h o h.cs.length = ⟨h.cs ++ [newCl o], h.rt.set o.a.toNat (h.cs.length : Int)⟩ := by rw [doH, if_pos h1, putCl, if_pos rfl]
      rw [← d1, ← d2] at S
      exact sameV_iff.2 ⟨v1, v2, S.view v1 v2⟩
  · have : doH h o (gapH h) = doH h o h.cs.length := by
      unfold doH
      rw [if_neg h1, if_neg h1]
    rw [this]
    exact sameV_iff.2 ⟨v2, v2, rfl⟩
theorem sameV_trans {a b c : Hp} (h1 : sameV a b = true) (h2 : sameV b c = true) : sameV a c = true := by
  obtain ⟨a1, _, a3⟩ := sameV_iff.1 h1
  obtain ⟨_, b2, b3⟩ := sameV_iff.1 h2
  exact sameV_iff.2 ⟨a1, b2, a3.trans b3⟩
/-- P56: with room, a program sees what StepHeap shows -/
theorem stepCt_same {h : Hp} {l : List Int} {o : Cm} (hd : (stepCt h l o).2 = true) (hr : (stepH h o).2 = true) : sameV (stepCt h l o).1.1 (stepH h o).1 = true := by
  have h1 : okCt h l = true := by
    cases e : okCt h l
    · rw [stepCt_no (.inl e)] at hd; cases hd
    · rfl
  have h2 : okCm o = true := by
    cases e : okCm o
    · rw [stepCt_no (.inr e)] at hd; cases hd
    · rfl
  have hv := (okCt_iff.1 h1).1
  by_cases h3 : canH h o = false ∨ (o.op = 1 ∧ gapH h = 40)
  · rw [stepCt_cannot h1 h2 h3] at hd
    cases hd
  rw [not_or] at h3
  have h3' : canH h o = true := by simpa using h3.1
  have h5 : ¬ (o.op = 1 ∧ h.cs.length = 40) := by
    rintro ⟨e1, e2⟩
    simp [stepH, hv, h2, e1, e2] at hr
  have e : stepH h o = (doH h o h.cs.length, true) := by
    unfold stepH
    rw [hv, h2, h3']
    simp only [Bool.and_self, if_true, Bool.not_true, Bool.false_or]
    rw [if_neg]
    simpa using h5
  rw [stepCt_does h1 h2 h3' h3.2, e]
  exact sameV_trans (freeH_same (doH_valid h3' (gap_room hv h3.2))) (gap_same hv h3' h3.2 (fun q => by have := (valid_iff.1 hv).2.1; omega))
theorem empty_ok : okCt emptyH [] = true := by decide
/-- while a program runs with counts: at most as many cells as steps; a program sees what it sees without freeing; everything used has a count -/
structure RunsCt (x : Hp × List Int) (y : Hp) (n : Nat) : Prop where
  ok : okCt x.1 x.2 = true
  same : sameV x.1 y = true
  few : x.1.cs.length ≤ n ∧ y.cs.length ≤ n
  led : ∀ k, usedAt x.1.cs k = true → (k : Int) ∈ refsOf x.1
theorem RunsCt.start : RunsCt (emptyH, []) emptyH 0 := ⟨empty_ok, by rw [sameV_iff]; exact ⟨empty_valid, empty_valid, rfl⟩, by decide, fun k hk => by simp [emptyH, usedAt] at hk⟩
theorem doH_len {h : Hp} {o : Cm} {p : Nat} : (doH h o p).cs.length ≤ h.cs.length + 1 := by
  have h1 : ∀ c, (putCl h.cs p c).length ≤ h.cs.length + 1 := fun c => by unfold putCl; split <;> simp
  have h2 : ∀ k i x, (setRef h.cs k i x).length = h.cs.length := fun k i x => by unfold setRef; split <;> simp
  have h3 : ∀ k x, (setDat h.cs k x).length = h.cs.length := fun k x => by unfold setDat; split <;> simp
  unfold doH
  split
  · exact h1 _
  split
  · simp
  split
  · rw [h2]; omega
  split
  · simp
  split
  · simp
  split
  · rw [h3]; omega
  · omega
theorem stepH_len {h : Hp} {o : Cm} : (stepH h o).1.cs.length ≤ h.cs.length + 1 := by
  unfold stepH
  split
  · split
    · simp
    · exact doH_len
  · simp [zeroH]
theorem stepCt_len {h : Hp} {l : List Int} {o : Cm} : (stepCt h l o).1.1.cs.length ≤ h.cs.length + 1 := by
  unfold stepCt
  split
  · split
    · simp
    · simp only [freeH_len]; exact doH_len
  · simp [zeroH]
theorem RunsCt.step {x : Hp × List Int} {y : Hp} {n : Nat} (S : RunsCt x y n) {o : Cm} (ho : okCm o = true) (hn : n < 40) : RunsCt (stepCt x.1 x.2 o).1 (stepH y o).1 (n + 1) := by
  have hv := (okCt_iff.1 S.ok).1
  obtain ⟨_, hy, he⟩ := sameV_iff.1 S.same
  have hcan := (sim_of_view hv hy he).can hv hy o
  have hg := gapH_le x.1
  have hf := S.few
  refine ⟨stepCt_ok S.ok ho, ?_, ⟨Nat.le_trans stepCt_len (by omega), Nat.le_trans stepH_len (by omega)⟩, ?_⟩
  · cases hc : canH x.1 o
    · rw [stepCt_cannot S.ok ho (.inl hc)]
      have : stepH y o = (y, false) := by simp [stepH, hy, ho, ← hcan, hc]
      rw [this]
      exact S.same
    · have h4 : ¬ (o.op = 1 ∧ gapH x.1 = 40) := by omega
      refine sameV_trans (stepCt_same (by rw [stepCt_does S.ok ho hc h4]) ?_) (same_step S.same ho (by omega) (by omega))
      have h5 : ¬ (o.op = 1 ∧ x.1.cs.length = 40) := by omega
      unfold stepH
      rw [hv, ho, hc]
      simp only [Bool.and_self, if_true, Bool.not_true, Bool.false_or]
      rw [if_neg (by simpa using h5)]
  · by_cases h3 : canH x.1 o = false ∨ (o.op = 1 ∧ gapH x.1 = 40)
    · rw [stepCt_cannot S.ok ho h3]
      exact S.led
    · rw [not_or] at h3
      rw [stepCt_does S.ok ho (by simpa using h3.1) h3.2]
      exact fun k hk => freeH_led hk
open Classical in
/-- the used cells that cannot be reached, ascending -/
noncomputable def leakL (h : Hp) : List Int := ((List.range h.cs.length).filter fun k => usedAt h.cs k && !decide (Rch h.cs h.rt k)).map fun (k : Nat) => (k : Int)
open Classical in
noncomputable def leakTo (h : Hp) (n : Nat) : List Int := ((List.range n).filter fun k => usedAt h.cs k && !decide (Rch h.cs h.rt k)).map fun (k : Nat) => (k : Int)
theorem leakTo_all (h : Hp) : leakTo h h.cs.length = leakL h := rfl
theorem leakTo_yes {h : Hp} {k : Nat} (hu : usedAt h.cs k = true) (hr : ¬ Rch h.cs h.rt k) : leakTo h (k + 1) = leakTo h k ++ [(k : Int)] := by
  simp [leakTo, List.range_succ, List.filter_append, hu, hr]
theorem leakTo_no {h : Hp} {k : Nat} (hu : usedAt h.cs k = false ∨ Rch h.cs h.rt k) : leakTo h (k + 1) = leakTo h k := by
  rcases hu with e | e
  · simp [leakTo, List.range_succ, List.filter_append, e]
  · simp [leakTo, List.range_succ, List.filter_append, e]
end Hps
end Go.Proofs.YthmddmddcdofaaaDoor

namespace Go.Proofs.YthmddmddcdofaaaDoor
namespace Hps
/-- the references of the roots and of those of the first i cells that are not in the set -/
def outTo (h : Hp) (s : List Bool) : Nat → List Int
  | 0 => h.rt
  | i + 1 => outTo h s i ++ (if s[i]? = some true then [] else match h.cs[i]? with | some c => c.r | none => [])
def outOf (h : Hp) (s : List Bool) : List Int := outTo h s h.cs.length
theorem mem_outTo {h : Hp} {s : List Bool} {n : Int} : ∀ i, n ∈ outTo h s i ↔ n ∈ h.rt ∨ ∃ (j : Nat) (c : Cl), j < i ∧ h.cs[j]? = some c ∧ s[j]? ≠ some true ∧ n ∈ c.r
  | 0 => by
    rw [outTo]
    constructor
    · exact .inl
    · rintro (h1 | ⟨j, c, hj, _⟩)
      · exact h1
      · omega
  | i + 1 => by
    rw [outTo, List.mem_append, mem_outTo i]
    constructor
    · rintro ((h1 | ⟨j, c, hj, h2⟩) | h1)
      · exact .inl h1
      · exact .inr ⟨j, c, by omega, h2⟩
      · split at h1
        · simp at h1
        · next hs =>
          cases e : h.cs[i]? with
          | none => rw [e] at h1; simp at h1
          | some c => rw [e] at h1; exact .inr ⟨i, c, by omega, e, hs, h1⟩
    · rintro (h1 | ⟨j, c, hj, hc, hs, h2⟩)
      · exact .inl (.inl h1)
      · rcases Nat.lt_or_ge j i with h3 | h3
        · exact .inl (.inr ⟨j, c, h3, hc, hs, h2⟩)
        · obtain rfl : j = i := by omega
          rw [if_neg hs, hc]
          exact .inr h2
theorem mem_outOf {h : Hp} {s : List Bool} {n : Int} : n ∈ outOf h s ↔ n ∈ h.rt ∨ ∃ (j : Nat) (c : Cl), h.cs[j]? = some c ∧ s[j]? ≠ some true ∧ n ∈ c.r := by
  rw [outOf, mem_outTo]
  constructor
  · rintro (h1 | ⟨j, c, _, h2⟩)
    · exact .inl h1
    · exact .inr ⟨j, c, h2⟩
  · rintro (h1 | ⟨j, c, h2, h3⟩)
    · exact .inl h1
    · exact .inr ⟨j, c, (List.getElem?_eq_some_iff.1 h2).1, h2, h3⟩
/-- how many references lead to a cell of the set from outside of it; -1 for other cells -/
def trialAt (h : Hp) (s : List Bool) (k : Nat) : Int := if s[k]? = some true then (((outOf h s).count (k : Int) : Nat) : Int) else -1
theorem trial_pos {h : Hp} {s : List Bool} {k : Nat} : 0 < trialAt h s k ↔ s[k]? = some true ∧ (k : Int) ∈ outOf h s := by
  unfold trialAt
  by_cases e : s[k]? = some true
  · rw [if_pos e, ← List.count_pos_iff]
    constructor
    · intro h1
      exact ⟨e, by omega⟩
    · rintro ⟨_, h1⟩
      omega
  · rw [if_neg e]
    constructor
    · intro h1
      omega
    · rintro ⟨h1, _⟩
      exact absurd h1 e
/-- the cells of a set to which something leads from outside of it, up to number i -/
def outsideTo (h : Hp) (s : List Bool) (i : Nat) : List Int := ((List.range i).filter fun k => decide (0 < trialAt h s k)).map fun (k : Nat) => (k : Int)
def outsideL (h : Hp) (s : List Bool) : List Int := outsideTo h s h.cs.length
theorem mem_outside {h : Hp} {s : List Bool} {x : Int} : x ∈ outsideL h s ↔ ∃ k : Nat, x = k ∧ k < h.cs.length ∧ s[k]? = some true ∧ (k : Int) ∈ outOf h s := by
  unfold outsideL outsideTo
  simp only [List.mem_map, List.mem_filter, List.mem_range, decide_eq_true_eq, trial_pos]
  constructor
  · rintro ⟨k, ⟨h1, h2, h3⟩, rfl⟩
    exact ⟨k, rfl, h1, h2, h3⟩
  · rintro ⟨k, rfl, h1, h2, h3⟩
    exact ⟨k, ⟨h1, h2, h3⟩, rfl⟩
/-- for every cell whether it is in the first set and not in the second -/
def minusL (s t : List Bool) : List Bool := List.zipWith (fun a b => a && !b) s t
theorem minus_at {s t : List Bool} {k : Nat} (hl : s.length = t.length) : (minusL s t)[k]? = some true ↔ s[k]? = some true ∧ t[k]? ≠ some true := by
  unfold minusL
  rw [List.getElem?_zipWith]
  rcases Nat.lt_or_ge k s.length with hk | hk
  · rw [List.getElem?_eq_getElem hk, List.getElem?_eq_getElem (show k < t.length by omega)]
    cases s[k] <;> cases t[k]'(by omega) <;> simp
  · rw [List.getElem?_eq_none hk]
    simp
noncomputable def deadL (h : Hp) (n : Int) : List Bool := minusL (reachL h.cs [n]) (reachL h.cs (outsideL h (reachL h.cs [n])))
theorem reachL_some {cs : List Cl} {a : List Int} {k : Nat} : (reachL cs a)[k]? = some true ↔ k < cs.length ∧ Rch cs a k := by
  constructor
  · intro h
    have hk := (List.getElem?_eq_some_iff.1 h).1
    rw [reachL_len] at hk
    exact ⟨hk, (reachL_true hk).1 h⟩
  · rintro ⟨hk, h⟩
    exact (reachL_true hk).2 h
theorem from_used {h : Hp} (hv : validH h = true) {n : Nat} (hn : usedAt h.cs n = true) {k : Nat} (hr : Rch h.cs [(n : Int)] k) : usedAt h.cs k = true :=
  hr.used (okRefs_iff.2 fun m hm => by rw [List.mem_singleton] at hm; subst hm; exact okRef_iff.2 (.inr ⟨by omega, by simpa using hn⟩)) (valid_refs hv)
theorem Rch.self (cs : List Cl) (n : Nat) : Rch cs [(n : Int)] n := .root (by simp)
theorem Rch.then {cs : List Cl} {a : List Int} {m k : Nat} (h1 : Rch cs a m) (h2 : Rch cs [(m : Int)] k) : Rch cs a k :=
  h2.mono fun x hx => by
    rw [List.mem_singleton] at hx
    obtain rfl : x = m := by omega
    exact h1
/-- what leads to a set's cell from outside keeps it alive -/
def Alive (h : Hp) (n k : Nat) : Prop := Rch h.cs (outsideL h (reachL h.cs [(n : Int)])) k
theorem dead_iff {h : Hp} {n k : Nat} : (deadL h (n : Int))[k]? = some true ↔ k < h.cs.length ∧ Rch h.cs [(n : Int)] k ∧ ¬ Alive h n k := by
  unfold deadL
  rw [minus_at (by rw [reachL_len, reachL_len]), reachL_some]
  constructor
  · rintro ⟨⟨h1, h2⟩, h3⟩
    exact ⟨h1, h2, fun q => h3 (reachL_some.2 ⟨h1, q⟩)⟩
  · rintro ⟨h1, h2, h3⟩
    exact ⟨⟨h1, h2⟩, fun q => h3 (reachL_some.1 q).2⟩
theorem dead_used {h : Hp} (hv : validH h = true) {n : Nat} (hn : usedAt h.cs n = true) {k : Nat} (hd : (deadL h (n : Int))[k]? = some true) : usedAt h.cs k = true := from_used hv hn (dead_iff.1 hd).2.1
/-- what can be reached is alive, if it is in the set -/
theorem reached_alive {h : Hp} (hv : validH h = true) {n k : Nat} (hr : Rch h.cs h.rt k) (hf : Rch h.cs [(n : Int)] k) : Alive h n k := by
  induction hr with
  | root hk =>
    have hf' := hf
    refine .root (mem_outside.2 ⟨_, rfl, ?_, reachL_some.2 ⟨?_, hf⟩, mem_outOf.2 (.inl hk)⟩) <;> exact usedAt_lt (Rch.live hv (.root hk))
  | @step k m c h1 hc hm ih =>
    by_cases q : Rch h.cs [(n : Int)] k
    · exact .step (ih q) hc hm
    · have hl := usedAt_lt (Rch.live hv (.step h1 hc hm))
      exact .root (mem_outside.2 ⟨_, rfl, hl, reachL_some.2 ⟨hl, hf⟩, mem_outOf.2 (.inr ⟨k, c, hc, fun e => q (reachL_some.1 e).2, hm⟩)⟩)
/-- P61: what can be reached is not dead -/
theorem dead_lost {h : Hp} (hv : validH h = true) {n k : Nat} (hd : (deadL h (n : Int))[k]? = some true) : ¬ Rch h.cs h.rt k := fun hr => (dead_iff.1 hd).2.2 (reached_alive hv hr (dead_iff.1 hd).2.1)
/-- P61: only dead cells refer to dead cells -/
theorem dead_back {h : Hp} {n j m : Nat} {c : Cl} (hc : h.cs[j]? = some c) (hm : (m : Int) ∈ c.r) (hd : (deadL h (n : Int))[m]? = some true) : (deadL h (n : Int))[j]? = some true := by
  obtain ⟨h1, h2, h3⟩ := dead_iff.1 hd
  refine dead_iff.2 ⟨(List.getElem?_eq_some_iff.1 hc).1, ?_, fun q => h3 (.step q hc hm)⟩
  refine Classical.byContradiction fun q => h3 (.root (mem_outside.2 ⟨_, rfl, h1, reachL_some.2 ⟨h1, h2⟩, mem_outOf.2 (.inr ⟨j, c, hc, fun e => q (reachL_some.1 e).2, hm⟩)⟩))
/-- an outside cell leads to what is not dead though it is in the set -/
theorem spared {h : Hp} (hv : validH h = true) {n k : Nat} (hf : Rch h.cs [(n : Int)] k) (hk : k < h.cs.length) (hd : (deadL h (n : Int))[k]? ≠ some true) (hr : ¬ Rch h.cs h.rt k) :
    ∃ j : Nat, usedAt h.cs j = true ∧ Rch h.cs [(j : Int)] k ∧ ¬ Rch h.cs [(n : Int)] j := by
  have ha : Alive h n k := Classical.byContradiction fun q => hd (dead_iff.2 ⟨hk, hf, q⟩)
  unfold Alive at ha
  have key : ∀ o : Nat, (o : Int) ∈ outsideL h (reachL h.cs [(n : Int)]) → Rch h.cs [(o : Int)] k → ∃ j : Nat, usedAt h.cs j = true ∧ Rch h.cs [(j : Int)] k ∧ ¬ Rch h.cs [(n : Int)] j := by
    intro o ho hok
    obtain ⟨o', e, h1, h2, h3⟩ := mem_outside.1 ho
    obtain rfl : o = o' := by omega
    rcases mem_outOf.1 h3 with h4 | ⟨j, c, hc, hs, hm⟩
    · exact absurd (Rch.then (.root h4) hok) hr
    · refine ⟨j, ?_, Rch.then (.step (Rch.self _ j) hc hm) hok, fun q => hs (reachL_some.2 ⟨(List.getElem?_eq_some_iff.1 hc).1, q⟩)⟩
      refine usedAt_iff.2 ⟨c, hc, ?_⟩
      cases hu : c.u
      · have := valid_unused hv hc hu
        rw [this] at hm
        simp [freeCl] at hm
      · rfl
  have gen : ∀ k', Rch h.cs (outsideL h (reachL h.cs [(n : Int)])) k' → ∃ o : Nat, (o : Int) ∈ outsideL h (reachL h.cs [(n : Int)]) ∧ Rch h.cs [(o : Int)] k' := by
    intro k' hk'
    induction hk' with
    | root h1 => exact ⟨_, h1, Rch.self _ _⟩
    | step _ hc hm ih =>
      obtain ⟨o, h1, h2⟩ := ih
      exact ⟨o, h1, .step h2 hc hm⟩
  obtain ⟨o, h1, h2⟩ := gen k ha
  exact key o h1 h2
/-! a heap without its dead cells -/
/-- nothing that stays leads to a cell that goes -/
structure Drp (x : Hp) (D : List Bool) : Prop where
  rt : ∀ k : Nat, (k : Int) ∈ x.rt → D[k]? ≠ some true
  back : ∀ {j m : Nat} {c : Cl}, x.cs[j]? = some c → (m : Int) ∈ c.r → D[m]? = some true → D[j]? = some true
theorem dead_drp {h : Hp} (hv : validH h = true) (n : Nat) : Drp h (deadL h (n : Int)) := ⟨fun _ hk hd => dead_lost hv hd (.root hk), dead_back⟩
theorem drop_stays {x : Hp} {D : List Bool} {k : Nat} (hd : D[k]? ≠ some true) : (dropH x D).cs[k]? = x.cs[k]? := by
  rcases Nat.lt_or_ge k x.cs.length with hk | hk
  · rw [dropH, dropL_at _ _ _ _ (List.getElem?_eq_getElem hk), if_neg hd, List.getElem?_eq_getElem hk]
  · rw [List.getElem?_eq_none hk, List.getElem?_eq_none (by rw [dropH, dropL_len]; exact hk)]
theorem drop_cases {x : Hp} {D : List Bool} {k : Nat} {c : Cl} (hc : (dropH x D).cs[k]? = some c) : (D[k]? ≠ some true ∧ x.cs[k]? = some c) ∨ (D[k]? = some true ∧ c = zeroCl) := by
  by_cases e : D[k]? = some true
  · have hk := (List.getElem?_eq_some_iff.1 hc).1
    rw [dropH, dropL_len] at hk
    rw [dropH, dropL_at _ _ _ _ (List.getElem?_eq_getElem hk), if_pos e] at hc
    exact .inr ⟨e, (Option.some.inj hc).symm⟩
  · rw [drop_stays e] at hc
    exact .inl ⟨e, hc⟩
theorem drop_len (x : Hp) (D : List Bool) : (dropH x D).cs.length = x.cs.length := by rw [dropH, dropL_len]
theorem drop_usedAt {x : Hp} {D : List Bool} {k : Nat} : usedAt (dropH x D).cs k = true ↔ usedAt x.cs k = true ∧ D[k]? ≠ some true := by
  constructor
  · intro h
    obtain ⟨c, hc, hu⟩ := usedAt_iff.1 h
    rcases drop_cases hc with ⟨h1, h2⟩ | ⟨_, rfl⟩
    · exact ⟨usedAt_iff.2 ⟨c, h2, hu⟩, h1⟩
    · cases hu
  · rintro ⟨h1, h2⟩
    obtain ⟨c, hc, hu⟩ := usedAt_iff.1 h1
    exact usedAt_iff.2 ⟨c, by rw [drop_stays h2]; exact hc, hu⟩
theorem drop_rch_sub {x : Hp} {D : List Bool} {a : List Int} {k : Nat} (h : Rch (dropH x D).cs a k) : Rch x.cs a k := by
  induction h with
  | root hk => exact .root hk
  | step _ hc hm ih =>
    rcases drop_cases hc with ⟨_, h2⟩ | ⟨_, rfl⟩
    · exact .step ih h2 hm
    · simp [zeroCl] at hm
theorem Drp.rch {x : Hp} {D : List Bool} (P : Drp x D) {a : List Int} (ha : ∀ k : Nat, (k : Int) ∈ a → D[k]? ≠ some true) {k : Nat} (h : Rch x.cs a k) : D[k]? ≠ some true ∧ Rch (dropH x D).cs a k := by
  induction h with
  | root hk => exact ⟨ha _ hk, .root hk⟩
  | step _ hc hm ih =>
    refine ⟨fun e => ih.1 (P.back hc hm e), .step ih.2 (by rw [drop_stays ih.1]; exact hc) hm⟩
theorem Drp.reach {x : Hp} {D : List Bool} (P : Drp x D) {k : Nat} : Rch (dropH x D).cs (dropH x D).rt k ↔ Rch x.cs x.rt k := ⟨fun h => drop_rch_sub h, fun h => (P.rch P.rt h).2⟩
theorem Drp.valid {x : Hp} {D : List Bool} (P : Drp x D) (hv : validH x = true) : validH (dropH x D) = true := by
  obtain ⟨v1, v2, v3, v4⟩ := valid_iff.1 hv
  have key : ∀ n : Int, okRef x.cs n = true → (∀ k : Nat, n = k → D[k]? ≠ some true) → okRef (dropH x D).cs n = true := fun n ho hd => by
    rcases okRef_iff.1 ho with e | ⟨e, hu⟩
    · exact okRef_iff.2 (.inl e)
    · exact okRef_iff.2 (.inr ⟨e, drop_usedAt.2 ⟨hu, hd _ (by omega)⟩⟩)
  refine valid_iff.2 ⟨fun c hc => ?_, by rw [drop_len]; exact v2, v3, okRefs_iff.2 fun n hn => key n (okRefs_iff.1 v4 n hn) fun k e => P.rt k (e ▸ hn)⟩
  obtain ⟨k, hk⟩ := List.mem_iff_getElem?.1 hc
  rcases drop_cases hk with ⟨h1, h2⟩ | ⟨_, rfl⟩
  · obtain ⟨w1, w2, w3, w4⟩ := okCell_iff.1 (valid_cell hv h2)
    exact okCell_iff.2 ⟨w1, w2, w3, okRefs_iff.2 fun n hn => key n (okRefs_iff.1 w4 n hn) fun m e q => h1 (P.back h2 (e ▸ hn) q)⟩
  · simp [okCell, zeroCl, okRefs]
theorem Drp.sim {x : Hp} {D : List Bool} (P : Drp x D) (hv : validH x = true) : Sim x (dropH x D) (fun k y => k = y ∧ Rch x.cs x.rt k) := by
  refine ⟨fun k x y h1 h2 => by omega, fun k m x h1 h2 => by omega, ⟨rfl, fun i n m h1 h2 => ?_⟩, ?_⟩
  · have e : n = m := by
      rw [show (dropH x D).rt = x.rt from rfl, h1] at h2
      exact Option.some.inj h2
    subst e
    rcases okRef_iff.1 (valid_root hv h1) with e | ⟨e, _⟩
    · exact .inl ⟨e, e⟩
    · exact .inr ⟨n.toNat, n.toNat, by omega, by omega, rfl, .root (by rw [Int.toNat_of_nonneg e]; exact List.mem_of_getElem? h1)⟩
  · rintro k _ ⟨rfl, hr⟩
    obtain ⟨c, hc, _⟩ := usedAt_iff.1 (hr.live hv)
    refine ⟨c, c, hc, by rw [drop_stays (P.rch P.rt hr).1]; exact hc, rfl, rfl, fun i n m h1 h2 => ?_⟩
    have e : n = m := by
      rw [h1] at h2
      exact Option.some.inj h2
    subst e
    rcases okRef_iff.1 (valid_ref hv hc h1) with e | ⟨e, _⟩
    · exact .inl ⟨e, e⟩
    · exact .inr ⟨n.toNat, n.toNat, by omega, by omega, rfl, .step hr hc (by rw [Int.toNat_of_nonneg e]; exact List.mem_of_getElem? h1)⟩
theorem Drp.same {x : Hp} {D : List Bool} (P : Drp x D) (hv : validH x = true) : sameV (dropH x D) x = true := by
  rw [sameV_comm]
  exact sameV_iff.2 ⟨hv, P.valid hv, (P.sim hv).view hv (P.valid hv)⟩
theorem drop_count : ∀ (cs : List Cl) (D : List Bool), (∀ k : Nat, D[k]? = some true → usedAt cs k = true) → (dropL cs D).countP (·.u) + D.count true = cs.countP (·.u)
  | [], D, h => by
    have : D.count true = 0 := by
      rw [List.count_eq_zero]
      intro hm
      obtain ⟨k, hk⟩ := List.mem_iff_getElem?.1 hm
      have := usedAt_lt (h k hk)
      simp at this
    rw [this]
    cases D <;> rfl
  | c :: cs, [], h => by simp [dropL]
  | c :: cs, b :: D, h => by
    have ih := drop_count cs D fun k hk => by
      have := h (k + 1) (by simpa using hk)
      simpa [usedAt] using this
    cases b
    · simp only [dropL, Bool.false_eq_true, if_false, List.countP_cons]
      rw [List.count_cons_of_ne (by decide)]
      omega
    · have hu : c.u = true := by
        have := h 0 (by simp)
        simpa [usedAt] using this
      simp only [dropL, if_true, List.countP_cons, List.count_cons_self, hu, zeroCl, Bool.false_eq_true, if_false]
      omega
theorem drop_usedN {x : Hp} {D : List Bool} (h : ∀ k : Nat, D[k]? = some true → usedAt x.cs k = true) : usedN (dropH x D) + D.count true = usedN x := by
  rw [usedN_eq, usedN_eq]
  exact drop_count x.cs D h
/-! collecting -/
/-- one step: the dead cells of cell number k go -/
noncomputable def ccStep (x : Hp × Nat) (k : Nat) : Hp × Nat := if usedAt x.1.cs k = true then (dropH x.1 (deadL x.1 (k : Int)), x.2 + (deadL x.1 (k : Int)).count true) else x
/-- what holds before cell number m is suspected -/
structure Cc (h x : Hp) (f m : Nat) : Prop where
  ok : validH x = true
  len : x.cs.length = h.cs.length
  same : sameV x h = true
  cnt : usedN x + f = usedN h
  led : ∀ k, k < m → usedAt x.cs k = true → ¬ Rch x.cs x.rt k → ∃ j, m ≤ j ∧ usedAt x.cs j = true ∧ Rch x.cs [(j : Int)] k
theorem sameV_refl {h : Hp} (hv : validH h = true) : sameV h h = true := sameV_iff.2 ⟨hv, hv, rfl⟩
theorem Cc.start {h : Hp} (hv : validH h = true) : Cc h h 0 0 := ⟨hv, rfl, sameV_refl hv, rfl, fun k hk => by omega⟩
theorem Cc.step {h x : Hp} {f m : Nat} (C : Cc h x f m) : Cc h (ccStep (x, f) m).1 (ccStep (x, f) m).2 (m + 1) := by
  unfold ccStep
  by_cases hu : usedAt x.cs m = true
  · rw [if_pos hu]
    have P := dead_drp C.ok m
    have hv' := P.valid C.ok
    refine ⟨hv', by rw [drop_len]; exact C.len, sameV_trans (P.same C.ok) C.same, ?_, fun k hk hku hkr => ?_⟩
    · have h1 := drop_usedN (x := x) (D := deadL x (m : Int)) fun k hk => dead_used C.ok hu hk
      have h2 := C.cnt
      simp only
      omega
    · simp only at hku hkr ⊢
      rw [P.reach] at hkr
      obtain ⟨hku, hkd⟩ := drop_usedAt.1 hku
      -- a cell outside of the set that leads to a spared one
      have far : ∀ j, usedAt x.cs j = true → Rch x.cs [(j : Int)] k → ¬ Rch x.cs [(m : Int)] j → ∃ j, m + 1 ≤ j ∧ usedAt (dropH x (deadL x (m : Int))).cs j = true ∧ Rch (dropH x (deadL x (m : Int))).cs [(j : Int)] k := by
        intro j hj hjk hjm
        have fin : ∀ i, m ≤ i → usedAt x.cs i = true → Rch x.cs [(i : Int)] k → ¬ Rch x.cs [(m : Int)] i → ∃ j, m + 1 ≤ j ∧ usedAt (dropH x (deadL x (m : Int))).cs j = true ∧ Rch (dropH x (deadL x (m : Int))).cs [(j : Int)] k := by
          intro i hi hiu hik him
          have hid : (deadL x (m : Int))[i]? ≠ some true := fun e => him (dead_iff.1 e).2.1
          have hne : i ≠ m := fun e => him (e ▸ Rch.self _ _)
          refine ⟨i, by omega, drop_usedAt.2 ⟨hiu, hid⟩, (P.rch (fun y hy => ?_) hik).2⟩
          rw [List.mem_singleton] at hy
          obtain rfl : y = i := by omega
          exact hid
        rcases Nat.lt_or_ge j m with h1 | h1
        · obtain ⟨i, hi, hiu, hij⟩ := C.led j h1 hj (fun q => hkr (Rch.then q hjk))
          exact fin i hi hiu (Rch.then hij hjk) fun q => hjm (Rch.then q hij)
        · exact fin j h1 hj hjk hjm
      have hkl := usedAt_lt hku
      by_cases hf : Rch x.cs [(m : Int)] k
      · obtain ⟨j, h1, h2, h3⟩ := spared C.ok hf hkl hkd hkr
        exact far j h1 h2 h3
      · have hkm : k < m := by
          have : k ≠ m := fun e => hf (e ▸ Rch.self _ _)
          omega
        obtain ⟨j, h1, h2, h3⟩ := C.led k hkm hku hkr
        exact far j h2 h3 fun q => hf (Rch.then q h3)
  · rw [if_neg hu]
    refine ⟨C.ok, C.len, C.same, C.cnt, fun k hk hku hkr => ?_⟩
    have hne : ∀ j, usedAt x.cs j = true → j ≠ m := fun j hj e => hu (e ▸ hj)
    have := hne k hku
    obtain ⟨j, h1, h2, h3⟩ := C.led k (by omega) hku hkr
    have := hne j h2
    exact ⟨j, by omega, h2, h3⟩
/-- at the end nothing has leaked -/
theorem Cc.fin {h x : Hp} {f : Nat} (C : Cc h x f h.cs.length) {k : Nat} (hu : usedAt x.cs k = true) : Rch x.cs x.rt k := by
  refine Classical.byContradiction fun q => ?_
  have hk := usedAt_lt hu
  rw [C.len] at hk
  obtain ⟨j, h1, h2, _⟩ := C.led k hk hu q
  have := usedAt_lt h2
  rw [C.len] at this
  omega
end Hps
end Go.Proofs.YthmddmddcdofaaaDoor

namespace Go.Proofs.YthmddmddcdofaaaDoor
namespace Hps
/-- the heap of the cells on a list, in this order -/
def moveH (h : Hp) (o : List Int) : Hp := ⟨o.map fun n => ⟨true, (cellAt h.cs n).d, (cellAt h.cs n).r.map (nameL o)⟩, h.rt.map (nameL o)⟩
/-- a list of just the cells that can be reached, each once -/
structure Lives (h : Hp) (o : List Int) : Prop where
  nodup : o.Nodup
  mem : ∀ n : Int, n ∈ o ↔ ∃ k : Nat, n = k ∧ Rch h.cs h.rt k
section
variable {h : Hp} {o : List Int}
theorem Lives.cell (L : Lives h o) (hv : validH h = true) {x : Nat} {n : Int} (hx : o[x]? = some n) : ∃ (k : Nat) (c : Cl), n = k ∧ Rch h.cs h.rt k ∧ h.cs[k]? = some c ∧ (moveH h o).cs[x]? = some ⟨true, c.d, c.r.map (nameL o)⟩ := by
  obtain ⟨k, rfl, hk⟩ := (L.mem n).1 (List.mem_of_getElem? hx)
  obtain ⟨c, hc, _⟩ := usedAt_iff.1 (hk.live hv)
  refine ⟨k, c, rfl, hk, hc, ?_⟩
  simp [moveH, hx, cellAt, hc]
theorem Lives.neg (L : Lives h o) : (-1 : Int) ∉ o := fun hm => by
  obtain ⟨k, e, _⟩ := (L.mem _).1 hm
  omega
/-- a reference that is none or leads to a reachable cell -/
theorem Lives.name (L : Lives h o) {n : Int} (hn : n = -1 ∨ ∃ k : Nat, n = k ∧ Rch h.cs h.rt k) : RR (fun k x => o[x]? = some (k : Int)) n (nameL o n) := by
  rcases hn with rfl | ⟨k, rfl, hk⟩
  · exact .inl ⟨rfl, nameL_none L.neg⟩
  · obtain ⟨x, hx⟩ := List.mem_iff_getElem?.1 ((L.mem _).2 ⟨k, rfl, hk⟩)
    exact .inr ⟨k, x, rfl, nameL_at L.nodup hx, hx⟩
theorem ref_live (hv : validH h = true) {k : Nat} {c : Cl} (hk : Rch h.cs h.rt k) (hc : h.cs[k]? = some c) {n : Int} (hn : n ∈ c.r) : n = -1 ∨ ∃ m : Nat, n = m ∧ Rch h.cs h.rt m := by
  have ok := okRefs_iff.1 (valid_refs hv c (List.mem_of_getElem? hc)) n hn
  by_cases h0 : 0 ≤ n
  · obtain ⟨m, rfl, _⟩ := okRef_nat ok h0
    exact .inr ⟨m, rfl, .step hk hc hn⟩
  · rcases okRef_iff.1 ok with e | ⟨e, _⟩
    · exact .inl e
    · omega
theorem root_live (hv : validH h = true) {n : Int} (hn : n ∈ h.rt) : n = -1 ∨ ∃ m : Nat, n = m ∧ Rch h.cs h.rt m := by
  have ok := okRefs_iff.1 (valid_iff.1 hv).2.2.2 n hn
  by_cases h0 : 0 ≤ n
  · obtain ⟨m, rfl, _⟩ := okRef_nat ok h0
    exact .inr ⟨m, rfl, .root hn⟩
  · rcases okRef_iff.1 ok with e | ⟨e, _⟩
    · exact .inl e
    · omega
theorem Lives.names (L : Lives h o) {ns : List Int} (hn : ∀ n ∈ ns, n = -1 ∨ ∃ k : Nat, n = k ∧ Rch h.cs h.rt k) : LR (fun k x => o[x]? = some (k : Int)) ns (ns.map (nameL o)) := by
  refine ⟨by simp, fun i n m h1 h2 => ?_⟩
  rw [List.getElem?_map, h1, Option.map_some, Option.some.injEq] at h2
  rw [← h2]
  exact L.name (hn n (List.mem_of_getElem? h1))
/-- a heap and the heap of its moved cells are related -/
theorem Lives.sim (L : Lives h o) (hv : validH h = true) : Sim h (moveH h o) (fun k x => o[x]? = some (k : Int)) := by
  refine ⟨fun k x y h1 h2 => ?_, fun k m x h1 h2 => ?_, L.names (fun n hn => root_live hv hn), fun {k x} hx => ?_⟩
  · have e1 := nameL_at L.nodup h1
    have e2 := nameL_at L.nodup h2
    omega
  · rw [h1] at h2
    have := Option.some.inj h2
    omega
  · obtain ⟨k', c, e, hk, hc, hm⟩ := L.cell hv hx
    have e : k = k' := by omega
    subst e
    exact ⟨c, _, hc, hm, rfl, L.names (fun n hn => ref_live hv hk hc hn)⟩
theorem Lives.len (L : Lives h o) (hv : validH h = true) : o.length ≤ h.cs.length := by
  refine few_numbers _ o L.nodup fun x hx => ?_
  obtain ⟨k, rfl, hk⟩ := (L.mem x).1 hx
  exact ⟨k, rfl, usedAt_lt (hk.live hv)⟩
theorem Lives.okRef (L : Lives h o) (hv : validH h = true) {n : Int} (hn : n = -1 ∨ ∃ k : Nat, n = k ∧ Rch h.cs h.rt k) : okRef (moveH h o).cs (nameL o n) = true := by
  rcases L.name hn with ⟨_, e⟩ | ⟨k, x, _, e, hx⟩
  · rw [e]
    exact okRef_none _
  · obtain ⟨_, c, _, _, _, hm⟩ := L.cell hv hx
    rw [e, okRef_iff]
    exact .inr ⟨by omega, usedAt_iff.2 ⟨_, by rw [Int.toNat_natCast]; exact hm, rfl⟩⟩
theorem Lives.valid (L : Lives h o) (hv : validH h = true) : validH (moveH h o) = true := by
  obtain ⟨h1, h2, h3, h4⟩ := valid_iff.1 hv
  refine valid_iff.2 ⟨fun c hc => ?_, ?_, ?_, ?_⟩
  · obtain ⟨x, hx⟩ := List.mem_iff_getElem?.1 hc
    have hxl := (List.getElem?_eq_some_iff.1 hx).1
    simp only [moveH, List.length_map] at hxl
    obtain ⟨k, d, e, hk, hd, hm⟩ := L.cell hv (List.getElem?_eq_getElem hxl)
    rw [hm] at hx
    have hx := Option.some.inj hx
    subst hx
    have ok := okCell_iff.1 (valid_cell hv hd)
    refine okCell_iff.2 ⟨.inl rfl, ok.2.1, by simpa using ok.2.2.1, okRefs_iff.2 fun n hn => ?_⟩
    obtain ⟨m, hm1, rfl⟩ := List.mem_map.1 hn
    exact L.okRef hv (ref_live hv hk hd hm1)
  · have := L.len hv
    simp only [moveH, List.length_map]
    omega
  · simpa [moveH] using h3
  · refine okRefs_iff.2 fun n hn => ?_
    obtain ⟨m, hm1, rfl⟩ := List.mem_map.1 hn
    exact L.okRef hv (root_live hv hm1)
/-- moved cells: a program sees the same -/
theorem Lives.view (L : Lives h o) (hv : validH h = true) : viewH (moveH h o) = viewH h := ((L.sim hv).view hv (L.valid hv)).symm
end
end Hps
end Go.Proofs.YthmddmddcdofaaaDoor
namespace Go.Proofs.YthmddmddcdofaaaDoor
open Go.RowKit
set_option maxRecDepth 100000
namespace Hps
end Hps
end Go.Proofs.YthmddmddcdofaaaDoor
namespace Go.Proofs.YthmddmddcdofaaaDoor
open Go.RowKit
/-- a part of a slice of numbers -/
theorem IS.part {w : World} {B n i r : Nat} {g o : Nat} {xs : List Int} (h : IS w B (some ⟨g, o, none⟩) n xs) (hi : i + r ≤ n) : IS w B (some ⟨g, o + i, none⟩) r ((xs.drop i).take r) := by
  have hl := h.1
  refine ⟨by rw [List.length_take, List.length_drop]; omega, fun hr => ?_⟩
  obtain ⟨g', o', e, hb, hc⟩ := h.2 (by omega)
  have e := Option.some.inj e
  injection e with e1 e2
  subst e1 e2
  refine ⟨g, o + i, rfl, hb, fun k b hk => ?_⟩
  rw [List.getElem?_take] at hk
  split at hk
  · rw [List.getElem?_drop] at hk
    rw [Nat.add_assoc]
    exact hc _ _ hk
  · cases hk
section
variable {w0 wr w1 : World} {b : Nat} {vc vr v9 : Value} {rvs : List Value} {h : Hp} {x : Int}
end
end Go.Proofs.YthmddmddcdofaaaDoor

namespace Go.Proofs.YthmddmddcdofaaaDoor
namespace Hps
theorem not_at {marks : List Bool} {k : Nat} : (marks.map (!·))[k]? = some true ↔ marks[k]? = some false := by
  rw [List.getElem?_map]
  cases marks[k]? with
  | none => simp
  | some b => cases b <;> simp
/-- marks with which a heap can be swept drop nothing to which something leads -/
theorem sweep_drp {h : Hp} {marks : List Bool} (_hv : validH h = true) (hx : validH (dropH h (marks.map (!·))) = true) : Drp h (marks.map (!·)) := by
  have hr : ∀ {n : Int} {k : Nat}, okRef (dropH h (marks.map (!·))).cs n = true → n = (k : Int) → (marks.map (!·))[k]? ≠ some true := by
    intro n k hn e hd
    rcases okRef_iff.1 hn with h1 | ⟨_, h1⟩
    · omega
    · rw [e, Int.toNat_natCast] at h1
      exact (drop_usedAt.1 h1).2 hd
  refine ⟨fun k hk => ?_, fun {j m c} hc hm hd => ?_⟩
  · obtain ⟨i, hi⟩ := List.mem_iff_getElem?.1 hk
    exact hr (valid_root hx (j := i) (by exact hi)) rfl
  · refine Classical.byContradiction fun hj => ?_
    have h1 : (dropH h (marks.map (!·))).cs[j]? = some c := (drop_stays hj).trans hc
    obtain ⟨i, hi⟩ := List.mem_iff_getElem?.1 hm
    exact hr (valid_ref hx h1 hi) rfl hd
/-- the swept heap -/
noncomputable def sweptH (h : Hp) : Hp := dropH h ((reachH h).map (!·))
theorem swept_valid {h : Hp} (hv : validH h = true) : validH (sweptH h) = true := collect_drop_valid hv
theorem swept_drp {h : Hp} (hv : validH h = true) : Drp h ((reachH h).map (!·)) := sweep_drp hv (collect_drop_valid hv)
theorem swept_same {h : Hp} (hv : validH h = true) : sameV (sweptH h) h = true := (swept_drp hv).same hv
theorem swept_len (h : Hp) : (sweptH h).cs.length = h.cs.length := drop_len _ _
theorem reachH_at {h : Hp} (hv : validH h = true) {k : Nat} (hk : k < h.cs.length) : (reachH h)[k]? = some true ↔ Rch h.cs h.rt k := by
  rw [reachH, if_pos hv, reachL_true hk]
theorem collect_eq {h : Hp} (hv : validH h = true) : collectH h = (sweptH h, ((leakL h).length : Int)) := by
  rw [collectH_eq hv, reachH_len hv]
  have hf : ∀ n, n ≤ h.cs.length → freedTo h.cs (reachH h) n = (leakTo h n).length := by
    intro n
    induction n with
    | zero => intro _; rfl
    | succ n ih =>
      intro hn
      rw [freedTo, ih (by omega)]
      by_cases hu : usedAt h.cs n = true
      · by_cases hr : Rch h.cs h.rt n
        · have := (reachH_at hv (show n < h.cs.length by omega)).2 hr
          rw [leakTo_no (.inr hr), if_neg (fun e => by rw [this] at e; cases e.1), Nat.add_zero]
        · have h1 : (reachH h)[n]? = some false := by
            have hl : n < (reachH h).length := by rw [reachH_len hv]; omega
            rw [List.getElem?_eq_getElem hl]
            cases e : (reachH h)[n] with
            | false => rfl
            | true => exact absurd ((reachH_at hv (show n < h.cs.length by omega)).1 (by rw [List.getElem?_eq_getElem hl, e])) hr
          rw [leakTo_yes hu hr, if_pos ⟨h1, hu⟩, List.length_append, List.length_singleton]
      · rw [leakTo_no (.inl (by simpa using hu)), if_neg (fun e => hu e.2), Nat.add_zero]
  rw [hf _ (Nat.le_refl _), leakTo_all]
  rfl
/-- the heap in which there is room, if there can be -/
noncomputable def roomH (h : Hp) (limit : Int) (o : Cm) : Hp := if o.op = 1 ∧ limit ≤ (gapH h : Int) then sweptH h else h
noncomputable def stepSw (h : Hp) (limit : Int) (o : Cm) : Hp × Bool :=
  if validH h = true ∧ okCm o = true ∧ 1 ≤ limit ∧ limit ≤ 40 then
    (if canH h o = true then (if o.op = 1 ∧ limit ≤ (gapH (roomH h limit o) : Int) then (roomH h limit o, false) else (doH (roomH h limit o) o (gapH (roomH h limit o)), true)) else (h, false))
  else (zeroH, false)
theorem stepSw_no {h : Hp} {limit : Int} {o : Cm} (e : ¬ (validH h = true ∧ okCm o = true ∧ 1 ≤ limit ∧ limit ≤ 40)) : stepSw h limit o = (zeroH, false) := by rw [stepSw, if_neg e]
theorem stepSw_cannot {h : Hp} {limit : Int} {o : Cm} (e : validH h = true ∧ okCm o = true ∧ 1 ≤ limit ∧ limit ≤ 40) (hc : canH h o = false) : stepSw h limit o = (h, false) := by rw [stepSw, if_pos e, if_neg (by rw [hc]; decide)]
theorem stepSw_full {h : Hp} {limit : Int} {o : Cm} (e : validH h = true ∧ okCm o = true ∧ 1 ≤ limit ∧ limit ≤ 40) (hc : canH h o = true) (hf : o.op = 1 ∧ limit ≤ (gapH (roomH h limit o) : Int)) : stepSw h limit o = (roomH h limit o, false) := by rw [stepSw, if_pos e, if_pos hc, if_pos hf]
theorem stepSw_does {h : Hp} {limit : Int} {o : Cm} (e : validH h = true ∧ okCm o = true ∧ 1 ≤ limit ∧ limit ≤ 40) (hc : canH h o = true) (hf : ¬ (o.op = 1 ∧ limit ≤ (gapH (roomH h limit o) : Int))) : stepSw h limit o = (doH (roomH h limit o) o (gapH (roomH h limit o)), true) := by rw [stepSw, if_pos e, if_pos hc, if_neg hf]
theorem room_other {h : Hp} {limit : Int} {o : Cm} (h1 : o.op ≠ 1) : roomH h limit o = h := by rw [roomH, if_neg (fun e => h1 e.1)]
theorem room_free {h : Hp} {limit : Int} {o : Cm} (h1 : ¬ limit ≤ (gapH h : Int)) : roomH h limit o = h := by rw [roomH, if_neg (fun e => h1 e.2)]
theorem room_full {h : Hp} {limit : Int} {o : Cm} (h1 : o.op = 1) (h2 : limit ≤ (gapH h : Int)) : roomH h limit o = sweptH h := by rw [roomH, if_pos ⟨h1, h2⟩]
theorem room_valid {h : Hp} (hv : validH h = true) (limit : Int) (o : Cm) : validH (roomH h limit o) = true := by
  unfold roomH
  split
  · exact swept_valid hv
  · exact hv
theorem room_same {h : Hp} (hv : validH h = true) (limit : Int) (o : Cm) : sameV (roomH h limit o) h = true := by
  unfold roomH
  split
  · exact swept_same hv
  · exact sameV_refl hv
theorem room_sim {h : Hp} (hv : validH h = true) (limit : Int) (o : Cm) : ∃ R, Sim (roomH h limit o) h R := by
  obtain ⟨h1, h2, h3⟩ := sameV_iff.1 (room_same hv limit o)
  exact ⟨_, sim_of_view h1 h2 h3⟩
theorem room_can {h : Hp} (hv : validH h = true) (limit : Int) {o : Cm} (hc : canH h o = true) : canH (roomH h limit o) o = true := by
  obtain ⟨R, S⟩ := room_sim hv limit o
  rw [S.can (room_valid hv limit o) hv]
  exact hc
theorem does_valid {h : Hp} {limit : Int} {o : Cm} (e : validH h = true ∧ okCm o = true ∧ 1 ≤ limit ∧ limit ≤ 40) (hc : canH h o = true) (hf : ¬ (o.op = 1 ∧ limit ≤ (gapH (roomH h limit o) : Int))) : validH (doH (roomH h limit o) o (gapH (roomH h limit o))) = true :=
  doH_valid (room_can e.1 limit hc) fun h1 => by
    have := gapH_le (roomH h limit o)
    exact ⟨this, by omega⟩
theorem stepSw_valid {h : Hp} {limit : Int} {o : Cm} (e : validH h = true ∧ okCm o = true ∧ 1 ≤ limit ∧ limit ≤ 40) : validH (stepSw h limit o).1 = true := by
  by_cases hc : canH h o = true
  · by_cases hf : o.op = 1 ∧ limit ≤ (gapH (roomH h limit o) : Int)
    · rw [stepSw_full e hc hf]
      exact room_valid e.1 limit o
    · rw [stepSw_does e hc hf]
      exact does_valid e hc hf
  · rw [stepSw_cannot e (by simpa using hc)]
    exact e.1
end Hps
namespace Hps
end Hps
end Go.Proofs.YthmddmddcdofaaaDoor

namespace Go.Proofs.YthmddmddcdofaaaDoor
open Go.RowKit
set_option maxRecDepth 100000
/-- a heap with counts of the call's own -/
structure OwnCt (w : World) (base : Nat) (vc vr vk : Value) (rvs : List Value) (h : Hp) (l : List Int) : Prop where
  heap : OwnHx w base vc vr rvs h
  cnts : OwnI w base vk l
  sep : ∀ u ∈ vc :: vr :: rvs, u.ownBlock = none ∨ u.ownBlock ≠ vk.ownBlock
def OwnC (w : World) (base : Nat) (vc vr vk : Value) (h : Hp) (l : List Int) : Prop := ∃ rvs, OwnCt w base vc vr vk rvs h l
def GaveCt (w : World) (h : Hp) (l : List Int) (e : Ending) (w' : World) : Prop := ∃ vc vr vk, e = .returned (.agg #[vc, vr, vk]) ∧ OwnC w' w.heap.size vc vr vk h l ∧ Below w.heap.size w w'
section
variable {w w' : World} {bs bs' B g : Nat} {vc vr vk : Value} {rvs : List Value} {h : Hp} {l : List Int}
theorem OwnCt.below (o : OwnCt w bs vc vr vk rvs h l) (hb : Below B w w') (hB : w.heap.size ≤ B) : OwnCt w' bs vc vr vk rvs h l := ⟨o.heap.below hb hB, o.cnts.below hb hB, o.sep⟩
theorem OwnCt.base (o : OwnCt w bs vc vr vk rvs h l) (hb : bs' ≤ bs) : OwnCt w bs' vc vr vk rvs h l := ⟨o.heap.base hb, o.cnts.base hb, o.sep⟩
theorem OwnCt.blocks (o : OwnCt w bs vc vr vk rvs h l) {v : Value} (hv : v ∈ vc :: vr :: vk :: rvs) {k : Nat} (hk : v.ownBlock = some k) : bs ≤ k ∧ k < w.heap.size := by
  simp only [List.mem_cons] at hv
  rcases hv with rfl | rfl | rfl | hv
  · exact o.heap.blocks (v := v) (by simp) hk
  · exact o.heap.blocks (v := v) (by simp) hk
  · exact World.ownsRow.lt o.cnts k hk
  · exact o.heap.blocks (v := v) (by simp [hv]) hk
theorem OwnCt.apart_below (o : OwnCt w bs vc vr vk rvs h l) (hb : g < bs) : Apart (some g) (vc :: vr :: vk :: rvs) := fun v hv => by
  cases e : v.ownBlock with
  | none => exact .inl rfl
  | some k =>
    right
    intro e'
    have := (o.blocks hv e).1
    have := Option.some.inj e'
    omega
theorem OwnCt.apart_new (o : OwnCt w bs vc vr vk rvs h l) (hb : w.heap.size ≤ g) : Apart (some g) (vc :: vr :: vk :: rvs) := fun v hv => by
  cases e : v.ownBlock with
  | none => exact .inl rfl
  | some k =>
    right
    intro e'
    have := (o.blocks hv e).2
    have := Option.some.inj e'
    omega
theorem OwnCt.far {row : Option Nat} (o : OwnCt w bs vc vr vk rvs h l) (hg : w.grownBy w' row) (ha : Apart row (vc :: vr :: vk :: rvs)) : OwnCt w' bs vc vr vk rvs h l :=
  ⟨o.heap.far hg (fun v hv => ha v (by simp only [List.mem_cons] at hv ⊢; rcases hv with e | e | e <;> simp [e])), o.cnts.far hg (ha vk (by simp)), o.sep⟩
theorem OwnCt.put (o : OwnCt w bs vc vr vk rvs h l) (ha : Apart (some g) (vc :: vr :: vk :: rvs)) (i : Nat) (u : Value) : OwnCt (w.setCell ⟨g, i, none⟩ u) bs vc vr vk rvs h l := o.far (put_any w g i u) ha
theorem OwnCt.slices (o : OwnCt w bs vc vr vk rvs h l) : ∃ A c R d K q, vc = .slice A h.cs.length c ∧ vr = .slice R h.rt.length d ∧ vk = .slice K l.length q := by
  obtain ⟨A, c, R, d, e1, e2, _⟩ := o.heap.form
  obtain ⟨K, q, e3, _⟩ := o.cnts.form
  exact ⟨A, c, R, d, K, q, e1, e2, e3⟩
theorem OwnC.slices (ho : OwnC w bs vc vr vk h l) : ∃ A n c R m d K p q, vc = .slice A n c ∧ vr = .slice R m d ∧ vk = .slice K p q := by
  obtain ⟨rvs, o⟩ := ho
  obtain ⟨A, c, R, d, K, q, e1, e2, e3⟩ := o.slices
  exact ⟨A, _, c, R, _, d, K, _, q, e1, e2, e3⟩
theorem OwnC.below (ho : OwnC w bs vc vr vk h l) (hb : Below B w w') (hB : w.heap.size ≤ B) : OwnC w' bs vc vr vk h l := by
  obtain ⟨rvs, o⟩ := ho
  exact ⟨rvs, o.below hb hB⟩
theorem OwnC.base (ho : OwnC w bs vc vr vk h l) (hb : bs' ≤ bs) : OwnC w bs' vc vr vk h l := by
  obtain ⟨rvs, o⟩ := ho
  exact ⟨rvs, o.base hb⟩
theorem OwnC.heap (ho : OwnC w bs vc vr vk h l) : OwnH w bs vc vr h := by
  obtain ⟨rvs, o⟩ := ho
  exact ⟨rvs, o.heap⟩
/-- a heap with counts of the call's own goes into the box of a result -/
theorem OwnC.out {wr : World} (ho : OwnC wr bs vc vr vk h l) (hg : g < bs) (hb : Below w.heap.size w wr) (hw : w.heap.size ≤ g) :
    OwnC (((wr.setCell ⟨g, 0, none⟩ vc).setCell ⟨g, 1, none⟩ vr).setCell ⟨g, 2, none⟩ vk) w.heap.size vc vr vk h l ∧ Below w.heap.size w (((wr.setCell ⟨g, 0, none⟩ vc).setCell ⟨g, 1, none⟩ vr).setCell ⟨g, 2, none⟩ vk) := by
  obtain ⟨rvs, own⟩ := ho
  have ap := own.apart_below hg
  exact ⟨⟨rvs, (((own.put ap 0 vc).put ap 1 vr).put ap 2 vk).base (by omega)⟩, ((hb.setCell (p := ⟨g, 0, none⟩) hw vc).setCell (p := ⟨g, 1, none⟩) hw vr).setCell (p := ⟨g, 2, none⟩) hw vk⟩
/-- a heap and counts that were made one after the other are a heap with counts -/
theorem OwnHx.counted {w1 : World} (o : OwnHx w bs vc vr rvs h) (hb : Below w.heap.size w w1) (k : OwnI w1 w.heap.size vk l) (hbase : bs ≤ w.heap.size) : OwnCt w1 bs vc vr vk rvs h l := by
  refine ⟨o.below hb (Nat.le_refl _), k.base hbase, fun u hu => ?_⟩
  cases e : u.ownBlock with
  | none => exact .inl rfl
  | some j =>
    right
    intro e'
    have h1 := (o.blocks hu e).2
    have h2 := (World.ownsRow.lt k j e'.symm).1
    omega
theorem OwnC.of (ho : OwnH w bs vc vr h) {w1 : World} (hb : Below w.heap.size w w1) (k : OwnI w1 w.heap.size vk l) (hbase : bs ≤ w.heap.size) : OwnC w1 bs vc vr vk h l := by
  obtain ⟨rvs, o⟩ := ho
  exact ⟨rvs, o.counted hb k hbase⟩
end
end Go.Proofs.YthmddmddcdofaaaDoor

namespace Go.Proofs.YthmddmddcdofaaaDoor
open Go.RowKit
namespace Hps
/-- cells without those of a list -/
def zapL (cs : List Cl) (l : List Int) : List Cl := l.foldl (fun cs x => cs.set x.toNat zeroCl) cs
theorem zapL_snoc (cs : List Cl) (l : List Int) (x : Int) : zapL cs (l ++ [x]) = (zapL cs l).set x.toNat zeroCl := by simp [zapL, List.foldl_append]
theorem zapL_len (l : List Int) : ∀ cs : List Cl, (zapL cs l).length = cs.length := by
  induction l with
  | nil => intro cs; rfl
  | cons x l ih =>
    intro cs
    show (zapL (cs.set x.toNat zeroCl) l).length = _
    rw [ih, List.length_set]
theorem zapL_at (l : List Int) : ∀ (cs : List Cl), (∀ x ∈ l, 0 ≤ x) → ∀ k : Nat, (zapL cs l)[k]? = if (k : Int) ∈ l then cs[k]?.map (fun _ => zeroCl) else cs[k]? := by
  induction l with
  | nil => intro cs _ k; simp [zapL]
  | cons x l ih =>
    intro cs hx k
    show (zapL (cs.set x.toNat zeroCl) l)[k]? = _
    rw [ih _ (fun y hy => hx y (by simp [hy])) k, List.getElem?_set]
    have h0 := hx x (by simp)
    by_cases e : x.toNat = k
    · have e2 : (k : Int) = x := by omega
      rw [if_pos e, e]
      by_cases q : k < cs.length
      · simp [e2, q]
      · simp [e2, q]
    · have e2 : ¬ (k : Int) = x := by omega
      rw [if_neg e]
      simp [e2]
end Hps
end Go.Proofs.YthmddmddcdofaaaDoor

namespace Go.Proofs.YthmddmddcdofaaaDoor
open Go.RowKit
/-- the table of math/bits lies as laid -/
def TzT (w : World) : Prop := 0 < w.heap.size ∧ ∀ i : Nat, i < 64 → w.cell? ⟨0, i, none⟩ = some (.int .u8 (Lib.deBruijn64tab.getD i 0 : Nat))
theorem TzT.below {w w' : World} (h : TzT w) (hb : Below w.heap.size w w') : TzT w' := ⟨Nat.lt_of_lt_of_le h.1 hb.size, fun i hi => (hb.cell (p := ⟨0, i, none⟩) h.1).trans (h.2 i hi)⟩
namespace Bm
theorem tz_key (x : Nat) (hx : x < 18446744073709551616) (hx0 : x ≠ 0) : ∃ idx : Nat, idx < 64 ∧ IntKind.u64.wrap (bits BinOp.and IntKind.u64 (x : Int) (IntKind.u64.wrap (-(x : Int))) * 285870213051353865) / 288230376151711744 = (idx : Int) ∧ Lib.deBruijn64tab.getD idx 0 = Lib.ctz 64 x ∧ Lib.ctz 64 x < 64 := by
  obtain ⟨hlow, hk⟩ := Lib.lowest_bit 64 x hx0 hx
  obtain ⟨hi, htab⟩ := Lib.deBruijn64_at _ hk
  refine ⟨_, hi, ?_, htab, hk⟩
  have e1 : IntKind.u64.wrap (-(x : Int)) = ((18446744073709551616 - x : Nat) : Int) := by rw [IntKind.wrap_u64]; omega
  have hl2 : x &&& (18446744073709551616 - x) = 2 ^ Lib.ctz 64 x := hlow
  rw [e1, u64_and_nat x _ hx (by omega), hl2, IntKind.wrap_u64]
  generalize 2 ^ Lib.ctz 64 x = a
  omega
end Bm
set_option maxHeartbeats 1000000 in
theorem tz64_any (x : Nat) (w : World) (hT : TzT w) (h0 : x ≠ 0) (h1 : x < 18446744073709551616) :
    Calls Tryd.prog 122 #[.int .u64 x] w fun e w' => e = .returned (.int .i64 (Lib.ctz 64 x)) ∧ w = w' := by
  obtain ⟨idx, hi, key, htab, hk⟩ := Bm.tz_key x h1 h0
  have hcell := hT.2 idx hi
  rw [htab] at hcell
  have hx0 : ((x : Int) == 0) = false := by rw [beq_eq_false_iff_ne]; omega
  obtain ⟨k, hkk⟩ : ∃ k, Lib.ctz 64 x = k := ⟨_, rfl⟩
  rw [hkk] at hcell hk ⊢
  clear htab hkk
  go_enter Tryd.func122, Tryd.ntmps122
  go_wp2_with (simp only [key])
  go_ret
  exact ⟨rfl, rfl⟩
end Go.Proofs.YthmddmddcdofaaaDoor

namespace Go.Proofs.YthmddmddcdofaaaDoor
open Go.RowKit
set_option maxRecDepth 100000
namespace Hps
/-- the numbers of the bits that are set, ascending -/
def numsB (V : Nat) : List Int := ((List.range 64).filter V.testBit).map fun (k : Nat) => (k : Int)
theorem filter_first {p : Nat → Bool} {k : Nat} (hp : p k = true) (hb : ∀ j, j < k → p j = false) : ∀ n, k < n → (List.range n).filter p = k :: (List.range n).filter (fun i => p i && decide (i ≠ k))
  | 0, h => by omega
  | n + 1, h => by
    have hnil : ∀ m, m ≤ k → ∀ q : Nat → Bool, (∀ j, j < k → q j = false) → (List.range m).filter q = [] := fun m hm q hq => by
      rw [List.filter_eq_nil_iff]
      intro a ha
      rw [hq a (by have := List.mem_range.1 ha; omega)]
      simp
    rw [List.range_succ, List.filter_append, List.filter_append]
    by_cases hk : k < n
    · rw [filter_first hp hb n hk]
      have e : (p n && decide (n ≠ k)) = p n := by rw [decide_eq_true (show n ≠ k by omega), Bool.and_true]
      rw [List.cons_append]
      congr 2
      rw [List.filter_cons, List.filter_cons, e, List.filter_nil, List.filter_nil]
    · obtain rfl : n = k := by omega
      rw [hnil n (Nat.le_refl _) p hb, hnil n (Nat.le_refl _) _ (fun j hj => by rw [hb j hj]; rfl)]
      simp [hp]
theorem clear_low {x : Nat} (h0 : x ≠ 0) (h : x < 18446744073709551616) (i : Nat) : (x &&& (x - 1)).testBit i = (x.testBit i && decide (i ≠ Lib.ctz 64 x)) := by
  obtain ⟨m, hm, hk⟩ := Lib.ctzFrom_spec 64 x (by omega) h
  have e : Lib.ctz 64 x = Lib.ctzFrom 64 x := by simp [Lib.ctz, h0]
  rw [e]
  obtain ⟨k, hkk⟩ : ∃ k, Lib.ctzFrom 64 x = k := ⟨_, rfl⟩
  rw [hkk] at hm ⊢
  have hp : 0 < 2 ^ k := Nat.two_pow_pos k
  have hx1 : x - 1 = (2 * m) * 2 ^ k + (2 ^ k - 1) := by
    have : 2 ^ k * (2 * m + 1) = (2 * m) * 2 ^ k + 2 ^ k := by rw [Nat.mul_add, Nat.mul_one, Nat.mul_comm]
    omega
  have hx : x = (2 * m + 1) * 2 ^ k := by rw [hm, Nat.mul_comm]
  have hdiv : (x - 1) / 2 ^ k = 2 * m := by
    rw [hx1, Nat.mul_comm, Nat.mul_add_div hp, Nat.div_eq_of_lt (show 2 ^ k - 1 < 2 ^ k by omega)]
    omega
  rw [Nat.testBit_and]
  rcases Nat.lt_trichotomy i k with h1 | h1 | h1
  · have : x.testBit i = false := by
      rw [hx, Nat.testBit_mul_two_pow]
      simp
      omega
    rw [this]
    rfl
  · subst h1
    have : (x - 1).testBit i = false := by
      rw [Nat.testBit, Nat.shiftRight_eq_div_pow, hdiv]
      simp
    rw [this]
    simp
  · have e1 : ∀ y, y.testBit i = (y / 2 ^ k).testBit (i - k) := fun y => by
      rw [← Nat.shiftRight_eq_div_pow, Nat.testBit_shiftRight]
      congr 1
      omega
    have e2 : x / 2 ^ k = 2 * m + 1 := by rw [hx, Nat.mul_div_cancel _ hp]
    obtain ⟨j, hj⟩ : ∃ j, i - k = j + 1 := ⟨i - k - 1, by omega⟩
    rw [e1 x, e1 (x - 1), hdiv, e2, hj, Nat.testBit_succ, Nat.testBit_succ, show (2 * m + 1) / 2 = m by omega, show 2 * m / 2 = m by omega, decide_eq_true (show i ≠ k by omega)]
    simp
theorem nums_zero : numsB 0 = [] := by simp [numsB]
theorem nums_next {x : Nat} (h0 : x ≠ 0) (h : x < 18446744073709551616) : numsB x = (Lib.ctz 64 x : Int) :: numsB (x &&& (x - 1)) := by
  obtain ⟨h1, h2⟩ := Bm.ctz_bit h0 h
  have h3 := (Lib.lowest_bit 64 x h0 h).2
  unfold numsB
  rw [filter_first h1 h2 64 h3, List.map_cons]
  congr 2
  exact List.filter_congr fun i _ => (clear_low h0 h i).symm
theorem nums_len (x : Nat) : (numsB x).length ≤ 64 := by
  unfold numsB
  rw [List.length_map]
  exact Nat.le_trans (List.length_filter_le _ _) (by simp)
end Hps
set_option maxHeartbeats 1000000 in
theorem numbers_any (S : Nat) (w : World) (hT : TzT w) (hS : S < 18446744073709551616) :
    Calls Tryd.prog 68 #[.int .u64 S] w (GaveI w (Hps.numsB S)) := by
  go_enter Tryd.func68, Tryd.ntmps68
  go_wp2_with fail
  go_loopw [3, 4] (fun xs rest wr => ∃ (ys : List Int) (V : Nat), rest = .int .u64 V ∧ V < 18446744073709551616 ∧ OwnI wr w.heap.size xs ys ∧ ys ++ Hps.numsB V = Hps.numsB S ∧ Below w.heap.size w wr) (fun _ rest _ => match rest with | .int _ V => V.toNat | _ => 0)
  case atStart => exact ⟨[], S, rfl, hS, World.ownsRow_nil _ _ _ _, rfl, Below.refl _ _⟩
  case round =>
    obtain ⟨ys, V, rfl, hV, ho, hnum, hb⟩ := hrel
    obtain ⟨A, c, rfl, -⟩ := ho.form
    by_cases h0 : V = 0
    · subst h0
      rw [Hps.nums_zero, List.append_nil] at hnum
      go_wp2_with fail
      go_ret
      exact ⟨_, rfl, OwnI.cast hnum ho, hb⟩
    · have hV0 : ((V : Int) == 0) = false := by rw [beq_eq_false_iff_ne]; omega
      have hlen : ys.length ≤ 64 := by
        have := congrArg List.length hnum
        rw [List.length_append] at this
        have := Hps.nums_len S
        omega
      have hand : bits .and .u64 (V : Int) ((V : Int) - 1) = ((V &&& (V - 1) : Nat) : Int) := by
        rw [show (V : Int) - 1 = ((V - 1 : Nat) : Int) by omega]
        exact u64_and_nat _ _ hV (by omega)
      have hle : V &&& (V - 1) ≤ V - 1 := Nat.and_le_right
      have HN := Lib.hid (show (ys ++ [(Lib.ctz 64 V : Int)]) ++ Hps.numsB (V &&& (V - 1)) = Hps.numsB S by rw [← hnum, Hps.nums_next h0 hV]; simp)
      obtain ⟨kk, hkk⟩ : ∃ kk, Lib.ctz 64 V = kk := ⟨_, rfl⟩
      have TZ := tz64_any V wr (hT.below hb) h0 hV
      rw [hkk] at TZ HN
      clear hnum hkk
      go_wp2_with fail
      refine TZ.mono ?_
      rintro e w1 ⟨rfl, rfl⟩
      have ow := World.ownsRow.alloc ho (.cells #[.int .i64 kk] 3)
      have rr : IS (wr.alloc (.cells #[.int .i64 kk] 3)) (wr.alloc (.cells #[.int .i64 kk] 3)).heap.size (some ⟨wr.heap.size, 0, none⟩) 1 [(kk : Int)] := (own_oneI wr kk 0 (Nat.zero_le _)).reads
      have hsz := hb.size
      have hw1 : w.heap.size ≤ (wr.alloc (.cells #[.int .i64 kk] 3)).heap.size := by simp; omega
      clear TZ
      go_wp2_with (at_builtin; refine wpList_appendI rfl (.tmp 12) (.tmp 15) rfl w.heap.size _ ys rfl ow (some ⟨wr.heap.size, 0, none⟩) 1 1 _ [(kk : Int)] rfl rr (by simp; omega) hw1 ?_; intro v5 w5 o5 g5 s5)
      have bn : Below w.heap.size w w5 := (hb.alloc hb.size _).grown g5 (by simp; omega) (fun k hk => (World.ownsRow.lt ho k hk).1)
      clear ow rr g5 s5 ho
      go_roundw
      case rel => exact ⟨ys ++ [(kk : Int)], V &&& (V - 1), rfl, by omega, o5, HN.out, bn⟩
      case measure => simp; omega
end Go.Proofs.YthmddmddcdofaaaDoor

namespace Go.Proofs.YthmddmddcdofaaaDoor
namespace Hps
/-- the numbers of the cells that are not used, among the first n -/
def gapsTo (cs : List Cl) : Nat → List Int
  | 0 => []
  | n + 1 => gapsTo cs n ++ (if usedAt cs n = true then [] else [(n : Int)])
def gapsL (cs : List Cl) : List Int := gapsTo cs cs.length
theorem gapsTo_len (cs : List Cl) : ∀ n, (gapsTo cs n).length ≤ n
  | 0 => Nat.le_refl _
  | n + 1 => by
    have := gapsTo_len cs n
    rw [gapsTo, List.length_append]
    split <;> simp <;> omega
theorem gapsTo_none {cs : List Cl} : ∀ n, (∀ k, k < n → usedAt cs k = true) → gapsTo cs n = []
  | 0, _ => rfl
  | n + 1, h => by rw [gapsTo, gapsTo_none n fun k hk => h k (by omega), if_pos (h n (by omega))]; rfl
theorem gapsTo_same {cs cs' : List Cl} : ∀ n, (∀ k, k < n → usedAt cs k = usedAt cs' k) → gapsTo cs n = gapsTo cs' n
  | 0, _ => rfl
  | n + 1, h => by rw [gapsTo, gapsTo, gapsTo_same n fun k hk => h k (by omega), h n (by omega)]
theorem gapsTo_head {cs : List Cl} {g : Nat} (hu : usedAt cs g = false) (hb : ∀ k, k < g → usedAt cs k = true) : ∀ n, g < n → ∃ l, gapsTo cs n = (g : Int) :: l
  | 0, h => by omega
  | n + 1, h => by
    rw [gapsTo]
    by_cases e : g = n
    · subst e
      rw [gapsTo_none g hb, hu]
      exact ⟨[], rfl⟩
    · obtain ⟨l, hl⟩ := gapsTo_head hu hb n (by omega)
      rw [hl]
      exact ⟨_, rfl⟩
/-- the place for a new cell is the first of the list, or behind the last cell -/
theorem gaps_gap (h : Hp) : (gapsL h.cs = [] ∧ gapH h = h.cs.length) ∨ ((∃ l, gapsL h.cs = (gapH h : Int) :: l) ∧ gapH h < h.cs.length) := by
  rcases gapH_cases h with ⟨e1, e2⟩ | ⟨e1, e2, e3⟩
  · exact .inl ⟨gapsTo_none _ e2, e1⟩
  · exact .inr ⟨gapsTo_head e2 e3 _ e1, e1⟩
theorem gapsTo_put {cs : List Cl} {g : Nat} {c : Cl} (hc : c.u = true) (hg : g < cs.length) (hu : usedAt cs g = false) (hb : ∀ k, k < g → usedAt cs k = true) : ∀ n, gapsTo (cs.set g c) n = (gapsTo cs n).tail
  | 0 => rfl
  | n + 1 => by
    have hs : ∀ k, k ≠ g → usedAt (cs.set g c) k = usedAt cs k := fun k hk => by
      unfold usedAt
      rw [List.getElem?_set_ne (by omega)]
    have hgu : usedAt (cs.set g c) g = true := by
      unfold usedAt
      rw [List.getElem?_set_self (by simpa using hg)]
      exact hc
    rw [gapsTo, gapsTo, gapsTo_put hc hg hu hb n]
    rcases Nat.lt_trichotomy n g with e | e | e
    · rw [gapsTo_none n fun k hk => hb k (by omega), hs n (by omega), hb n e]
      rfl
    · subst e
      rw [gapsTo_none n hb, hgu, hu]
      rfl
    · obtain ⟨l, hl⟩ := gapsTo_head hu hb n e
      rw [hl, hs n (by omega)]
      rfl
/-- a new cell takes the first place of the list -/
theorem gaps_new {h : Hp} {o : Cm} (h1 : o.op = 1) : gapsL (doH h o (gapH h)).cs = (gapsL h.cs).tail := by
  rw [doH, if_pos h1]
  show gapsL (putCl h.cs (gapH h) (newCl o)) = _
  rcases gapH_cases h with ⟨e1, e2⟩ | ⟨e1, e2, e3⟩
  · rw [putCl, if_pos e1]
    have h2 : gapsL h.cs = [] := gapsTo_none _ e2
    rw [h2]
    refine gapsTo_none _ fun k hk => ?_
    rw [List.length_append, List.length_singleton] at hk
    rcases Nat.lt_or_ge k h.cs.length with h3 | h3
    · exact used_append _ k (e2 k h3)
    · obtain rfl : k = h.cs.length := by omega
      unfold usedAt
      rw [List.getElem?_append_right (Nat.le_refl _), Nat.sub_self]
      rfl
  · rw [putCl, if_neg (by omega)]
    have := gapsTo_put (c := newCl o) rfl e1 e2 e3 h.cs.length
    rw [gapsL, List.length_set]
    exact this
theorem setRef_used (cs : List Cl) (k i : Nat) (x : Int) (j : Nat) : usedAt (setRef cs k i x) j = usedAt cs j := by
  unfold setRef
  cases hc : cs[k]? with
  | none => rfl
  | some c =>
    unfold usedAt
    by_cases e : k = j
    · subst e
      rw [List.getElem?_set_self (List.getElem?_eq_some_iff.1 hc).1, hc]
    · rw [List.getElem?_set_ne e]
theorem setDat_used (cs : List Cl) (k : Nat) (x : Int) (j : Nat) : usedAt (setDat cs k x) j = usedAt cs j := by
  unfold setDat
  cases hc : cs[k]? with
  | none => rfl
  | some c =>
    unfold usedAt
    by_cases e : k = j
    · subst e
      rw [List.getElem?_set_self (List.getElem?_eq_some_iff.1 hc).1, hc]
    · rw [List.getElem?_set_ne e]
theorem setRef_len (cs : List Cl) (k i : Nat) (x : Int) : (setRef cs k i x).length = cs.length := by unfold setRef; split <;> simp
theorem setDat_len (cs : List Cl) (k : Nat) (x : Int) : (setDat cs k x).length = cs.length := by unfold setDat; split <;> simp
theorem gaps_of {cs cs' : List Cl} (hl : cs.length = cs'.length) (h : ∀ k, usedAt cs k = usedAt cs' k) : gapsL cs = gapsL cs' := by
  rw [gapsL, gapsL, hl]
  exact gapsTo_same _ fun k _ => h k
/-- no other instruction uses or frees a cell -/
theorem gaps_other {h : Hp} {o : Cm} {p : Nat} (h1 : o.op ≠ 1) : gapsL (doH h o p).cs = gapsL h.cs := by
  rw [doH, if_neg h1]
  split
  · rfl
  split
  · exact gaps_of (setRef_len _ _ _ _) (setRef_used _ _ _ _)
  split
  · rfl
  split
  · rfl
  split
  · exact gaps_of (setDat_len _ _ _) (setDat_used _ _ _)
  · rfl
/-! what is lost, as a word of bits -/
def lostW (cs : List Cl) (marks : List Bool) : Nat := usedW cs &&& (18446744073709551615 - Bm.wordN marks true)
theorem lostW_lt {cs : List Cl} (marks : List Bool) (h : cs.length ≤ 64) : lostW cs marks < 18446744073709551616 := Nat.lt_of_le_of_lt Nat.and_le_left (usedW_lt h)
theorem lostW_bit {cs : List Cl} {marks : List Bool} (hl : marks.length = cs.length) (h64 : cs.length ≤ 64) (i : Nat) : (lostW cs marks).testBit i = (usedAt cs i && decide (marks[i]? = some false)) := by
  have hM : Bm.wordN marks true < 18446744073709551616 := Bm.wordN_lt _ _ (by omega)
  rw [lostW, Nat.testBit_and, usedW_bit, show 18446744073709551615 - Bm.wordN marks true = 2 ^ 64 - (Bm.wordN marks true + 1) by omega, Nat.testBit_two_pow_sub_succ (by omega), Bm.wordN_bit]
  rcases Nat.lt_or_ge i cs.length with hi | hi
  · have hm := List.getElem?_eq_getElem (show i < marks.length by omega)
    rw [hm, decide_eq_true (show i < 64 by omega)]
    cases marks[i] <;> simp
  · have : usedAt cs i = false := by
      unfold usedAt
      rw [List.getElem?_eq_none hi]
    rw [this, Bool.false_and, Bool.false_and]
theorem mem_nums {V : Nat} {x : Int} : x ∈ numsB V ↔ ∃ k : Nat, x = k ∧ k < 64 ∧ V.testBit k = true := by
  unfold numsB
  simp only [List.mem_map, List.mem_filter, List.mem_range]
  constructor
  · rintro ⟨k, ⟨h1, h2⟩, rfl⟩
    exact ⟨k, rfl, h1, h2⟩
  · rintro ⟨k, rfl, h1, h2⟩
    exact ⟨k, ⟨h1, h2⟩, rfl⟩
/-- freeing what is used and not marked frees what is not marked -/
theorem zap_lost {cs : List Cl} {marks : List Bool} (hl : marks.length = cs.length) (h64 : cs.length ≤ 64) (hz : ∀ c ∈ cs, c.u = false → c = zeroCl) : zapL cs (numsB (lostW cs marks)) = dropL cs (marks.map (!·)) := by
  apply List.ext_getElem?
  intro k
  rw [zapL_at _ _ fun x hx => by obtain ⟨j, h1, _⟩ := mem_nums.1 hx; omega]
  rcases Nat.lt_or_ge k cs.length with hk | hk
  · have hc := List.getElem?_eq_getElem hk
    rw [dropL_at _ _ _ _ hc, hc]
    by_cases q : marks[k]? = some false
    · rw [if_pos (not_at.2 q)]
      by_cases u : usedAt cs k = true
      · rw [if_pos (mem_nums.2 ⟨k, rfl, by omega, by rw [lostW_bit hl h64, u, decide_eq_true q]; rfl⟩)]
        rfl
      · rw [if_neg fun e => by
          obtain ⟨j, e1, _, e2⟩ := mem_nums.1 e
          obtain rfl : k = j := by omega
          rw [lostW_bit hl h64, Bool.and_eq_true] at e2
          exact u e2.1]
        rw [hz cs[k] (List.getElem_mem hk) (by
          rw [usedAt, hc] at u
          simpa using u)]
    · rw [if_neg (fun e => q (not_at.1 e)), if_neg fun e => by
        obtain ⟨j, e1, _, e2⟩ := mem_nums.1 e
        obtain rfl : k = j := by omega
        rw [lostW_bit hl h64, Bool.and_eq_true, decide_eq_true_eq] at e2
        exact q e2.2]
  · rw [List.getElem?_eq_none hk, List.getElem?_eq_none (by rw [dropL_len]; exact hk)]
    split <;> rfl
theorem pcN_succ (V k : Nat) : pcN V (k + 1) = pcN V k + (if V.testBit k = true then 1 else 0) := by
  unfold pcN
  rw [List.range_succ, List.countP_append, List.countP_singleton]
/-- how many are lost -/
theorem pc_lost {cs : List Cl} {marks : List Bool} (hl : marks.length = cs.length) (h64 : cs.length ≤ 64) : pcN (lostW cs marks) 64 = freedTo cs marks marks.length := by
  have h1 : ∀ n, pcN (lostW cs marks) n = freedTo cs marks n := by
    intro n
    induction n with
    | zero => rfl
    | succ n ih =>
      rw [pcN_succ, ih, freedTo, lostW_bit hl h64]
      congr 1
      by_cases a : usedAt cs n = true <;> by_cases b : marks[n]? = some false <;> simp [a, b]
  have h2 : ∀ d, freedTo cs marks (marks.length + d) = freedTo cs marks marks.length := by
    intro d
    induction d with
    | zero => rfl
    | succ d ih =>
      rw [← Nat.add_assoc, freedTo, ih, if_neg, Nat.add_zero]
      rw [List.getElem?_eq_none (by omega)]
      simp
  rw [h1, show 64 = marks.length + (64 - marks.length) by omega, h2]
theorem valid_zero {h : Hp} (hv : validH h = true) : ∀ c ∈ h.cs, c.u = false → c = zeroCl := fun c hc hu => by
  have h1 := (okCell_iff.1 ((valid_iff.1 hv).1 c hc)).1
  rw [hu] at h1
  obtain ⟨u, d, r⟩ := c
  rcases h1 with h1 | ⟨h1, h2⟩
  · cases h1
  · simp only at hu h1 h2
    rw [hu, h1, h2, zeroCl]
/-! marks that keep what is referred to -/
section
variable {h : Hp} {marks : List Bool}
end
/-! steps with a list of free cells -/
theorem stepSw_other {h : Hp} {limit : Int} {o : Cm} (e : validH h = true ∧ okCm o = true ∧ 1 ≤ limit ∧ limit ≤ 40) (h1 : o.op ≠ 1) : stepSw h limit o = if canH h o = true then (doH h o h.cs.length, true) else (h, false) := by
  by_cases hc : canH h o = true
  · rw [stepSw_does e hc (fun q => h1 q.1), room_other h1, if_pos hc]
    congr 1
    unfold doH
    rw [if_neg h1, if_neg h1]
  · rw [stepSw_cannot e (by simpa using hc), if_neg hc]
theorem can_new {h : Hp} {o : Cm} (hv : validH h = true) (ho : okCm o = true) (h1 : o.op = 1) : canH h o = true := by
  rw [canH, hv, ho, if_neg (by omega), if_neg (by omega), if_neg (by omega)]
  rfl
theorem stepSw_room {h : Hp} {limit : Int} {o : Cm} (e : validH h = true ∧ okCm o = true ∧ 1 ≤ limit ∧ limit ≤ 40) (h1 : o.op = 1) : stepSw h limit o = if (gapH h : Int) < limit then (doH h o (gapH h), true) else if (gapH (sweptH h) : Int) < limit then (doH (sweptH h) o (gapH (sweptH h)), true) else (sweptH h, false) := by
  have hc := can_new e.1 e.2.1 h1
  by_cases h2 : (gapH h : Int) < limit
  · rw [if_pos h2, stepSw_does e hc (by rw [room_free (by omega)]; exact fun q => by have := q.2; omega), room_free (by omega)]
  · have h3 := room_full (h := h) h1 (show limit ≤ (gapH h : Int) by omega)
    rw [if_neg h2]
    by_cases h4 : (gapH (sweptH h) : Int) < limit
    · rw [if_pos h4, stepSw_does e hc (by rw [h3]; exact fun q => by have := q.2; omega), h3]
    · rw [if_neg h4, stepSw_full e hc (by rw [h3]; exact ⟨h1, by omega⟩), h3]
end Hps
end Go.Proofs.YthmddmddcdofaaaDoor

namespace Go.Proofs.YthmddmddcdofaaaDoor
open Go.RowKit
set_option maxRecDepth 100000
theorem take_snocZ {xs : List Int} {j : Nat} {y : Int} (h : xs[j]? = some y) : xs.take (j + 1) = xs.take j ++ [y] := by
  rw [List.take_add_one, h]
  rfl
set_option maxHeartbeats 2000000 in
theorem freeCells_any (T : TypeId) (K : Beside) (w0 w : World) (b : Nat) (vc vr : Value) (rvs : List Value) (h : Hp) (V : Nat) (hT : TzT w) (S0 : BoxX T K w0 w b vc vr rvs h) (hV : V < 18446744073709551616) (hB : ∀ i, V.testBit i = true → i < h.cs.length) :
    Calls Tryd.prog 96 #[.pointer (some ⟨b, 0, none⟩), .int .u64 V] w fun e w' => (∃ v, e = .returned v) ∧ ∃ rvs', BoxX T K w0 w' b vc vr rvs' ⟨Hps.zapL h.cs (Hps.numsB V), h.rt⟩ := by
  obtain ⟨n, hn⟩ : ∃ n, h.cs.length = n := ⟨_, rfl⟩
  rw [hn] at hB
  have HB := Lib.hid hB
  have HNB := Lib.hid (fun (y : Int) (hy : y ∈ Hps.numsB V) => Hps.mem_nums.1 hy)
  have HM := Lib.hid (numbers_any V w hT hV)
  have hnl := Hps.nums_len V
  obtain ⟨A, c, R, d, rfl, rfl, -, -, fA, -⟩ := S0.own.form
  rw [hn] at S0 fA ⊢
  obtain ⟨m, hm⟩ : ∃ m, h.rt.length = m := ⟨_, rfl⟩
  rw [hm] at S0 ⊢
  have FA := Lib.hid fA
  have HN := Lib.hid hn
  obtain ⟨N, hNe⟩ : ∃ N, Hps.numsB V = N := ⟨_, rfl⟩
  rw [hNe] at HM HNB hnl ⊢
  clear hNe hT hB hn hm fA
  go_enter Tryd.func96, Tryd.ntmps96
  go_wp2_with fail
  refine HM.out.mono ?_
  rintro e w8 ⟨nv, rfl, on, b8⟩
  obtain ⟨A7, c7, e7, _⟩ := on.form
  subst e7
  obtain ⟨pp, hpp⟩ : ∃ pp, N.length = pp := ⟨_, rfl⟩
  have HP := Lib.hid hpp
  rw [hpp] at on hnl
  rw [hpp]
  have HLT := Lib.hid (fun v (hv : v ∈ (Value.slice A n c) :: (Value.slice R m d) :: rvs) k (hk : v.ownBlock = some k) => (S0.own.blocks hv hk).2)
  have S := S0.up b8
  have b8s := b8.size
  clear HM hpp b8 S0
  go_wp2_with fail
  go_loopw [9] (fun i wr => ∃ (j : Nat) (rvs : List Value), j ≤ pp ∧ i = .int .i64 j ∧ BoxX T K w0 wr b (.slice A n c) (.slice R m d) rvs ⟨Hps.zapL h.cs (N.take j), h.rt⟩ ∧ OwnI wr w.heap.size (.slice A7 pp c7) N) (fun i _ => pp - (intOf i).toNat)
  case atStart => exact ⟨0, rvs, Nat.zero_le _, rfl, S, on⟩
  case round =>
    clear S on
    obtain ⟨j, rv, hj, rfl, S, on⟩ := hrel
    have x0 : wr.cell? ⟨b, 0, none⟩ = some (.slice A n c) := S.c0
    by_cases hlj : j < pp
    · obtain ⟨g7, o7, y, rfl, hg7, hy, d7⟩ := on.reads.at_ hlj
      obtain ⟨z, rfl, _, hzb⟩ := HNB.out y (List.mem_of_getElem? hy)
      have hzn := HB.out z hzb
      obtain ⟨gc, hgce, hgc⟩ : ∃ gc, A = some ⟨gc, 0, none⟩ ∧ gc < w.heap.size := by
        obtain ⟨gc, e, _⟩ := FA.out (by omega)
        subst e
        exact ⟨gc, rfl, HLT.out (.slice (some ⟨gc, 0, none⟩) n c) (by simp) gc rfl⟩
      subst hgce
      have hne : (Value.slice (some ⟨g7, o7, none⟩) pp c7).ownBlock = none ∨ (Value.slice (some ⟨g7, o7, none⟩) pp c7).ownBlock ≠ some gc := .inr fun e => by have := (World.ownsRow.lt on gc e).1; omega
      have HNE := Lib.hid hne
      have hzl : (Hps.zapL h.cs (N.take j)).length = n := by rw [Hps.zapL_len]; exact HN.out
      obtain ⟨old, hold⟩ : ∃ old, (Hps.zapL h.cs (N.take j))[z]? = some old := ⟨_, List.getElem?_eq_getElem (show z < _ by rw [hzl]; exact hzn)⟩
      obtain ⟨g9, v, e9, _, _, -, -, y0, y1, y2, fz⟩ := S.own.cell_at hold
      injection e9 with e9
      injection e9 with e9
      subst e9
      have f0 := fz (z * 3)
      have f1 := fz (z * 3 + 1)
      have f2 := fz (z * 3 + 2)
      have SN := S.cell (cl := Hps.zeroCl) (rv := .slice none 0 0) hzl hold (World.ownsRow_nil _ _ _ _) (fun _ _ => .inl rfl) (.inl rfl) (fun _ _ => by simp [Value.ownBlock])
      have HTS := Lib.hid (show Hps.zapL h.cs (N.take (j + 1)) = (Hps.zapL h.cs (N.take j)).set z Hps.zeroCl by rw [take_snocZ hy, Hps.zapL_snoc]; rfl)
      rw [← HTS.out] at SN
      have SH := Lib.hid SN
      have on2 := Lib.hid (((on.far (put_any wr gc (z * 3) (.bool false)) HNE.out).far (put_any _ gc (z * 3 + 1) (.int .i64 0)) HNE.out).far (put_any _ gc (z * 3 + 2) (.slice none 0 0)) HNE.out)
      have hlj' : (j : Int) < pp := by omega
      have hzn' : (z : Int) < n := by omega
      clear hy hzb hold hzl S SN fz on hne
      go_wp2_with fail
      go_roundw
      case rel => exact ⟨j + 1, _, by omega, by go_num, SH.out, on2.out⟩
      case measure => simp [intOf]; omega
    · obtain rfl : j = pp := by omega
      rw [List.take_of_length_le (by rw [HP.out]; omega)] at S
      have SH := Lib.hid S
      clear S
      go_wp2_with fail
      go_end0
      exact ⟨⟨_, rfl⟩, rv, SH.out⟩
set_option maxHeartbeats 1000000 in
theorem freeList_any (A : Option Addr) (n c : Nat) (cs : List Cl) (w : World) (h : CS w w.heap.size A n cs) (hn : n ≤ 64) :
    Calls Tryd.prog 125 #[.slice A n c] w (GaveI w (Hps.gapsL cs)) := by
  have hlc := h.1
  have HF := Lib.hid (show Hps.gapsL cs = Hps.gapsTo cs n by rw [Hps.gapsL, hlc])
  have o0 : OwnI w w.heap.size (.slice none 0 0) [] := World.ownsRow_nil _ _ _ _
  have HO0 := Lib.hid o0
  clear o0
  go_enter Tryd.func125, Tryd.ntmps125
  go_wp2_with fail
  go_loopw [3, 8] (fun v i wr => ∃ k : Nat, k ≤ n ∧ i = .int .i64 k ∧ OwnI wr w.heap.size v (Hps.gapsTo cs k) ∧ Below w.heap.size w wr) (fun _ i _ => n - (intOf i).toNat)
  case atStart => exact ⟨0, Nat.zero_le _, rfl, HO0.out, Below.refl _ _⟩
  case round =>
    obtain ⟨k, hk, rfl, ow, bb⟩ := hrel
    by_cases hlt : k < n
    · obtain ⟨g, o, cl, A', m', cc, rfl, hg, hcl, d1, d2, d3, hmc, hi⟩ := (h.below bb).at_ hlt
      have hlt' : (k : Int) < n := by omega
      have hU : Hps.usedAt cs k = cl.u := by rw [Hps.usedAt, hcl]
      have hyn : (Hps.gapsTo cs k).length + 1 ≤ 1099511627776 := by have := Hps.gapsTo_len cs k; omega
      clear hcl
      cases hu : cl.u
      · rw [hu] at d1 hU
        have HY := Lib.hid (show Hps.gapsTo cs (k + 1) = Hps.gapsTo cs k ++ [(k : Int)] by rw [Hps.gapsTo, hU, if_neg (by decide)])
        have bW := bb.alloc bb.size (.cells #[.bool false, .int .i64 cl.d, .slice A' m' cc] 40)
        have ow1 := World.ownsRow.alloc (World.ownsRow.alloc ow (.cells #[.bool false, .int .i64 cl.d, .slice A' m' cc] 40)) (.cells #[.int .i64 k] 3)
        have bW2 := bW.alloc bW.size (.cells #[.int .i64 k] 3)
        have r1 : IS ((wr.alloc (.cells #[.bool false, .int .i64 cl.d, .slice A' m' cc] 40)).alloc (.cells #[.int .i64 k] 3)) ((wr.alloc (.cells #[.bool false, .int .i64 cl.d, .slice A' m' cc] 40)).alloc (.cells #[.int .i64 k] 3)).heap.size (some ⟨(wr.alloc (.cells #[.bool false, .int .i64 cl.d, .slice A' m' cc] 40)).heap.size, 0, none⟩) 1 [(k : Int)] := (own_oneI _ _ 0 (Nat.zero_le _)).reads
        simp only [World.size_alloc] at r1
        have hba := bW2.size
        clear hu hU
        go_wp2_with (at_builtin; refine wpList_appendI rfl (.tmp 16) (.tmp 18) rfl w.heap.size _ (Hps.gapsTo cs k) rfl ow1 (some ⟨wr.heap.size + 1, 0, none⟩) 1 1 _ [(k : Int)] rfl r1 hyn hba ?_; intro v5 w5 o5 g5 s5)
        have b5 : Below w.heap.size w w5 := bW2.grown g5 bW2.size (fun kk hkk => (World.ownsRow.lt ow1 kk hkk).1)
        go_roundw
        case rel => exact ⟨k + 1, by omega, by go_num, by rw [HY.out]; exact o5, b5⟩
        case measure => simp [intOf]; omega
      · rw [hu] at d1 hU
        have HY := Lib.hid (show Hps.gapsTo cs (k + 1) = Hps.gapsTo cs k by rw [Hps.gapsTo, if_pos hU, List.append_nil])
        have bW := bb.alloc bb.size (.cells #[.bool true, .int .i64 cl.d, .slice A' m' cc] 40)
        have ow1 := World.ownsRow.alloc ow (.cells #[.bool true, .int .i64 cl.d, .slice A' m' cc] 40)
        clear hu hU
        go_wp2_with fail
        go_roundw
        case rel => exact ⟨k + 1, by omega, by go_num, by rw [HY.out]; exact ow1, bW⟩
        case measure => simp [intOf]; omega
    · obtain rfl : k = n := by omega
      go_wp2_with fail
      go_ret
      exact ⟨_, rfl, by rw [HF.out]; exact ow, bb⟩
theorem limitValid_any (x : Int) (w : World) : Calls Tryd.prog 83 #[.int .i64 x] w fun e w' => e = .returned (.bool (decide (1 ≤ x ∧ x ≤ 40))) ∧ w = w' := by
  by_cases h1 : 1 ≤ x
  · have h1' : x ≥ 1 := h1
    by_cases h2 : x ≤ 40
    · rw [decide_eq_true (show 1 ≤ x ∧ x ≤ 40 from ⟨h1, h2⟩)]
      go_enter Tryd.func83, Tryd.ntmps83
      go_wp2_with fail
      go_ret
      exact ⟨rfl, rfl⟩
    · rw [decide_eq_false (show ¬ (1 ≤ x ∧ x ≤ 40) from fun e => h2 e.2)]
      go_enter Tryd.func83, Tryd.ntmps83
      go_wp2_with fail
      go_ret
      exact ⟨rfl, rfl⟩
  · have h1' : ¬ x ≥ 1 := h1
    rw [decide_eq_false (show ¬ (1 ≤ x ∧ x ≤ 40) from fun e => h1 e.1)]
    go_enter Tryd.func83, Tryd.ntmps83
    go_wp2_with fail
    go_ret
    exact ⟨rfl, rfl⟩
end Go.Proofs.YthmddmddcdofaaaDoor

namespace Go.Proofs.YthmddmddcdofaaaDoor
open Go.RowKit
set_option maxRecDepth 100000
/-- blocks that stay -/
abbrev KeptL := List (Nat × TypeId × Array Value)
/-- a heap in a sweeper of the call's own, with a list of numbers, beside blocks that stay -/
def SwFs (E : KeptL) (w0 wr : World) (b : Nat) (vc vr : Value) (rvs : List Value) (h : Hp) (fs : List Int) : Prop := ∃ ve, BoxX 104 (some (ve, fs, E)) w0 wr b vc vr rvs h
section
variable {E : KeptL} {w0 wr w1 : World} {b : Nat} {vc vr : Value} {rvs : List Value} {h : Hp} {fs : List Int}
theorem SwFs.up (S : SwFs E w0 wr b vc vr rvs h fs) (hw : Below wr.heap.size wr w1) : SwFs E w0 w1 b vc vr rvs h fs := by
  obtain ⟨ve, B⟩ := S
  exact ⟨ve, B.up hw⟩
theorem SwFs.c0 (S : SwFs E w0 wr b vc vr rvs h fs) : wr.cell? ⟨b, 0, none⟩ = some vc := by
  obtain ⟨ve, B⟩ := S
  exact B.c0
theorem SwFs.c1 (S : SwFs E w0 wr b vc vr rvs h fs) : wr.cell? ⟨b, 1, none⟩ = some vr := by
  obtain ⟨ve, B⟩ := S
  exact B.c1
theorem SwFs.fz (S : SwFs E w0 wr b vc vr rvs h fs) (i : Nat) : wr.frozen? ⟨b, i, none⟩ = false := by
  obtain ⟨ve, B⟩ := S
  exact B.box.frozen i
theorem SwFs.own (S : SwFs E w0 wr b vc vr rvs h fs) : OwnHx wr w0.heap.size vc vr rvs h := by
  obtain ⟨ve, B⟩ := S
  exact B.own
theorem SwFs.low (S : SwFs E w0 wr b vc vr rvs h fs) : Below w0.heap.size w0 wr := by
  obtain ⟨ve, B⟩ := S
  exact B.low
theorem SwFs.lo (S : SwFs E w0 wr b vc vr rvs h fs) : w0.heap.size ≤ b := by
  obtain ⟨ve, B⟩ := S
  exact B.lo
theorem SwFs.lt (S : SwFs E w0 wr b vc vr rvs h fs) : b < wr.heap.size := by
  obtain ⟨ve, B⟩ := S
  exact B.box.lt
/-- what lies in the list -/
theorem SwFs.none_ (S : SwFs E w0 wr b vc vr rvs h []) : ∃ A c, wr.cell? ⟨b, 2, none⟩ = some (.slice A 0 c) := by
  obtain ⟨ve, B⟩ := S
  have c2 : wr.cell? ⟨b, 2, none⟩ = some ve := B.box.cell 2
  obtain ⟨A, c, e⟩ := (B.side.row _ rfl).form
  exact ⟨A, c, c2.trans (congrArg some e)⟩
theorem SwFs.cons_ {x : Int} (S : SwFs E w0 wr b vc vr rvs h (x :: fs)) : ∃ g o c, wr.cell? ⟨b, 2, none⟩ = some (.slice (some ⟨g, o, none⟩) (fs.length + 1) c) ∧ fs.length + 1 ≤ c ∧ c ≤ 9223372036854775807 ∧ wr.cell? ⟨g, o, none⟩ = some (.int .i64 x) ∧ SwFs E w0 (wr.setCell ⟨b, 2, none⟩ (if c = 1 then .slice (some ⟨g, o, none⟩) 0 0 else .slice (some ⟨g, o + 1, none⟩) fs.length (c - 1))) b vc vr rvs h fs := by
  obtain ⟨ve, B⟩ := S
  have c2 : wr.cell? ⟨b, 2, none⟩ = some ve := B.box.cell 2
  obtain ⟨g, o, c, e, _, hx, hc, hc2, hr⟩ := (B.side.row _ rfl).head
  simp only at e
  subst e
  have ho : (if c = 1 then Value.slice (some ⟨g, o, none⟩) 0 0 else .slice (some ⟨g, o + 1, none⟩) fs.length (c - 1)).ownBlock = some g := by split <;> rfl
  obtain ⟨h1, h2⟩ := B.side.apart g ⟨_, rfl, .inl rfl⟩
  exact ⟨g, o, c, c2, hc, hc2, hx, _, B.beside3 hr (fun u hu => .inr (by rw [ho]; exact h2 u hu)) (by rw [ho]; exact fun e => h1 (Option.some.inj e)) fun e he => by rw [ho]; exact (B.side.kept _ rfl e he).2⟩
/-- another row beside the heap -/
theorem SwFs.free {v : Value} {xs : List Int} (S : SwFs E w0 wr b vc vr rvs h fs) (hq : OwnI wr w0.heap.size v xs) (ha : ∀ u ∈ vc :: vr :: rvs, u.ownBlock = none ∨ u.ownBlock ≠ v.ownBlock) (hb : v.ownBlock ≠ some b) (hE : ∀ e ∈ E, v.ownBlock ≠ some e.1) : SwFs E w0 (wr.setCell ⟨b, 2, none⟩ v) b vc vr rvs h xs := by
  obtain ⟨ve, B⟩ := S
  exact ⟨v, B.beside3 hq.queue ha hb hE⟩
theorem SwFs.keptLt (S : SwFs E w0 wr b vc vr rvs h fs) : ∀ e ∈ E, e.1 < wr.heap.size := fun e he => by
  obtain ⟨ve, B⟩ := S
  exact (B.side.kept _ rfl e he).1.lt
/-- a block that has just been made stays -/
theorem SwFs.more {t : TypeId} {cs : Array Value} (S : SwFs E w0 wr b vc vr rvs h fs) : SwFs ((wr.heap.size, t, cs) :: E) w0 (wr.alloc (.cells cs t)) b vc vr rvs h fs := by
  obtain ⟨ve, B⟩ := S
  have hb := B.box.lt
  refine ⟨ve, (B.up ((Below.refl _ _).alloc (Nat.le_refl _) _)).more (Rw.new wr t cs) (by omega) (fun u hu e => ?_) fun e => ?_⟩
  · have := (B.own.blocks hu e).2
    omega
  · have := ((B.side.row _ rfl).lt _ e).2
    omega
theorem SwFs.less {x : Nat × TypeId × Array Value} (S : SwFs (x :: E) w0 wr b vc vr rvs h fs) : SwFs E w0 wr b vc vr rvs h fs ∧ Rw wr x.1 x.2.1 x.2.2 := by
  obtain ⟨ve, B⟩ := S
  obtain ⟨B1, r⟩ := B.less
  exact ⟨⟨ve, B1⟩, r⟩
end
/-- the list is that of the cells that are not used -/
abbrev SwSt (E : KeptL) (w0 wr : World) (b : Nat) (vc vr : Value) (rvs : List Value) (h : Hp) : Prop := SwFs E w0 wr b vc vr rvs h (Hps.gapsL h.cs)
set_option maxHeartbeats 1000000 in
theorem place_any (E : KeptL) (w0 w : World) (b : Nat) (vc vr : Value) (rvs : List Value) (h : Hp) (S : SwSt E w0 w b vc vr rvs h) :
    Calls Tryd.prog 160 #[.pointer (some ⟨b, 0, none⟩)] w fun e w' => e = .returned (.int .i64 (Hps.gapH h)) ∧ w = w' := by
  obtain ⟨A0, c0, R0, d0, e1, e2, -⟩ := S.own.form
  have x0 := S.c0
  rw [e1] at x0
  obtain ⟨n, hn⟩ : ∃ n, h.cs.length = n := ⟨_, rfl⟩
  obtain ⟨p, hp⟩ : ∃ p, Hps.gapH h = p := ⟨_, rfl⟩
  rcases Hps.gaps_gap h with ⟨g1, g2⟩ | ⟨⟨l, g1⟩, g2⟩
  · have S1 : SwFs E w0 w b vc vr rvs h [] := g1 ▸ S
    obtain ⟨A, c, x2⟩ := S1.none_
    rw [hn] at x0 g2
    rw [hp] at g2 ⊢
    subst g2
    clear e1 e2 g1 hn hp S S1
    go_enter Tryd.func160, Tryd.ntmps160
    go_wp2_with fail
    go_ret
    exact ⟨rfl, rfl⟩
  · have S1 : SwFs E w0 w b vc vr rvs h ((Hps.gapH h : Int) :: l) := g1 ▸ S
    obtain ⟨g, o, c, x2, hc, hc2, y0, -⟩ := S1.cons_
    obtain ⟨m, hm⟩ : ∃ m, l.length = m := ⟨_, rfl⟩
    rw [hm] at x2 hc
    rw [hp] at y0 ⊢
    clear e1 e2 g1 g2 hn hp S S1 hm
    go_enter Tryd.func160, Tryd.ntmps160
    go_wp2_with fail
    go_ret
    exact ⟨rfl, rfl⟩
set_option maxHeartbeats 1000000 in
theorem takePlace_any (E : KeptL) (w0 w : World) (b : Nat) (vc vr : Value) (rvs : List Value) (h : Hp) (S : SwSt E w0 w b vc vr rvs h) :
    Calls Tryd.prog 145 #[.pointer (some ⟨b, 0, none⟩)] w fun e w' => e = .returned (.int .i64 (Hps.gapH h)) ∧ SwFs E w0 w' b vc vr rvs h (Hps.gapsL h.cs).tail ∧ Below w0.heap.size w w' := by
  have HPL := Lib.hid (place_any E w0 w b vc vr rvs h S)
  obtain ⟨p, hp⟩ : ∃ p, Hps.gapH h = p := ⟨_, rfl⟩
  have fz := S.fz 2
  have hlo := S.lo
  rcases Hps.gaps_gap h with ⟨g1, g2⟩ | ⟨⟨l, g1⟩, g2⟩
  · have S1 : SwFs E w0 w b vc vr rvs h [] := g1 ▸ S
    obtain ⟨A, c, x2⟩ := S1.none_
    rw [g1]
    rw [hp] at HPL ⊢
    have SH := Lib.hid S1
    clear g1 hp S S1 g2
    go_enter Tryd.func145, Tryd.ntmps145
    go_wp2_with fail
    refine HPL.out.mono ?_
    rintro e w1 ⟨rfl, rfl⟩
    go_wp2_with fail
    go_ret
    exact ⟨rfl, SH.out, Below.refl _ _⟩
  · have S1 : SwFs E w0 w b vc vr rvs h ((Hps.gapH h : Int) :: l) := g1 ▸ S
    obtain ⟨g, o, c, x2, hc, hc2, -, S2⟩ := S1.cons_
    obtain ⟨m, hm⟩ : ∃ m, l.length = m := ⟨_, rfl⟩
    rw [hm] at x2 hc S2
    rw [g1, List.tail_cons]
    rw [hp] at HPL ⊢
    have b2 : Below w0.heap.size w (w.setCell ⟨b, 2, none⟩ (if c = 1 then .slice (some ⟨g, o, none⟩) 0 0 else .slice (some ⟨g, o + 1, none⟩) m (c - 1))) := (Below.refl _ _).setCell (p := ⟨b, 2, none⟩) hlo _
    by_cases h1 : c = 1
    · rw [if_pos h1] at S2 b2
      subst h1
      obtain rfl : m = 0 := by omega
      have SH := Lib.hid S2
      clear g1 hp S S1 S2 g2 hm
      go_enter Tryd.func145, Tryd.ntmps145
      go_wp2_with fail
      refine HPL.out.mono ?_
      rintro e w1 ⟨rfl, rfl⟩
      go_wp2_with fail
      go_ret
      exact ⟨rfl, SH.out, b2⟩
    · rw [if_neg h1] at S2 b2
      have SH := Lib.hid S2
      clear g1 hp S S1 S2 g2 hm
      go_enter Tryd.func145, Tryd.ntmps145
      go_wp2_with fail
      refine HPL.out.mono ?_
      rintro e w1 ⟨rfl, rfl⟩
      go_wp2_with fail
      go_ret
      exact ⟨rfl, SH.out, b2⟩
end Go.Proofs.YthmddmddcdofaaaDoor

namespace Go.Proofs.YthmddmddcdofaaaDoor
open Go.RowKit
set_option maxRecDepth 100000
set_option maxHeartbeats 4000000 in
theorem sweeperOf_any (A R : Option Addr) (n c m d : Nat) (h : Hp) (w : World) (hs : HS w w.heap.size A n R m h) (hn : n ≤ 64) (hm : m ≤ 1000000) (h3 : ∀ cl ∈ h.cs, cl.r.length ≤ 1000000) :
    Calls Tryd.prog 75 #[heapV A n c R m d] w (GaveCt w h (Hps.gapsL h.cs)) := by
  have B2 : Below w.heap.size w ((w.alloc (.cells #[.slice A n c, .slice R m d] 26)).alloc (.cells #[.slice none 0 0, .slice none 0 0, .slice none 0 0] 104)) := ((Below.refl _ _).alloc (Nat.le_refl _) _).alloc (by simp) _
  have q1 := (Rw.new w 26 #[.slice A n c, .slice R m d]).alloc (.cells #[.slice none 0 0, .slice none 0 0, .slice none 0 0] 104)
  have q2 := Rw.new (w.alloc (.cells #[.slice A n c, .slice R m d] 26)) 104 #[.slice none 0 0, .slice none 0 0, .slice none 0 0]
  simp only [World.size_alloc] at q2
  have s2 := hs.up B2
  have H3 := Lib.hid h3
  clear h3 hs
  go_enter Tryd.func75, Tryd.ntmps75
  go_upto_region 1 with fail
  generalize (w.alloc (.cells #[.slice A n c, .slice R m d] 26)).alloc (.cells #[.slice none 0 0, .slice none 0 0, .slice none 0 0] 104) = w2 at B2 q1 q2 s2 ⊢
  obtain ⟨q, hq⟩ : ∃ q, w.heap.size = q := ⟨_, rfl⟩
  rw [hq] at B2 q1 q2 ⊢
  have HQ := Lib.hid hq
  clear hq
  have hql := q1.lt
  have hrl := q2.lt
  have x0 : w2.cell? ⟨q, 0, none⟩ = some (.slice A n c) := q1.cell 0
  have x1 : w2.cell? ⟨q, 1, none⟩ = some (.slice R m d) := q1.cell 1
  have SS := Lib.hid s2
  clear s2 q1
  refine wp_region_inv (by kernel_rfl) (by kernel_rfl) (fun L ac ww => ∃ t3 t4 t5 t6 t7 t8 : Value, ac = { tmps := #[heapV A n c R m d, Value.pointer (some { block := q, off := 0 }), Value.pointer (some { block := q + 1, off := 0 }), t3, t4, t5, t6, t7, t8], defers := [] } ∧ (L 6 = false → Below w2.heap.size w2 ww) ∧ (L 0 = true → t3 = .agg #[.slice A n c, .slice R m d]) ∧ (L 1 = true → ∃ (A5 : Option Addr) (n5 c5 : Nat) (R5 : Option Addr) (m5 d5 : Nat), t4 = .agg #[.slice A5 n5 c5, .slice R5 m5 d5] ∧ (L 4 = false → OwnH ww w2.heap.size (.slice A5 n5 c5) (.slice R5 m5 d5) h)) ∧ (L 2 = true → t5 = .pointer (some ⟨q, 0, none⟩)) ∧ (L 3 = true → t6 = .slice A n c) ∧ (L 4 = true → ∃ (A5 : Option Addr) (n5 c5 : Nat) (R5 : Option Addr) (m5 d5 : Nat) (K5 : Option Addr) (p5 q5 : Nat), t4 = .agg #[.slice A5 n5 c5, .slice R5 m5 d5] ∧ t7 = .slice K5 p5 q5 ∧ L 1 = true ∧ (L 6 = false → OwnC ww w2.heap.size (.slice A5 n5 c5) (.slice R5 m5 d5) (.slice K5 p5 q5) h (Hps.gapsL h.cs))) ∧ (L 5 = true → L 1 = true ∧ L 4 = true ∧ ∃ (A5 : Option Addr) (n5 c5 : Nat) (R5 : Option Addr) (m5 d5 : Nat) (K5 : Option Addr) (p5 q5 : Nat), t4 = .agg #[.slice A5 n5 c5, .slice R5 m5 d5] ∧ t7 = .slice K5 p5 q5 ∧ t8 = .agg #[.slice A5 n5 c5, .slice R5 m5 d5, .slice K5 p5 q5]) ∧ (L 6 = true → (∀ q, q < 6 → L q = true) ∧ ∃ (A5 : Option Addr) (n5 c5 : Nat) (R5 : Option Addr) (m5 d5 : Nat) (K5 : Option Addr) (p5 q5 : Nat) (wp : World), ww = (((wp).setCell ⟨q + 1, 0, none⟩ (.slice A5 n5 c5)).setCell ⟨q + 1, 1, none⟩ (.slice R5 m5 d5)).setCell ⟨q + 1, 2, none⟩ (.slice K5 p5 q5) ∧ Below w2.heap.size w2 wp ∧ OwnC wp w2.heap.size (.slice A5 n5 c5) (.slice R5 m5 d5) (.slice K5 p5 q5) h (Hps.gapsL h.cs))) ?h0 ?hstep ?hdone
  case h0 => exact ⟨_, _, _, _, _, _, rfl, fun _ => (Below.refl _ _).drew, (fun h => absurd h Bool.false_ne_true), (fun h => absurd h Bool.false_ne_true), (fun h => absurd h Bool.false_ne_true), (fun h => absurd h Bool.false_ne_true), (fun h => absurd h Bool.false_ne_true), (fun h => absurd h Bool.false_ne_true), (fun h => absurd h Bool.false_ne_true)⟩
  case hstep =>
    rintro L ac ww i o ho hL hd ⟨t3, t4, t5, t6, t7, t8, rfl, I0, f0, f1, f2, f3, f4, f5, f6⟩
    have hi : i < 7 := (Array.getElem?_eq_some_iff.1 ho).1
    obtain rfl | rfl | rfl | rfl | rfl | rfl | rfl : i = 0 ∨ i = 1 ∨ i = 2 ∨ i = 3 ∨ i = 4 ∨ i = 5 ∨ i = 6 := by omega
    · obtain rfl := Option.some.inj ho
      have hL6 : L 6 = false := by
        cases e : L 6
        · rfl
        · exact absurd ((f6 e).1 0 (by decide)) (by rw [hL]; decide)
      have J := I0 hL6
      have z0 : ww.cell? ⟨q, 0, none⟩ = some (.slice A n c) := (J.cell (p := ⟨q, 0, none⟩) hql).trans x0
      have z1 : ww.cell? ⟨q, 1, none⟩ = some (.slice R m d) := (J.cell (p := ⟨q, 1, none⟩) hql).trans x1
      refine wpOp_step rfl (fun K' hK => ?_)
      go_simp
      refine hK _ _ ?_
      exact ⟨_, _, _, _, _, _, rfl, (fun _ => J), (fun _ => rfl), (fun h => by
        obtain ⟨A5, n5, c5, R5, m5, d5, e, r⟩ := f1 (upd_ne h (by decide))
        exact ⟨A5, n5, c5, R5, m5, d5, e, fun h4 => r (by rw [upd_other (by decide)] at h4; exact h4)⟩), (kp f2), (kp f3), (fun h => by
        obtain ⟨A5, n5, c5, R5, m5, d5, K5, p5, q5, e, e7, l1, r⟩ := f4 (upd_ne h (by decide))
        exact ⟨A5, n5, c5, R5, m5, d5, K5, p5, q5, e, e7, upd_mono l1, fun h6 => r (by rw [upd_other (by decide)] at h6; exact h6)⟩), (fun h => by
        obtain ⟨l1, l4, r⟩ := f5 (upd_ne h (by decide))
        exact ⟨upd_mono l1, upd_mono l4, r⟩), (fun h => absurd hL6 (by rw [upd_ne h (by decide)]; decide))⟩
    · obtain rfl := Option.some.inj ho
      have g0 := f0 (hd ⟨0, .data⟩ (by simp) rfl)
      subst g0
      have hL6 : L 6 = false := by
        cases e : L 6
        · rfl
        · exact absurd ((f6 e).1 1 (by decide)) (by rw [hL]; decide)
      have J := I0 hL6
      refine wpOp_step rfl (fun K' hK => ?_)
      go_simp
      refine (cloneHeap_any A R n c m d h ww (SS.out.up J) (by omega) (by omega) H3.out).mono ?_
      rintro e w' ⟨vc, vr, rfl, ow, b5⟩
      obtain ⟨A5, n5, c5, R5, m5, d5, rfl, rfl⟩ := ow.slices
      refine hK _ _ ?_
      exact ⟨_, _, _, _, _, _, rfl, (fun _ => J.trans (b5.mono J.size)), (kp f0), (fun _ => ⟨A5, n5, c5, R5, m5, d5, rfl, fun _ => ow.base J.size⟩), (kp f2), (kp f3), (fun h => by
        obtain ⟨_, _, _, _, _, _, _, _, _, _, _, l1, _⟩ := f4 (upd_ne h (by decide))
        exact absurd l1 (by rw [hL]; decide)), (fun h => absurd (f5 (upd_ne h (by decide))).1 (by rw [hL]; decide)), (fun h => absurd hL6 (by rw [upd_ne h (by decide)]; decide))⟩
    · obtain rfl := Option.some.inj ho
      have hL6 : L 6 = false := by
        cases e : L 6
        · rfl
        · exact absurd ((f6 e).1 2 (by decide)) (by rw [hL]; decide)
      have J := I0 hL6
      refine wpOp_step rfl (fun K' hK => ?_)
      go_simp
      refine hK _ _ ?_
      exact ⟨_, _, _, _, _, _, rfl, (fun _ => J), (kp f0), (fun h => by
        obtain ⟨A5, n5, c5, R5, m5, d5, e, r⟩ := f1 (upd_ne h (by decide))
        exact ⟨A5, n5, c5, R5, m5, d5, e, fun h4 => r (by rw [upd_other (by decide)] at h4; exact h4)⟩), (fun _ => rfl), (kp f3), (fun h => by
        obtain ⟨A5, n5, c5, R5, m5, d5, K5, p5, q5, e, e7, l1, r⟩ := f4 (upd_ne h (by decide))
        exact ⟨A5, n5, c5, R5, m5, d5, K5, p5, q5, e, e7, upd_mono l1, fun h6 => r (by rw [upd_other (by decide)] at h6; exact h6)⟩), (fun h => by
        obtain ⟨l1, l4, r⟩ := f5 (upd_ne h (by decide))
        exact ⟨upd_mono l1, upd_mono l4, r⟩), (fun h => absurd hL6 (by rw [upd_ne h (by decide)]; decide))⟩
    · obtain rfl := Option.some.inj ho
      have g2 := f2 (hd ⟨2, .data⟩ (by simp) rfl)
      subst g2
      have hL6 : L 6 = false := by
        cases e : L 6
        · rfl
        · exact absurd ((f6 e).1 3 (by decide)) (by rw [hL]; decide)
      have J := I0 hL6
      have z0 : ww.cell? ⟨q, 0, none⟩ = some (.slice A n c) := (J.cell (p := ⟨q, 0, none⟩) hql).trans x0
      refine wpOp_step rfl (fun K' hK => ?_)
      go_simp
      refine hK _ _ ?_
      exact ⟨_, _, _, _, _, _, rfl, (fun _ => J), (kp f0), (fun h => by
        obtain ⟨A5, n5, c5, R5, m5, d5, e, r⟩ := f1 (upd_ne h (by decide))
        exact ⟨A5, n5, c5, R5, m5, d5, e, fun h4 => r (by rw [upd_other (by decide)] at h4; exact h4)⟩), (kp f2), (fun _ => rfl), (fun h => by
        obtain ⟨A5, n5, c5, R5, m5, d5, K5, p5, q5, e, e7, l1, r⟩ := f4 (upd_ne h (by decide))
        exact ⟨A5, n5, c5, R5, m5, d5, K5, p5, q5, e, e7, upd_mono l1, fun h6 => r (by rw [upd_other (by decide)] at h6; exact h6)⟩), (fun h => by
        obtain ⟨l1, l4, r⟩ := f5 (upd_ne h (by decide))
        exact ⟨upd_mono l1, upd_mono l4, r⟩), (fun h => absurd hL6 (by rw [upd_ne h (by decide)]; decide))⟩
    · obtain rfl := Option.some.inj ho
      have g3 := f3 (hd ⟨3, .data⟩ (by simp) rfl)
      subst g3
      have hL6 : L 6 = false := by
        cases e : L 6
        · rfl
        · exact absurd ((f6 e).1 4 (by decide)) (by rw [hL]; decide)
      have J := I0 hL6
      have l1 := Lib.hid (hd ⟨1, .chain⟩ (by simp) rfl)
      obtain ⟨A5, n5, c5, R5, m5, d5, e4, r4⟩ := f1 l1.out
      subst e4
      have oh := r4 hL
      refine wpOp_step rfl (fun K' hK => ?_)
      go_simp
      refine (freeList_any A n c h.cs ww (SS.out.up J).cells hn).mono ?_
      rintro e w' ⟨vk, rfl, ok, b5⟩
      obtain ⟨K5, q5, e8, -⟩ := ok.form
      refine hK _ _ ?_
      exact ⟨_, _, _, _, _, _, rfl, (fun _ => J.trans (b5.mono J.size)), (kp f0), (fun _ => ⟨A5, n5, c5, R5, m5, d5, rfl, fun h => absurd h (by rw [upd_self]; decide)⟩), (kp f2), (kp f3), (fun _ => ⟨A5, n5, c5, R5, m5, d5, K5, _, q5, rfl, e8, upd_mono l1.out, fun _ => by
        rw [← e8]
        exact OwnC.of oh b5 ok J.size⟩), (fun h => absurd (f5 (upd_ne h (by decide))).2.1 (by rw [hL]; decide)), (fun h => absurd hL6 (by rw [upd_ne h (by decide)]; decide))⟩
    · obtain rfl := Option.some.inj ho
      have g1 := f1 (hd ⟨1, .data⟩ (by simp) rfl)
      have g4 := f4 (hd ⟨4, .data⟩ (by simp) rfl)
      have hL6 : L 6 = false := by
        cases e : L 6
        · rfl
        · exact absurd ((f6 e).1 5 (by decide)) (by rw [hL]; decide)
      have J := I0 hL6
      have l4 := Lib.hid (hd ⟨4, .data⟩ (by simp) rfl)
      obtain ⟨A5, n5, c5, R5, m5, d5, K5, p5, q5, e4, e7, l1, r4⟩ := g4
      have L1 := Lib.hid l1
      clear l1
      subst e4
      subst e7
      clear g1
      refine wpOp_step rfl (fun K' hK => ?_)
      go_simp
      refine hK _ _ ?_
      exact ⟨_, _, _, _, _, _, rfl, (fun _ => J), (kp f0), (fun _ => ⟨A5, n5, c5, R5, m5, d5, rfl, fun h => absurd l4.out (by rw [upd_other (by decide)] at h; rw [h]; decide)⟩), (kp f2), (kp f3), (fun _ => ⟨A5, n5, c5, R5, m5, d5, K5, p5, q5, rfl, rfl, upd_mono L1.out, fun h => r4 (by rw [upd_other (by decide)] at h; exact h)⟩), (fun _ => ⟨upd_mono L1.out, upd_mono l4.out, A5, n5, c5, R5, m5, d5, K5, p5, q5, rfl, rfl, rfl⟩), (fun h => absurd hL6 (by rw [upd_ne h (by decide)]; decide))⟩
    · obtain rfl := Option.some.inj ho
      have g5 := f5 (hd ⟨5, .data⟩ (by simp) rfl)
      have lq : Hid (∀ q, q < 6 → L q = true) := Lib.hid (by
        intro q hq
        obtain rfl | rfl | rfl | rfl | rfl | rfl : q = 0 ∨ q = 1 ∨ q = 2 ∨ q = 3 ∨ q = 4 ∨ q = 5 := by omega
        · exact hd ⟨0, .phase⟩ (by simp) rfl
        · exact hd ⟨1, .phase⟩ (by simp) rfl
        · exact hd ⟨2, .phase⟩ (by simp) rfl
        · exact hd ⟨3, .phase⟩ (by simp) rfl
        · exact hd ⟨4, .phase⟩ (by simp) rfl
        · exact hd ⟨5, .phase⟩ (by simp) rfl)
      have J := I0 hL
      obtain ⟨-, -, A5, n5, c5, R5, m5, d5, K5, p5, q5, e4, e7, e8⟩ := g5
      subst e8
      obtain ⟨A6, n6, c6, R6, m6, d6, K6, p6, q6, e4b, e7b, -, r4⟩ := f4 (lq.out 4 (by decide))
      have oc := r4 hL
      rw [e4] at e4b
      rw [e7] at e7b
      injection e4b with e4b
      simp at e4b
      obtain ⟨⟨rfl, rfl, rfl⟩, rfl, rfl, rfl⟩ := e4b
      injection e7b with h1 h2 h3
      subst h1
      subst h2
      subst h3
      subst e4
      subst e7
      have P := q2.keep J hrl
      have zf0 : ww.frozen? ⟨q + 1, 0, none⟩ = false := P.frozen 0
      have zf1 : ww.frozen? ⟨q + 1, 1, none⟩ = false := P.frozen 1
      have zf2 : ww.frozen? ⟨q + 1, 2, none⟩ = false := P.frozen 2
      have zc0 : ww.cell? ⟨q + 1, 0, none⟩ = some (.slice none 0 0) := P.cell 0
      have zc1 : ww.cell? ⟨q + 1, 1, none⟩ = some (.slice none 0 0) := P.cell 1
      have zc2 : ww.cell? ⟨q + 1, 2, none⟩ = some (.slice none 0 0) := P.cell 2
      refine wpOp_step rfl (fun K' hK => ?_)
      go_simp
      refine hK _ _ ?_
      exact ⟨_, _, _, _, _, _, rfl, (fun h => absurd h (by rw [upd_self]; decide)), (kp f0), (fun _ => ⟨A5, n5, c5, R5, m5, d5, rfl, fun h => absurd (lq.out 4 (by decide)) (by rw [upd_other (by decide)] at h; rw [h]; decide)⟩), (kp f2), (kp f3), (fun _ => ⟨A5, n5, c5, R5, m5, d5, K5, p5, q5, rfl, rfl, upd_mono (lq.out 1 (by decide)), fun h => absurd h (by rw [upd_self]; decide)⟩), (fun _ => ⟨upd_mono (lq.out 1 (by decide)), upd_mono (lq.out 4 (by decide)), A5, n5, c5, R5, m5, d5, K5, p5, q5, rfl, rfl, rfl⟩), (fun _ => ⟨fun q hq => upd_mono (lq.out q hq), A5, n5, c5, R5, m5, d5, K5, p5, q5, ww, rfl, J, oc⟩)⟩
  case hdone =>
    rintro L ac ww hall ⟨t3, t4, t5, t6, t7, t8, rfl, I0, f0, f1, f2, f3, f4, f5, f6⟩
    have e0 := f0 (hall 0 (by decide))
    have e1 := f1 (hall 1 (by decide))
    have e2 := f2 (hall 2 (by decide))
    have e3 := f3 (hall 3 (by decide))
    have e4 := f4 (hall 4 (by decide))
    have e5 := f5 (hall 5 (by decide))
    have e6 := f6 (hall 6 (by decide))
    clear f0 f1 f2 f3 f4 f5 f6
    obtain ⟨-, A5, n5, c5, R5, m5, d5, K5, p5, q5, wp, rfl, r1, r9⟩ := e6
    have P := q2.keep r1 hrl
    have P4 := ((P.put 0 (.slice A5 n5 c5)).put 1 (.slice R5 m5 d5)).put 2 (.slice K5 p5 q5)
    have s8 : ((((wp).setCell ⟨q + 1, 0, none⟩ (.slice A5 n5 c5)).setCell ⟨q + 1, 1, none⟩ (.slice R5 m5 d5)).setCell ⟨q + 1, 2, none⟩ (.slice K5 p5 q5)).cell? ⟨q + 1, 0, none⟩ = some (.slice A5 n5 c5) := P4.cell 0
    have s9 : ((((wp).setCell ⟨q + 1, 0, none⟩ (.slice A5 n5 c5)).setCell ⟨q + 1, 1, none⟩ (.slice R5 m5 d5)).setCell ⟨q + 1, 2, none⟩ (.slice K5 p5 q5)).cell? ⟨q + 1, 1, none⟩ = some (.slice R5 m5 d5) := P4.cell 1
    have s10 : ((((wp).setCell ⟨q + 1, 0, none⟩ (.slice A5 n5 c5)).setCell ⟨q + 1, 1, none⟩ (.slice R5 m5 d5)).setCell ⟨q + 1, 2, none⟩ (.slice K5 p5 q5)).cell? ⟨q + 1, 2, none⟩ = some (.slice K5 p5 q5) := P4.cell 2
    have HW := HQ.out
    have D := Lib.hid (OwnC.out (w := w) (g := q + 1) r9 (by omega) (by rw [HW]; exact B2.trans (r1.mono (by have := B2.size; omega))) (by omega))
    clear I0 e0 e1 e2 e3 e4 e5 hall r1 r9 P P4
    go_wp2_with fail
    exact bodyPost_ret (v := .agg #[.slice A5 n5 c5, .slice R5 m5 d5, .slice K5 p5 q5]) (by simp [results, Tryd.results75, go_sem, *]) rfl ⟨_, _, _, rfl, D.out.1, D.out.2⟩
theorem SwSt.of {w w1 : World} {vc vr vk : Value} {h : Hp} (o : OwnC w1 w.heap.size vc vr vk h (Hps.gapsL h.cs)) (hb : Below w.heap.size w w1) : ∃ rvs, SwSt [] w (w1.alloc (.cells #[vc, vr, vk] 104)) w1.heap.size vc vr rvs h := by
  obtain ⟨rvs, o⟩ := o
  have bA : Below w1.heap.size w1 (w1.alloc (.cells #[vc, vr, vk] 104)) := (Below.refl _ _).alloc (Nat.le_refl _) _
  refine ⟨rvs, vk, o.heap.below bA (Nat.le_refl _), o.heap.apart_new (Nat.le_refl _), Rw.new _ _ _, hb.alloc hb.size _, hb.size, ⟨fun p e => ?_, fun p e x hx => ?_, fun g hg => ?_⟩⟩
  · cases e
    exact (o.cnts.below bA (Nat.le_refl _)).queue
  · cases e
    cases hx
  · obtain ⟨p, e, h1 | ⟨x, hx, _⟩⟩ := hg
    · cases e
      have h2 := (World.ownsRow.lt o.cnts g h1).2
      refine ⟨by omega, fun v hv e => ?_⟩
      rcases o.sep v hv with h3 | h3
      · rw [e] at h3; cases h3
      · exact h3 (by rw [e]; exact h1.symm)
    · cases e
      cases hx
/-- the heap in a sweeper, as a heap of the call's own -/
theorem SwFs.ownH {w0 wr : World} {b : Nat} {vc vr : Value} {rvs : List Value} {h : Hp} {fs : List Int} {E : KeptL} (S : SwFs E w0 wr b vc vr rvs h fs) : OwnH wr w0.heap.size vc vr h := ⟨rvs, S.own⟩
set_option maxHeartbeats 2000000 in
theorem sweep_any (E : KeptL) (w0 w : World) (b : Nat) (vc vr : Value) (rvs : List Value) (h : Hp) (fs : List Int) (marks : List Bool) (hT : TzT w0) (S : SwFs E w0 w b vc vr rvs h fs) (hl : marks.length = h.cs.length) (h40 : h.cs.length ≤ 40) (hz : ∀ c ∈ h.cs, c.u = false → c = Hps.zeroCl) :
    Calls Tryd.prog 76 #[.pointer (some ⟨b, 0, none⟩), .int .u64 (Bm.wordN marks true : Nat)] w fun e w' => e = .returned (.int .i64 (Hps.freedTo h.cs marks marks.length : Nat)) ∧ ∃ rvs', SwSt E w0 w' b vc vr rvs' (Hps.dropH h (marks.map (!·))) := by
  have hU := Hps.usedW_lt (cs := h.cs) (by omega)
  have hM := Bm.wordN_lt marks true (by omega)
  have HAN := Lib.hid (u64_andNot_nat (Hps.usedW h.cs) (Bm.wordN marks true) hU hM)
  have hVl := Hps.lostW_lt marks (cs := h.cs) (by omega)
  have HPC := Lib.hid (Hps.pc_lost hl (by omega))
  have HZ := Lib.hid (Hps.zap_lost hl (by omega) hz)
  have HBT := Lib.hid (fun i (hi : (Hps.lostW h.cs marks).testBit i = true) => show i < h.cs.length by
    rw [Hps.lostW_bit hl (by omega), Bool.and_eq_true] at hi
    exact Hps.usedAt_lt hi.1)
  rw [← Hps.lostW] at HAN
  obtain ⟨V, hV⟩ : ∃ V, Hps.lostW h.cs marks = V := ⟨_, rfl⟩
  rw [hV] at HAN hVl HPC HZ HBT
  have HDL := Lib.hid (Hps.drop_len h (marks.map (!·)))
  obtain ⟨X, hX⟩ : ∃ X, Hps.dropH h (marks.map (!·)) = X := ⟨_, rfl⟩
  rw [hX] at HDL ⊢
  have HXE := Lib.hid (show (⟨Hps.dropL h.cs (marks.map (!·)), h.rt⟩ : Hp) = X from hX)
  obtain ⟨M, hMe⟩ : ∃ M, Bm.wordN marks true = M := ⟨_, rfl⟩
  rw [hMe] at hM HAN ⊢
  obtain ⟨U, hUe⟩ : ∃ U, Hps.usedW h.cs = U := ⟨_, rfl⟩
  rw [hUe] at hU HAN
  have HUE := Lib.hid hUe
  obtain ⟨A, c, R, d, rfl, rfl, -⟩ := S.own.form
  obtain ⟨n, hn⟩ : ∃ n, h.cs.length = n := ⟨_, rfl⟩
  obtain ⟨m, hm⟩ : ∃ m, h.rt.length = m := ⟨_, rfl⟩
  rw [hn, hm] at S ⊢
  rw [hn] at h40 HDL
  have HT := Lib.hid (fun w1 (hb : Below w0.heap.size w0 w1) => hT.below hb)
  have HC := Lib.hid S.own.reads.cells
  have x0 : w.cell? ⟨b, 0, none⟩ = some (.slice A n c) := S.c0
  have HCNT := Lib.hid (fun ww => count_any V ww hVl)
  rw [HPC.out] at HCNT
  have HN := Lib.hid hn
  obtain ⟨fr, hfr⟩ : ∃ fr, Hps.freedTo h.cs marks marks.length = fr := ⟨_, rfl⟩
  rw [hfr] at HCNT ⊢
  clear hV hMe hUe hl hz hT hn hm hfr HPC hX
  go_enter Tryd.func76, Tryd.ntmps76
  go_wp2_with fail
  refine (usedSet_any A n c h.cs _ HC.out (by omega)).mono ?_
  rw [HUE.out]
  rintro e w1 ⟨rfl, b1⟩
  replace S := S.up b1
  have hand := HAN.out
  clear b1 x0 HC
  go_wp2_with fail
  obtain ⟨ve, B⟩ := S
  refine (freeCells_any _ _ w0 _ b _ _ rvs h V (HT.out _ B.low) B hVl HBT.out).mono ?_
  rintro e w2 ⟨⟨ev, rfl⟩, rv2, B2⟩
  rw [HZ.out, HXE.out] at B2
  have S2 : SwFs E w0 w2 b (.slice A n c) (.slice R m d) rv2 X fs := ⟨ve, B2⟩
  have x0 : w2.cell? ⟨b, 0, none⟩ = some (.slice A n c) := S2.c0
  have HC := Lib.hid (show CS w2 w2.heap.size A n X.cs from S2.own.reads.cells)
  clear B B2 hand
  go_wp2_with fail
  refine (freeList_any A n c X.cs _ HC.out (by omega)).mono ?_
  rintro e w3 ⟨vk, rfl, ok, b3⟩
  obtain ⟨Ak, ck, ek, -⟩ := ok.form
  obtain ⟨nk, hnk⟩ : ∃ nk, (Hps.gapsL X.cs).length = nk := ⟨_, rfl⟩
  rw [hnk] at ek
  subst ek
  clear hnk
  have hlo2 := S2.low.size
  have hlb := S2.lt
  have HAP := Lib.hid (fun v (hv : v ∈ (Value.slice A n c) :: (.slice R m d) :: rv2) => show v.ownBlock = none ∨ v.ownBlock ≠ (Value.slice Ak nk ck).ownBlock by
    cases e : v.ownBlock with
    | none => exact .inl rfl
    | some k =>
      right
      intro e'
      have a1 := (S2.own.blocks hv e).2
      have a2 := (World.ownsRow.lt ok k e'.symm).1
      omega)
  have HNB := Lib.hid (show (Value.slice Ak nk ck).ownBlock ≠ some b from fun e => by
    have := (World.ownsRow.lt ok b e).1
    omega)
  have HNE := Lib.hid (fun e (he : e ∈ E) => show (Value.slice Ak nk ck).ownBlock ≠ some e.1 from fun e2 => by
    have a1 := S2.keptLt e he
    have a2 := (World.ownsRow.lt ok _ e2).1
    omega)
  replace S2 := S2.up b3
  have fz := S2.fz 2
  obtain ⟨ve3, B3⟩ := S2
  have c2 : w3.cell? ⟨b, 2, none⟩ = some ve3 := B3.box.cell 2
  have S4 := Lib.hid (SwFs.free ⟨ve3, B3⟩ (ok.base hlo2) HAP.out HNB.out HNE.out)
  clear x0 HC HAP HNB HNE ok b3 B3
  go_wp2_with fail
  refine (HCNT.out _).mono ?_
  rintro e w5 ⟨rfl, rfl⟩
  go_wp2_with fail
  go_ret
  exact ⟨rfl, _, S4.out⟩
/-- a sweeper's heap, once there is room for a new cell if there can be -/
noncomputable def Hps.roomS (h : Hp) (limit : Int) : Hp := if (Hps.gapH h : Int) < limit then h else Hps.sweptH h
set_option maxHeartbeats 2000000 in
theorem makeRoom_any (E : KeptL) (w0 w : World) (b : Nat) (vc vr : Value) (rvs : List Value) (h : Hp) (limit : Int) (hT : TzT w0) (S : SwSt E w0 w b vc vr rvs h) (hv : Hps.validH h = true) :
    Calls Tryd.prog 143 #[.pointer (some ⟨b, 0, none⟩), .int .i64 limit] w fun e w' => e = .returned (.bool (decide ((Hps.gapH (Hps.roomS h limit) : Int) < limit))) ∧ ∃ rvs', SwSt E w0 w' b vc vr rvs' (Hps.roomS h limit) := by
  obtain ⟨A, c, R, d, rfl, rfl, -⟩ := S.own.form
  have h40 := (Hps.valid_iff.1 hv).2.1
  have HPL := Lib.hid (place_any E w0 w b _ _ rvs h S)
  have x0 := S.c0
  have x1 := S.c1
  obtain ⟨n, hn⟩ : ∃ n, h.cs.length = n := ⟨_, rfl⟩
  obtain ⟨m, hm⟩ : ∃ m, h.rt.length = m := ⟨_, rfl⟩
  by_cases hlt : (Hps.gapH h : Int) < limit
  · have hR : Hps.roomS h limit = h := by rw [Hps.roomS, if_pos hlt]
    rw [hR, decide_eq_true hlt]
    have hl2 : decide ((Hps.gapH h : Int) < limit) = true := decide_eq_true hlt
    obtain ⟨p, hp⟩ : ∃ p, Hps.gapH h = p := ⟨_, rfl⟩
    rw [hp] at HPL hlt hl2
    have SH := Lib.hid S
    clear hR hp S x0 x1 hv h40 hn hm
    go_enter Tryd.func143, Tryd.ntmps143
    go_wp2_with fail
    refine HPL.out.mono ?_
    rintro e w1 ⟨rfl, rfl⟩
    go_wp2_with fail
    go_ret
    exact ⟨rfl, _, SH.out⟩
  · have hR : Hps.roomS h limit = Hps.sweptH h := by rw [Hps.roomS, if_neg hlt]
    rw [hR]
    have hl2 : decide ((Hps.gapH h : Int) < limit) = false := decide_eq_false hlt
    obtain ⟨p, hp⟩ : ∃ p, Hps.gapH h = p := ⟨_, rfl⟩
    have HRS := Lib.hid (reachedSet_any A R h.cs.length c h.rt.length d h w S.own.reads hv)
    have hRl := Hps.reachH_len hv
    have HRW := Lib.hid (show Hps.reachW h = Bm.wordN (Hps.reachH h) true by rw [Hps.reachW, Hps.reachH, if_pos hv])
    have HSW := Lib.hid (fun w1 rv (S1 : SwSt E w0 w1 b (.slice A h.cs.length c) (.slice R h.rt.length d) rv h) => sweep_any E w0 w1 b _ _ rv h _ (Hps.reachH h) hT S1 hRl h40 (Hps.valid_zero hv))
    have HPS := Lib.hid (fun w1 rv (S1 : SwSt E w0 w1 b (.slice A h.cs.length c) (.slice R h.rt.length d) rv (Hps.sweptH h)) => place_any E w0 w1 b _ _ rv (Hps.sweptH h) S1)
    obtain ⟨p2, hp2⟩ : ∃ p2, Hps.gapH (Hps.sweptH h) = p2 := ⟨_, rfl⟩
    rw [HRW.out] at HRS
    rw [hp] at HPL hlt hl2
    rw [hp2] at HPS ⊢
    rw [hn] at x0
    rw [hm] at x1
    rw [hn, hm] at S HRS HSW HPS ⊢
    obtain ⟨M, hM⟩ : ∃ M, Bm.wordN (Hps.reachH h) true = M := ⟨_, rfl⟩
    rw [hM] at HRS HSW
    have SH := Lib.hid S
    clear hR hp hp2 S hv h40 hn hm hRl hM HRW
    go_enter Tryd.func143, Tryd.ntmps143
    go_wp2_with fail
    refine HPL.out.mono ?_
    rintro e w1 ⟨rfl, rfl⟩
    go_wp2_with fail
    refine HRS.out.mono ?_
    rintro e w1 ⟨rfl, b1⟩
    go_wp2_with fail
    refine (HSW.out _ _ (SH.out.up b1)).mono ?_
    rintro e w2 ⟨rfl, rv2, S2⟩
    go_wp2_with fail
    refine (HPS.out _ _ S2).mono ?_
    rintro e w3 ⟨rfl, rfl⟩
    have SS2 := Lib.hid S2
    clear S2 b1 x0 x1
    go_wp2_with fail
    go_ret
    exact ⟨rfl, _, SS2.out⟩
end Go.Proofs.YthmddmddcdofaaaDoor

