/- What l20Program draws: a list of instructions of its own. No conditions. -/
import Derived.Test.YthmddmddcdofaaaKl
import Derived.Test.YthmddmddcdofaaaGc
import Derived.Deep.Cut
import Derived.Deep.CutBlock
namespace Go.Proofs.Ythmddmddcdofaaa
open Go.RowKit
set_option maxRecDepth 100000

/-- an append of instructions onto the call's own ones, in a region that draws its order -/
theorem app_stepM {w : World} {o : Oper} {a : Act} {K : Act → World → Prop} {Q : Exit → Act → World → Prop} (_hgd : o.guard = none) (s x : Operand)
    (ho : o.op = .call { callee := .builtin .append, args := #[s, x], argTypes := #[59, 59] })
    (base : Nat) (v : Value) (xs : List Cm) (hs : a.eval s = v) (hown : OwnM w base v xs) (A : Option Addr) (m c B : Nat) (ys : List Cm) (hx : a.eval x = .slice A m c) (hr : MS w B A m ys)
    (hn : xs.length + m ≤ 1099511627776) (hbase : base ≤ w.heap.size)
    (h : ∀ v' w', OwnM w' base v' (xs ++ ys) → w.grownBy w' v.ownBlock → (v'.ownBlock = v.ownBlock ∨ v'.ownBlock = some w.heap.size) → K (a.put o.dst v') w') : Oper.wp Try.prog o a w K Q := by
  obtain ⟨v', w', hrun, h2, h3, h4⟩ := run_appendM w base v xs hown A m c B ys hr hn hbase o.type
  unfold Oper.wp execOp
  simp only [ho, resolve, invoke, builtin, Sem.run_bind, Sem.run_pure, Result.andThen_ok, List.map_toArray, List.map_cons, List.map_nil, hs, hx, hrun]
  exact h v' w' h2 h3 h4
/-- a slice of one's own is cut short -/
theorem OwnM.cut {w : World} {base n c k : Nat} {A : Option Addr} {xs : List Cm} (h : OwnM w base (.slice A n c) xs) (hk : k ≤ n) : OwnM w base (.slice A k c) (xs.take k) := by
  have hl : (xs.take k).length = k := by rw [List.length_take, ← h.cap.1]; omega
  unfold OwnM
  rw [hl]
  refine ⟨by rw [flatM_length, hl], ?_⟩
  rcases h.2 with ⟨e, h0⟩ | ⟨g, cap, cur, e, hb, hh, hnc, hcap, hsz, hx⟩
  · injection e with e1 e2 e3
    subst e1 e3
    left
    have : k = 0 := by omega
    rw [this]
    exact ⟨rfl, rfl⟩
  · injection e with e1 e2 e3
    subst e1 e3
    right
    refine ⟨g, c, cur, rfl, hb, hh, by omega, hcap, hsz, ?_⟩
    rw [flatM_take, ← hx, List.take_take, Nat.min_eq_left (by omega)]
theorem one_reads {w : World} {g : Nat} {o : Cm} (h : Rw w g 87 #[.int .i64 o.op, .int .i64 o.a, .int .i64 o.b, .int .i64 o.c]) : MS w w.heap.size (some ⟨g, 0, none⟩) 1 [o] :=
  ⟨rfl, fun _ => ⟨g, 0, rfl, h.lt, fun j u hj => by
    rw [Nat.zero_add, h.cell j]
    match j, hj with
    | 0, hj => simpa [flatM] using hj
    | 1, hj => simpa [flatM] using hj
    | 2, hj => simpa [flatM] using hj
    | 3, hj => simpa [flatM] using hj
    | j + 4, hj => simp [flatM] at hj⟩⟩

/-- a list of instructions has been drawn -/
def DrewP (w : World) (gr N : Nat) (e : Ending) (w' : World) : Prop :=
  ∃ (v : Value) (l : List Cm), e = .returned v ∧ OwnM w' w.heap.size v l ∧ l.length ≤ 41 ∧ (∀ o ∈ l, SmallCm o) ∧ Rd w' gr (N + 600) ∧ w.grownBy w' (some gr)

set_option maxHeartbeats 8000000 in
theorem l20Program_any (gr N : Nat) (n : Int) (w : World) (h : Rd w gr N) (hN : N ≤ 100000) (hn1 : 1 ≤ n) (hn : n ≤ 1000) :
    Calls Try.prog 27 #[.pointer (some ⟨gr, 0, none⟩), .int .i64 n] w (DrewP w gr N) := by
  have hgl := h.lt
  have b0 : Below w.heap.size w (w.alloc (.cells #[] 87)) := (Below.refl _ _).alloc (Nat.le_refl _) _
  have st0 : DrawSM w gr N (w.alloc (.cells #[] 87)) (.slice (some ⟨w.heap.size, 0, none⟩) 0 0) [] := ⟨own_noneM w w.heap.size (Nat.le_refl _), h.below b0 hgl, World.grownBy_alloc _ _ _⟩
  clear b0
  go_enter Try.func27, Try.ntmps27
  go_wp2_with fail
  refine (pick_any _ _ _ _ st0.rd (by omega) (by omega)).mono ?_
  rintro e w1 ⟨r1, rfl, a1, c1, hr1, g1⟩
  have c1' : r1 < 41 := by omega
  have st1 := (st0.pick hgl hr1 g1).more (N' := N + 1 + 12 * (40 - r1.toNat)) (by omega)
  clear st0 hr1 g1 c1
  obtain ⟨q0, rfl⟩ := Int.eq_ofNat_of_zero_le a1
  simp only [Int.toNat_natCast] at st1
  clear a1
  go_wp2_with fail
  go_loopw [5, 6] (fun v i wr => ∃ (k : Nat) (l : List Cm), k ≤ 40 ∧ i = .int .i64 k ∧ l.length + k ≤ 40 ∧ Hid (∀ o ∈ l, SmallCm o) ∧ DrawSM w gr (N + 1 + 12 * (40 - k)) wr v l) (fun _ i _ => (intOf i).toNat)
  case atStart => exact ⟨q0, [], by omega, rfl, by simp; omega, Lib.hid (by simp), st1⟩
  case round =>
    clear st1
    obtain ⟨k, l, hk, rfl, hl, HL, st⟩ := hrel
    by_cases hk0 : 0 < k
    · have hk0' : (0 : Int) < k := by omega
      have S := Lib.hid st
      clear st
      go_wp2_with fail
      refine (l20Command_any _ _ 0 _ S.out.rd (by omega) (by omega) (by omega)).mono ?_
      rintro e w2 ⟨o, rfl, -, ho, hr2, g2⟩
      have st2 := (S.out.pick hgl hr2 g2).more (N' := N + 1 + 12 * (40 - (k - 1))) (by omega)
      have HO := Lib.hid ho
      clear S hr2 g2 ho
      have hs4 := st2.grown.size
      have ow := World.ownsRow.alloc st2.own (.cells #[.int .i64 o.op, .int .i64 o.a, .int .i64 o.b, .int .i64 o.c] 87)
      have rr : MS (w2.alloc (.cells #[.int .i64 o.op, .int .i64 o.a, .int .i64 o.b, .int .i64 o.c] 87)) (w2.alloc (.cells #[.int .i64 o.op, .int .i64 o.a, .int .i64 o.b, .int .i64 o.c] 87)).heap.size (some ⟨w2.heap.size, 0, none⟩) 1 [o] := (own_oneM w2 o 0 (Nat.zero_le _)).reads
      have hln : l.length + 1 ≤ 1099511627776 := by omega
      go_wp2_with (at_builtin; refine wpList_appendM rfl (.tmp 14) (.tmp 17) rfl w.heap.size _ l rfl ow (some ⟨w2.heap.size, 0, none⟩) 1 1 _ [o] rfl rr hln (by simp; omega) ?_; intro v5 w5 o5 g5 s5)
      have bn : Below w.heap.size w2 w5 := ((Below.refl w.heap.size w2).alloc hs4 _).grown g5 (by simp; omega) (fun k hk => (World.ownsRow.lt st2.own k hk).1)
      have st5 := st2.next hgl o5 bn
      clear ow rr g5 s5 o5 bn st2
      go_roundw
      case rel => exact ⟨k - 1, l ++ [o], by omega, int_eq (by omega), by simp; omega, Lib.hid (by intro x hx; rcases List.mem_append.1 hx with hx | hx; exact HL.out x hx; rw [List.mem_singleton] at hx; rw [hx]; exact HO.out), st5⟩
      case measure => simp [intOf]; omega
    · obtain rfl : k = 0 := by omega
      have S := Lib.hid st
      have R := Lib.hid st.rd
      clear st
      go_wp2_with fail
      refine (odd_any _ _ _ _ R.out (by omega) hn1 (by omega)).mono ?_
      rintro e w2 ⟨bb, rfl, hr2, g2⟩
      have st2 := S.out.pick hgl hr2 g2
      clear S R hr2 g2
      cases bb
      · have S := Lib.hid st2
        clear st2
        go_wp2_with fail
        go_ret
        exact ⟨_, l, rfl, S.out.own, by omega, HL.out, S.out.rd.more (by omega), S.out.grown⟩
      have S := Lib.hid st2
      clear st2
      go_wp2_with fail
      refine (pick_any _ _ _ _ S.out.rd (by omega) (by omega)).mono ?_
      rintro e w3 ⟨r3, rfl, a3, c3, hr3, g3⟩
      have st3 := S.out.pick hgl hr3 g3
      have hs3 := st3.grown.size
      clear S hr3 g3
      by_cases hr0 : r3 = 0
      · subst hr0
        obtain ⟨A5, c5, e5, -⟩ := st3.own.form
        subst e5
        have hcap := st3.own.cap.2
        obtain ⟨q, hq⟩ : ∃ q, min l.length 9 = q := ⟨_, rfl⟩
        have hq1 : q ≤ l.length := by omega
        have hq9 : q ≤ 9 := by omega
        have hmin : min (l.length : Int) 9 = (q : Int) := by omega
        have oc := st3.own.cut (k := q) hq1
        have hql : (l.take q).length = q := by rw [List.length_take]; omega
        have hqc : (q : Int) ≤ c5 := by omega
        have hqn : (q : Int) ≤ l.length := by omega
        have S := Lib.hid st3
        have HQ := Lib.hid hql
        clear st3 hq hql
        go_wp2_with fail
        refine wp_region_inv (by kernel_rfl) (by kernel_rfl) (fun L ac ww => ∃ t5 t25 t26 t27 t28 t29 t30 t31 t32 t33 : Value, ac = { tmps := #[Value.pointer (some { block := gr, off := 0 }), Value.int IntKind.i64 n, undef, undef, Value.slice none 0 0, t5, Value.int IntKind.i64 0, Value.slice (some { block := w.heap.size, off := 0 }) 0 0, Value.pointer (some { block := gr, off := 0 }), Value.int IntKind.i64 ↑q0, Value.int IntKind.i64 0, Value.bool false, u12, u13, u14, u15, u16, u17, u18, Value.pointer (some { block := gr, off := 0 }), Value.int IntKind.i64 n, Value.bool true, Value.pointer (some { block := gr, off := 0 }), Value.int IntKind.i64 0, Value.bool true, t25, t26, t27, t28, t29, t30, t31, t32, t33, undef, undef], defers := [] } ∧ (w.grownBy ww (some gr)) ∧ (L 8 = false → OwnM ww w.heap.size (.slice A5 q c5) (l.take q)) ∧ (L 6 = false → Rd ww gr (N + 1 + 12 * (40 - 0) + 1 + 1)) ∧ (L 6 = true → Rd ww gr ((N + 1 + 12 * (40 - 0) + 1 + 1) + 12)) ∧ (L 9 = false → t5 = .slice A5 l.length c5) ∧ (L 9 = true → L 0 = true ∧ L 1 = true) ∧ (L 0 = true → t25 = .slice A5 l.length c5) ∧ (L 1 = true → t26 = .slice A5 l.length c5) ∧ (L 2 = true → t27 = .int .i64 (l.length : Nat)) ∧ (L 3 = true → t28 = .int .i64 (q : Nat)) ∧ (L 4 = true → t29 = .slice A5 q c5) ∧ (L 5 = true → t30 = .pointer (some ⟨gr, 0, none⟩)) ∧ (L 6 = true → ∃ o : Cm, t31 = cmV o ∧ SmallCm o) ∧ (L 7 = true → (L 8 = true ∨ ∃ (gs : Nat) (o : Cm), t32 = .slice (some ⟨gs, 0, none⟩) 1 1 ∧ Rw ww gs 87 #[.int .i64 o.op, .int .i64 o.a, .int .i64 o.b, .int .i64 o.c] ∧ SmallCm o ∧ w.heap.size ≤ gs)) ∧ (L 8 = true → ∃ o : Cm, SmallCm o ∧ OwnM ww w.heap.size t33 (l.take q ++ [o]) ∧ L 6 = true) ∧ (L 9 = true → ∃ o : Cm, SmallCm o ∧ OwnM ww w.heap.size t5 (l.take q ++ [o]) ∧ L 6 = true ∧ L 8 = true)) ?h0 ?hstep ?hdone
        case h0 => exact ⟨_, _, _, _, _, _, _, _, _, _, rfl, grown_below S.out.grown (Below.refl _ _).drew, fun _ => oc, fun _ => S.out.rd.below (Below.refl w.heap.size w3).drew hgl, fun h => absurd h Bool.false_ne_true, fun _ => rfl, fun h => absurd h Bool.false_ne_true, (fun h => absurd h Bool.false_ne_true), (fun h => absurd h Bool.false_ne_true), (fun h => absurd h Bool.false_ne_true), (fun h => absurd h Bool.false_ne_true), (fun h => absurd h Bool.false_ne_true), (fun h => absurd h Bool.false_ne_true), (fun h => absurd h Bool.false_ne_true), (fun h => absurd h Bool.false_ne_true), (fun h => absurd h Bool.false_ne_true), (fun h => absurd h Bool.false_ne_true)⟩
        case hstep =>
          rintro L ac ww i o ho hL hd ⟨t5, t25, t26, t27, t28, t29, t30, t31, t32, t33, rfl, I0, I1, I2, I3, I4, I5, f0, f1, f2, f3, f4, f5, f6, f7, f8, f9⟩
          have hi : i < 10 := (Array.getElem?_eq_some_iff.1 ho).1
          obtain rfl | rfl | rfl | rfl | rfl | rfl | rfl | rfl | rfl | rfl : i = 0 ∨ i = 1 ∨ i = 2 ∨ i = 3 ∨ i = 4 ∨ i = 5 ∨ i = 6 ∨ i = 7 ∨ i = 8 ∨ i = 9 := by omega
          · obtain rfl := Option.some.inj ho
            have h9 : L 9 = false := by
              cases hh : L 9
              · rfl
              · have := (I5 hh).1
                rw [hL] at this
                cases this
            have e5 := I4 h9
            subst e5
            refine wpOp_step rfl (fun K' hK => ?_)
            go_simp
            refine hK _ _ ?_
            exact ⟨_, _, _, _, _, _, _, _, _, _, rfl, (I0), (fun h => I1 ((upd_other (by decide)).symm.trans h)), (fun h => I2 ((upd_other (by decide)).symm.trans h)), (fun h => I3 (upd_ne h (by decide))), (fun _ => rfl), (fun h => ⟨upd_keep (I5 (upd_ne h (by decide))).1, upd_keep (I5 (upd_ne h (by decide))).2⟩), (fun _ => rfl), (kp f1), (kp f2), (kp f3), (kp f4), (kp f5), (kp f6), (fun h => (f7 (upd_ne h (by decide))).imp (fun e => upd_keep e) id), (fun h => by
              obtain ⟨o, hs, ow, l6⟩ := f8 (upd_ne h (by decide))
              exact ⟨o, hs, ow, upd_keep l6⟩), (fun h => by
              obtain ⟨o, hs, ow, l6, l8⟩ := f9 (upd_ne h (by decide))
              exact ⟨o, hs, ow, upd_keep l6, upd_keep l8⟩)⟩
          · obtain rfl := Option.some.inj ho
            have h9 : L 9 = false := by
              cases hh : L 9
              · rfl
              · have := (I5 hh).2
                rw [hL] at this
                cases this
            have e5 := I4 h9
            subst e5
            refine wpOp_step rfl (fun K' hK => ?_)
            go_simp
            refine hK _ _ ?_
            exact ⟨_, _, _, _, _, _, _, _, _, _, rfl, (I0), (fun h => I1 ((upd_other (by decide)).symm.trans h)), (fun h => I2 ((upd_other (by decide)).symm.trans h)), (fun h => I3 (upd_ne h (by decide))), (fun _ => rfl), (fun h => ⟨upd_keep (I5 (upd_ne h (by decide))).1, upd_keep (I5 (upd_ne h (by decide))).2⟩), (kp f0), (fun _ => rfl), (kp f2), (kp f3), (kp f4), (kp f5), (kp f6), (fun h => (f7 (upd_ne h (by decide))).imp (fun e => upd_keep e) id), (fun h => by
              obtain ⟨o, hs, ow, l6⟩ := f8 (upd_ne h (by decide))
              exact ⟨o, hs, ow, upd_keep l6⟩), (fun h => by
              obtain ⟨o, hs, ow, l6, l8⟩ := f9 (upd_ne h (by decide))
              exact ⟨o, hs, ow, upd_keep l6, upd_keep l8⟩)⟩
          · obtain rfl := Option.some.inj ho
            have g1 := f1 (hd ⟨1, .data⟩ (by simp) rfl)
            subst g1
            refine wpOp_step rfl (fun K' hK => ?_)
            go_simp
            refine hK _ _ ?_
            exact ⟨_, _, _, _, _, _, _, _, _, _, rfl, (I0), (fun h => I1 ((upd_other (by decide)).symm.trans h)), (fun h => I2 ((upd_other (by decide)).symm.trans h)), (fun h => I3 (upd_ne h (by decide))), (fun h => I4 ((upd_other (by decide)).symm.trans h)), (fun h => ⟨upd_keep (I5 (upd_ne h (by decide))).1, upd_keep (I5 (upd_ne h (by decide))).2⟩), (kp f0), (kp f1), (fun _ => rfl), (kp f3), (kp f4), (kp f5), (kp f6), (fun h => (f7 (upd_ne h (by decide))).imp (fun e => upd_keep e) id), (fun h => by
              obtain ⟨o, hs, ow, l6⟩ := f8 (upd_ne h (by decide))
              exact ⟨o, hs, ow, upd_keep l6⟩), (fun h => by
              obtain ⟨o, hs, ow, l6, l8⟩ := f9 (upd_ne h (by decide))
              exact ⟨o, hs, ow, upd_keep l6, upd_keep l8⟩)⟩
          · obtain rfl := Option.some.inj ho
            have g2 := f2 (hd ⟨2, .data⟩ (by simp) rfl)
            subst g2
            refine wpOp_step rfl (fun K' hK => ?_)
            go_simp
            refine hK _ _ ?_
            exact ⟨_, _, _, _, _, _, _, _, _, _, rfl, (I0), (fun h => I1 ((upd_other (by decide)).symm.trans h)), (fun h => I2 ((upd_other (by decide)).symm.trans h)), (fun h => I3 (upd_ne h (by decide))), (fun h => I4 ((upd_other (by decide)).symm.trans h)), (fun h => ⟨upd_keep (I5 (upd_ne h (by decide))).1, upd_keep (I5 (upd_ne h (by decide))).2⟩), (kp f0), (kp f1), (kp f2), (fun _ => congrArg (Value.int .i64) (by split <;> omega)), (kp f4), (kp f5), (kp f6), (fun h => (f7 (upd_ne h (by decide))).imp (fun e => upd_keep e) id), (fun h => by
              obtain ⟨o, hs, ow, l6⟩ := f8 (upd_ne h (by decide))
              exact ⟨o, hs, ow, upd_keep l6⟩), (fun h => by
              obtain ⟨o, hs, ow, l6, l8⟩ := f9 (upd_ne h (by decide))
              exact ⟨o, hs, ow, upd_keep l6, upd_keep l8⟩)⟩
          · obtain rfl := Option.some.inj ho
            have g0 := f0 (hd ⟨0, .data⟩ (by simp) rfl)
            have g3 := f3 (hd ⟨3, .data⟩ (by simp) rfl)
            subst g0
            subst g3
            refine wpOp_step rfl (fun K' hK => ?_)
            go_simp
            refine hK _ _ ?_
            exact ⟨_, _, _, _, _, _, _, _, _, _, rfl, (I0), (fun h => I1 ((upd_other (by decide)).symm.trans h)), (fun h => I2 ((upd_other (by decide)).symm.trans h)), (fun h => I3 (upd_ne h (by decide))), (fun h => I4 ((upd_other (by decide)).symm.trans h)), (fun h => ⟨upd_keep (I5 (upd_ne h (by decide))).1, upd_keep (I5 (upd_ne h (by decide))).2⟩), (kp f0), (kp f1), (kp f2), (kp f3), (fun _ => rfl), (kp f5), (kp f6), (fun h => (f7 (upd_ne h (by decide))).imp (fun e => upd_keep e) id), (fun h => by
              obtain ⟨o, hs, ow, l6⟩ := f8 (upd_ne h (by decide))
              exact ⟨o, hs, ow, upd_keep l6⟩), (fun h => by
              obtain ⟨o, hs, ow, l6, l8⟩ := f9 (upd_ne h (by decide))
              exact ⟨o, hs, ow, upd_keep l6, upd_keep l8⟩)⟩
          · obtain rfl := Option.some.inj ho
            refine wpOp_step rfl (fun K' hK => ?_)
            go_simp
            refine hK _ _ ?_
            exact ⟨_, _, _, _, _, _, _, _, _, _, rfl, (I0), (fun h => I1 ((upd_other (by decide)).symm.trans h)), (fun h => I2 ((upd_other (by decide)).symm.trans h)), (fun h => I3 (upd_ne h (by decide))), (fun h => I4 ((upd_other (by decide)).symm.trans h)), (fun h => ⟨upd_keep (I5 (upd_ne h (by decide))).1, upd_keep (I5 (upd_ne h (by decide))).2⟩), (kp f0), (kp f1), (kp f2), (kp f3), (kp f4), (fun _ => rfl), (kp f6), (fun h => (f7 (upd_ne h (by decide))).imp (fun e => upd_keep e) id), (fun h => by
              obtain ⟨o, hs, ow, l6⟩ := f8 (upd_ne h (by decide))
              exact ⟨o, hs, ow, upd_keep l6⟩), (fun h => by
              obtain ⟨o, hs, ow, l6, l8⟩ := f9 (upd_ne h (by decide))
              exact ⟨o, hs, ow, upd_keep l6, upd_keep l8⟩)⟩
          · obtain rfl := Option.some.inj ho
            have g5 := f5 (hd ⟨5, .data⟩ (by simp) rfl)
            subst g5
            refine wpOp_step rfl (fun K' hK => ?_)
            go_simp
            refine (l20Command_any gr (N + 1 + 12 * (40 - 0) + 1 + 1) 1 ww (I2 hL) (by omega) (by omega) (by omega)).mono ?_
            rintro e w' ⟨o, rfl, -, hs, hr6, g6⟩
            refine hK _ _ ?_
            exact ⟨_, _, _, _, _, _, _, _, _, _, rfl, (World.grownBy.trans I0 g6), (fun h => by
              have ow := I1 ((upd_other (by decide)).symm.trans h)
              exact ow.far g6 (.inr fun e => by have := (World.ownsRow.lt ow gr e).1; omega)), (fun h => absurd (upd_self.symm.trans h) (by decide)), (fun _ => hr6), (fun h => I4 ((upd_other (by decide)).symm.trans h)), (fun h => ⟨upd_keep (I5 (upd_ne h (by decide))).1, upd_keep (I5 (upd_ne h (by decide))).2⟩), (kp f0), (kp f1), (kp f2), (kp f3), (kp f4), (kp f5), (fun _ => ⟨o, rfl, hs⟩), (fun h => (f7 (upd_ne h (by decide))).imp (fun e => upd_keep e) (fun ⟨gs, o, e, r, hs, hb⟩ => ⟨gs, o, e, r.far g6 (fun e => by injection e with e; omega), hs, hb⟩)), (fun h => by
              obtain ⟨_, _, _, l6⟩ := f8 (upd_ne h (by decide))
              rw [hL] at l6
              cases l6), (fun h => by
              obtain ⟨_, _, _, l6, _⟩ := f9 (upd_ne h (by decide))
              rw [hL] at l6
              cases l6)⟩
          · obtain rfl := Option.some.inj ho
            have g6 := f6 (hd ⟨6, .data⟩ (by simp) rfl)
            obtain ⟨o, rfl, hs⟩ := g6
            have b7 : Below w.heap.size ww (ww.alloc (.cells #[.int .i64 o.op, .int .i64 o.a, .int .i64 o.b, .int .i64 o.c] 87)) := (Below.refl _ _).alloc I0.size _
            refine wpOp_step rfl (fun K' hK => ?_)
            go_simp
            refine hK _ _ ?_
            exact ⟨_, _, _, _, _, _, _, _, _, _, rfl, (grown_below I0 b7), (fun h => World.ownsRow.alloc (I1 ((upd_other (by decide)).symm.trans h)) _), (fun h => (I2 ((upd_other (by decide)).symm.trans h)).below b7 hgl), (fun h => (I3 (upd_ne h (by decide))).below b7 hgl), (fun h => I4 ((upd_other (by decide)).symm.trans h)), (fun h => ⟨upd_keep (I5 (upd_ne h (by decide))).1, upd_keep (I5 (upd_ne h (by decide))).2⟩), (kp f0), (kp f1), (kp f2), (kp f3), (kp f4), (kp f5), (fun _ => ⟨o, rfl, hs⟩), (fun _ => .inr ⟨ww.heap.size, o, rfl, Rw.new ww _ _, hs, I0.size⟩), (fun h => by
              obtain ⟨o, hs, ow, l6⟩ := f8 (upd_ne h (by decide))
              exact ⟨o, hs, World.ownsRow.alloc ow _, upd_keep l6⟩), (fun h => by
              obtain ⟨o, hs, ow, l6, l8⟩ := f9 (upd_ne h (by decide))
              exact ⟨o, hs, World.ownsRow.alloc ow _, upd_keep l6, upd_keep l8⟩)⟩
          · obtain rfl := Option.some.inj ho
            have g4 := f4 (hd ⟨4, .data⟩ (by simp) rfl)
            have g7 := f7 (hd ⟨7, .data⟩ (by simp) rfl)
            subst g4
            rcases g7 with q7 | ⟨gs, o, rfl, rs, hs, hb⟩
            · rw [hL] at q7
              cases q7
            have o4 := I1 hL
            have l6 := hd ⟨6, .chain⟩ (by simp) rfl
            refine wpOp_step rfl (fun K' hK => ?_)
            refine app_stepM rfl (.tmp 29) (.tmp 32) rfl w.heap.size _ (l.take q) rfl o4 (some ⟨gs, 0, none⟩) 1 1 _ [o] rfl (one_reads rs) (by rw [HQ.out]; omega) I0.size ?_
            intro v' w' o1 g1 s1
            have b8 : Below w.heap.size ww w' := (Below.refl _ _).grown g1 I0.size (fun kk hk => (World.ownsRow.lt o4 kk hk).1)
            refine hK _ _ ?_
            exact ⟨_, _, _, _, _, _, _, _, _, _, rfl, (grown_below I0 b8), (fun h => absurd (upd_self.symm.trans h) (by decide)), (fun h => (I2 ((upd_other (by decide)).symm.trans h)).below b8 hgl), (fun h => (I3 (upd_ne h (by decide))).below b8 hgl), (fun h => I4 ((upd_other (by decide)).symm.trans h)), (fun h => ⟨upd_keep (I5 (upd_ne h (by decide))).1, upd_keep (I5 (upd_ne h (by decide))).2⟩), (kp f0), (kp f1), (kp f2), (kp f3), (kp f4), (kp f5), (kp f6), (fun _ => .inl upd_self), (fun _ => ⟨o, hs, o1, upd_keep l6⟩), (fun h => by
              obtain ⟨_, _, _, _, l8⟩ := f9 (upd_ne h (by decide))
              rw [hL] at l8
              cases l8)⟩
          · obtain rfl := Option.some.inj ho
            have g8 := f8 (hd ⟨8, .data⟩ (by simp) rfl)
            obtain ⟨o, hs, ow, l6⟩ := g8
            refine wpOp_step rfl (fun K' hK => ?_)
            go_simp
            refine hK _ _ ?_
            exact ⟨_, _, _, _, _, _, _, _, _, _, rfl, (I0), (fun h => I1 ((upd_other (by decide)).symm.trans h)), (fun h => I2 ((upd_other (by decide)).symm.trans h)), (fun h => I3 (upd_ne h (by decide))), (fun h => absurd (upd_self.symm.trans h) (by decide)), (fun _ => ⟨upd_keep (hd ⟨0, .phase⟩ (by simp) rfl), upd_keep (hd ⟨1, .phase⟩ (by simp) rfl)⟩), (kp f0), (kp f1), (kp f2), (kp f3), (kp f4), (kp f5), (kp f6), (fun h => (f7 (upd_ne h (by decide))).imp (fun e => upd_keep e) id), (fun _ => ⟨o, hs, ow, upd_keep l6⟩), (fun _ => ⟨o, hs, ow, upd_keep l6, upd_keep (hd ⟨8, .data⟩ (by simp) rfl)⟩)⟩
        case hdone =>
          rintro L ac ww hall ⟨t5, t25, t26, t27, t28, t29, t30, t31, t32, t33, rfl, I0, I1, I2, I3, I4, I5, f0, f1, f2, f3, f4, f5, f6, f7, f8, f9⟩
          have e0 := f0 (hall 0 (by decide))
          have e1 := f1 (hall 1 (by decide))
          have e2 := f2 (hall 2 (by decide))
          have e3 := f3 (hall 3 (by decide))
          have e4 := f4 (hall 4 (by decide))
          have e5 := f5 (hall 5 (by decide))
          have e6 := f6 (hall 6 (by decide))
          have e7 := f7 (hall 7 (by decide))
          have e8 := f8 (hall 8 (by decide))
          have e9 := f9 (hall 9 (by decide))
          clear f0 f1 f2 f3 f4 f5 f6 f7 f8 f9
          obtain ⟨o, hs, ow, l6, -⟩ := e9
          clear e0 e1 e2 e3 e4 e5 e6 e7 e8
          have hr9 := I3 l6
          have hln : (l.take q ++ [o]).length ≤ 41 := by rw [List.length_append, HQ.out, List.length_singleton]; omega
          have HSM : Hid (∀ x ∈ l.take q ++ [o], SmallCm x) := Lib.hid (by
            intro x hx
            rcases List.mem_append.1 hx with hx | hx
            · exact HL.out x (List.mem_of_mem_take hx)
            · rw [List.mem_singleton] at hx
              rw [hx]
              exact hs)
          go_wp2_with fail
          go_ret
          exact ⟨_, _, rfl, ow, hln, HSM.out, hr9.more (by omega), I0⟩
      · have hne : (r3 == 0) = false := by rw [beq_eq_false_iff_ne]; exact hr0
        have hmk := makeM w3 41 (by omega)
        have o5 := own_madeM w3 41 (by omega)
        have bn : Below w.heap.size w3 (w3.alloc (.cells (Array.replicate (41 * 4) (.int .i64 0)) 87)) := (Below.refl _ _).alloc hs3 _
        obtain ⟨w5, hw5⟩ : ∃ w5, w3.alloc (.cells (Array.replicate (41 * 4) (.int .i64 0)) 87) = w5 := ⟨_, rfl⟩
        rw [hw5] at hmk o5 bn
        obtain ⟨gz, hgz⟩ : ∃ gz, w3.heap.size = gz := ⟨_, rfl⟩
        rw [hgz] at hmk o5
        simp at hmk
        have o6 := o5.base (show w.heap.size ≤ gz by omega)
        have st5 := st3.next hgl o6 bn
        have S := Lib.hid st5
        clear st3 st5 o5 o6 bn hw5
        go_wp2_with fail
        go_ret
        exact ⟨_, _, rfl, S.out.own, by simp, fun o ho => by rw [List.eq_of_mem_replicate ho]; exact ⟨by decide, by decide, by decide, by decide⟩, S.out.rd.more (by omega), S.out.grown⟩
end Go.Proofs.Ythmddmddcdofaaa
