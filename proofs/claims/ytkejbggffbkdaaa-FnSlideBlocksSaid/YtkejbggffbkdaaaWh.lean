/- What the model's TakeBlock returns: for every slice of blocks and all numbers. -/
import Derived.Test.YtkejbggffbkdaaaAppend
import Derived.Test.YtkejbggffbkdaaaFits
import Derived.Deep.DeepMust
namespace Go.Proofs.Ytkejbggffbkdaaa
open Go.RowKit

/-- blocks of the call's own, and a bool -/
def GaveB2 (w : World) (xs : List Bl) (ok : Bool) (e : Ending) (w' : World) : Prop := ∃ v, e = .returned (.tuple #[v, .bool ok]) ∧ OwnB w' w.heap.size v xs ∧ Below w.heap.size w w'

theorem own_none (w : World) (base : Nat) (hb : base ≤ w.heap.size) : OwnB (w.alloc (.cells #[] 32)) base (.slice (some ⟨w.heap.size, 0, none⟩) 0 0) [] :=
  World.ownsRow_lit (base := base) (e := 32) (size := 3) w #[] 0 hb (by unfold maxLen; omega) rfl

/-- a local block x in block b of the world WA, behind which only the call's own rows lie -/
def LocalB (WA : World) (b : Nat) (x : Bl) : Prop := WA.cell? ⟨b, 0, none⟩ = some (.int .i64 x.s) ∧ WA.cell? ⟨b, 1, none⟩ = some (.int .i64 x.z) ∧ WA.heap.size = b + 1

/-- the call has come from WA to w, and owns the blocks xs -/
structure TakeSt (WA : World) (b : Nat) (x : Bl) (w : World) (v : Value) (xs : List Bl) : Prop where
  loc : LocalB WA b x
  own : OwnB w (b + 1) v xs
  below : Below (b + 1) WA w

theorem TakeSt.cells {WA w : World} {b : Nat} {x : Bl} {v : Value} {xs : List Bl} (h : TakeSt WA b x w v xs) : w.cell? ⟨b, 0, none⟩ = some (.int .i64 x.s) ∧ w.cell? ⟨b, 1, none⟩ = some (.int .i64 x.z) ∧ b + 1 ≤ w.heap.size :=
  ⟨(h.below.cell (p := ⟨b, 0, none⟩) (Nat.lt_succ_self _)).trans h.loc.1, (h.below.cell (p := ⟨b, 1, none⟩) (Nat.lt_succ_self _)).trans h.loc.2.1, by have := h.below.size; have := h.loc.2.2; omega⟩

theorem LocalB.next {WA W w : World} {b : Nat} {x : Bl} {v v' : Value} {xs ys : List Bl} (h : LocalB WA b x) (hb : Below (b + 1) WA W) (ho : OwnB W (b + 1) v xs) (hg : W.grownBy w v.ownBlock) (ho' : OwnB w (b + 1) v' ys) : TakeSt WA b x w v' ys :=
  ⟨h, ho', hb.grown hg (by have := hb.size; have := h.2.2; omega) (fun k hk => (World.ownsRow.lt ho k hk).1)⟩

theorem TakeSt.more {WA W w : World} {b : Nat} {x : Bl} {v v' : Value} {xs ys : List Bl} {o : Obj} (h : TakeSt WA b x W v xs) (hg : (W.alloc o).grownBy w v.ownBlock) (ho' : OwnB w (b + 1) v' ys) : TakeSt WA b x w v' ys :=
  ⟨h.loc, ho', (h.below.alloc (by have := h.below.size; have := h.loc.2.2; omega) o).grown hg (by have := h.below.size; have := h.loc.2.2; simp; omega) (fun k hk => (World.ownsRow.lt h.own k hk).1)⟩

theorem TakeSt.again {WA W w : World} {b : Nat} {x : Bl} {v v' : Value} {xs ys : List Bl} (h : TakeSt WA b x W v xs) (hg : W.grownBy w v.ownBlock) (ho' : OwnB w (b + 1) v' ys) : TakeSt WA b x w v' ys :=
  ⟨h.loc, ho', h.below.grown hg (by have := h.below.size; have := h.loc.2.2; omega) (fun k hk => (World.ownsRow.lt h.own k hk).1)⟩

theorem OwnB.cast {w : World} {base : Nat} {v : Value} {xs ys : List Bl} (e : xs = ys) (h : OwnB w base v xs) : OwnB w base v ys := e ▸ h

theorem BS.end_ {w : World} {B n k : Nat} {A : Option Addr} {xs : List Bl} (h : BS w B A n xs) (hk : n ≤ k) : BS w B A (n - k) (xs.drop k) := by
  have hl := h.1
  rw [List.drop_eq_nil_of_le (by omega), show n - k = 0 by omega]
  exact BS.none_ w B A

theorem taken_yes {xs : List Bl} {k : Nat} {x : Bl} {size : Int} (hx : xs[k]? = some x) (hc : Bks.canTake xs k size = true) (h : size < x.z) : Bks.takeB xs k size = xs.take k ++ [⟨x.s, size, true⟩] ++ [⟨x.s + size, x.z - size, false⟩] ++ xs.drop (k + 1) := by
  rw [Bks.takeB, if_pos hc, Bks.taken]
  simp [hx, h]
theorem taken_no {xs : List Bl} {k : Nat} {x : Bl} {size : Int} (hx : xs[k]? = some x) (hc : Bks.canTake xs k size = true) (h : ¬ size < x.z) : Bks.takeB xs k size = xs.take k ++ [⟨x.s, size, true⟩] ++ xs.drop (k + 1) := by
  rw [Bks.takeB, if_pos hc, Bks.taken]
  simp [hx, h]

theorem allI_one {a b : Int} {u : Bool} (h1 : -9223372036854775808 ≤ a) (h2 : a ≤ 9223372036854775807) (h3 : -9223372036854775808 ≤ b) (h4 : b ≤ 9223372036854775807) : AllI [⟨a, b, u⟩] := by
  intro k x hx
  match k, hx with
  | 0, hx =>
    simp at hx
    subst hx
    exact ⟨⟨h1, h2⟩, ⟨h3, h4⟩⟩
  | k + 1, hx => simp at hx

set_option maxHeartbeats 2000000 in
theorem mTakeBlock_any (A : Option Addr) (n c : Nat) (xs : List Bl) (t num size : Int) (w : World) (h : BS w w.heap.size A n xs) (hn : n ≤ 1099511627776) (hc : n ≤ c) :
    Calls Try.prog 40 #[.slice A n c, .int .i64 t, .int .i64 num, .int .i64 size] w (GaveB2 w (if Bks.validB xs t = true then Bks.takeB xs num size else []) (Bks.validB xs t && Bks.canTake xs num size)) := by
  cases hv : Bks.validB xs t
  · have HV := Lib.hid hv
    clear hv
    go_enter Try.func40, Try.ntmps40
    go_wp2_with fail
    refine (mBlocksValid_any _ _ _ xs _ _ h hn).mono ?_
    rw [HV.out]
    rintro e w1 ⟨rfl, b1⟩
    go_wp2_with fail
    go_ret2
    exact ⟨_, rfl, own_none _ _ b1.size, b1.alloc b1.size _⟩
  · have HV := Lib.hid hv
    have hl := Bks.valid_len hv
    have hlen := h.1
    clear hv
    go_enter Try.func40, Try.ntmps40
    go_wp2_with fail
    refine (mBlocksValid_any _ _ _ xs _ _ h hn).mono ?_
    rw [HV.out]
    rintro e w1 ⟨rfl, b1⟩
    go_wp2_with (at_builtin; refine wpList_appendB rfl (.tmp 18) (.tmp 19) rfl w.heap.size _ [] rfl (own_none _ _ b1.size) A n c w.heap.size xs rfl (h.below (b1.alloc b1.size _)) (by simp; omega) (by have := b1.size; simp; omega) ?_; intro v2 w2 o2 g2 s2)
    simp only [List.nil_append] at o2
    have bb2 : Below w.heap.size w w2 := (b1.alloc b1.size _).grown g2 (by have := b1.size; simp; omega) (fun k hk => by have e : w1.heap.size = k := Option.some.inj hk; have := b1.size; omega)
    clear g2 s2
    have HL := Lib.hid hl
    clear hl
    by_cases hr : 0 ≤ num ∧ num ≤ (n : Int) - 1
    · obtain ⟨k, rfl⟩ := Int.eq_ofNat_of_zero_le hr.1
      have hk : k < n := by omega
      have hd : (decide ((0 : Int) ≤ (k : Int)) && decide ((k : Int) ≤ (n : Int) - 1)) = true := by simp; omega
      obtain ⟨g, o, x, rfl, hg, hx, ⟨i1, i2⟩, ⟨i3, i4⟩, c1, c2, c3⟩ := (h.below bb2).at_ hk
      obtain ⟨z0, z1, z2, z3, z4, z5, z6⟩ := Bks.valid_at HV.out hx
      have y0 : 0 ≤ x.s := by omega
      have y1 : x.s ≤ 256 := by omega
      have hcan : Bks.canTake xs k size = (!x.u && decide (1 ≤ size) && decide (size ≤ x.z)) := by simp [Bks.canTake, hx]
      have HX := Lib.hid hx
      have HC := Lib.hid hcan
      have HZ := Lib.hid z0
      clear hx hcan z0 z5 hr
      by_cases hu : x.u = true
      · rw [hu] at c3
        have HS := Lib.hid (show Bks.takeB xs k size = xs ∧ Bks.canTake xs k size = false by rw [Bks.takeB, HC.out, hu]; simp)
        clear hu
        go_wp2_with (go_at_call 41; refine (l1In_any _ _ _ _).mono ?_; rw [hd]; rintro e w' ⟨rfl, rfl⟩)
        go_ret2
        exact ⟨_, by rw [HS.out.2]; rfl, by rw [HS.out.1]; exact o2, bb2⟩
      · have hu' : x.u = false := by simpa using hu
        rw [hu'] at c3
        have HU := Lib.hid hu'
        clear hu hu'
        by_cases hz : 1 ≤ size ∧ size ≤ x.z
        · have hd2 : (decide ((1 : Int) ≤ size) && decide (size ≤ x.z)) = true := by simpa using hz
          go_wp2_with fail
          refine (l1In_any _ _ _ _).mono ?_
          rw [hd]
          rintro e w' ⟨rfl, rfl⟩
          go_wp2_with fail
          refine (l1In_any _ _ _ _).mono ?_
          rw [hd2]
          rintro e w' ⟨rfl, rfl⟩
          have s2 := bb2.size
          have hkc : (k : Int) ≤ c := by omega
          obtain ⟨WA, hWA⟩ : ∃ WA, WA = w2.alloc (.cells #[.int .i64 x.s, .int .i64 x.z, .bool false] 32) := ⟨_, rfl⟩
          have hWs : WA.heap.size = w2.heap.size + 1 := by rw [hWA]; simp
          have bA : Below w.heap.size w WA := by rw [hWA]; exact bb2.alloc bb2.size _
          have l0 : WA.cell? ⟨w2.heap.size, 0, none⟩ = some (.int .i64 x.s) := by rw [hWA]; simp
          have l1 : WA.cell? ⟨w2.heap.size, 1, none⟩ = some (.int .i64 x.z) := by rw [hWA]; simp
          have HWA := Lib.hid hWA
          have HWs := Lib.hid hWs
          have o0 : OwnB (WA.alloc (.cells #[] 32)) (w2.heap.size + 1) (.slice (some ⟨w2.heap.size + 1, 0, none⟩) 0 0) [] := by
            have := own_none WA (w2.heap.size + 1) (by omega)
            rw [hWs] at this
            exact this
          have bl0 : Below (w2.heap.size + 1) WA (WA.alloc (.cells #[] 32)) := (Below.refl _ _).alloc (by omega) _
          have bs3 := (h.below (bA.trans (bl0.mono (by omega)))).take (k := k) (by omega)
          rw [hWA] at o0 bl0 bs3
          have LC : LocalB WA w2.heap.size x := ⟨l0, l1, hWs⟩
          have HBA := Lib.hid bA
          clear hWA hWs l0 l1 bA
          obtain ⟨hz1, hz2⟩ := hz
          have hlk : (xs.take k).length = k := by rw [List.length_take]; omega
          have hT5 : size < x.z → Bks.takeB xs k size = xs.take k ++ [⟨x.s, size, true⟩] ++ [⟨x.s + size, x.z - size, false⟩] ++ xs.drop (k + 1) := fun hh => taken_yes HX.out (by rw [HC.out, HU.out, decide_eq_true hz1, decide_eq_true hz2]; rfl) hh
          have hT4 : ¬ size < x.z → Bks.takeB xs k size = xs.take k ++ [⟨x.s, size, true⟩] ++ xs.drop (k + 1) := fun hh => taken_no HX.out (by rw [HC.out, HU.out, decide_eq_true hz1, decide_eq_true hz2]; rfl) hh
          have hlen5 : xs.length ≤ 256 := HL.out.2.1
          by_cases hcap : c = k + 1
          · obtain rfl : n = k + 1 := by omega
            subst hcap
            have HD := Lib.hid (show xs.drop (k + 1) = [] from List.drop_eq_nil_of_le (by omega))
            by_cases hsz : size < x.z
            · have HT := Lib.hid (hT5 hsz)
              clear hT5 hT4
              go_wp2_with (first
                | (at_builtin; refine wpList_appendB rfl (.tmp 49) (.tmp 52) rfl (w2.heap.size + 1) _ [] rfl o0 (some ⟨g, o, none⟩) k _ w.heap.size (xs.take k) rfl bs3 (by simp <;> omega) (by simp <;> omega) ?_; intro v3 w3 o3 g3 s3; go_must (rw [← HWA.out] at bl0 g3 o0; have st3 := LC.next bl0 o0 g3 o3; obtain ⟨l30, l31, z3⟩ := st3.cells; clear g3 s3))
                | (at_builtin; refine wpList_appendB rfl (.tmp 54) (.tmp 59) rfl (w2.heap.size + 1) v3 _ rfl (st3.own.below ((Below.refl _ _).alloc (Nat.le_refl _) _) (Nat.le_refl _)) (some ⟨w3.heap.size, 0, none⟩) 1 1 _ [⟨x.s, size, true⟩] rfl ((own_one w3 x.s size true 0 (Nat.zero_le _)).reads (allI_one (by omega) (by omega) (by omega) (by omega))) (by simp <;> omega) (by simp <;> omega) ?_; intro v4 w4 o4 g4 s4; go_must (have st4 := st3.more g4 o4; obtain ⟨l40, l41, z4⟩ := st4.cells; clear g4 s4))
                | (at_builtin; refine wpList_appendB rfl (.tmp 65) (.tmp 75) rfl (w2.heap.size + 1) v4 _ rfl (st4.own.below ((Below.refl _ _).alloc (Nat.le_refl _) _) (Nat.le_refl _)) (some ⟨w4.heap.size, 0, none⟩) 1 1 _ [⟨x.s + size, x.z - size, false⟩] rfl ((own_one w4 (x.s + size) (x.z - size) false 0 (Nat.zero_le _)).reads (allI_one (by omega) (by omega) (by omega) (by omega))) (by simp <;> omega) (by simp <;> omega) ?_; intro v5 w5 o5 g5 s5; go_must (have st5 := st4.more g5 o5; obtain ⟨l50, l51, z5⟩ := st5.cells; clear g5 s5))
                | (at_builtin; refine wpList_appendB rfl (.tmp 77) (.tmp 81) rfl (w2.heap.size + 1) v5 _ rfl st5.own (some ⟨g, o, none⟩) 0 0 0 [] rfl (BS.none_ _ _ _) (by simp <;> omega) (by omega) ?_; intro v6 w6 o6 g6 s6; go_must (have st6 := st5.again g6 o6; clear g6 s6)))
              go_ret2
              refine ⟨_, by rw [HC.out, HU.out, decide_eq_true hz1, decide_eq_true hz2]; rfl, ?_, HBA.out.trans (st6.below.mono (by omega))⟩
              rw [HT.out]
              exact (OwnB.cast (by rw [HD.out]; simp) st6.own).base (by omega)
            · have HT := Lib.hid (hT4 hsz)
              clear hT5 hT4
              go_wp2_with (first
                | (at_builtin; refine wpList_appendB rfl (.tmp 49) (.tmp 52) rfl (w2.heap.size + 1) _ [] rfl o0 (some ⟨g, o, none⟩) k _ w.heap.size (xs.take k) rfl bs3 (by simp <;> omega) (by simp <;> omega) ?_; intro v3 w3 o3 g3 s3; go_must (rw [← HWA.out] at bl0 g3 o0; have st3 := LC.next bl0 o0 g3 o3; obtain ⟨l30, l31, z3⟩ := st3.cells; clear g3 s3))
                | (at_builtin; refine wpList_appendB rfl (.tmp 54) (.tmp 59) rfl (w2.heap.size + 1) v3 _ rfl (st3.own.below ((Below.refl _ _).alloc (Nat.le_refl _) _) (Nat.le_refl _)) (some ⟨w3.heap.size, 0, none⟩) 1 1 _ [⟨x.s, size, true⟩] rfl ((own_one w3 x.s size true 0 (Nat.zero_le _)).reads (allI_one (by omega) (by omega) (by omega) (by omega))) (by simp <;> omega) (by simp <;> omega) ?_; intro v4 w4 o4 g4 s4; go_must (have st4 := st3.more g4 o4; obtain ⟨l40, l41, z4⟩ := st4.cells; clear g4 s4))
                | (at_builtin; refine wpList_appendB rfl (.tmp 77) (.tmp 81) rfl (w2.heap.size + 1) v4 _ rfl st4.own (some ⟨g, o, none⟩) 0 0 0 [] rfl (BS.none_ _ _ _) (by simp <;> omega) (by omega) ?_; intro v6 w6 o6 g6 s6; go_must (have st6 := st4.again g6 o6; clear g6 s6)))
              go_ret2
              refine ⟨_, by rw [HC.out, HU.out, decide_eq_true hz1, decide_eq_true hz2]; rfl, ?_, HBA.out.trans (st6.below.mono (by omega))⟩
              rw [HT.out]
              exact (OwnB.cast (by rw [HD.out]; simp) st6.own).base (by omega)
          · have HBS := Lib.hid (fun (W : World) (hW : Below w.heap.size w W) => (h.below hW).drop (k := k + 1) (by omega))
            by_cases hsz : size < x.z
            · have HT := Lib.hid (hT5 hsz)
              clear hT5 hT4
              go_wp2_with (first
                | (at_builtin; refine wpList_appendB rfl (.tmp 49) (.tmp 52) rfl (w2.heap.size + 1) _ [] rfl o0 (some ⟨g, o, none⟩) k c w.heap.size (xs.take k) rfl bs3 (by simp <;> omega) (by simp <;> omega) ?_; intro v3 w3 o3 g3 s3; go_must (rw [← HWA.out] at bl0 g3 o0; have st3 := LC.next bl0 o0 g3 o3; obtain ⟨l30, l31, z3⟩ := st3.cells; clear g3 s3))
                | (at_builtin; refine wpList_appendB rfl (.tmp 54) (.tmp 59) rfl (w2.heap.size + 1) v3 _ rfl (st3.own.below ((Below.refl _ _).alloc (Nat.le_refl _) _) (Nat.le_refl _)) (some ⟨w3.heap.size, 0, none⟩) 1 1 _ [⟨x.s, size, true⟩] rfl ((own_one w3 x.s size true 0 (Nat.zero_le _)).reads (allI_one (by omega) (by omega) (by omega) (by omega))) (by simp <;> omega) (by simp <;> omega) ?_; intro v4 w4 o4 g4 s4; go_must (have st4 := st3.more g4 o4; obtain ⟨l40, l41, z4⟩ := st4.cells; clear g4 s4))
                | (at_builtin; refine wpList_appendB rfl (.tmp 65) (.tmp 75) rfl (w2.heap.size + 1) v4 _ rfl (st4.own.below ((Below.refl _ _).alloc (Nat.le_refl _) _) (Nat.le_refl _)) (some ⟨w4.heap.size, 0, none⟩) 1 1 _ [⟨x.s + size, x.z - size, false⟩] rfl ((own_one w4 (x.s + size) (x.z - size) false 0 (Nat.zero_le _)).reads (allI_one (by omega) (by omega) (by omega) (by omega))) (by simp <;> omega) (by simp <;> omega) ?_; intro v5 w5 o5 g5 s5; go_must (have st5 := st4.more g5 o5; obtain ⟨l50, l51, z5⟩ := st5.cells; clear g5 s5))
                | (at_builtin; refine wpList_appendB rfl (.tmp 77) (.tmp 81) rfl (w2.heap.size + 1) v5 _ rfl st5.own (some ⟨g, o + (k + 1) * 3, none⟩) _ _ w.heap.size (xs.drop (k + 1)) rfl (HBS.out _ (HBA.out.trans (st5.below.mono (by omega)))) (by simp <;> omega) (by omega) ?_; intro v6 w6 o6 g6 s6; go_must (have st6 := st5.again g6 o6; clear g6 s6)))
              go_ret2
              refine ⟨_, by rw [HC.out, HU.out, decide_eq_true hz1, decide_eq_true hz2]; rfl, ?_, HBA.out.trans (st6.below.mono (by omega))⟩
              rw [HT.out]
              exact (OwnB.cast (by simp) st6.own).base (by omega)
            · have HT := Lib.hid (hT4 hsz)
              clear hT5 hT4
              go_wp2_with (first
                | (at_builtin; refine wpList_appendB rfl (.tmp 49) (.tmp 52) rfl (w2.heap.size + 1) _ [] rfl o0 (some ⟨g, o, none⟩) k c w.heap.size (xs.take k) rfl bs3 (by simp <;> omega) (by simp <;> omega) ?_; intro v3 w3 o3 g3 s3; go_must (rw [← HWA.out] at bl0 g3 o0; have st3 := LC.next bl0 o0 g3 o3; obtain ⟨l30, l31, z3⟩ := st3.cells; clear g3 s3))
                | (at_builtin; refine wpList_appendB rfl (.tmp 54) (.tmp 59) rfl (w2.heap.size + 1) v3 _ rfl (st3.own.below ((Below.refl _ _).alloc (Nat.le_refl _) _) (Nat.le_refl _)) (some ⟨w3.heap.size, 0, none⟩) 1 1 _ [⟨x.s, size, true⟩] rfl ((own_one w3 x.s size true 0 (Nat.zero_le _)).reads (allI_one (by omega) (by omega) (by omega) (by omega))) (by simp <;> omega) (by simp <;> omega) ?_; intro v4 w4 o4 g4 s4; go_must (have st4 := st3.more g4 o4; obtain ⟨l40, l41, z4⟩ := st4.cells; clear g4 s4))
                | (at_builtin; refine wpList_appendB rfl (.tmp 77) (.tmp 81) rfl (w2.heap.size + 1) v4 _ rfl st4.own (some ⟨g, o + (k + 1) * 3, none⟩) _ _ w.heap.size (xs.drop (k + 1)) rfl (HBS.out _ (HBA.out.trans (st4.below.mono (by omega)))) (by simp <;> omega) (by omega) ?_; intro v6 w6 o6 g6 s6; go_must (have st6 := st4.again g6 o6; clear g6 s6)))
              go_ret2
              refine ⟨_, by rw [HC.out, HU.out, decide_eq_true hz1, decide_eq_true hz2]; rfl, ?_, HBA.out.trans (st6.below.mono (by omega))⟩
              rw [HT.out]
              exact (OwnB.cast (by simp) st6.own).base (by omega)
        · have hd2 : (decide ((1 : Int) ≤ size) && decide (size ≤ x.z)) = false := by simpa using hz
          have HS := Lib.hid (show Bks.takeB xs k size = xs ∧ Bks.canTake xs k size = false by rw [Bks.takeB, HC.out, Bool.and_assoc, hd2]; simp)
          go_wp2_with fail
          refine (l1In_any _ _ _ _).mono ?_
          rw [hd]
          rintro e w' ⟨rfl, rfl⟩
          go_wp2_with fail
          refine (l1In_any _ _ _ _).mono ?_
          rw [hd2]
          rintro e w' ⟨rfl, rfl⟩
          go_wp2_with fail
          go_ret2
          exact ⟨_, by rw [HS.out.2]; rfl, by rw [HS.out.1]; exact o2, bb2⟩
    · have hd : (decide ((0 : Int) ≤ num) && decide (num ≤ (n : Int) - 1)) = false := by simpa using hr
      have HS := Lib.hid (show Bks.takeB xs num size = xs ∧ Bks.canTake xs num size = false by
        have : Bks.canTake xs num size = false := by
          unfold Bks.canTake
          by_cases h0 : 0 ≤ num
          · rw [List.getElem?_eq_none (by omega)]
            simp
          · simp [h0]
        rw [Bks.takeB, this]
        simp)
      clear hr
      go_wp2_with (go_at_call 41; refine (l1In_any _ _ _ _).mono ?_; rw [hd]; rintro e w' ⟨rfl, rfl⟩)
      go_ret2
      exact ⟨_, by rw [HS.out.2]; rfl, by rw [HS.out.1]; exact o2, bb2⟩
end Go.Proofs.Ytkejbggffbkdaaa
