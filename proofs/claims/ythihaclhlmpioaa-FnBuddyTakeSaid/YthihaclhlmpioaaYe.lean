/- What the model's BuddyTake returns: for every slice of buddies and all numbers. -/
import Derived.Test.YthihaclhlmpioaaBud4
import Derived.StillTailTactics
import Derived.Deep.RegionLaw
import Derived.Deep.DeepMust
namespace Go.Proofs.Ythihaclhlmpioaa
open Go.RowKit

/-- buddies of the call's own, a number and a bool -/
def GaveY3 (w : World) (ys : List Bl) (st : Int) (ok : Bool) (e : Ending) (w' : World) : Prop := ∃ v, e = .returned (.tuple #[v, .int .i64 st, .bool ok]) ∧ OwnY w' w.heap.size v ys ∧ Below w.heap.size w w'

theorem GaveY3.of {w w' : World} {v : Value} {ys zs : List Bl} {st st' : Int} {ok ok' : Bool} (ho : OwnY w' w.heap.size v ys) (hb : Below w.heap.size w w') (e1 : ys = zs) (e2 : st = st') (e3 : ok = ok') : GaveY3 w zs st' ok' (.returned (.tuple #[v, .int .i64 st, .bool ok])) w' := by
  subst e1 e2 e3
  exact ⟨v, rfl, ho, hb⟩

/-- an append onto the call's own buddies, as one step of a region that draws its order -/
theorem step_appendY {w : World} {ops : Array Oper} {o : Oper} {a : Act} {K : Act → World → Prop} {Q : Exit → Act → World → Prop} {E : Prop} (hgd : o.guard = none) (s x : Operand)
    (ho : o.op = .call { callee := .builtin .append, args := #[s, x], argTypes := #[27, 27] })
    (base : Nat) (v : Value) (xs : List Bl) (hs : a.eval s = v) (hown : OwnY w base v xs) (A : Option Addr) (m c B : Nat) (ys : List Bl) (hx : a.eval x = .slice A m c) (hr : BS w B A m ys)
    (hn : xs.length + m ≤ 1099511627776) (hbase : base ≤ w.heap.size)
    (h : ∀ v' w', OwnY w' base v' (xs ++ ys) → w.grownBy w' v.ownBlock → K (a.put o.dst v') w') : if Region.wanted o (yielded ops a.tmps) = true then Oper.wp Try.prog o a w K Q else E := by
  have hw : Region.wanted o (yielded ops a.tmps) = true := by simp [Region.wanted, hgd]
  rw [if_pos hw]
  obtain ⟨v', w', hrun, h2, h3, h4⟩ := run_appendY w base v xs hown A m c B ys hr hn hbase o.type
  unfold Oper.wp execOp
  simp only [ho, resolve, invoke, builtin, Sem.run_bind, Sem.run_pure, Result.andThen_ok, List.map_toArray, List.map_cons, List.map_nil, hs, hx, hrun]
  exact h v' w' h2 h3

def bestI : Option Nat → Int
  | none => -1
  | some b => b

theorem bY_none {xs : List Bl} {size : Int} {k : Nat} {x : Bl} (hx : xs[k]? = some x) (hf : Bks.fits size x = false) : Bks.bestTo xs size (k + 1) = Bks.bestTo xs size k := by
  rw [Bks.bestTo, hx]
  simp only [hf]
  cases Bks.bestTo xs size k <;> simp
theorem bY_first {xs : List Bl} {size : Int} {k : Nat} {x : Bl} (hx : xs[k]? = some x) (hf : Bks.fits size x = true) (hb : Bks.bestTo xs size k = none) : Bks.bestTo xs size (k + 1) = some k := by
  rw [Bks.bestTo, hx, hb]
  simp [hf]
theorem bY_less {xs : List Bl} {size : Int} {k b : Nat} {x y : Bl} (hx : xs[k]? = some x) (hf : Bks.fits size x = true) (hb : Bks.bestTo xs size k = some b) (hy : xs[b]? = some y) (hl : x.z < y.z) : Bks.bestTo xs size (k + 1) = some k := by
  rw [Bks.bestTo, hx, hb]
  simp [hf, hy, hl]
theorem bY_more {xs : List Bl} {size : Int} {k b : Nat} {x y : Bl} (hx : xs[k]? = some x) (hb : Bks.bestTo xs size k = some b) (hy : xs[b]? = some y) (hl : ¬ x.z < y.z) : Bks.bestTo xs size (k + 1) = some b := by
  rw [Bks.bestTo, hx, hb]
  simp [hy, hl]

set_option maxRecDepth 100000 in
set_option maxHeartbeats 4000000 in
theorem mBuddyTake_any (A : Option Addr) (n c : Nat) (xs : List Bl) (p size : Int) (w : World) (h : BS w w.heap.size A n xs) (hn : n ≤ 1099511627776) (hc : n ≤ c) :
    Calls Try.prog 24 #[.slice A n c, .int .i64 p, .int .i64 size] w (GaveY3 w (if Bud.validY xs p = true then Bud.takeY xs size else []) (if Bud.validY xs p = true then Bud.startY xs size else -1) (Bud.validY xs p && Bud.okY xs size)) := by
  have HL := Lib.hid h.1
  cases hv : Bud.validY xs p
  · have HV := Lib.hid hv
    clear hv
    go_enter Try.func24, Try.ntmps24
    go_wp2_with fail
    refine (mBuddiesValid_any _ _ _ xs _ _ h hn).mono ?_
    rw [HV.out]
    rintro e w1 ⟨rfl, b1⟩
    go_wp2_with fail
    go_ret3
    exact GaveY3.of (own_noneY _ _ b1.size) (b1.alloc b1.size _) rfl rfl rfl
  · rw [if_pos rfl, if_pos rfl, Bool.true_and]
    have HV := Lib.hid hv
    have hl := Bud.validY_len hv
    have hn5 : n ≤ 256 := by have := h.1; omega
    clear hv hl
    rcases Bud.powW_range size with hw | ⟨m, hw, hm8⟩
    · have HW := Lib.hid hw
      have HB := Lib.hid (show Bud.bestY xs size = none by rw [Bud.bestY, hw]; rfl)
      clear hw
      go_enter Try.func24, Try.ntmps24
      go_wp2_with fail
      refine (mBuddiesValid_any _ _ _ xs _ _ h hn).mono ?_
      rw [HV.out]
      rintro e w1 ⟨rfl, b1⟩
      go_wp2_with fail
      refine (mPowerFor_any _ _).mono ?_
      rw [HW.out]
      rintro e w' ⟨rfl, rfl⟩
      go_wp2_with fail
      go_loopw [10, 11] (fun a i wr => a = .int .i64 (-1) ∧ i = .int .i64 0 ∧ wr = w1) (fun _ _ _ => 0)
      case atStart => exact ⟨rfl, rfl, rfl⟩
      case round =>
        obtain ⟨rfl, rfl, rfl⟩ := hrel
        have o0 := own_noneY wr w.heap.size b1.size
        have r0 := h.below (b1.alloc b1.size (.cells #[] 40))
        have hs1 := b1.size
        by_cases h0 : 0 < n
        all_goals
          go_wp2_with (at_builtin; refine wpList_appendY rfl (.tmp 67) (.tmp 68) rfl w.heap.size _ [] rfl o0 A n c w.heap.size xs rfl r0 (by simp <;> omega) (by simp; omega) ?_; intro v2 w2 o2 g2 s2)
          go_ret3
          exact GaveY3.of o2 ((b1.alloc b1.size _).grown g2 (by simp; omega) (fun k hk => (World.ownsRow.lt o0 k hk).1)) (by rw [Bud.takeY, HB.out]; simp) (by rw [Bud.startY, HB.out]) (by rw [Bud.okY, HB.out]; rfl)
    · have HW := Lib.hid hw
      have HB := Lib.hid (show Bud.bestY xs size = Bks.bestTo xs m xs.length by rw [Bud.bestY, hw, if_neg (by omega)])
      clear hw
      go_enter Try.func24, Try.ntmps24
      go_wp2_with fail
      refine (mBuddiesValid_any _ _ _ xs _ _ h hn).mono ?_
      rw [HV.out]
      rintro e w1 ⟨rfl, b1⟩
      go_wp2_with fail
      refine (mPowerFor_any _ _).mono ?_
      rw [HW.out]
      rintro e w' ⟨rfl, rfl⟩
      go_wp2_with fail
      go_loopw [10, 11] (fun a i wr => ∃ k : Nat, k ≤ n ∧ i = .int .i64 k ∧ a = .int .i64 (bestI (Bks.bestTo xs m k)) ∧ Below w.heap.size w wr) (fun _ i _ => n - (intOf i).toNat)
      case atStart => exact ⟨0, Nat.zero_le _, rfl, rfl, b1⟩
      case round =>
        obtain ⟨k, hk, rfl, rfl, hb⟩ := hrel
        have hsp := (Bks.bestTo_spec xs m k (by rw [HL.out]; exact hk)).2
        obtain ⟨B, hB⟩ : ∃ B, Bks.bestTo xs m k = B := ⟨_, rfl⟩
        rw [hB] at hsp ⊢
        have HBB := Lib.hid hB
        have HSP := Lib.hid hsp
        clear hB hsp
        by_cases hlt : k < n
        · obtain ⟨bv, hbv⟩ : ∃ bv, bestI B = bv := ⟨_, rfl⟩
          rw [hbv]
          have HBV := Lib.hid hbv
          clear hbv
          obtain ⟨g, o, x, rfl, hgb, hx, ⟨i1, i2⟩, ⟨i3, i4⟩, c1, c2, c3⟩ := (h.below hb).at_ hlt
          have HX := Lib.hid hx
          have hlt' : (k : Int) < n := by omega
          have hm0 : (0 : Int) ≤ m := by omega
          clear hx c1
          cases hu : x.u
          · rw [hu] at c3
            have HU := Lib.hid hu
            clear hu
            by_cases hz : (m : Int) ≤ x.z
            · have HFT := Lib.hid (show Bks.fits m x = true by rw [Bks.fits_iff]; exact ⟨HU.out, hz⟩)
              cases B with
              | none =>
                obtain rfl : bv = -1 := HBV.out.symm
                have HN := Lib.hid (bY_first HX.out HFT.out HBB.out)
                go_wp2_with fail
                go_quiet (fail)
                go_wp2
                go_roundw
                case rel => exact ⟨k + 1, by omega, by go_num, by rw [HN.out]; rfl, below_drewN hb _⟩
                case measure => simp [intOf]; omega
              | some b =>
                obtain rfl : bv = (b : Int) := HBV.out.symm
                obtain ⟨hbk, y, hy, _, _⟩ := HSP.out b rfl
                obtain ⟨g', o', y', e', _, hy', _, _, _, d2, _⟩ := (h.below hb).at_ (k := b) (by omega)
                obtain rfl : y' = y := Option.some.inj (hy'.symm.trans hy)
                injection e' with e'
                injection e' with e1 e2
                subst e1 e2
                have hb1 : (b : Int) < n := by omega
                have hb2 : decide ((b : Int) < 0) = false := decide_eq_false (by omega)
                have HY := Lib.hid hy
                clear hy hy'
                by_cases hl : x.z < y'.z
                · have HN := Lib.hid (bY_less HX.out HFT.out HBB.out HY.out hl)
                  go_wp2_with fail
                  go_quiet (fail)
                  go_wp2
                  go_roundw
                  case rel => exact ⟨k + 1, by omega, by go_num, by rw [HN.out]; rfl, below_drewN hb _⟩
                  case measure => simp [intOf]; omega
                · have HN := Lib.hid (bY_more (size := m) HX.out HBB.out HY.out hl)
                  have hl' : decide (x.z < y'.z) = false := decide_eq_false hl
                  go_wp2_with fail
                  go_quiet (fail)
                  go_wp2
                  go_roundw
                  case rel => exact ⟨k + 1, by omega, by go_num, by rw [HN.out]; rfl, below_drewN hb _⟩
                  case measure => simp [intOf]; omega
            · have HFT := Lib.hid (show Bks.fits m x = false by
                cases hf : Bks.fits m x
                · rfl
                · rw [Bks.fits_iff] at hf
                  exact absurd hf.2 hz)
              have HN := Lib.hid (bY_none HX.out HFT.out)
              have hz' : decide ((m : Int) ≤ x.z) = false := decide_eq_false hz
              clear hz
              go_wp2_with fail
              go_quiet (fail)
              go_wp2
              go_roundw
              case rel => exact ⟨k + 1, by omega, by go_num, by rw [HN.out, HBB.out, HBV.out], below_drewN hb _⟩
              case measure => simp [intOf]; omega
          · rw [hu] at c3
            have HFT := Lib.hid (show Bks.fits m x = false by
                cases hf : Bks.fits m x
                · rfl
                · rw [Bks.fits_iff, hu] at hf
                  cases hf.1)
            have HN := Lib.hid (bY_none HX.out HFT.out)
            clear hu
            go_wp2_with fail
            go_quiet (fail)
            go_wp2
            go_roundw
            case rel => exact ⟨k + 1, by omega, by go_num, by rw [HN.out, HBB.out, HBV.out], below_drewN hb _⟩
            case measure => simp [intOf]; omega
        · have HK := Lib.hid (show k = n by omega)
          have HBE := Lib.hid (show Bud.bestY xs size = B by rw [HB.out, HL.out, ← HK.out]; exact HBB.out)
          have hs1 := hb.size
          cases B with
          | none =>
            have o0 := own_noneY wr w.heap.size hb.size
            have r0 := h.below (hb.alloc hb.size (.cells #[] 40))
            have hb0 : bestI none = -1 := rfl
            rw [hb0]
            go_wp2_with (at_builtin; refine wpList_appendY rfl (.tmp 67) (.tmp 68) rfl w.heap.size _ [] rfl o0 A n c w.heap.size xs rfl r0 (by simp <;> omega) (by simp; omega) ?_; intro v2 w2 o2 g2 s2)
            go_ret3
            exact GaveY3.of o2 ((hb.alloc hb.size _).grown g2 (by simp; omega) (fun k hk => (World.ownsRow.lt o0 k hk).1)) (by rw [Bud.takeY, HBE.out]; simp) (by rw [Bud.startY, HBE.out]) (by rw [Bud.okY, HBE.out]; rfl)
          | some b =>
            have hb0 : bestI (some b) = (b : Int) := rfl
            rw [hb0]
            clear hb0
            obtain ⟨hbk, y, hy, hfy, _⟩ := HSP.out b rfl
            rw [Bks.fits_iff] at hfy
            obtain ⟨g, o, x, rfl, hgb, hx, ⟨i1, i2⟩, ⟨i3, i4⟩, c1, c2, c3⟩ := (h.below hb).at_ (k := b) (by omega)
            obtain rfl : x = y := Option.some.inj (hx.symm.trans hy)
            obtain ⟨j, z1, z2, z3, z4, z5, z6, z7⟩ := Bud.validY_at HV.out hx
            obtain ⟨s, hs⟩ : ∃ s : Nat, x.s = s := ⟨_, z4⟩
            have hpj := Bud.two_pow_le z3
            have hs256 : s + 2 ^ j ≤ 256 := by omega
            rw [hfy.1] at c3
            rw [z1] at c2
            rw [hs] at c1
            have hmj : m ≤ j := by omega
            have hbn : b < n := by omega
            have HX := Lib.hid hx
            have HXS := Lib.hid hs
            have HXZ := Lib.hid z1
            have hb2 : decide ((b : Int) < 0) = false := decide_eq_false (by omega)
            have hbn' : (b : Int) < n := by omega
            have hbc : (b : Int) ≤ c := by omega
            have hss : s ≤ 256 := by omega
            have hjj : (j : Int) ≤ 8 := by omega
            clear hx hy hs z1 z2 z4 z5 z6 z7 hfy hpj hs256 i1 i2 i3 i4
            obtain ⟨WA, hWA⟩ : ∃ WA, WA = wr.alloc (.cells #[.int .i64 s, .int .i64 j, .bool false] 40) := ⟨_, rfl⟩
            have hWs : WA.heap.size = wr.heap.size + 1 := by rw [hWA]; simp
            have bA : Below w.heap.size w WA := by rw [hWA]; exact hb.alloc hb.size _
            have l0 : WA.cell? ⟨wr.heap.size, 0, none⟩ = some (.int .i64 s) := by rw [hWA]; simp
            have l1 : WA.cell? ⟨wr.heap.size, 1, none⟩ = some (.int .i64 j) := by rw [hWA]; simp
            have HWA := Lib.hid hWA
            have HWs := Lib.hid hWs
            have o0 : OwnY (WA.alloc (.cells #[] 40)) (wr.heap.size + 1) (.slice (some ⟨wr.heap.size + 1, 0, none⟩) 0 0) [] := by
              have := own_noneY WA (wr.heap.size + 1) (by omega)
              rw [hWs] at this
              exact this
            have bl0 : Below (wr.heap.size + 1) WA (WA.alloc (.cells #[] 40)) := (Below.refl _ _).alloc (by omega) _
            have bs3 := (h.below (bA.trans (bl0.mono (by omega)))).take (k := b) (by omega)
            rw [hWA] at o0 bl0 bs3
            have LC : LocalBY WA wr.heap.size ⟨s, j, false⟩ := ⟨l0, l1, hWs⟩
            have HBA := Lib.hid bA
            have hlk : (xs.take b).length ≤ 256 := by rw [List.length_take]; omega
            clear hWA hWs l0 l1 bA
            go_wp2_with (first
              | (at_builtin; refine wpList_appendY rfl (.tmp 74) (.tmp 77) rfl (wr.heap.size + 1) _ [] rfl o0 (some ⟨g, o, none⟩) b c w.heap.size (xs.take b) rfl bs3 (by simp <;> omega) (by simp <;> omega) ?_; intro v3 w3 o3 g3 s3; go_must (rw [← HWA.out] at bl0 g3 o0; have st3 := LC.next bl0 o0 g3 o3; obtain ⟨l30, l31, z3'⟩ := st3.cells; clear g3 s3))
              | (at_builtin; refine wpList_appendY rfl (.tmp 79) (.tmp 84) rfl (wr.heap.size + 1) v3 _ rfl (st3.own.below ((Below.refl _ _).alloc (Nat.le_refl _) _) (Nat.le_refl _)) (some ⟨w3.heap.size, 0, none⟩) 1 1 _ [⟨s, m, true⟩] rfl ((own_oneY w3 s m true 0 (Nat.zero_le _)).reads (allI_one (by omega) (by omega) (by omega) (by omega))) (by simp <;> omega) (by simp <;> omega) ?_; intro v4 w4 o4 g4 s4; go_must (have st4 := st3.more g4 o4; clear g4 s4))
              | fail)
            clear l30 l31 z3' st3 o3 o0 bl0 bs3 c1 c2 c3 o4
            generalize hW0 : wr.heap.size = W0 at *
            go_loopw [13, 14] (fun v i wr2 => ∃ q : Nat, q ≤ j - m ∧ i = .int .i64 ((m + q : Nat) : Int) ∧ TakeStY WA W0 ⟨s, j, false⟩ wr2 v (xs.take b ++ [⟨s, m, true⟩] ++ Bud.halvesY s m q)) (fun _ i _ => j - (intOf i).toNat)
            case atStart => exact ⟨0, Nat.zero_le _, rfl, by simpa [Bud.halvesY_zero] using st4⟩
            case round =>
              clear st4
              obtain ⟨q, hq, rfl, st⟩ := hrel
              obtain ⟨l0, l1, z0⟩ := st.cells
              obtain ⟨wp1, wp2⟩ := wrap_pow (j := m + q) (by omega)
              have hpw := Bud.two_pow_le (j := m + q) (by omega)
              have tb : (2 : Int) ^ (m + q) ≤ 256 := by rw [pow_int]; omega
              have tc : 1 ≤ (2 : Int) ^ (m + q) := by rw [pow_int]; omega
              have tw : IntKind.i64.wrap ((s : Int) + 2 ^ (m + q)) = (s : Int) + 2 ^ (m + q) := IntWalk.i64_in _ (by omega)
              have tj : ((m + q : Nat) : Int) ≤ 8 := by omega
              have tt : ((m : Int) + (q : Int)).toNat = m + q := by omega
              clear hpw
              by_cases hlt2 : m + q < j
              · have hlt3 : ((m + q : Nat) : Int) < (j : Int) := by omega
                go_wp2_with fail
                have ow : OwnY (wr.alloc (.cells #[.int .i64 (s + 2 ^ (m + q)), .int .i64 ((m : Int) + q), .bool false] 40)).drew (W0 + 1) u13 (xs.take b ++ [⟨s, m, true⟩] ++ Bud.halvesY s m q) := World.ownsRow.drew (World.ownsRow.alloc st.own _)
                have rw0 : BS (wr.alloc (.cells #[.int .i64 (s + 2 ^ (m + q)), .int .i64 ((m : Int) + q), .bool false] 40)).drew (wr.heap.size + 1) (some ⟨wr.heap.size, 0, none⟩) 1 [⟨s + 2 ^ (m + q), (m : Int) + q, false⟩] := by
                  have := ((own_oneY wr (s + 2 ^ (m + q)) ((m : Int) + q) false 0 (Nat.zero_le _)).reads (allI_one (by omega) (by omega) (by omega) (by omega))).below (Below.refl _ _).drew
                  simpa using this
                have hln : (xs.take b ++ [(⟨s, m, true⟩ : Bl)] ++ Bud.halvesY s m q).length ≤ 1000 := by simp [Bud.halvesY_len]; omega
                have hnn : (xs.take b ++ [(⟨s, m, true⟩ : Bl)] ++ Bud.halvesY s m q).length + 1 ≤ 1099511627776 := by omega
                have hbz : W0 + 1 ≤ ((wr.alloc (.cells #[.int .i64 (s + 2 ^ (m + q)), .int .i64 ((m : Int) + q), .bool false] 40)).drew).heap.size := by simp; omega
                go_region_law (refine step_appendY rfl (.tmp 93) (.tmp 101) rfl (W0 + 1) u13 _ rfl ow (some ⟨wr.heap.size, 0, none⟩) 1 1 _ _ rfl rw0 hnn hbz ?_; intro v5 w5 o5 g5)
                clear tt tw wp1 wp2
                go_wp2
                go_roundw
                case rel => exact ⟨q + 1, by omega, by go_num, ⟨st.loc, OwnY.cast (by rw [Bud.halvesY_succ]; simp) o5, ((st.below.alloc (by have := st.loc.2.2; omega) _).drew).grown g5 (by have := st.loc.2.2; simp; omega) (fun k hk => (World.ownsRow.lt st.own k hk).1)⟩⟩
                case measure => simp [intOf]; omega
              · obtain rfl : q = j - m := by omega
                have HTK := Lib.hid (show Bud.takeY xs size = xs.take b ++ [(⟨s, m, true⟩ : Bl)] ++ Bud.halvesY s m (j - m) ++ xs.drop (b + 1) by
                  rw [Bud.takeY, HBE.out, HW.out]
                  simp only [List.getD_eq_getElem?_getD, HX.out, Option.getD_some, Bud.takenY, HXS.out, HXZ.out, Int.toNat_natCast])
                have HST := Lib.hid (show Bud.startY xs size = s by
                  rw [Bud.startY, HBE.out]
                  simp only [List.getD_eq_getElem?_getD, HX.out, Option.getD_some, HXS.out])
                have HOK := Lib.hid (show Bud.okY xs size = true by rw [Bud.okY, HBE.out]; rfl)
                have bW : Below w.heap.size w wr := HBA.out.trans (st.below.mono (by omega))
                have hlt3 : decide (((m + (j - m) : Nat) : Int) < (j : Int)) = false := decide_eq_false (by omega)
                have hlt4 : decide ((m + (j - m)) < j) = false := decide_eq_false (by omega)
                clear tt tw wp1 wp2 tb tc
                have u3 : (b : Int) + 1 ≤ n := by omega
                have u6 : (b : Int) + 1 ≤ c := by omega
                have u4 : 0 ≤ (b : Int) + 1 := by omega
                generalize hqq : j - m = q at *
                have HQ := Lib.hid hqq
                clear hqq
                by_cases hcap : c = b + 1
                · obtain rfl : n = b + 1 := by omega
                  subst hcap
                  have HD := Lib.hid (show xs.drop (b + 1) = [] from List.drop_eq_nil_of_le (by rw [HL.out]; omega))
                  have hnn : (xs.take b ++ [(⟨s, m, true⟩ : Bl)] ++ Bud.halvesY s m q).length + 0 ≤ 1099511627776 := by simp [Bud.halvesY_len]; omega
                  have hbz : W0 + 1 ≤ wr.drew.heap.size := by have := st.below.size; have := st.loc.2.2; simp; omega
                  have hWW : w.heap.size ≤ W0 + 1 := by omega
                  have u5 : ((b : Int) + 1).toNat = b + 1 := by omega
                  have u1 : IntKind.i64.wrap ((b : Int) + 1) = (b : Int) + 1 := IntWalk.i64_in _ (by omega)
                  go_wp2_with fail
                  go_region_law (refine step_appendY rfl (.tmp 103) (.tmp 107) rfl (W0 + 1) u13 _ (by simp [Act.eval, Act.put]) (World.ownsRow.drew st.own) (some ⟨g, o, none⟩) 0 0 _ [] (by simp [Act.eval, Act.put]) (BS.none_ _ w.heap.size _) hnn hbz ?_; intro v6 w6 o6 g6; go_must (have st6 : TakeStY WA W0 ⟨s, j, false⟩ w6 v6 _ := ⟨st.loc, o6, st.below.drew.grown g6 hbz (fun k hk => (World.ownsRow.lt st.own k hk).1)⟩; obtain ⟨l60, _, _⟩ := st6.cells))
                  all_goals
                    clear u1 u5
                    go_wp2
                    go_ret3
                    exact GaveY3.of (st6.own.base hWW) (HBA.out.trans (st6.below.mono hWW)) (by rw [HTK.out, HD.out]; try simp) HST.out.symm HOK.out.symm
                · have r0 : BS wr.drew w.heap.size (some ⟨g, o + (b + 1) * 3, none⟩) (n - (b + 1)) (xs.drop (b + 1)) := (h.below bW.drew).drop (by omega)
                  have hnn : (xs.take b ++ [(⟨s, m, true⟩ : Bl)] ++ Bud.halvesY s m q).length + (n - (b + 1)) ≤ 1099511627776 := by simp [Bud.halvesY_len]; omega
                  have hbz : W0 + 1 ≤ wr.drew.heap.size := by have := st.below.size; have := st.loc.2.2; simp; omega
                  have hWW : w.heap.size ≤ W0 + 1 := by omega
                  have u5 : ((b : Int) + 1).toNat = b + 1 := by omega
                  have u1 : IntKind.i64.wrap ((b : Int) + 1) = (b : Int) + 1 := IntWalk.i64_in _ (by omega)
                  go_wp2_with fail
                  go_region_law (refine step_appendY rfl (.tmp 103) (.tmp 107) rfl (W0 + 1) u13 _ (by simp [Act.eval, Act.put]) (World.ownsRow.drew st.own) (some ⟨g, o + (b + 1) * 3, none⟩) (n - (b + 1)) (c - (b + 1)) _ _ (by simp [Act.eval, Act.put]) r0 hnn hbz ?_; intro v6 w6 o6 g6; go_must (have st6 : TakeStY WA W0 ⟨s, j, false⟩ w6 v6 _ := ⟨st.loc, o6, st.below.drew.grown g6 hbz (fun k hk => (World.ownsRow.lt st.own k hk).1)⟩; obtain ⟨l60, _, _⟩ := st6.cells))
                  all_goals
                    clear u1 u5
                    go_wp2
                    go_ret3
                    exact GaveY3.of (st6.own.base hWW) (HBA.out.trans (st6.below.mono hWW)) (by rw [HTK.out]; try simp) HST.out.symm HOK.out.symm
end Go.Proofs.Ythihaclhlmpioaa
