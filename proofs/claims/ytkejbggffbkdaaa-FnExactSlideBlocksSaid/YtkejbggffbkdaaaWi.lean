/- What the model's GiveBlock returns: for every slice of blocks and every number. -/
import Derived.Test.YtkejbggffbkdaaaWh
namespace Go.Proofs.Ytkejbggffbkdaaa
open Go.RowKit

/-- the last of the call's own blocks lies where it should -/
theorem OwnB.last {w : World} {base c m : Nat} {A : Option Addr} {ys : List Bl} {y : Bl} (h : OwnB w base (.slice A m c) ys) (hy : ys.getLast? = some y) :
    ∃ g, A = some ⟨g, 0, none⟩ ∧ base ≤ g ∧ g < w.heap.size ∧ 0 < m ∧ w.cell? ⟨g, (m - 1) * 3 + 1, none⟩ = some (.int .i64 y.z) ∧ w.cell? ⟨g, (m - 1) * 3 + 2, none⟩ = some (.bool y.u) ∧ w.frozen? ⟨g, (m - 1) * 3 + 1, none⟩ = false := by
  obtain ⟨e, _⟩ := h.cap
  subst e
  have hm : 0 < ys.length := by
    rcases Nat.eq_zero_or_pos ys.length with h0 | h0
    · rw [List.eq_nil_of_length_eq_zero h0] at hy
      cases hy
    · exact h0
  obtain ⟨A', c', e, hf⟩ := h.form
  injection e with e1 e2 e3
  subst e1 e3
  obtain ⟨g, rfl, hb, hl⟩ := hf hm
  have hget : ys[ys.length - 1]? = some y := by rw [← List.getLast?_eq_getElem?]; exact hy
  obtain ⟨_, f2, f3⟩ := flat_at ys _ y hget
  exact ⟨g, rfl, hb, hl, hm, (World.ownsRow.cellAt h _ (by omega)).trans f2, (World.ownsRow.cellAt h _ (by omega)).trans f3, World.ownsRow.frozenAt h _⟩

/-- the last block made larger -/
theorem OwnB.grow {w : World} {base g c m : Nat} {ys : List Bl} {y : Bl} {z : Int} (h : OwnB w base (.slice (some ⟨g, 0, none⟩) m c) ys) (hy : ys.getLast? = some y) :
    OwnB (w.setCell ⟨g, (m - 1) * 3 + 1, none⟩ (.int .i64 z)) base (.slice (some ⟨g, 0, none⟩) m c) (ys.dropLast ++ [⟨y.s, z, y.u⟩]) := by
  obtain ⟨e, _⟩ := h.cap
  subst e
  have hsp := Bks.getLast_split hy
  have hst := (World.ownsRow.stored h ((ys.length - 1) * 3 + 1) (.int .i64 z)).1
  have hl : (ys.dropLast ++ [⟨y.s, z, y.u⟩] : List Bl).length = ys.length := by
    rw [hsp]
    simp
  unfold OwnB
  rw [hl]
  have e : (flat ys).set ((ys.length - 1) * 3 + 1) (.int .i64 z) = flat (ys.dropLast ++ [⟨y.s, z, y.u⟩]) := by
    have hlen : ys.length - 1 = ys.dropLast.length := by simp
    rw [hlen]
    generalize ys.dropLast = p at *
    subst hsp
    rw [flat_append, flat_append, List.set_append_right _ _ (by rw [flat_length]; omega)]
    rw [flat_length]
    simp [flat]
  rw [← e]
  exact hst

theorem join_none {b : Bl} : Bks.joinB [] b = [b] := rfl
theorem join_used {out : List Bl} {y b : Bl} (h : out.getLast? = some y) (hu : y.u = true ∨ b.u = true) : Bks.joinB out b = out ++ [b] := by
  simp only [Bks.joinB, h]
  rw [if_neg]
  rintro ⟨h1, h2⟩
  rcases hu with e | e <;> simp_all
theorem join_free {out : List Bl} {y b : Bl} (h : out.getLast? = some y) (h1 : y.u = false) (h2 : b.u = false) : Bks.joinB out b = out.dropLast ++ [⟨y.s, y.z + b.z, y.u⟩] := by
  simp only [Bks.joinB, h]
  rw [if_pos ⟨h1, h2⟩]

theorem giveTo_succ {xs : List Bl} {num k : Nat} {x : Bl} (h : xs[k]? = some x) : Bks.giveTo xs num (k + 1) = Bks.joinB (Bks.giveTo xs num k) (Bks.giveOf num k x) := by
  simp [Bks.giveTo, h]

theorem giveOf_cases (k0 k : Nat) (x : Bl) : (k = k0 ∧ (Bks.giveOf k0 k x).u = false) ∨ (k ≠ k0 ∧ x.u = true ∧ (Bks.giveOf k0 k x).u = true) ∨ (k ≠ k0 ∧ x.u = false ∧ (Bks.giveOf k0 k x).u = false) := by
  unfold Bks.giveOf
  by_cases hk : k = k0
  · left
    simp [hk]
  · right
    cases hu : x.u <;> simp [hk, hu]

/-- a local block and a slice of it have been made beside the call's own row -/
theorem app_ready {wr : World} {base : Nat} {v : Value} {ys : List Bl} {x : Bl} (h : OwnB wr base v ys) (h1 : -9223372036854775808 ≤ x.s) (h2 : x.s ≤ 9223372036854775807) (h3 : -9223372036854775808 ≤ x.z) (h4 : x.z ≤ 9223372036854775807) :
    OwnB ((wr.alloc (.cells #[.int .i64 x.s, .int .i64 x.z, .bool x.u] 32)).alloc (.cells #[.int .i64 x.s, .int .i64 x.z, .bool x.u] 32)) base v ys ∧
    BS ((wr.alloc (.cells #[.int .i64 x.s, .int .i64 x.z, .bool x.u] 32)).alloc (.cells #[.int .i64 x.s, .int .i64 x.z, .bool x.u] 32)) (wr.heap.size + 2) (some ⟨wr.heap.size + 1, 0, none⟩) 1 [x] := by
  refine ⟨(World.ownsRow.alloc (World.ownsRow.alloc h _) _), ?_⟩
  have := (own_one (wr.alloc (.cells #[.int .i64 x.s, .int .i64 x.z, .bool x.u] 32)) x.s x.z x.u 0 (Nat.zero_le _)).reads (allI_one h1 h2 h3 h4)
  simpa using this

set_option maxHeartbeats 4000000 in
theorem mGiveBlock_any (A : Option Addr) (n c : Nat) (xs : List Bl) (t num : Int) (w : World) (h : BS w w.heap.size A n xs) (hn : n ≤ 1099511627776) :
    Calls Try.prog 47 #[.slice A n c, .int .i64 t, .int .i64 num] w (GaveB2 w (if Bks.validB xs t = true then Bks.giveB xs num else []) (Bks.validB xs t && Bks.canGive xs num)) := by
  cases hv : Bks.validB xs t
  · have HV := Lib.hid hv
    clear hv
    go_enter Try.func47, Try.ntmps47
    go_wp2_with fail
    refine (mBlocksValid_any _ _ _ xs _ _ h hn).mono ?_
    rw [HV.out]
    rintro e w1 ⟨rfl, b1⟩
    go_wp2_with fail
    go_ret2
    exact ⟨_, rfl, own_none _ _ b1.size, b1.alloc b1.size _⟩
  · have HV := Lib.hid hv
    have hl := Bks.valid_len hv
    have hlen := h.1
    clear hv
    go_enter Try.func47, Try.ntmps47
    go_wp2_with fail
    refine (mBlocksValid_any _ _ _ xs _ _ h hn).mono ?_
    rw [HV.out]
    rintro e w1 ⟨rfl, b1⟩
    go_wp2_with (at_builtin; refine wpList_appendB rfl (.tmp 18) (.tmp 19) rfl w.heap.size _ [] rfl (own_none _ _ b1.size) A n c w.heap.size xs rfl (h.below (b1.alloc b1.size _)) (by simp; omega) (by have := b1.size; simp; omega) ?_; intro v2 w2 o2 g2 s2)
    simp only [List.nil_append] at o2
    have bb2 : Below w.heap.size w w2 := (b1.alloc b1.size _).grown g2 (by have := b1.size; simp; omega) (fun k hk => by have e : w1.heap.size = k := Option.some.inj hk; have := b1.size; omega)
    clear g2 s2
    have HL := Lib.hid hl
    clear hl
    by_cases hr : 0 ≤ num ∧ num ≤ (n : Int) - 1
    · obtain ⟨k0, rfl⟩ := Int.eq_ofNat_of_zero_le hr.1
      have hk0 : k0 < n := by omega
      have hd : (decide ((0 : Int) ≤ (k0 : Int)) && decide ((k0 : Int) ≤ (n : Int) - 1)) = true := by simp; omega
      obtain ⟨g, o, x, rfl, hg, hx, _, _, c1, c2, c3⟩ := (h.below bb2).at_ hk0
      have hcan : Bks.canGive xs k0 = x.u := by simp [Bks.canGive, hx]
      have HC := Lib.hid hcan
      clear hx hcan hr c1 c2
      by_cases hu : x.u = true
      · rw [hu] at c3
        have HH := Lib.hid h
        have HS := Lib.hid (show Bks.giveB xs k0 = Bks.giveTo xs k0 xs.length ∧ Bks.canGive xs k0 = true by rw [Bks.giveB, HC.out, hu]; simp)
        clear hu HC
        go_wp2_with fail
        refine (l1In_any _ _ _ _).mono ?_
        rw [hd]
        rintro e w' ⟨rfl, rfl⟩
        go_wp2_with fail
        clear c3
        have o0 := own_none w2 w2.heap.size (Nat.le_refl _)
        have bl0 : Below w2.heap.size w2 (w2.alloc (.cells #[] 32)) := (Below.refl _ _).alloc (Nat.le_refl _) _
        go_loopw [9, 10] (fun v i wr => ∃ k : Nat, k ≤ n ∧ i = .int .i64 k ∧ OwnB wr w2.heap.size v (Bks.giveTo xs k0 k) ∧ Below w2.heap.size w2 wr) (fun _ i _ => n - (intOf i).toNat)
        case atStart => exact ⟨0, Nat.zero_le _, rfl, o0, bl0⟩
        case round =>
          obtain ⟨k, hk, rfl, hown, hb⟩ := hrel
          by_cases hlt : k < n
          · obtain ⟨g', o', x', e', hg', hx', ⟨i1, i2⟩, ⟨i3, i4⟩, c1, c2, c3⟩ := (HH.out.below (bb2.trans (hb.mono bb2.size))).at_ hlt
            injection e' with e'
            injection e' with e1 e2
            subst e1 e2
            obtain ⟨z0, z1, z2, z3, z4, z5, z6⟩ := Bks.valid_at HV.out hx'
            obtain ⟨t1, t2⟩ := Bks.giveTo_chain HV.out k0 k (by omega)
            have tl := Bks.chain_total t1
            have tm := Bks.chain_le t1
            have y0 : 0 ≤ x'.s := by omega
            have y1 : x'.s ≤ 256 := by omega
            have hgr : g < wr.heap.size := by have := hb.size; have := bb2.size; omega
            have HG := Lib.hid (giveTo_succ (num := k0) hx')
            obtain ⟨u', hu'⟩ : ∃ u', u' = (Bks.giveOf k0 k x').u := ⟨_, rfl⟩
            have hgo : Bks.giveOf k0 k x' = ⟨x'.s, x'.z, u'⟩ := by rw [hu']; unfold Bks.giveOf; split <;> rfl
            rw [hgo] at HG
            obtain ⟨C, cc, rfl, _⟩ := hown.form
            generalize hys : Bks.giveTo xs k0 k = ys at *
            have hsm : ys.length ≤ 256 := by omega
            have hwr := hb.size
            have W2 := Lib.hid (fun u => app_ready (x := ⟨x'.s, x'.z, u⟩) (wr := wr) hown (by omega) (by omega) (by omega) (by omega))
            have HU := Lib.hid hu'
            have HY := Lib.hid hys
            have hsz : w2.heap.size ≤ wr.heap.size + 1 + 1 := by omega
            have TM := Lib.hid tm
            have HT2 := Lib.hid t2
            clear hgo hu' hys t1 tm t2 z0 z5 hx'
            cases hy : ys.getLast? with
            | none =>
              have hy0 : ys = [] := by simpa using hy
              subst hy0
              have HY := Lib.hid hy
              clear hy
              rcases giveOf_cases k0 k x' with ⟨ek, eu⟩ | ⟨ek, ex, eu⟩ | ⟨ek, ex, eu⟩
              · have hke : ((k : Int) == (k0 : Int)) = true := by rw [beq_iff_eq]; omega
                have HUU := Lib.hid (HU.out.trans eu)
                clear ek eu
                have HJ := Lib.hid (show Bks.joinB [] ⟨x'.s, x'.z, false⟩ = [] ++ [⟨x'.s, x'.z, false⟩] from rfl)
                go_wp2_with (at_builtin; refine wpList_appendB rfl (.tmp 81) (.tmp 83) rfl w2.heap.size (.slice C 0 cc) [] rfl (W2.out false).1 (some ⟨wr.heap.size + 1, 0, none⟩) 1 1 _ [⟨x'.s, x'.z, false⟩] rfl (W2.out false).2 (by simp <;> omega) (by simpa using hsz) ?_; intro v3 w3 o3 g3 s3)
                go_roundw
                case rel => exact ⟨k + 1, by omega, by go_num, OwnB.cast (by rw [HG.out, HUU.out, HJ.out]) o3, ((hb.alloc hb.size _).alloc (by simp; omega) _).grown g3 (by simp; omega) (fun kk hk => (World.ownsRow.lt hown kk hk).1)⟩
                case measure => simp [intOf]; omega
              · have hke : ((k : Int) == (k0 : Int)) = false := by rw [beq_eq_false_iff_ne]; omega
                rw [ex] at c3
                have HUU := Lib.hid (HU.out.trans eu)
                clear ek eu ex
                have HJ := Lib.hid (show Bks.joinB [] ⟨x'.s, x'.z, true⟩ = [] ++ [⟨x'.s, x'.z, true⟩] from rfl)
                go_wp2_with (at_builtin; refine wpList_appendB rfl (.tmp 81) (.tmp 83) rfl w2.heap.size (.slice C 0 cc) [] rfl (W2.out true).1 (some ⟨wr.heap.size + 1, 0, none⟩) 1 1 _ [⟨x'.s, x'.z, true⟩] rfl (W2.out true).2 (by simp <;> omega) (by simpa using hsz) ?_; intro v3 w3 o3 g3 s3)
                go_roundw
                case rel => exact ⟨k + 1, by omega, by go_num, OwnB.cast (by rw [HG.out, HUU.out, HJ.out]) o3, ((hb.alloc hb.size _).alloc (by simp; omega) _).grown g3 (by simp; omega) (fun kk hk => (World.ownsRow.lt hown kk hk).1)⟩
                case measure => simp [intOf]; omega
              · have hke : ((k : Int) == (k0 : Int)) = false := by rw [beq_eq_false_iff_ne]; omega
                rw [ex] at c3
                have HUU := Lib.hid (HU.out.trans eu)
                clear ek eu ex
                have HJ := Lib.hid (show Bks.joinB [] ⟨x'.s, x'.z, false⟩ = [] ++ [⟨x'.s, x'.z, false⟩] from rfl)
                go_wp2_with (at_builtin; refine wpList_appendB rfl (.tmp 81) (.tmp 83) rfl w2.heap.size (.slice C 0 cc) [] rfl (W2.out false).1 (some ⟨wr.heap.size + 1, 0, none⟩) 1 1 _ [⟨x'.s, x'.z, false⟩] rfl (W2.out false).2 (by simp <;> omega) (by simpa using hsz) ?_; intro v3 w3 o3 g3 s3)
                go_roundw
                case rel => exact ⟨k + 1, by omega, by go_num, OwnB.cast (by rw [HG.out, HUU.out, HJ.out]) o3, ((hb.alloc hb.size _).alloc (by simp; omega) _).grown g3 (by simp; omega) (fun kk hk => (World.ownsRow.lt hown kk hk).1)⟩
                case measure => simp [intOf]; omega
            | some y =>
              obtain ⟨gg, rfl, q1, q2, q3, q4, q5, q6⟩ := hown.last hy
              obtain ⟨m1, m2, m3⟩ := TM.out y (List.mem_of_getLast? hy)
              rw [HT2.out] at m3
              have n1 : (0 : Int) ≤ (ys.length : Int) - 1 := by omega
              have n2 : ys.length - 1 < ys.length := by omega
              have HY := Lib.hid hy
              clear hy
              cases hyu : y.u
              all_goals
                rw [hyu] at q5
                have HYU := Lib.hid hyu
                clear hyu
              · rcases giveOf_cases k0 k x' with ⟨ek, eu⟩ | ⟨ek, ex, eu⟩ | ⟨ek, ex, eu⟩
                · have hke : ((k : Int) == (k0 : Int)) = true := by rw [beq_iff_eq]; omega
                  have HUU := Lib.hid (HU.out.trans eu)
                  clear ek eu
                  have HJ := Lib.hid (join_free (b := ⟨x'.s, x'.z, false⟩) HY.out HYU.out rfl)
                  go_wp2_with fail
                  go_region
                  go_wp2
                  go_roundw
                  case rel => exact ⟨k + 1, by omega, by go_num, OwnB.cast (by rw [HG.out, HUU.out, HJ.out]) (World.ownsRow.drew (World.ownsRow.alloc (OwnB.grow hown HY.out) _)), ((hb.setCell q1 _).alloc (by simpa [World.setCell] using hb.size) _).drew⟩
                  case measure => simp [intOf]; omega
                · have hke : ((k : Int) == (k0 : Int)) = false := by rw [beq_eq_false_iff_ne]; omega
                  rw [ex] at c3
                  have HUU := Lib.hid (HU.out.trans eu)
                  clear ek eu ex
                  have HJ := Lib.hid (join_used (b := ⟨x'.s, x'.z, true⟩) HY.out (.inr rfl))
                  go_wp2_with (at_builtin; refine wpList_appendB rfl (.tmp 81) (.tmp 83) rfl w2.heap.size (.slice (some ⟨gg, 0, none⟩) ys.length cc) ys rfl (W2.out true).1 (some ⟨wr.heap.size + 1, 0, none⟩) 1 1 _ [⟨x'.s, x'.z, true⟩] rfl (W2.out true).2 (by simp <;> omega) (by simpa using hsz) ?_; intro v3 w3 o3 g3 s3)
                  go_roundw
                  case rel => exact ⟨k + 1, by omega, by go_num, OwnB.cast (by rw [HG.out, HUU.out, HJ.out]) o3, ((hb.alloc hb.size _).alloc (by simp; omega) _).grown g3 (by simp; omega) (fun kk hk => (World.ownsRow.lt hown kk hk).1)⟩
                  case measure => simp [intOf]; omega
                · have hke : ((k : Int) == (k0 : Int)) = false := by rw [beq_eq_false_iff_ne]; omega
                  rw [ex] at c3
                  have HUU := Lib.hid (HU.out.trans eu)
                  clear ek eu ex
                  have HJ := Lib.hid (join_free (b := ⟨x'.s, x'.z, false⟩) HY.out HYU.out rfl)
                  go_wp2_with fail
                  go_region
                  go_wp2
                  go_roundw
                  case rel => exact ⟨k + 1, by omega, by go_num, OwnB.cast (by rw [HG.out, HUU.out, HJ.out]) (World.ownsRow.drew (World.ownsRow.alloc (OwnB.grow hown HY.out) _)), ((hb.setCell q1 _).alloc (by simpa [World.setCell] using hb.size) _).drew⟩
                  case measure => simp [intOf]; omega
              · rcases giveOf_cases k0 k x' with ⟨ek, eu⟩ | ⟨ek, ex, eu⟩ | ⟨ek, ex, eu⟩
                · have hke : ((k : Int) == (k0 : Int)) = true := by rw [beq_iff_eq]; omega
                  have HUU := Lib.hid (HU.out.trans eu)
                  clear ek eu
                  have HJ := Lib.hid (join_used (b := ⟨x'.s, x'.z, false⟩) HY.out (.inl HYU.out))
                  go_wp2_with (at_builtin; refine wpList_appendB rfl (.tmp 81) (.tmp 83) rfl w2.heap.size (.slice (some ⟨gg, 0, none⟩) ys.length cc) ys rfl (W2.out false).1 (some ⟨wr.heap.size + 1, 0, none⟩) 1 1 _ [⟨x'.s, x'.z, false⟩] rfl (W2.out false).2 (by simp <;> omega) (by simpa using hsz) ?_; intro v3 w3 o3 g3 s3)
                  go_roundw
                  case rel => exact ⟨k + 1, by omega, by go_num, OwnB.cast (by rw [HG.out, HUU.out, HJ.out]) o3, ((hb.alloc hb.size _).alloc (by simp; omega) _).grown g3 (by simp; omega) (fun kk hk => (World.ownsRow.lt hown kk hk).1)⟩
                  case measure => simp [intOf]; omega
                · have hke : ((k : Int) == (k0 : Int)) = false := by rw [beq_eq_false_iff_ne]; omega
                  rw [ex] at c3
                  have HUU := Lib.hid (HU.out.trans eu)
                  clear ek eu ex
                  have HJ := Lib.hid (join_used (b := ⟨x'.s, x'.z, true⟩) HY.out (.inl HYU.out))
                  go_wp2_with (at_builtin; refine wpList_appendB rfl (.tmp 81) (.tmp 83) rfl w2.heap.size (.slice (some ⟨gg, 0, none⟩) ys.length cc) ys rfl (W2.out true).1 (some ⟨wr.heap.size + 1, 0, none⟩) 1 1 _ [⟨x'.s, x'.z, true⟩] rfl (W2.out true).2 (by simp <;> omega) (by simpa using hsz) ?_; intro v3 w3 o3 g3 s3)
                  go_roundw
                  case rel => exact ⟨k + 1, by omega, by go_num, OwnB.cast (by rw [HG.out, HUU.out, HJ.out]) o3, ((hb.alloc hb.size _).alloc (by simp; omega) _).grown g3 (by simp; omega) (fun kk hk => (World.ownsRow.lt hown kk hk).1)⟩
                  case measure => simp [intOf]; omega
                · have hke : ((k : Int) == (k0 : Int)) = false := by rw [beq_eq_false_iff_ne]; omega
                  rw [ex] at c3
                  have HUU := Lib.hid (HU.out.trans eu)
                  clear ek eu ex
                  have HJ := Lib.hid (join_used (b := ⟨x'.s, x'.z, false⟩) HY.out (.inl HYU.out))
                  go_wp2_with (at_builtin; refine wpList_appendB rfl (.tmp 81) (.tmp 83) rfl w2.heap.size (.slice (some ⟨gg, 0, none⟩) ys.length cc) ys rfl (W2.out false).1 (some ⟨wr.heap.size + 1, 0, none⟩) 1 1 _ [⟨x'.s, x'.z, false⟩] rfl (W2.out false).2 (by simp <;> omega) (by simpa using hsz) ?_; intro v3 w3 o3 g3 s3)
                  go_roundw
                  case rel => exact ⟨k + 1, by omega, by go_num, OwnB.cast (by rw [HG.out, HUU.out, HJ.out]) o3, ((hb.alloc hb.size _).alloc (by simp; omega) _).grown g3 (by simp; omega) (fun kk hk => (World.ownsRow.lt hown kk hk).1)⟩
                  case measure => simp [intOf]; omega
          · go_wp2
            go_ret2
            have e : k = n := by omega
            refine ⟨_, by rw [HS.out.2]; rfl, ?_, bb2.trans (hb.mono bb2.size)⟩
            rw [HS.out.1, hlen, ← e]
            exact hown.base bb2.size
      · have hu' : x.u = false := by simpa using hu
        rw [hu'] at c3
        have HS := Lib.hid (show Bks.giveB xs k0 = xs ∧ Bks.canGive xs k0 = false by rw [Bks.giveB, HC.out, hu']; simp)
        clear hu hu'
        go_wp2_with (go_at_call 41; refine (l1In_any _ _ _ _).mono ?_; rw [hd]; rintro e w' ⟨rfl, rfl⟩)
        go_ret2
        exact ⟨_, by rw [HS.out.2]; rfl, by rw [HS.out.1]; exact o2, bb2⟩
    · have hd : (decide ((0 : Int) ≤ num) && decide (num ≤ (n : Int) - 1)) = false := by simpa using hr
      have HS := Lib.hid (show Bks.giveB xs num = xs ∧ Bks.canGive xs num = false by
        have : Bks.canGive xs num = false := by
          unfold Bks.canGive
          by_cases h0 : 0 ≤ num
          · rw [List.getElem?_eq_none (by omega)]
            simp
          · simp [h0]
        rw [Bks.giveB, this]
        simp)
      clear hr
      go_wp2_with (go_at_call 41; refine (l1In_any _ _ _ _).mono ?_; rw [hd]; rintro e w' ⟨rfl, rfl⟩)
      go_ret2
      exact ⟨_, by rw [HS.out.2]; rfl, by rw [HS.out.1]; exact o2, bb2⟩
end Go.Proofs.Ytkejbggffbkdaaa
