/- What the model's BuddyGive returns: for every slice of buddies and all numbers. -/
import Derived.Test.YthihaclhlmpioaaBud6
import Derived.Test.YthihaclhlmpioaaYe
import Derived.Test.YthihaclhlmpioaaZf
namespace Go.Proofs.Ythihaclhlmpioaa
open Go.RowKit

theorem GaveY2.of_ {w w' : World} {v : Value} {ys zs : List Bl} {ok ok' : Bool} (ho : OwnY w' w.heap.size v ys) (hb : Below w.heap.size w w') (e1 : ys = zs) (e3 : ok = ok') : GaveY2 w zs ok' (.returned (.tuple #[v, .bool ok])) w' := by
  subst e1 e3
  exact ⟨v, rfl, ho, hb⟩

theorem flat_set_u : ∀ (xs : List Bl) (k : Nat) (x : Bl) (u : Bool), xs[k]? = some x → (flat xs).set (k * 3 + 2) (.bool u) = flat (xs.set k ⟨x.s, x.z, u⟩)
  | [], k, x, u, h => by simp at h
  | y :: ys, 0, x, u, h => by
    simp at h
    subst h
    simp [flat]
  | y :: ys, k + 1, x, u, h => by
    have := flat_set_u ys k x u (by simpa using h)
    have e : (k + 1) * 3 + 2 = k * 3 + 2 + 3 := by omega
    rw [e]
    simpa [flat] using this
theorem OwnY.put_u {w : World} {base g c j : Nat} {xs : List Bl} {x : Bl} {u : Bool} (h : OwnY w base (.slice (some ⟨g, 0, none⟩) xs.length c) xs) (hx : xs[j]? = some x) :
    OwnY (w.setCell ⟨g, j * 3 + 2, none⟩ (.bool u)) base (.slice (some ⟨g, 0, none⟩) xs.length c) (xs.set j ⟨x.s, x.z, u⟩) := by
  have := (World.ownsRow.stored h (j * 3 + 2) (.bool u)).1
  unfold OwnY
  rw [List.length_set, ← flat_set_u xs j x u hx]
  exact this

/-- an append onto the call's own buddies, as one operation -/
theorem app_stepY {w : World} {o : Oper} {a : Act} {K : Act → World → Prop} {Q : Exit → Act → World → Prop} (s x : Operand)
    (ho : o.op = .call { callee := .builtin .append, args := #[s, x], argTypes := #[27, 27] })
    (base : Nat) (v : Value) (xs : List Bl) (hs : a.eval s = v) (hown : OwnY w base v xs) (A : Option Addr) (m c B : Nat) (ys : List Bl) (hx : a.eval x = .slice A m c) (hr : BS w B A m ys)
    (hn : xs.length + m ≤ 1099511627776) (hbase : base ≤ w.heap.size)
    (h : ∀ v' w', OwnY w' base v' (xs ++ ys) → w.grownBy w' v.ownBlock → (v'.ownBlock = v.ownBlock ∨ v'.ownBlock = some w.heap.size) → K (a.put o.dst v') w') : Oper.wp Try.prog o a w K Q := by
  obtain ⟨v', w', hrun, h2, h3, h4⟩ := run_appendY w base v xs hown A m c B ys hr hn hbase o.type
  unfold Oper.wp execOp
  simp only [ho, resolve, invoke, builtin, Sem.run_bind, Sem.run_pure, Result.andThen_ok, List.map_toArray, List.map_cons, List.map_nil, hs, hx, hrun]
  exact h v' w' h2 h3 h4

namespace Bud
/-- numbers of buddies are small -/
def OkL (out : List Bl) : Prop := ∀ (k : Nat) (b : Bl), out[k]? = some b → ∃ s j : Nat, b.s = s ∧ b.z = j ∧ s ≤ 256 ∧ j ≤ 8
theorem OkL.all {out : List Bl} (h : OkL out) : AllI out := by
  intro k b hb
  obtain ⟨s, j, e1, e2, e3, e4⟩ := h k b hb
  exact ⟨⟨by omega, by omega⟩, ⟨by omega, by omega⟩⟩
theorem okL_of_valid {xs : List Bl} {p : Int} (hv : validY xs p = true) : OkL xs := by
  intro k b hb
  obtain ⟨j, e1, e2, e3, e4, e5, _, _⟩ := validY_at hv hb
  have := Nat.two_pow_pos j
  exact ⟨_, j, e4, e1, by omega, e3⟩
theorem OkL.set {out : List Bl} (h : OkL out) {k : Nat} {x : Bl} (hx : out[k]? = some x) (u : Bool) : OkL (out.set k ⟨x.s, x.z, u⟩) := by
  intro i b hb
  rw [List.getElem?_set] at hb
  split at hb
  · split at hb
    · injection hb with hb
      subst hb
      exact h k x hx
    · cases hb
  · exact h i b hb
theorem lowG_le (b : Bl) (q : Nat) : lowG b q ≤ q ∧ (lowG b q = q ∨ lowG b q = (q : Int) - 1) := by
  unfold lowG
  split
  · exact ⟨by omega, .inr rfl⟩
  · exact ⟨Int.le_refl _, .inl rfl⟩
/-- what a join of the numbers low and low + 1 leaves -/
theorem join_facts {out : List Bl} {m : Nat} {x : Bl} (h : OkL out) (hx : out[m]? = some x) (hm : m + 1 < out.length) (hz : x.z < 8) :
    OkL (joinAt out m) ∧ joinAt out m = out.take m ++ [⟨x.s, x.z + 1, false⟩] ++ out.drop (m + 2) ∧ (joinAt out m).length = out.length - 1 ∧ (joinAt out m)[m]? = some ⟨x.s, x.z + 1, false⟩ := by
  have e : joinAt out m = out.take m ++ [⟨x.s, x.z + 1, false⟩] ++ out.drop (m + 2) := by
    unfold joinAt
    simp only [List.getD_eq_getElem?_getD, hx, Option.getD_some]
  refine ⟨?_, e, ?_, ?_⟩
  · rw [e]
    intro k b hb
    have hmem := List.mem_of_getElem? hb
    rcases List.mem_append.1 hmem with h1 | h1
    · rcases List.mem_append.1 h1 with h2 | h2
      · obtain ⟨i, hi⟩ := List.mem_iff_getElem?.1 (List.mem_of_mem_take h2)
        exact h i b hi
      · simp at h2
        subst h2
        obtain ⟨s, j, e1, e2, e3, e4⟩ := h m x hx
        exact ⟨s, j + 1, e1, by simp only; omega, e3, by omega⟩
    · obtain ⟨i, hi⟩ := List.mem_iff_getElem?.1 (List.mem_of_mem_drop h1)
      exact h i b hi
  · rw [e]
    simp
    omega
  · rw [e, List.append_assoc, List.getElem?_append_right (by rw [List.length_take]; omega), List.length_take, Nat.min_eq_left (by omega)]
    simp
theorem jstep_neg {p : Int} {out : List Bl} {q : Nat} {y : Bl} (hy : out[q]? = some y) (hl : lowG y q < 0) : jstep p out q = none := by
  unfold jstep
  rw [hy]
  simp only
  rw [if_neg (by omega)]
theorem jstep_len {p : Int} {out : List Bl} {q m : Nat} {y : Bl} (hy : out[q]? = some y) (hl : lowG y q = m) (hm : out.length ≤ m + 1) : jstep p out q = none := by
  unfold jstep
  rw [hy]
  simp only [hl, Int.toNat_natCast]
  rw [List.getElem?_eq_none hm]
  split
  · cases out[m]? <;> rfl
  · rfl
theorem jstep_xy {p : Int} {out : List Bl} {q m : Nat} {y x x2 : Bl} (hy : out[q]? = some y) (hl : lowG y q = m) (hz : y.z < p) (hx : out[m]? = some x) (hx2 : out[m + 1]? = some x2) : jstep p out q = if x.u = false ∧ x2.u = false ∧ x.z = x2.z then some m else none := by
  unfold jstep
  rw [hy]
  simp only [hl, Int.toNat_natCast, hx, hx2]
  rw [if_pos ⟨hz, by omega⟩]
theorem loop_none {p : Int} {out : List Bl} {q : Nat} (h : jstep p out q = none) : ∀ d, loopG p d out q = out
  | 0 => rfl
  | d + 1 => by rw [loopG, h]
theorem loop_some {p : Int} {out : List Bl} {q m : Nat} (h : jstep p out q = some m) (d : Nat) : loopG p (d + 1) out q = loopG p d (joinAt out m) m := by rw [loopG, h]
end Bud

def sliceLen : Value → Nat
  | .slice _ n _ => n
  | _ => 0

set_option maxRecDepth 100000 in
set_option maxHeartbeats 8000000 in
theorem mBuddyGive_any (A : Option Addr) (n c : Nat) (xs : List Bl) (p a : Int) (w : World) (h : BS w w.heap.size A n xs) (hn : n ≤ 1099511627776) :
    Calls Try.prog 29 #[.slice A n c, .int .i64 p, .int .i64 a] w (GaveY2 w (if Bud.validY xs p = true then Bud.giveY xs p a else []) (Bud.validY xs p && Bud.okG xs a)) := by
  have HL := Lib.hid h.1
  cases hv : Bud.validY xs p
  · have HV := Lib.hid hv
    clear hv
    go_enter Try.func29, Try.ntmps29
    go_wp2_with fail
    refine (mBuddiesValid_any _ _ _ xs _ _ h hn).mono ?_
    rw [HV.out]
    rintro e w1 ⟨rfl, b1⟩
    go_wp2_with fail
    go_ret2
    exact GaveY2.of_ (own_noneY _ _ b1.size) (b1.alloc b1.size _) rfl rfl
  · rw [if_pos rfl, Bool.true_and]
    have HV := Lib.hid hv
    have hl := Bud.validY_len hv
    have hn5 : n ≤ 256 := by have := h.1; omega
    obtain ⟨P, rfl⟩ := Int.eq_ofNat_of_zero_le hl.2.2.1
    have hP8 : P ≤ 8 := by omega
    have HOKL := Lib.hid (Bud.okL_of_valid hv)
    clear hv hl
    go_enter Try.func29, Try.ntmps29
    go_wp2_with fail
    refine (mBuddiesValid_any _ _ _ xs _ _ h hn).mono ?_
    rw [HV.out]
    rintro e w1 ⟨rfl, b1⟩
    have o0 := own_noneY w1 w.heap.size b1.size
    have r0 := h.below (b1.alloc b1.size (.cells #[] 40))
    have hs1 := b1.size
    go_wp2_with (at_builtin; refine wpList_appendY rfl (.tmp 19) (.tmp 20) rfl w.heap.size _ [] rfl o0 A n c w.heap.size xs rfl r0 (by simp <;> omega) (by simp; omega) ?_; intro v2 w2 o2 g2 s2)
    have bb2 : Below w.heap.size w w2 := (b1.alloc b1.size _).grown g2 (by simp; omega) (fun k hk => (World.ownsRow.lt o0 k hk).1)
    clear g2 s2 o0 r0 b1 hs1
    rw [List.nil_append] at o2
    obtain ⟨A2, c2, rfl, hA2⟩ := o2.form
    have HLN := Lib.hid HL.out
    rw [HL.out] at o2 hA2 ⊢
    have R2 := o2.reads HOKL.out.all
    go_loop [9, 10] (fun t i => ∃ k : Nat, k ≤ n ∧ i = .int .i64 k ∧ t = .int .i64 (bestI (Bud.lastTo xs a k))) (fun _ i => n - (intOf i).toNat)
    case atStart => exact ⟨0, Nat.zero_le _, rfl, rfl⟩
    case round =>
      obtain ⟨k, hk, rfl, rfl⟩ := hrel
      by_cases hlt : k < n
      · obtain ⟨bv, hbv⟩ : ∃ bv, bestI (Bud.lastTo xs a k) = bv := ⟨_, rfl⟩
        rw [hbv]
        have HBV := Lib.hid hbv
        clear hbv
        obtain ⟨g, o, x, rfl, hg, hx, _, _, c1, c2', c3⟩ := R2.at_ hlt
        have HX := Lib.hid hx
        have hlt' : (k : Int) < n := by omega
        clear hx
        by_cases hs : x.s = a
        · have hse : (x.s == a) = true := by rw [beq_iff_eq]; exact hs
          cases hu : x.u
          · rw [hu] at c3
            have HN := Lib.hid (show Bud.lastTo xs a (k + 1) = Bud.lastTo xs a k by rw [Bud.lastTo, HX.out]; simp [hu])
            clear hs hu
            go_wp2
            go_round
            case rel => exact ⟨k + 1, by omega, by go_num, by rw [HN.out, HBV.out]⟩
            case measure => simp [intOf]; omega
          · rw [hu] at c3
            have HN := Lib.hid (show Bud.lastTo xs a (k + 1) = some k by rw [Bud.lastTo, HX.out]; simp [hu, hs])
            clear hs hu
            go_wp2
            go_round
            case rel => exact ⟨k + 1, by omega, by go_num, by rw [HN.out]; rfl⟩
            case measure => simp [intOf]; omega
        · have hse : (x.s == a) = false := by rw [beq_eq_false_iff_ne]; exact hs
          have HN := Lib.hid (show Bud.lastTo xs a (k + 1) = Bud.lastTo xs a k by rw [Bud.lastTo, HX.out]; simp [hs])
          clear hs
          go_wp2
          go_round
          case rel => exact ⟨k + 1, by omega, by go_num, by rw [HN.out, HBV.out]⟩
          case measure => simp [intOf]; omega
      · have HK := Lib.hid (show k = n by omega)
        have hsp := (Bud.lastTo_spec xs a k).2
        obtain ⟨B, hB⟩ : ∃ B, Bud.lastTo xs a k = B := ⟨_, rfl⟩
        rw [hB] at hsp ⊢
        have HBE := Lib.hid (show Bud.lastTo xs a xs.length = B by rw [HL.out, ← HK.out]; exact hB)
        clear hB
        cases B with
        | none =>
          have hb0 : bestI none = -1 := rfl
          rw [hb0]
          go_wp2
          go_ret2
          exact GaveY2.of_ o2 bb2 (by rw [Bud.giveY, HBE.out]) (by rw [Bud.okG, HBE.out]; rfl)
        | some b =>
          have hb0 : bestI (some b) = (b : Int) := rfl
          rw [hb0]
          clear hb0
          have hbd1 : decide ((b : Int) < 0) = false := decide_eq_false (by omega)
          have hbd2 : decide (b < 0) = false := decide_eq_false (by omega)
          obtain ⟨hbk, x, hx, hxs, hxu⟩ := hsp b rfl
          have hbn : b < n := by omega
          obtain ⟨gv, rfl, hgb, hgl⟩ := hA2 (by omega)
          have HOKG := Lib.hid (show Bud.okG xs a = true by rw [Bud.okG, HBE.out]; rfl)
          obtain ⟨xsn, xz, y1, y2, y3, y4⟩ := HOKL.out b x hx
          have HGV := Lib.hid (show Bud.giveY xs P a = Bud.loopG P (P - xz) (xs.set b ⟨x.s, x.z, false⟩) b by
            rw [Bud.giveY, HBE.out]
            simp only [List.getD_eq_getElem?_getD, hx, Option.getD_some, y2, Int.toNat_natCast])
          have hob : OwnY w2 w.heap.size (.slice (some ⟨gv, 0, none⟩) xs.length c2) xs := by rw [HL.out]; exact o2
          have o3 := hob.put_u hx (u := false)
          have okl3 := HOKL.out.set hx false
          have hset : (xs.set b ⟨x.s, x.z, false⟩).length = n := by rw [List.length_set, HL.out]
          have hget : (xs.set b ⟨x.s, x.z, false⟩)[b]? = some ⟨x.s, x.z, false⟩ := by rw [List.getElem?_set]; simp [HL.out, hbn]
          rw [HL.out] at o3
          have f0 := World.ownsRow.frozenAt hob (b * 3 + 2)
          obtain ⟨_, _, f3⟩ := flat_at xs b x hx
          have c0 := (World.ownsRow.cellAt hob (b * 3 + 2) (by rw [HL.out]; omega)).trans f3
          have b3 : Below w.heap.size w (w2.setCell ⟨gv, b * 3 + 2, none⟩ (.bool false)) := bb2.setCell hgb _
          have hbn' : (b : Int) < n := by omega
          have HXS := Lib.hid hxs
          generalize xs.set b ⟨x.s, x.z, false⟩ = out0 at o3 okl3 hset hget HGV
          clear hx hxs hxu f3 R2 hob
          go_wp2_with fail
          clear f0 c0 o2
          go_loopw [8, 9] (fun v i wr => ∃ (out : List Bl) (q : Nat) (b : Bl), OwnY wr w.heap.size v out ∧ i = .int .i64 q ∧ out[q]? = some b ∧ Bud.OkL out ∧ out.length ≤ n ∧ b.u = false ∧ Hid (Bud.giveY xs P a = Bud.loopG P (P - b.z.toNat) out q) ∧ Below w.heap.size w wr) (fun v _ _ => sliceLen v)
          case atStart => exact ⟨out0, b, _, o3, rfl, hget, okl3, by omega, rfl, by rw [y2]; exact Lib.hid HGV.out, b3⟩
          case round =>
            clear o3 okl3 hset hget HGV b3 bb2
            obtain ⟨out, q, y, ho, rfl, hy, hokl, hlo, hyu, hgv, hb⟩ := hrel
            obtain ⟨sy, jy, z1, z2, z3, z4⟩ := hokl q y hy
            have hqn : q < out.length := (List.getElem?_eq_some_iff.1 hy).1
            obtain ⟨A3, c3, rfl, hA3⟩ := ho.form
            obtain ⟨g3, rfl, hg3b, hg3⟩ := hA3 (by omega)
            have hcap := ho.cap.2
            obtain ⟨N, hN⟩ : ∃ N, out.length = N := ⟨_, rfl⟩
            rw [hN] at ho hqn hlo hcap ⊢
            have HN := Lib.hid hN
            have HOKL2 := Lib.hid hokl
            have HY := Lib.hid hy
            have HO := Lib.hid ho
            have R := ho.reads hokl.all
            have HR := Lib.hid R
            obtain ⟨_, _, y', e', _, hy', _, _, d1, d2, d3⟩ := R.at_ hqn
            injection e' with e'
            injection e' with ea eb
            subst ea eb
            obtain rfl : y' = y := Option.some.inj (hy'.symm.trans hy)
            rw [z1] at d1
            rw [z2] at d2
            rw [hyu] at d3
            simp only [Nat.zero_add] at d1 d2 d3
            have hqn' : (q : Int) < N := by omega
            have HZ1 := Lib.hid z1
            have HZ2 := Lib.hid z2
            have hgv2 := Lib.hid (show Bud.giveY xs P a = Bud.loopG P (P - jy) out q by have := hgv.out; rw [z2] at this; exact this)
            clear hgv hy hy' z1 z2 hokl hN R ho hA3
            by_cases hjP : jy < P
            · have hjP' : (jy : Int) < P := by omega
              have hjPd : (jy : Int) < (P : Int) := hjP'
              go_wp2_with fail
              refine (mMate_any sy jy false wr (by omega) (by omega) (by omega)).mono ?_
              rintro e w4 ⟨rfl, b4⟩
              have hg4 : g3 < w4.heap.size := Nat.lt_of_lt_of_le hg3 b4.size
              have R4 := HR.out.up b4
              have k1 : w4.cell? ⟨g3, q * 3, none⟩ = some (.int .i64 sy) := (b4.cell (p := ⟨g3, q * 3, none⟩) hg3).trans d1
              have k2 : w4.cell? ⟨g3, q * 3 + 1, none⟩ = some (.int .i64 jy) := (b4.cell (p := ⟨g3, q * 3 + 1, none⟩) hg3).trans d2
              have k3 : w4.cell? ⟨g3, q * 3 + 2, none⟩ = some (.bool false) := (b4.cell (p := ⟨g3, q * 3 + 2, none⟩) hg3).trans d3
              obtain ⟨mv, hmv⟩ : ∃ mv, mateV sy jy = mv := ⟨_, rfl⟩
              rw [hmv]
              have HLW := Lib.hid (show Bud.lowG y' q = if mv < (sy : Int) then (q : Int) - 1 else q by unfold Bud.lowG; rw [HZ1.out, HZ2.out, Int.toNat_natCast, hmv])
              have HYU := Lib.hid hyu
              clear hmv d1 d2 d3 hyu
              by_cases hm : mv < (sy : Int)
              · rcases Nat.eq_zero_or_pos q with hq0 | hq0
                · subst hq0
                  have HE := Lib.hid (show Bud.giveY xs P a = out by rw [hgv2.out]; exact Bud.loop_none (Bud.jstep_neg HY.out (by rw [HLW.out, if_pos hm]; decide)) _)
                  go_wp2_with fail
                  go_big_quiet (fail)
                  go_wp2
                  go_ret2
                  exact GaveY2.of_ (HO.out.below (below_drewN b4 _) (Nat.le_refl _)) (below_drewN (hb.trans (b4.mono hb.size)) _) HE.out.symm HOKG.out.symm
                · obtain ⟨m, rfl⟩ : ∃ m, q = m + 1 := ⟨q - 1, by omega⟩
                  have HLM := Lib.hid (show Bud.lowG y' (m + 1) = m by rw [HLW.out, if_pos hm]; omega)
                  obtain ⟨_, _, x, e', _, hx, _, _, l1, l2, l3⟩ := R4.at_ (k := m) (by omega)
                  injection e' with e'
                  injection e' with ea eb
                  subst ea eb
                  obtain ⟨sx, jx, x1, x2, x3, x4⟩ := HOKL2.out m x hx
                  rw [x1] at l1
                  rw [x2] at l2
                  simp only [Nat.zero_add] at l1 l2 l3
                  have HJS := Lib.hid (Bud.jstep_xy (p := P) HY.out HLM.out (by rw [HZ2.out]; omega) hx HY.out)
                  have HX := Lib.hid hx
                  have HX1 := Lib.hid x1
                  have HX2 := Lib.hid x2
                  clear hx x1 x2
                  have hmn : m + 1 < N := hqn
                  have t1 : IntKind.i64.wrap ((m : Int) + 1) = (m : Int) + 1 := IntWalk.i64_in _ (by omega)
                  have t2 : ((m : Int) + 1).toNat = m + 1 := by omega
                  have t3 : (m : Int) + 1 < N := by omega
                  have t4 : 0 ≤ (m : Int) + 1 := by omega
                  have t5 : (m : Int) < N := by omega
                  have t6 : decide ((m : Int) < 0) = false := decide_eq_false (by omega)
                  have t7 : decide ((N : Int) ≤ (m : Int) + 1) = false := decide_eq_false (by omega)
                  have t8 : decide (N ≤ m + 1) = false := decide_eq_false (by omega)
                  have t9 : decide (m < 0) = false := decide_eq_false (by omega)
                  cases hxu : x.u
                  · rw [hxu] at l3
                    by_cases hz : jx = jy
                    · subst hz
                      have HXE := Lib.hid (show x = ⟨sx, jx, false⟩ by have := HX1.out; have := HX2.out; obtain ⟨_, _, _⟩ := x; simp_all)
                      have HST := Lib.hid (show Bud.jstep P out (m + 1) = some m by rw [HJS.out, if_pos ⟨hxu, HYU.out, by rw [HX2.out, HZ2.out]⟩])
                      go_wp2_with fail
                      go_big_quiet (fail)
                      clear t1 t2
                      go_wp2_with fail
                      obtain ⟨W0, hW0⟩ : ∃ W0, W0 = (w4.drewN nq).drew := ⟨_, rfl⟩
                      have b40 : Below w4.heap.size w4 W0 := by rw [hW0]; exact (below_drewN (Below.refl _ _) _).drew
                      have bb4 : Below w.heap.size w w4 := hb.trans (b4.mono hb.size)
                      have bW0 : Below w.heap.size w W0 := bb4.trans (b40.mono bb4.size)
                      have h0W : (w4.drewN nq).drew = W0 := hW0.symm
                      have n0' : W0.cell? ⟨g3, m * 3, none⟩ = some (.int .i64 sx) := (b40.cell (p := ⟨g3, m * 3, none⟩) hg4).trans l1
                      have n1' : W0.cell? ⟨g3, m * 3 + 1, none⟩ = some (.int .i64 jx) := (b40.cell (p := ⟨g3, m * 3 + 1, none⟩) hg4).trans l2
                      have hg0 : g3 < W0.heap.size := Nat.lt_of_lt_of_le hg4 b40.size
                      have HC := Lib.hid (fun w' (hw' : Below W0.heap.size W0 w') => (show w'.cell? ⟨g3, m * 3, none⟩ = some (.int .i64 sx) ∧ w'.cell? ⟨g3, m * 3 + 1, none⟩ = some (.int .i64 jx) from
                        ⟨(hw'.cell (p := ⟨g3, m * 3, none⟩) hg0).trans n0', (hw'.cell (p := ⟨g3, m * 3 + 1, none⟩) hg0).trans n1'⟩))
                      have HR0 := Lib.hid (R4.up b40)
                      clear hW0 n0' n1' k1 k2 k3 l1 l2 l3 R4
                      refine wp_region_inv (by kernel_rfl) (by kernel_rfl) (fun L ac ww => ∃ t13 t110 t111 t112 t113 t114 t115 t116 t117 t118 t119 t120 t121 : Value, ac = { tmps := #[Value.slice A n c, Value.int IntKind.i64 ↑P, Value.int IntKind.i64 a, undef, undef, undef, Value.slice none 0 0, Value.bool false, Value.slice (some ⟨g3, 0, none⟩) N c3, Value.int IntKind.i64 (↑m + 1), Value.int IntKind.i64 ↑k, Value.int IntKind.i64 mv, Value.int IntKind.i64 ↑m, t13, Value.slice A n c, Value.int IntKind.i64 ↑P, Value.bool true, Value.bool false, undef, Value.slice (some ⟨w1.heap.size, 0, none⟩) 0 0, Value.slice A n c, Value.slice (some ⟨gv, 0, none⟩) n c2, Value.int IntKind.i64 ↑k, Value.slice (some ⟨gv, 0, none⟩) n c2, Value.int IntKind.i64 ↑n, Value.bool false, u26, u27, u28, u29, u30, u31, u32, u33, u34, u35, u36, u37, u38, u39, u40, u41, u42, Value.int IntKind.i64 ↑b, Value.bool false, undef, Value.slice (some ⟨gv, 0, none⟩) n c2, Value.int IntKind.i64 ↑b, Value.pointer (some ⟨gv, b * 3, none⟩), Value.pointer (some ⟨gv, b * 3 + 2, none⟩), Value.slice (some ⟨g3, 0, none⟩) N c3, Value.int IntKind.i64 (↑m + 1), Value.pointer (some ⟨g3, (m + 1) * 3, none⟩), Value.pointer (some ⟨g3, (m + 1) * 3 + 1, none⟩), Value.int IntKind.i64 ↑jx, Value.int IntKind.i64 ↑P, Value.bool true, Value.slice (some ⟨g3, 0, none⟩) N c3, Value.int IntKind.i64 (↑m + 1), Value.pointer (some ⟨g3, (m + 1) * 3, none⟩), Value.agg #[Value.int IntKind.i64 ↑sy, Value.int IntKind.i64 ↑jx, Value.bool false], Value.int IntKind.i64 mv, Value.int IntKind.i64 (↑m + 1), Value.int IntKind.i64 mv, Value.slice (some ⟨g3, 0, none⟩) N c3, Value.int IntKind.i64 (↑m + 1), Value.pointer (some ⟨g3, (m + 1) * 3, none⟩), Value.pointer (some ⟨g3, (m + 1) * 3, none⟩), Value.int IntKind.i64 ↑sy, Value.bool true, Value.int IntKind.i64 (↑m + 1), Value.int IntKind.i64 ↑m, Value.int IntKind.i64 ↑m, Value.bool false, Value.bool false, Value.int IntKind.i64 ↑m, Value.int IntKind.i64 (↑m + 1), Value.slice (some ⟨g3, 0, none⟩) N c3, Value.int IntKind.i64 ↑N, Value.bool false, Value.bool false, Value.bool false, Value.slice (some ⟨g3, 0, none⟩) N c3, Value.int IntKind.i64 ↑m, Value.pointer (some ⟨g3, m * 3, none⟩), Value.pointer (some ⟨g3, m * 3 + 2, none⟩), Value.bool false, Value.bool false, Value.bool false, Value.slice (some ⟨g3, 0, none⟩) N c3, Value.int IntKind.i64 ↑m, Value.int IntKind.i64 (↑m + 1), Value.pointer (some ⟨g3, (m + 1) * 3, none⟩), Value.pointer (some ⟨g3, (m + 1) * 3 + 2, none⟩), Value.bool false, Value.bool false, Value.bool false, Value.slice (some ⟨g3, 0, none⟩) N c3, Value.int IntKind.i64 ↑m, Value.pointer (some ⟨g3, m * 3, none⟩), Value.pointer (some ⟨g3, m * 3 + 1, none⟩), Value.int IntKind.i64 ↑jx, Value.slice (some ⟨g3, 0, none⟩) N c3, Value.int IntKind.i64 ↑m, Value.int IntKind.i64 (↑m + 1), Value.pointer (some ⟨g3, (m + 1) * 3, none⟩), Value.pointer (some ⟨g3, (m + 1) * 3 + 1, none⟩), Value.int IntKind.i64 ↑jx, Value.bool false, Value.bool false, t110, t111, t112, t113, t114, t115, t116, t117, t118, t119, t120, t121, u122, u123, u124, u125, u126, u127, u128, u129, u130, u131, u132, u133, u134, u135, undef], defers := [] } ∧ (Below W0.heap.size W0 ww) ∧ (L 12 = true → L 13 = false → ww = W0.alloc (.cells #[.int .i64 0, .int .i64 0, .bool false] 40)) ∧ (L 12 = false → ww = W0) ∧ (L 13 = true → L 12 = true) ∧ (L 0 = true → t110 = .slice (some ⟨g3, 0, none⟩) N c3) ∧ (L 1 = true → t111 = .int .i64 m) ∧ (L 2 = true → t112 = .pointer (some ⟨g3, m * 3, none⟩)) ∧ (L 3 = true → t113 = .pointer (some ⟨g3, m * 3, none⟩)) ∧ (L 4 = true → t114 = .int .i64 sx) ∧ (L 5 = true → t115 = .slice (some ⟨g3, 0, none⟩) N c3) ∧ (L 6 = true → t116 = .int .i64 m) ∧ (L 7 = true → t117 = .pointer (some ⟨g3, m * 3, none⟩)) ∧ (L 8 = true → t118 = .pointer (some ⟨g3, m * 3 + 1, none⟩)) ∧ (L 9 = true → t119 = .int .i64 jx) ∧ (L 10 = true → t120 = .int .i64 ((jx : Int) + 1)) ∧ (L 11 = true → t121 = .agg #[.int .i64 sx, .int .i64 ((jx : Int) + 1), .bool false]) ∧ (L 12 = true → t13 = .pointer (some ⟨W0.heap.size, 0, none⟩)) ∧ (L 13 = true → ww = W0.alloc (.cells #[.int .i64 sx, .int .i64 ((jx : Int) + 1), .bool false] 40))) ?h0 ?hstep ?hdone
                      case h0 => exact ⟨_, _, _, _, _, _, _, _, _, _, _, _, _, rfl, by rw [h0W]; exact Below.refl _ _, (fun h => absurd h Bool.false_ne_true), fun _ => h0W, (fun h => absurd h Bool.false_ne_true), (fun h => absurd h Bool.false_ne_true), (fun h => absurd h Bool.false_ne_true), (fun h => absurd h Bool.false_ne_true), (fun h => absurd h Bool.false_ne_true), (fun h => absurd h Bool.false_ne_true), (fun h => absurd h Bool.false_ne_true), (fun h => absurd h Bool.false_ne_true), (fun h => absurd h Bool.false_ne_true), (fun h => absurd h Bool.false_ne_true), (fun h => absurd h Bool.false_ne_true), (fun h => absurd h Bool.false_ne_true), (fun h => absurd h Bool.false_ne_true), (fun h => absurd h Bool.false_ne_true), (fun h => absurd h Bool.false_ne_true)⟩
                      case hstep =>
                        rintro L ac ww i o ho hL hd ⟨t13, t110, t111, t112, t113, t114, t115, t116, t117, t118, t119, t120, t121, rfl, I0, I1, I2, I3, f0, f1, f2, f3, f4, f5, f6, f7, f8, f9, f10, f11, f12, f13⟩
                        have hi : i < 14 := (Array.getElem?_eq_some_iff.1 ho).1
                        obtain rfl | rfl | rfl | rfl | rfl | rfl | rfl | rfl | rfl | rfl | rfl | rfl | rfl | rfl : i = 0 ∨ i = 1 ∨ i = 2 ∨ i = 3 ∨ i = 4 ∨ i = 5 ∨ i = 6 ∨ i = 7 ∨ i = 8 ∨ i = 9 ∨ i = 10 ∨ i = 11 ∨ i = 12 ∨ i = 13 := by omega
                        · obtain rfl := Option.some.inj ho
                          refine wpOp_step rfl (fun K' hK => ?_)
                          go_simp
                          refine hK _ _ ?_
                          exact ⟨_, _, _, _, _, _, _, _, _, _, _, _, _, rfl, (I0), (fun h h13 => I1 (upd_ne h (by decide)) (by rw [upd_other (by decide)] at h13; exact h13)), (fun h => I2 (by rw [upd_other (by decide)] at h; exact h)), (fun h => upd_mono (I3 (upd_ne h (by decide)))), (fun _ => rfl), (fun h => f1 (upd_ne h (by decide))), (fun h => f2 (upd_ne h (by decide))), (fun h => f3 (upd_ne h (by decide))), (fun h => f4 (upd_ne h (by decide))), (fun h => f5 (upd_ne h (by decide))), (fun h => f6 (upd_ne h (by decide))), (fun h => f7 (upd_ne h (by decide))), (fun h => f8 (upd_ne h (by decide))), (fun h => f9 (upd_ne h (by decide))), (fun h => f10 (upd_ne h (by decide))), (fun h => f11 (upd_ne h (by decide))), (fun h => f12 (upd_ne h (by decide))), (fun h => f13 (upd_ne h (by decide)))⟩
                        · obtain rfl := Option.some.inj ho
                          refine wpOp_step rfl (fun K' hK => ?_)
                          go_simp
                          refine hK _ _ ?_
                          exact ⟨_, _, _, _, _, _, _, _, _, _, _, _, _, rfl, (I0), (fun h h13 => I1 (upd_ne h (by decide)) (by rw [upd_other (by decide)] at h13; exact h13)), (fun h => I2 (by rw [upd_other (by decide)] at h; exact h)), (fun h => upd_mono (I3 (upd_ne h (by decide)))), (fun h => f0 (upd_ne h (by decide))), (fun _ => rfl), (fun h => f2 (upd_ne h (by decide))), (fun h => f3 (upd_ne h (by decide))), (fun h => f4 (upd_ne h (by decide))), (fun h => f5 (upd_ne h (by decide))), (fun h => f6 (upd_ne h (by decide))), (fun h => f7 (upd_ne h (by decide))), (fun h => f8 (upd_ne h (by decide))), (fun h => f9 (upd_ne h (by decide))), (fun h => f10 (upd_ne h (by decide))), (fun h => f11 (upd_ne h (by decide))), (fun h => f12 (upd_ne h (by decide))), (fun h => f13 (upd_ne h (by decide)))⟩
                        · obtain rfl := Option.some.inj ho
                          have g0 := f0 (hd ⟨0, .data⟩ (by simp) rfl)
                          have g1 := f1 (hd ⟨1, .data⟩ (by simp) rfl)
                          subst g0
                          subst g1
                          refine wpOp_step rfl (fun K' hK => ?_)
                          go_simp
                          refine hK _ _ ?_
                          exact ⟨_, _, _, _, _, _, _, _, _, _, _, _, _, rfl, (I0), (fun h h13 => I1 (upd_ne h (by decide)) (by rw [upd_other (by decide)] at h13; exact h13)), (fun h => I2 (by rw [upd_other (by decide)] at h; exact h)), (fun h => upd_mono (I3 (upd_ne h (by decide)))), (fun h => f0 (upd_ne h (by decide))), (fun h => f1 (upd_ne h (by decide))), (fun _ => by simp), (fun h => f3 (upd_ne h (by decide))), (fun h => f4 (upd_ne h (by decide))), (fun h => f5 (upd_ne h (by decide))), (fun h => f6 (upd_ne h (by decide))), (fun h => f7 (upd_ne h (by decide))), (fun h => f8 (upd_ne h (by decide))), (fun h => f9 (upd_ne h (by decide))), (fun h => f10 (upd_ne h (by decide))), (fun h => f11 (upd_ne h (by decide))), (fun h => f12 (upd_ne h (by decide))), (fun h => f13 (upd_ne h (by decide)))⟩
                        · obtain rfl := Option.some.inj ho
                          have g2 := f2 (hd ⟨2, .data⟩ (by simp) rfl)
                          subst g2
                          refine wpOp_step rfl (fun K' hK => ?_)
                          go_simp
                          refine hK _ _ ?_
                          exact ⟨_, _, _, _, _, _, _, _, _, _, _, _, _, rfl, (I0), (fun h h13 => I1 (upd_ne h (by decide)) (by rw [upd_other (by decide)] at h13; exact h13)), (fun h => I2 (by rw [upd_other (by decide)] at h; exact h)), (fun h => upd_mono (I3 (upd_ne h (by decide)))), (fun h => f0 (upd_ne h (by decide))), (fun h => f1 (upd_ne h (by decide))), (fun h => f2 (upd_ne h (by decide))), (fun _ => rfl), (fun h => f4 (upd_ne h (by decide))), (fun h => f5 (upd_ne h (by decide))), (fun h => f6 (upd_ne h (by decide))), (fun h => f7 (upd_ne h (by decide))), (fun h => f8 (upd_ne h (by decide))), (fun h => f9 (upd_ne h (by decide))), (fun h => f10 (upd_ne h (by decide))), (fun h => f11 (upd_ne h (by decide))), (fun h => f12 (upd_ne h (by decide))), (fun h => f13 (upd_ne h (by decide)))⟩
                        · obtain rfl := Option.some.inj ho
                          have g3 := f3 (hd ⟨3, .data⟩ (by simp) rfl)
                          subst g3
                          obtain ⟨n0, n1⟩ := HC.out ww I0
                          refine wpOp_step rfl (fun K' hK => ?_)
                          go_simp
                          refine hK _ _ ?_
                          exact ⟨_, _, _, _, _, _, _, _, _, _, _, _, _, rfl, (I0), (fun h h13 => I1 (upd_ne h (by decide)) (by rw [upd_other (by decide)] at h13; exact h13)), (fun h => I2 (by rw [upd_other (by decide)] at h; exact h)), (fun h => upd_mono (I3 (upd_ne h (by decide)))), (fun h => f0 (upd_ne h (by decide))), (fun h => f1 (upd_ne h (by decide))), (fun h => f2 (upd_ne h (by decide))), (fun h => f3 (upd_ne h (by decide))), (fun _ => rfl), (fun h => f5 (upd_ne h (by decide))), (fun h => f6 (upd_ne h (by decide))), (fun h => f7 (upd_ne h (by decide))), (fun h => f8 (upd_ne h (by decide))), (fun h => f9 (upd_ne h (by decide))), (fun h => f10 (upd_ne h (by decide))), (fun h => f11 (upd_ne h (by decide))), (fun h => f12 (upd_ne h (by decide))), (fun h => f13 (upd_ne h (by decide)))⟩
                        · obtain rfl := Option.some.inj ho
                          refine wpOp_step rfl (fun K' hK => ?_)
                          go_simp
                          refine hK _ _ ?_
                          exact ⟨_, _, _, _, _, _, _, _, _, _, _, _, _, rfl, (I0), (fun h h13 => I1 (upd_ne h (by decide)) (by rw [upd_other (by decide)] at h13; exact h13)), (fun h => I2 (by rw [upd_other (by decide)] at h; exact h)), (fun h => upd_mono (I3 (upd_ne h (by decide)))), (fun h => f0 (upd_ne h (by decide))), (fun h => f1 (upd_ne h (by decide))), (fun h => f2 (upd_ne h (by decide))), (fun h => f3 (upd_ne h (by decide))), (fun h => f4 (upd_ne h (by decide))), (fun _ => rfl), (fun h => f6 (upd_ne h (by decide))), (fun h => f7 (upd_ne h (by decide))), (fun h => f8 (upd_ne h (by decide))), (fun h => f9 (upd_ne h (by decide))), (fun h => f10 (upd_ne h (by decide))), (fun h => f11 (upd_ne h (by decide))), (fun h => f12 (upd_ne h (by decide))), (fun h => f13 (upd_ne h (by decide)))⟩
                        · obtain rfl := Option.some.inj ho
                          refine wpOp_step rfl (fun K' hK => ?_)
                          go_simp
                          refine hK _ _ ?_
                          exact ⟨_, _, _, _, _, _, _, _, _, _, _, _, _, rfl, (I0), (fun h h13 => I1 (upd_ne h (by decide)) (by rw [upd_other (by decide)] at h13; exact h13)), (fun h => I2 (by rw [upd_other (by decide)] at h; exact h)), (fun h => upd_mono (I3 (upd_ne h (by decide)))), (fun h => f0 (upd_ne h (by decide))), (fun h => f1 (upd_ne h (by decide))), (fun h => f2 (upd_ne h (by decide))), (fun h => f3 (upd_ne h (by decide))), (fun h => f4 (upd_ne h (by decide))), (fun h => f5 (upd_ne h (by decide))), (fun _ => rfl), (fun h => f7 (upd_ne h (by decide))), (fun h => f8 (upd_ne h (by decide))), (fun h => f9 (upd_ne h (by decide))), (fun h => f10 (upd_ne h (by decide))), (fun h => f11 (upd_ne h (by decide))), (fun h => f12 (upd_ne h (by decide))), (fun h => f13 (upd_ne h (by decide)))⟩
                        · obtain rfl := Option.some.inj ho
                          have g5 := f5 (hd ⟨5, .data⟩ (by simp) rfl)
                          have g6 := f6 (hd ⟨6, .data⟩ (by simp) rfl)
                          subst g5
                          subst g6
                          refine wpOp_step rfl (fun K' hK => ?_)
                          go_simp
                          refine hK _ _ ?_
                          exact ⟨_, _, _, _, _, _, _, _, _, _, _, _, _, rfl, (I0), (fun h h13 => I1 (upd_ne h (by decide)) (by rw [upd_other (by decide)] at h13; exact h13)), (fun h => I2 (by rw [upd_other (by decide)] at h; exact h)), (fun h => upd_mono (I3 (upd_ne h (by decide)))), (fun h => f0 (upd_ne h (by decide))), (fun h => f1 (upd_ne h (by decide))), (fun h => f2 (upd_ne h (by decide))), (fun h => f3 (upd_ne h (by decide))), (fun h => f4 (upd_ne h (by decide))), (fun h => f5 (upd_ne h (by decide))), (fun h => f6 (upd_ne h (by decide))), (fun _ => by simp), (fun h => f8 (upd_ne h (by decide))), (fun h => f9 (upd_ne h (by decide))), (fun h => f10 (upd_ne h (by decide))), (fun h => f11 (upd_ne h (by decide))), (fun h => f12 (upd_ne h (by decide))), (fun h => f13 (upd_ne h (by decide)))⟩
                        · obtain rfl := Option.some.inj ho
                          have g7 := f7 (hd ⟨7, .data⟩ (by simp) rfl)
                          subst g7
                          refine wpOp_step rfl (fun K' hK => ?_)
                          go_simp
                          refine hK _ _ ?_
                          exact ⟨_, _, _, _, _, _, _, _, _, _, _, _, _, rfl, (I0), (fun h h13 => I1 (upd_ne h (by decide)) (by rw [upd_other (by decide)] at h13; exact h13)), (fun h => I2 (by rw [upd_other (by decide)] at h; exact h)), (fun h => upd_mono (I3 (upd_ne h (by decide)))), (fun h => f0 (upd_ne h (by decide))), (fun h => f1 (upd_ne h (by decide))), (fun h => f2 (upd_ne h (by decide))), (fun h => f3 (upd_ne h (by decide))), (fun h => f4 (upd_ne h (by decide))), (fun h => f5 (upd_ne h (by decide))), (fun h => f6 (upd_ne h (by decide))), (fun h => f7 (upd_ne h (by decide))), (fun _ => rfl), (fun h => f9 (upd_ne h (by decide))), (fun h => f10 (upd_ne h (by decide))), (fun h => f11 (upd_ne h (by decide))), (fun h => f12 (upd_ne h (by decide))), (fun h => f13 (upd_ne h (by decide)))⟩
                        · obtain rfl := Option.some.inj ho
                          have g8 := f8 (hd ⟨8, .data⟩ (by simp) rfl)
                          subst g8
                          obtain ⟨n0, n1⟩ := HC.out ww I0
                          refine wpOp_step rfl (fun K' hK => ?_)
                          go_simp
                          refine hK _ _ ?_
                          exact ⟨_, _, _, _, _, _, _, _, _, _, _, _, _, rfl, (I0), (fun h h13 => I1 (upd_ne h (by decide)) (by rw [upd_other (by decide)] at h13; exact h13)), (fun h => I2 (by rw [upd_other (by decide)] at h; exact h)), (fun h => upd_mono (I3 (upd_ne h (by decide)))), (fun h => f0 (upd_ne h (by decide))), (fun h => f1 (upd_ne h (by decide))), (fun h => f2 (upd_ne h (by decide))), (fun h => f3 (upd_ne h (by decide))), (fun h => f4 (upd_ne h (by decide))), (fun h => f5 (upd_ne h (by decide))), (fun h => f6 (upd_ne h (by decide))), (fun h => f7 (upd_ne h (by decide))), (fun h => f8 (upd_ne h (by decide))), (fun _ => rfl), (fun h => f10 (upd_ne h (by decide))), (fun h => f11 (upd_ne h (by decide))), (fun h => f12 (upd_ne h (by decide))), (fun h => f13 (upd_ne h (by decide)))⟩
                        · obtain rfl := Option.some.inj ho
                          have g9 := f9 (hd ⟨9, .data⟩ (by simp) rfl)
                          subst g9
                          have hw : IntKind.i64.wrap ((jx : Int) + 1) = (jx : Int) + 1 := IntWalk.i64_in _ (by omega)
                          refine wpOp_step rfl (fun K' hK => ?_)
                          go_simp
                          refine hK _ _ ?_
                          clear hw
                          exact ⟨_, _, _, _, _, _, _, _, _, _, _, _, _, rfl, (I0), (fun h h13 => I1 (upd_ne h (by decide)) (by rw [upd_other (by decide)] at h13; exact h13)), (fun h => I2 (by rw [upd_other (by decide)] at h; exact h)), (fun h => upd_mono (I3 (upd_ne h (by decide)))), (fun h => f0 (upd_ne h (by decide))), (fun h => f1 (upd_ne h (by decide))), (fun h => f2 (upd_ne h (by decide))), (fun h => f3 (upd_ne h (by decide))), (fun h => f4 (upd_ne h (by decide))), (fun h => f5 (upd_ne h (by decide))), (fun h => f6 (upd_ne h (by decide))), (fun h => f7 (upd_ne h (by decide))), (fun h => f8 (upd_ne h (by decide))), (fun h => f9 (upd_ne h (by decide))), (fun _ => rfl), (fun h => f11 (upd_ne h (by decide))), (fun h => f12 (upd_ne h (by decide))), (fun h => f13 (upd_ne h (by decide)))⟩
                        · obtain rfl := Option.some.inj ho
                          have g4 := f4 (hd ⟨4, .data⟩ (by simp) rfl)
                          have g10 := f10 (hd ⟨10, .data⟩ (by simp) rfl)
                          subst g4
                          subst g10
                          refine wpOp_step rfl (fun K' hK => ?_)
                          go_simp
                          refine hK _ _ ?_
                          exact ⟨_, _, _, _, _, _, _, _, _, _, _, _, _, rfl, (I0), (fun h h13 => I1 (upd_ne h (by decide)) (by rw [upd_other (by decide)] at h13; exact h13)), (fun h => I2 (by rw [upd_other (by decide)] at h; exact h)), (fun h => upd_mono (I3 (upd_ne h (by decide)))), (fun h => f0 (upd_ne h (by decide))), (fun h => f1 (upd_ne h (by decide))), (fun h => f2 (upd_ne h (by decide))), (fun h => f3 (upd_ne h (by decide))), (fun h => f4 (upd_ne h (by decide))), (fun h => f5 (upd_ne h (by decide))), (fun h => f6 (upd_ne h (by decide))), (fun h => f7 (upd_ne h (by decide))), (fun h => f8 (upd_ne h (by decide))), (fun h => f9 (upd_ne h (by decide))), (fun h => f10 (upd_ne h (by decide))), (fun _ => rfl), (fun h => f12 (upd_ne h (by decide))), (fun h => f13 (upd_ne h (by decide)))⟩
                        · obtain rfl := Option.some.inj ho
                          have hw0 := I2 hL
                          subst hw0
                          refine wpOp_step rfl (fun K' hK => ?_)
                          go_simp
                          refine hK _ _ ?_
                          exact ⟨_, _, _, _, _, _, _, _, _, _, _, _, _, rfl, ((Below.refl _ _).alloc (Nat.le_refl _) _), (fun _ _ => rfl), (fun h => absurd (upd_self.symm.trans h) (by decide)), (fun h => upd_mono (I3 (upd_ne h (by decide)))), (fun h => f0 (upd_ne h (by decide))), (fun h => f1 (upd_ne h (by decide))), (fun h => f2 (upd_ne h (by decide))), (fun h => f3 (upd_ne h (by decide))), (fun h => f4 (upd_ne h (by decide))), (fun h => f5 (upd_ne h (by decide))), (fun h => f6 (upd_ne h (by decide))), (fun h => f7 (upd_ne h (by decide))), (fun h => f8 (upd_ne h (by decide))), (fun h => f9 (upd_ne h (by decide))), (fun h => f10 (upd_ne h (by decide))), (fun h => f11 (upd_ne h (by decide))), (fun _ => rfl), (fun h => absurd ((I3 (upd_ne h (by decide))).symm.trans hL) (by decide))⟩
                        · obtain rfl := Option.some.inj ho
                          have g12 := f12 (hd ⟨12, .data⟩ (by simp) rfl)
                          have g11 := f11 (hd ⟨11, .data⟩ (by simp) rfl)
                          subst g12
                          subst g11
                          have h12 := hd ⟨12, .data⟩ (by simp) rfl
                          have hw0 := I1 h12 hL
                          subst hw0
                          refine wpOp_step rfl (fun K' hK => ?_)
                          go_simp
                          refine hK _ _ ?_
                          exact ⟨_, _, _, _, _, _, _, _, _, _, _, _, _, rfl, ((Below.refl _ _).alloc (Nat.le_refl _) _), (fun _ h => absurd (upd_self.symm.trans h) (by decide)), (fun h => absurd ((upd_other (by decide)).symm.trans h) (by rw [h12]; decide)), (fun _ => upd_mono h12), (fun h => f0 (upd_ne h (by decide))), (fun h => f1 (upd_ne h (by decide))), (fun h => f2 (upd_ne h (by decide))), (fun h => f3 (upd_ne h (by decide))), (fun h => f4 (upd_ne h (by decide))), (fun h => f5 (upd_ne h (by decide))), (fun h => f6 (upd_ne h (by decide))), (fun h => f7 (upd_ne h (by decide))), (fun h => f8 (upd_ne h (by decide))), (fun h => f9 (upd_ne h (by decide))), (fun h => f10 (upd_ne h (by decide))), (fun h => f11 (upd_ne h (by decide))), (fun h => f12 (upd_ne h (by decide))), (fun _ => rfl)⟩
                      case hdone =>
                        rintro L ac ww hall ⟨t13, t110, t111, t112, t113, t114, t115, t116, t117, t118, t119, t120, t121, rfl, I0, I1, I2, I3, f0, f1, f2, f3, f4, f5, f6, f7, f8, f9, f10, f11, f12, f13⟩
                        have e0 := f0 (hall 0 (by decide))
                        have e1 := f1 (hall 1 (by decide))
                        have e2 := f2 (hall 2 (by decide))
                        have e3 := f3 (hall 3 (by decide))
                        have e4 := f4 (hall 4 (by decide))
                        have e5 := f5 (hall 5 (by decide))
                        have e6 := f6 (hall 6 (by decide))
                        have e7 := f7 (hall 7 (by decide))
                        have e8 := f8 (hall 8 (by decide))
                        have e9 := f9 (hall 9 (by decide))
                        have e10 := f10 (hall 10 (by decide))
                        have e11 := f11 (hall 11 (by decide))
                        have e12 := f12 (hall 12 (by decide))
                        have e13 := f13 (hall 13 (by decide))
                        clear f0 f1 f2 f3 f4 f5 f6 f7 f8 f9 f10 f11 f12 f13
                        subst e0 e1 e2 e3 e4 e5 e6 e7 e8 e9 e10 e11 e12
                        subst e13
                        clear I0 I1 I2 I3
                        go_wp2_with fail
                        have HXG := Lib.hid (show out[m]? = some ⟨sx, jx, false⟩ by rw [← HXE.out]; exact HX.out)
                        obtain ⟨W1, hW1⟩ : ∃ W1, W1 = (W0.alloc (.cells #[.int .i64 sx, .int .i64 ((jx : Int) + 1), .bool false] 40)).drew := ⟨_, rfl⟩
                        have b01 : Below W0.heap.size W0 W1 := by rw [hW1]; exact ((Below.refl _ _).alloc (Nat.le_refl _) _).drew
                        have s01 : W1.heap.size = W0.heap.size + 1 := by rw [hW1]; simp
                        have bW1 : Below w.heap.size w W1 := bW0.trans (b01.mono bW0.size)
                        have h1W : Below W1.heap.size W1 (W0.alloc (.cells #[.int .i64 sx, .int .i64 ((jx : Int) + 1), .bool false] 40)).drew := by rw [hW1]; exact Below.refl _ _
                        have m0 : W1.cell? ⟨W0.heap.size, 0, none⟩ = some (.int .i64 sx) := by rw [hW1]; simp
                        have m1 : W1.cell? ⟨W0.heap.size, 1, none⟩ = some (.int .i64 ((jx : Int) + 1)) := by rw [hW1]; simp
                        have m2 : W1.cell? ⟨W0.heap.size, 2, none⟩ = some (.bool false) := by rw [hW1]; simp
                        have HC1 := Lib.hid (fun w' (hw' : Below W1.heap.size W1 w') => (show w'.cell? ⟨W0.heap.size, 0, none⟩ = some (.int .i64 sx) ∧ w'.cell? ⟨W0.heap.size, 1, none⟩ = some (.int .i64 ((jx : Int) + 1)) ∧ w'.cell? ⟨W0.heap.size, 2, none⟩ = some (.bool false) from
                          ⟨(hw'.cell (p := ⟨W0.heap.size, 0, none⟩) (by show W0.heap.size < _; omega)).trans m0, (hw'.cell (p := ⟨W0.heap.size, 1, none⟩) (by show W0.heap.size < _; omega)).trans m1, (hw'.cell (p := ⟨W0.heap.size, 2, none⟩) (by show W0.heap.size < _; omega)).trans m2⟩))
                        have HRO := Lib.hid (HR0.out.up b01)
                        have HAI := Lib.hid (show AllI [(⟨sx, (jx : Int) + 1, false⟩ : Bl)] from allI_one (by omega) (by omega) (by omega) (by omega))
                        clear hW1 m0 m1 m2
                        have hM2 : m + 2 ≤ N := by omega
                        have v1 : (m : Int) ≤ N := by omega
                        have v2 : (m : Int) ≤ c3 := by omega
                        have v5 : ((m : Int) + 2).toNat = m + 2 := by omega
                        have v6 : 0 ≤ (m : Int) + 2 := by omega
                        by_cases hcc : c3 = m + 2
                        · have eN : N = m + 2 := by omega
                          have HD := Lib.hid (show out.drop (m + 2) = [] from List.drop_eq_nil_of_le (by rw [HN.out]; omega))
                          subst hcc eN
                          have v7 : (m : Int) ≤ (m : Int) + 2 := by omega
                          have HTL := Lib.hid (fun W' (_ : Below W1.heap.size W1 W') => BS.none_ W' W1.heap.size (some (⟨g3, 0, none⟩ : Addr)))
                          refine wp_region_inv (by kernel_rfl) (by kernel_rfl) (fun L ac ww => ∃ t8 t122 t123 t124 t125 t126 t127 t128 t129 t130 t131 t132 t133 t134 : Value, ac = { tmps := #[Value.slice A n c, Value.int IntKind.i64 ↑P, Value.int IntKind.i64 a, undef, undef, undef, Value.slice none 0 0, Value.bool false, t8, Value.int IntKind.i64 (↑m + 1), Value.int IntKind.i64 ↑k, Value.int IntKind.i64 mv, Value.int IntKind.i64 ↑m, Value.pointer (some ⟨W0.heap.size, 0, none⟩), Value.slice A n c, Value.int IntKind.i64 ↑P, Value.bool true, Value.bool false, undef, Value.slice (some ⟨w1.heap.size, 0, none⟩) 0 0, Value.slice A n c, Value.slice (some ⟨gv, 0, none⟩) n c2, Value.int IntKind.i64 ↑k, Value.slice (some ⟨gv, 0, none⟩) n c2, Value.int IntKind.i64 ↑n, Value.bool false, u26, u27, u28, u29, u30, u31, u32, u33, u34, u35, u36, u37, u38, u39, u40, u41, u42, Value.int IntKind.i64 ↑b, Value.bool false, undef, Value.slice (some ⟨gv, 0, none⟩) n c2, Value.int IntKind.i64 ↑b, Value.pointer (some ⟨gv, b * 3, none⟩), Value.pointer (some ⟨gv, b * 3 + 2, none⟩), Value.slice (some ⟨g3, 0, none⟩) (m + 2) (m + 2), Value.int IntKind.i64 (↑m + 1), Value.pointer (some ⟨g3, (m + 1) * 3, none⟩), Value.pointer (some ⟨g3, (m + 1) * 3 + 1, none⟩), Value.int IntKind.i64 ↑jx, Value.int IntKind.i64 ↑P, Value.bool true, Value.slice (some ⟨g3, 0, none⟩) (m + 2) (m + 2), Value.int IntKind.i64 (↑m + 1), Value.pointer (some ⟨g3, (m + 1) * 3, none⟩), Value.agg #[Value.int IntKind.i64 ↑sy, Value.int IntKind.i64 ↑jx, Value.bool false], Value.int IntKind.i64 mv, Value.int IntKind.i64 (↑m + 1), Value.int IntKind.i64 mv, Value.slice (some ⟨g3, 0, none⟩) (m + 2) (m + 2), Value.int IntKind.i64 (↑m + 1), Value.pointer (some ⟨g3, (m + 1) * 3, none⟩), Value.pointer (some ⟨g3, (m + 1) * 3, none⟩), Value.int IntKind.i64 ↑sy, Value.bool true, Value.int IntKind.i64 (↑m + 1), Value.int IntKind.i64 ↑m, Value.int IntKind.i64 ↑m, Value.bool false, Value.bool false, Value.int IntKind.i64 ↑m, Value.int IntKind.i64 (↑m + 1), Value.slice (some ⟨g3, 0, none⟩) (m + 2) (m + 2), Value.int IntKind.i64 (m + 2), Value.bool false, Value.bool false, Value.bool false, Value.slice (some ⟨g3, 0, none⟩) (m + 2) (m + 2), Value.int IntKind.i64 ↑m, Value.pointer (some ⟨g3, m * 3, none⟩), Value.pointer (some ⟨g3, m * 3 + 2, none⟩), Value.bool false, Value.bool false, Value.bool false, Value.slice (some ⟨g3, 0, none⟩) (m + 2) (m + 2), Value.int IntKind.i64 ↑m, Value.int IntKind.i64 (↑m + 1), Value.pointer (some ⟨g3, (m + 1) * 3, none⟩), Value.pointer (some ⟨g3, (m + 1) * 3 + 2, none⟩), Value.bool false, Value.bool false, Value.bool false, Value.slice (some ⟨g3, 0, none⟩) (m + 2) (m + 2), Value.int IntKind.i64 ↑m, Value.pointer (some ⟨g3, m * 3, none⟩), Value.pointer (some ⟨g3, m * 3 + 1, none⟩), Value.int IntKind.i64 ↑jx, Value.slice (some ⟨g3, 0, none⟩) (m + 2) (m + 2), Value.int IntKind.i64 ↑m, Value.int IntKind.i64 (↑m + 1), Value.pointer (some ⟨g3, (m + 1) * 3, none⟩), Value.pointer (some ⟨g3, (m + 1) * 3 + 1, none⟩), Value.int IntKind.i64 ↑jx, Value.bool false, Value.bool false, Value.slice (some ⟨g3, 0, none⟩) (m + 2) (m + 2), Value.int IntKind.i64 ↑m, Value.pointer (some ⟨g3, m * 3, none⟩), Value.pointer (some ⟨g3, m * 3, none⟩), Value.int IntKind.i64 ↑sx, Value.slice (some ⟨g3, 0, none⟩) (m + 2) (m + 2), Value.int IntKind.i64 ↑m, Value.pointer (some ⟨g3, m * 3, none⟩), Value.pointer (some ⟨g3, m * 3 + 1, none⟩), Value.int IntKind.i64 ↑jx, Value.int IntKind.i64 (↑jx + 1), Value.agg #[Value.int IntKind.i64 ↑sx, Value.int IntKind.i64 (↑jx + 1), Value.bool false], t122, t123, t124, t125, t126, t127, t128, t129, t130, t131, t132, t133, t134, u135, undef], defers := [] } ∧ (Below W1.heap.size W1 ww) ∧ (L 4 = true → L 0 = true) ∧ (L 7 = true → L 4 = true ∧ L 6 = true) ∧ (L 12 = true → L 7 = true) ∧ (L 13 = false → t8 = .slice (some ⟨g3, 0, none⟩) (m + 2) (m + 2)) ∧ (L 13 = true → ∀ i, i < 13 → L i = true) ∧ (L 0 = true → L 4 = false → OwnY ww W1.heap.size t122 []) ∧ (L 1 = true → t123 = .slice (some ⟨g3, 0, none⟩) (m + 2) (m + 2)) ∧ (L 2 = true → t124 = .int .i64 m) ∧ (L 3 = true → t125 = .slice (some ⟨g3, 0, none⟩) m (m + 2)) ∧ (L 4 = true → L 7 = false → OwnY ww W1.heap.size t126 (out.take m)) ∧ (L 5 = true → t127 = .agg #[.int .i64 sx, .int .i64 ((jx : Int) + 1), .bool false]) ∧ (L 6 = true → ∃ g6, t128 = .slice (some ⟨g6, 0, none⟩) 1 1 ∧ (L 7 = false → OwnY ww W1.heap.size (.slice (some ⟨g6, 0, none⟩) 1 1) [(⟨sx, (jx : Int) + 1, false⟩ : Bl)] ∧ (L 0 = true → L 4 = false → t122.ownBlock ≠ some g6) ∧ (L 4 = true → t126.ownBlock ≠ some g6))) ∧ (L 7 = true → L 12 = false → OwnY ww W1.heap.size t129 ((out.take m) ++ [(⟨sx, (jx : Int) + 1, false⟩ : Bl)])) ∧ (L 8 = true → t130 = .slice (some ⟨g3, 0, none⟩) (m + 2) (m + 2)) ∧ (L 9 = true → t131 = .int .i64 m) ∧ (L 10 = true → t132 = .int .i64 ((m : Int) + 2)) ∧ (L 11 = true → t133 = .slice (some ⟨g3, 0, none⟩) 0 0) ∧ (L 12 = true → OwnY ww W1.heap.size t134 ((out.take m) ++ [(⟨sx, (jx : Int) + 1, false⟩ : Bl)] ++ [])) ∧ (L 13 = true → L 12 = true ∧ t8 = t134)) ?h0 ?hstep ?hdone
                          case h0 => exact ⟨_, _, _, _, _, _, _, _, _, _, _, _, _, _, rfl, h1W, (fun h => absurd h Bool.false_ne_true), (fun h => absurd h Bool.false_ne_true), (fun h => absurd h Bool.false_ne_true), fun _ => rfl, (fun h => absurd h Bool.false_ne_true), (fun h => absurd h Bool.false_ne_true), (fun h => absurd h Bool.false_ne_true), (fun h => absurd h Bool.false_ne_true), (fun h => absurd h Bool.false_ne_true), (fun h => absurd h Bool.false_ne_true), (fun h => absurd h Bool.false_ne_true), (fun h => absurd h Bool.false_ne_true), (fun h => absurd h Bool.false_ne_true), (fun h => absurd h Bool.false_ne_true), (fun h => absurd h Bool.false_ne_true), (fun h => absurd h Bool.false_ne_true), (fun h => absurd h Bool.false_ne_true), (fun h => absurd h Bool.false_ne_true), (fun h => absurd h Bool.false_ne_true)⟩
                          case hstep =>
                            rintro L ac ww i o ho hL hd ⟨t8, t122, t123, t124, t125, t126, t127, t128, t129, t130, t131, t132, t133, t134, rfl, I0, I1, I2, I3, I4, I5, f0, f1, f2, f3, f4, f5, f6, f7, f8, f9, f10, f11, f12, f13⟩
                            have hi : i < 14 := (Array.getElem?_eq_some_iff.1 ho).1
                            obtain rfl | rfl | rfl | rfl | rfl | rfl | rfl | rfl | rfl | rfl | rfl | rfl | rfl | rfl : i = 0 ∨ i = 1 ∨ i = 2 ∨ i = 3 ∨ i = 4 ∨ i = 5 ∨ i = 6 ∨ i = 7 ∨ i = 8 ∨ i = 9 ∨ i = 10 ∨ i = 11 ∨ i = 12 ∨ i = 13 := by omega
                            · obtain rfl := Option.some.inj ho
                              have h4 : L 4 = false := by
                                cases hh : L 4
                                · rfl
                                · exact absurd ((I1 hh).symm.trans hL) (by decide)
                              have h7 : L 7 = false := by
                                cases hh : L 7
                                · rfl
                                · exact absurd ((I2 hh).1.symm.trans h4) (by decide)
                              have h12 : L 12 = false := by
                                cases hh : L 12
                                · rfl
                                · exact absurd ((I3 hh).symm.trans h7) (by decide)
                              refine wpOp_step rfl (fun K' hK => ?_)
                              go_simp
                              refine hK _ _ ?_
                              exact ⟨_, _, _, _, _, _, _, _, _, _, _, _, _, _, rfl, (I0.alloc I0.size _), (fun _ => upd_self), (fun h => ⟨upd_mono (I2 (upd_ne h (by decide))).1, upd_mono (I2 (upd_ne h (by decide))).2⟩), (fun h => upd_mono (I3 (upd_ne h (by decide)))), (fun h => I4 (by rw [upd_other (by decide)] at h; exact h)), (upd_all I5 (by decide)), (fun _ _ => own_noneY ww _ I0.size), (fun h => f1 (upd_ne h (by decide))), (fun h => f2 (upd_ne h (by decide))), (fun h => f3 (upd_ne h (by decide))), (fun h => absurd ((upd_ne h (by decide)).symm.trans h4) (by decide)), (fun h => f5 (upd_ne h (by decide))), (fun h => by
                                  obtain ⟨g6, e1, e2⟩ := f6 (upd_ne h (by decide))
                                  have q6 := (World.ownsRow.lt (e2 h7).1 g6 rfl).2
                                  exact ⟨g6, e1, fun _ => ⟨World.ownsRow.alloc (e2 h7).1 _, fun _ _ e => by
                                    have e' : some ww.heap.size = some g6 := e
                                    injection e' with e'
                                    omega, fun h4' => (e2 h7).2.2 (upd_ne h4' (by decide))⟩⟩), (fun h => absurd ((upd_ne h (by decide)).symm.trans h7) (by decide)), (fun h => f8 (upd_ne h (by decide))), (fun h => f9 (upd_ne h (by decide))), (fun h => f10 (upd_ne h (by decide))), (fun h => f11 (upd_ne h (by decide))), (fun h => absurd ((upd_ne h (by decide)).symm.trans h12) (by decide)), (fun h => ⟨upd_mono (f13 (upd_ne h (by decide))).1, (f13 (upd_ne h (by decide))).2⟩)⟩
                            · obtain rfl := Option.some.inj ho
                              have h13 : L 13 = false := by
                                cases hh : L 13
                                · rfl
                                · exact absurd ((I5 hh 1 (by omega)).symm.trans hL) (by decide)
                              have ht8 := I4 h13
                              subst ht8
                              refine wpOp_step rfl (fun K' hK => ?_)
                              go_simp
                              refine hK _ _ ?_
                              exact ⟨_, _, _, _, _, _, _, _, _, _, _, _, _, _, rfl, (I0), (fun h => upd_mono (I1 (upd_ne h (by decide)))), (fun h => ⟨upd_mono (I2 (upd_ne h (by decide))).1, upd_mono (I2 (upd_ne h (by decide))).2⟩), (fun h => upd_mono (I3 (upd_ne h (by decide)))), (fun _ => rfl), (upd_all I5 (by decide)), (fun h h4 => f0 (upd_ne h (by decide)) (by rw [upd_other (by decide)] at h4; exact h4)), (fun _ => rfl), (fun h => f2 (upd_ne h (by decide))), (fun h => f3 (upd_ne h (by decide))), (fun h h7 => f4 (upd_ne h (by decide)) (by rw [upd_other (by decide)] at h7; exact h7)), (fun h => f5 (upd_ne h (by decide))), (fun h => by
                                  obtain ⟨g6, e1, e2⟩ := f6 (upd_ne h (by decide))
                                  exact ⟨g6, e1, fun h7 => ⟨(e2 (by rw [upd_other (by decide)] at h7; exact h7)).1, fun h0 h4 => (e2 (by rw [upd_other (by decide)] at h7; exact h7)).2.1 (upd_ne h0 (by decide)) (by rw [upd_other (by decide)] at h4; exact h4), fun h4 => (e2 (by rw [upd_other (by decide)] at h7; exact h7)).2.2 (upd_ne h4 (by decide))⟩⟩), (fun h h12 => f7 (upd_ne h (by decide)) (by rw [upd_other (by decide)] at h12; exact h12)), (fun h => f8 (upd_ne h (by decide))), (fun h => f9 (upd_ne h (by decide))), (fun h => f10 (upd_ne h (by decide))), (fun h => f11 (upd_ne h (by decide))), (fun h => f12 (upd_ne h (by decide))), (fun h => ⟨upd_mono (f13 (upd_ne h (by decide))).1, (f13 (upd_ne h (by decide))).2⟩)⟩
                            · obtain rfl := Option.some.inj ho
                              refine wpOp_step rfl (fun K' hK => ?_)
                              go_simp
                              refine hK _ _ ?_
                              exact ⟨_, _, _, _, _, _, _, _, _, _, _, _, _, _, rfl, (I0), (fun h => upd_mono (I1 (upd_ne h (by decide)))), (fun h => ⟨upd_mono (I2 (upd_ne h (by decide))).1, upd_mono (I2 (upd_ne h (by decide))).2⟩), (fun h => upd_mono (I3 (upd_ne h (by decide)))), (fun h => I4 (by rw [upd_other (by decide)] at h; exact h)), (upd_all I5 (by decide)), (fun h h4 => f0 (upd_ne h (by decide)) (by rw [upd_other (by decide)] at h4; exact h4)), (fun h => f1 (upd_ne h (by decide))), (fun _ => rfl), (fun h => f3 (upd_ne h (by decide))), (fun h h7 => f4 (upd_ne h (by decide)) (by rw [upd_other (by decide)] at h7; exact h7)), (fun h => f5 (upd_ne h (by decide))), (fun h => by
                                  obtain ⟨g6, e1, e2⟩ := f6 (upd_ne h (by decide))
                                  exact ⟨g6, e1, fun h7 => ⟨(e2 (by rw [upd_other (by decide)] at h7; exact h7)).1, fun h0 h4 => (e2 (by rw [upd_other (by decide)] at h7; exact h7)).2.1 (upd_ne h0 (by decide)) (by rw [upd_other (by decide)] at h4; exact h4), fun h4 => (e2 (by rw [upd_other (by decide)] at h7; exact h7)).2.2 (upd_ne h4 (by decide))⟩⟩), (fun h h12 => f7 (upd_ne h (by decide)) (by rw [upd_other (by decide)] at h12; exact h12)), (fun h => f8 (upd_ne h (by decide))), (fun h => f9 (upd_ne h (by decide))), (fun h => f10 (upd_ne h (by decide))), (fun h => f11 (upd_ne h (by decide))), (fun h => f12 (upd_ne h (by decide))), (fun h => ⟨upd_mono (f13 (upd_ne h (by decide))).1, (f13 (upd_ne h (by decide))).2⟩)⟩
                            · obtain rfl := Option.some.inj ho
                              have g1 := f1 (hd ⟨1, .data⟩ (by simp) rfl)
                              have g2 := f2 (hd ⟨2, .data⟩ (by simp) rfl)
                              subst g1
                              subst g2
                              refine wpOp_step rfl (fun K' hK => ?_)
                              go_simp
                              refine hK _ _ ?_
                              exact ⟨_, _, _, _, _, _, _, _, _, _, _, _, _, _, rfl, (I0), (fun h => upd_mono (I1 (upd_ne h (by decide)))), (fun h => ⟨upd_mono (I2 (upd_ne h (by decide))).1, upd_mono (I2 (upd_ne h (by decide))).2⟩), (fun h => upd_mono (I3 (upd_ne h (by decide)))), (fun h => I4 (by rw [upd_other (by decide)] at h; exact h)), (upd_all I5 (by decide)), (fun h h4 => f0 (upd_ne h (by decide)) (by rw [upd_other (by decide)] at h4; exact h4)), (fun h => f1 (upd_ne h (by decide))), (fun h => f2 (upd_ne h (by decide))), (fun _ => rfl), (fun h h7 => f4 (upd_ne h (by decide)) (by rw [upd_other (by decide)] at h7; exact h7)), (fun h => f5 (upd_ne h (by decide))), (fun h => by
                                  obtain ⟨g6, e1, e2⟩ := f6 (upd_ne h (by decide))
                                  exact ⟨g6, e1, fun h7 => ⟨(e2 (by rw [upd_other (by decide)] at h7; exact h7)).1, fun h0 h4 => (e2 (by rw [upd_other (by decide)] at h7; exact h7)).2.1 (upd_ne h0 (by decide)) (by rw [upd_other (by decide)] at h4; exact h4), fun h4 => (e2 (by rw [upd_other (by decide)] at h7; exact h7)).2.2 (upd_ne h4 (by decide))⟩⟩), (fun h h12 => f7 (upd_ne h (by decide)) (by rw [upd_other (by decide)] at h12; exact h12)), (fun h => f8 (upd_ne h (by decide))), (fun h => f9 (upd_ne h (by decide))), (fun h => f10 (upd_ne h (by decide))), (fun h => f11 (upd_ne h (by decide))), (fun h => f12 (upd_ne h (by decide))), (fun h => ⟨upd_mono (f13 (upd_ne h (by decide))).1, (f13 (upd_ne h (by decide))).2⟩)⟩
                            · obtain rfl := Option.some.inj ho
                              have g0 := f0 (hd ⟨0, .data⟩ (by simp) rfl)
                              have g3 := f3 (hd ⟨3, .data⟩ (by simp) rfl)
                              subst g3
                              have h7 : L 7 = false := by
                                cases hh : L 7
                                · rfl
                                · exact absurd ((I2 hh).1.symm.trans hL) (by decide)
                              have h12 : L 12 = false := by
                                cases hh : L 12
                                · rfl
                                · exact absurd ((I3 hh).symm.trans h7) (by decide)
                              have O0 := g0 hL
                              have h0' := hd ⟨0, .data⟩ (by simp) rfl
                              refine wpOp_step rfl (fun K' hK => ?_)
                              refine app_stepY (.tmp 122) (.tmp 125) rfl W1.heap.size t122 [] rfl O0 (some ⟨g3, 0, none⟩) m (m + 2) W1.heap.size (out.take m) rfl ((HRO.out.below I0).take (by omega)) (by simp <;> omega) I0.size ?_
                              intro v' w' o1 g1 s1
                              refine hK _ _ ?_
                              exact ⟨_, _, _, _, _, _, _, _, _, _, _, _, _, _, rfl, (I0.grown g1 I0.size (fun k hk => (World.ownsRow.lt O0 k hk).1)), (fun _ => upd_mono h0'), (fun h => ⟨upd_mono (I2 (upd_ne h (by decide))).1, upd_mono (I2 (upd_ne h (by decide))).2⟩), (fun h => upd_mono (I3 (upd_ne h (by decide)))), (fun h => I4 (by rw [upd_other (by decide)] at h; exact h)), (upd_all I5 (by decide)), (fun _ h => absurd (upd_self.symm.trans h) (by decide)), (fun h => f1 (upd_ne h (by decide))), (fun h => f2 (upd_ne h (by decide))), (fun h => f3 (upd_ne h (by decide))), (fun _ _ => OwnY.cast (by simp) o1), (fun h => f5 (upd_ne h (by decide))), (fun h => by
                                  obtain ⟨g6, e1, e2⟩ := f6 (upd_ne h (by decide))
                                  have q6 := (World.ownsRow.lt (e2 h7).1 g6 rfl).2
                                  exact ⟨g6, e1, fun _ => ⟨OwnY.far (e2 h7).1 g1 (.inr (fun e => (e2 h7).2.1 h0' hL e.symm)), fun _ h4 => absurd (upd_self.symm.trans h4) (by decide), fun _ e => by
                                    rcases s1 with s1 | s1
                                    · exact (e2 h7).2.1 h0' hL (s1.symm.trans e)
                                    · rw [s1] at e
                                      injection e with e
                                      omega⟩⟩), (fun h => absurd ((upd_ne h (by decide)).symm.trans h7) (by decide)), (fun h => f8 (upd_ne h (by decide))), (fun h => f9 (upd_ne h (by decide))), (fun h => f10 (upd_ne h (by decide))), (fun h => f11 (upd_ne h (by decide))), (fun h => absurd ((upd_ne h (by decide)).symm.trans h12) (by decide)), (fun h => ⟨upd_mono (f13 (upd_ne h (by decide))).1, (f13 (upd_ne h (by decide))).2⟩)⟩
                            · obtain rfl := Option.some.inj ho
                              obtain ⟨n0, n1, n2⟩ := HC1.out ww I0
                              refine wpOp_step rfl (fun K' hK => ?_)
                              go_simp
                              refine hK _ _ ?_
                              exact ⟨_, _, _, _, _, _, _, _, _, _, _, _, _, _, rfl, (I0), (fun h => upd_mono (I1 (upd_ne h (by decide)))), (fun h => ⟨upd_mono (I2 (upd_ne h (by decide))).1, upd_mono (I2 (upd_ne h (by decide))).2⟩), (fun h => upd_mono (I3 (upd_ne h (by decide)))), (fun h => I4 (by rw [upd_other (by decide)] at h; exact h)), (upd_all I5 (by decide)), (fun h h4 => f0 (upd_ne h (by decide)) (by rw [upd_other (by decide)] at h4; exact h4)), (fun h => f1 (upd_ne h (by decide))), (fun h => f2 (upd_ne h (by decide))), (fun h => f3 (upd_ne h (by decide))), (fun h h7 => f4 (upd_ne h (by decide)) (by rw [upd_other (by decide)] at h7; exact h7)), (fun _ => rfl), (fun h => by
                                  obtain ⟨g6, e1, e2⟩ := f6 (upd_ne h (by decide))
                                  exact ⟨g6, e1, fun h7 => ⟨(e2 (by rw [upd_other (by decide)] at h7; exact h7)).1, fun h0 h4 => (e2 (by rw [upd_other (by decide)] at h7; exact h7)).2.1 (upd_ne h0 (by decide)) (by rw [upd_other (by decide)] at h4; exact h4), fun h4 => (e2 (by rw [upd_other (by decide)] at h7; exact h7)).2.2 (upd_ne h4 (by decide))⟩⟩), (fun h h12 => f7 (upd_ne h (by decide)) (by rw [upd_other (by decide)] at h12; exact h12)), (fun h => f8 (upd_ne h (by decide))), (fun h => f9 (upd_ne h (by decide))), (fun h => f10 (upd_ne h (by decide))), (fun h => f11 (upd_ne h (by decide))), (fun h => f12 (upd_ne h (by decide))), (fun h => ⟨upd_mono (f13 (upd_ne h (by decide))).1, (f13 (upd_ne h (by decide))).2⟩)⟩
                            · obtain rfl := Option.some.inj ho
                              have g5 := f5 (hd ⟨5, .data⟩ (by simp) rfl)
                              subst g5
                              have h7 : L 7 = false := by
                                cases hh : L 7
                                · rfl
                                · exact absurd ((I2 hh).2.symm.trans hL) (by decide)
                              have h12 : L 12 = false := by
                                cases hh : L 12
                                · rfl
                                · exact absurd ((I3 hh).symm.trans h7) (by decide)
                              refine wpOp_step rfl (fun K' hK => ?_)
                              go_simp
                              refine hK _ _ ?_
                              exact ⟨_, _, _, _, _, _, _, _, _, _, _, _, _, _, rfl, (I0.alloc I0.size _), (fun h => upd_mono (I1 (upd_ne h (by decide)))), (fun h => ⟨upd_mono (I2 (upd_ne h (by decide))).1, upd_mono (I2 (upd_ne h (by decide))).2⟩), (fun h => upd_mono (I3 (upd_ne h (by decide)))), (fun h => I4 (by rw [upd_other (by decide)] at h; exact h)), (upd_all I5 (by decide)), (fun h h4 => World.ownsRow.alloc (f0 (upd_ne h (by decide)) (by rw [upd_other (by decide)] at h4; exact h4)) _), (fun h => f1 (upd_ne h (by decide))), (fun h => f2 (upd_ne h (by decide))), (fun h => f3 (upd_ne h (by decide))), (fun h h7' => World.ownsRow.alloc (f4 (upd_ne h (by decide)) h7) _), (fun h => f5 (upd_ne h (by decide))), (fun _ => ⟨ww.heap.size, rfl, fun _ => ⟨own_oneY ww sx ((jx : Int) + 1) false W1.heap.size I0.size, fun h0 h4 e => by
                                  have := (World.ownsRow.lt (f0 (upd_ne h0 (by decide)) (by rw [upd_other (by decide)] at h4; exact h4)) _ e).2
                                  omega, fun h4 e => by
                                  have := (World.ownsRow.lt (f4 (upd_ne h4 (by decide)) h7) _ e).2
                                  omega⟩⟩), (fun h => absurd ((upd_ne h (by decide)).symm.trans h7) (by decide)), (fun h => f8 (upd_ne h (by decide))), (fun h => f9 (upd_ne h (by decide))), (fun h => f10 (upd_ne h (by decide))), (fun h => f11 (upd_ne h (by decide))), (fun h => absurd ((upd_ne h (by decide)).symm.trans h12) (by decide)), (fun h => ⟨upd_mono (f13 (upd_ne h (by decide))).1, (f13 (upd_ne h (by decide))).2⟩)⟩
                            · obtain rfl := Option.some.inj ho
                              have g4' := f4 (hd ⟨4, .data⟩ (by simp) rfl)
                              have g6' := f6 (hd ⟨6, .data⟩ (by simp) rfl)
                              obtain ⟨g6, rfl, e6⟩ := g6'
                              have O4 := g4' hL
                              have O6 := (e6 hL).1
                              have h12 : L 12 = false := by
                                cases hh : L 12
                                · rfl
                                · exact absurd ((I3 hh).symm.trans hL) (by decide)
                              have h4' := hd ⟨4, .data⟩ (by simp) rfl
                              refine wpOp_step rfl (fun K' hK => ?_)
                              refine app_stepY (.tmp 126) (.tmp 128) rfl W1.heap.size t126 (out.take m) rfl O4 (some ⟨g6, 0, none⟩) 1 1 ww.heap.size [(⟨sx, (jx : Int) + 1, false⟩ : Bl)] rfl (O6.reads HAI.out) (by simp <;> omega) I0.size ?_
                              intro v' w' o1 g1 s1
                              refine hK _ _ ?_
                              exact ⟨_, _, _, _, _, _, _, _, _, _, _, _, _, _, rfl, (I0.grown g1 I0.size (fun k hk => (World.ownsRow.lt O4 k hk).1)), (fun h => upd_mono (I1 (upd_ne h (by decide)))), (fun _ => ⟨upd_mono h4', upd_mono (hd ⟨6, .data⟩ (by simp) rfl)⟩), (fun h => upd_mono (I3 (upd_ne h (by decide)))), (fun h => I4 (by rw [upd_other (by decide)] at h; exact h)), (upd_all I5 (by decide)), (fun h h4 => absurd ((upd_other (by decide)).symm.trans h4) (by rw [h4']; decide)), (fun h => f1 (upd_ne h (by decide))), (fun h => f2 (upd_ne h (by decide))), (fun h => f3 (upd_ne h (by decide))), (fun _ h => absurd (upd_self.symm.trans h) (by decide)), (fun h => f5 (upd_ne h (by decide))), (fun _ => ⟨g6, rfl, fun h => absurd (upd_self.symm.trans h) (by decide)⟩), (fun _ _ => o1), (fun h => f8 (upd_ne h (by decide))), (fun h => f9 (upd_ne h (by decide))), (fun h => f10 (upd_ne h (by decide))), (fun h => f11 (upd_ne h (by decide))), (fun h => absurd ((upd_ne h (by decide)).symm.trans h12) (by decide)), (fun h => ⟨upd_mono (f13 (upd_ne h (by decide))).1, (f13 (upd_ne h (by decide))).2⟩)⟩
                            · obtain rfl := Option.some.inj ho
                              have h13 : L 13 = false := by
                                cases hh : L 13
                                · rfl
                                · exact absurd ((I5 hh 8 (by omega)).symm.trans hL) (by decide)
                              have ht8 := I4 h13
                              subst ht8
                              refine wpOp_step rfl (fun K' hK => ?_)
                              go_simp
                              refine hK _ _ ?_
                              exact ⟨_, _, _, _, _, _, _, _, _, _, _, _, _, _, rfl, (I0), (fun h => upd_mono (I1 (upd_ne h (by decide)))), (fun h => ⟨upd_mono (I2 (upd_ne h (by decide))).1, upd_mono (I2 (upd_ne h (by decide))).2⟩), (fun h => upd_mono (I3 (upd_ne h (by decide)))), (fun _ => rfl), (upd_all I5 (by decide)), (fun h h4 => f0 (upd_ne h (by decide)) (by rw [upd_other (by decide)] at h4; exact h4)), (fun h => f1 (upd_ne h (by decide))), (fun h => f2 (upd_ne h (by decide))), (fun h => f3 (upd_ne h (by decide))), (fun h h7 => f4 (upd_ne h (by decide)) (by rw [upd_other (by decide)] at h7; exact h7)), (fun h => f5 (upd_ne h (by decide))), (fun h => by
                                  obtain ⟨g6, e1, e2⟩ := f6 (upd_ne h (by decide))
                                  exact ⟨g6, e1, fun h7 => ⟨(e2 (by rw [upd_other (by decide)] at h7; exact h7)).1, fun h0 h4 => (e2 (by rw [upd_other (by decide)] at h7; exact h7)).2.1 (upd_ne h0 (by decide)) (by rw [upd_other (by decide)] at h4; exact h4), fun h4 => (e2 (by rw [upd_other (by decide)] at h7; exact h7)).2.2 (upd_ne h4 (by decide))⟩⟩), (fun h h12 => f7 (upd_ne h (by decide)) (by rw [upd_other (by decide)] at h12; exact h12)), (fun _ => rfl), (fun h => f9 (upd_ne h (by decide))), (fun h => f10 (upd_ne h (by decide))), (fun h => f11 (upd_ne h (by decide))), (fun h => f12 (upd_ne h (by decide))), (fun h => ⟨upd_mono (f13 (upd_ne h (by decide))).1, (f13 (upd_ne h (by decide))).2⟩)⟩
                            · obtain rfl := Option.some.inj ho
                              refine wpOp_step rfl (fun K' hK => ?_)
                              go_simp
                              refine hK _ _ ?_
                              exact ⟨_, _, _, _, _, _, _, _, _, _, _, _, _, _, rfl, (I0), (fun h => upd_mono (I1 (upd_ne h (by decide)))), (fun h => ⟨upd_mono (I2 (upd_ne h (by decide))).1, upd_mono (I2 (upd_ne h (by decide))).2⟩), (fun h => upd_mono (I3 (upd_ne h (by decide)))), (fun h => I4 (by rw [upd_other (by decide)] at h; exact h)), (upd_all I5 (by decide)), (fun h h4 => f0 (upd_ne h (by decide)) (by rw [upd_other (by decide)] at h4; exact h4)), (fun h => f1 (upd_ne h (by decide))), (fun h => f2 (upd_ne h (by decide))), (fun h => f3 (upd_ne h (by decide))), (fun h h7 => f4 (upd_ne h (by decide)) (by rw [upd_other (by decide)] at h7; exact h7)), (fun h => f5 (upd_ne h (by decide))), (fun h => by
                                  obtain ⟨g6, e1, e2⟩ := f6 (upd_ne h (by decide))
                                  exact ⟨g6, e1, fun h7 => ⟨(e2 (by rw [upd_other (by decide)] at h7; exact h7)).1, fun h0 h4 => (e2 (by rw [upd_other (by decide)] at h7; exact h7)).2.1 (upd_ne h0 (by decide)) (by rw [upd_other (by decide)] at h4; exact h4), fun h4 => (e2 (by rw [upd_other (by decide)] at h7; exact h7)).2.2 (upd_ne h4 (by decide))⟩⟩), (fun h h12 => f7 (upd_ne h (by decide)) (by rw [upd_other (by decide)] at h12; exact h12)), (fun h => f8 (upd_ne h (by decide))), (fun _ => rfl), (fun h => f10 (upd_ne h (by decide))), (fun h => f11 (upd_ne h (by decide))), (fun h => f12 (upd_ne h (by decide))), (fun h => ⟨upd_mono (f13 (upd_ne h (by decide))).1, (f13 (upd_ne h (by decide))).2⟩)⟩
                            · obtain rfl := Option.some.inj ho
                              have g9 := f9 (hd ⟨9, .data⟩ (by simp) rfl)
                              subst g9
                              have hw : IntKind.i64.wrap ((m : Int) + 2) = (m : Int) + 2 := IntWalk.i64_in _ (by omega)
                              refine wpOp_step rfl (fun K' hK => ?_)
                              go_simp
                              refine hK _ _ ?_
                              clear hw
                              exact ⟨_, _, _, _, _, _, _, _, _, _, _, _, _, _, rfl, (I0), (fun h => upd_mono (I1 (upd_ne h (by decide)))), (fun h => ⟨upd_mono (I2 (upd_ne h (by decide))).1, upd_mono (I2 (upd_ne h (by decide))).2⟩), (fun h => upd_mono (I3 (upd_ne h (by decide)))), (fun h => I4 (by rw [upd_other (by decide)] at h; exact h)), (upd_all I5 (by decide)), (fun h h4 => f0 (upd_ne h (by decide)) (by rw [upd_other (by decide)] at h4; exact h4)), (fun h => f1 (upd_ne h (by decide))), (fun h => f2 (upd_ne h (by decide))), (fun h => f3 (upd_ne h (by decide))), (fun h h7 => f4 (upd_ne h (by decide)) (by rw [upd_other (by decide)] at h7; exact h7)), (fun h => f5 (upd_ne h (by decide))), (fun h => by
                                  obtain ⟨g6, e1, e2⟩ := f6 (upd_ne h (by decide))
                                  exact ⟨g6, e1, fun h7 => ⟨(e2 (by rw [upd_other (by decide)] at h7; exact h7)).1, fun h0 h4 => (e2 (by rw [upd_other (by decide)] at h7; exact h7)).2.1 (upd_ne h0 (by decide)) (by rw [upd_other (by decide)] at h4; exact h4), fun h4 => (e2 (by rw [upd_other (by decide)] at h7; exact h7)).2.2 (upd_ne h4 (by decide))⟩⟩), (fun h h12 => f7 (upd_ne h (by decide)) (by rw [upd_other (by decide)] at h12; exact h12)), (fun h => f8 (upd_ne h (by decide))), (fun h => f9 (upd_ne h (by decide))), (fun _ => rfl), (fun h => f11 (upd_ne h (by decide))), (fun h => f12 (upd_ne h (by decide))), (fun h => ⟨upd_mono (f13 (upd_ne h (by decide))).1, (f13 (upd_ne h (by decide))).2⟩)⟩
                            · obtain rfl := Option.some.inj ho
                              have g8 := f8 (hd ⟨8, .data⟩ (by simp) rfl)
                              have g10 := f10 (hd ⟨10, .data⟩ (by simp) rfl)
                              subst g8
                              subst g10
                              refine wpOp_step rfl (fun K' hK => ?_)
                              go_simp
                              refine hK _ _ ?_
                              exact ⟨_, _, _, _, _, _, _, _, _, _, _, _, _, _, rfl, (I0), (fun h => upd_mono (I1 (upd_ne h (by decide)))), (fun h => ⟨upd_mono (I2 (upd_ne h (by decide))).1, upd_mono (I2 (upd_ne h (by decide))).2⟩), (fun h => upd_mono (I3 (upd_ne h (by decide)))), (fun h => I4 (by rw [upd_other (by decide)] at h; exact h)), (upd_all I5 (by decide)), (fun h h4 => f0 (upd_ne h (by decide)) (by rw [upd_other (by decide)] at h4; exact h4)), (fun h => f1 (upd_ne h (by decide))), (fun h => f2 (upd_ne h (by decide))), (fun h => f3 (upd_ne h (by decide))), (fun h h7 => f4 (upd_ne h (by decide)) (by rw [upd_other (by decide)] at h7; exact h7)), (fun h => f5 (upd_ne h (by decide))), (fun h => by
                                  obtain ⟨g6, e1, e2⟩ := f6 (upd_ne h (by decide))
                                  exact ⟨g6, e1, fun h7 => ⟨(e2 (by rw [upd_other (by decide)] at h7; exact h7)).1, fun h0 h4 => (e2 (by rw [upd_other (by decide)] at h7; exact h7)).2.1 (upd_ne h0 (by decide)) (by rw [upd_other (by decide)] at h4; exact h4), fun h4 => (e2 (by rw [upd_other (by decide)] at h7; exact h7)).2.2 (upd_ne h4 (by decide))⟩⟩), (fun h h12 => f7 (upd_ne h (by decide)) (by rw [upd_other (by decide)] at h12; exact h12)), (fun h => f8 (upd_ne h (by decide))), (fun h => f9 (upd_ne h (by decide))), (fun h => f10 (upd_ne h (by decide))), (fun _ => rfl), (fun h => f12 (upd_ne h (by decide))), (fun h => ⟨upd_mono (f13 (upd_ne h (by decide))).1, (f13 (upd_ne h (by decide))).2⟩)⟩
                            · obtain rfl := Option.some.inj ho
                              have g7' := f7 (hd ⟨7, .data⟩ (by simp) rfl)
                              have g11 := f11 (hd ⟨11, .data⟩ (by simp) rfl)
                              subst g11
                              have O7 := g7' hL
                              have h7' := hd ⟨7, .data⟩ (by simp) rfl
                              refine wpOp_step rfl (fun K' hK => ?_)
                              refine app_stepY (.tmp 129) (.tmp 133) rfl W1.heap.size t129 ((out.take m) ++ [(⟨sx, (jx : Int) + 1, false⟩ : Bl)]) rfl O7 (some ⟨g3, 0, none⟩) 0 0 W1.heap.size ([]) rfl (HTL.out ww I0) (by simp <;> omega) I0.size ?_
                              intro v' w' o1 g1 s1
                              refine hK _ _ ?_
                              exact ⟨_, _, _, _, _, _, _, _, _, _, _, _, _, _, rfl, (I0.grown g1 I0.size (fun k hk => (World.ownsRow.lt O7 k hk).1)), (fun h => upd_mono (I1 (upd_ne h (by decide)))), (fun h => ⟨upd_mono (I2 (upd_ne h (by decide))).1, upd_mono (I2 (upd_ne h (by decide))).2⟩), (fun _ => upd_mono h7'), (fun h => I4 (by rw [upd_other (by decide)] at h; exact h)), (upd_all I5 (by decide)), (fun h h4 => absurd ((upd_other (by decide)).symm.trans h4) (by rw [(I2 h7').1]; decide)), (fun h => f1 (upd_ne h (by decide))), (fun h => f2 (upd_ne h (by decide))), (fun h => f3 (upd_ne h (by decide))), (fun h h7 => absurd ((upd_other (by decide)).symm.trans h7) (by rw [h7']; decide)), (fun h => f5 (upd_ne h (by decide))), (fun h => by
                                  obtain ⟨g6, e1, _⟩ := f6 (upd_ne h (by decide))
                                  exact ⟨g6, e1, fun h7 => absurd ((upd_other (by decide)).symm.trans h7) (by rw [h7']; decide)⟩), (fun _ h => absurd (upd_self.symm.trans h) (by decide)), (fun h => f8 (upd_ne h (by decide))), (fun h => f9 (upd_ne h (by decide))), (fun h => f10 (upd_ne h (by decide))), (fun h => f11 (upd_ne h (by decide))), (fun _ => o1), (fun h => absurd ((f13 (upd_ne h (by decide))).1.symm.trans hL) (by decide))⟩
                            · obtain rfl := Option.some.inj ho
                              have g12 := f12 (hd ⟨12, .data⟩ (by simp) rfl)
                              have hphase := Lib.hid (show ∀ k, k < 13 → L k = true by
                                intro k hk
                                obtain rfl | rfl | rfl | rfl | rfl | rfl | rfl | rfl | rfl | rfl | rfl | rfl | rfl : k = 0 ∨ k = 1 ∨ k = 2 ∨ k = 3 ∨ k = 4 ∨ k = 5 ∨ k = 6 ∨ k = 7 ∨ k = 8 ∨ k = 9 ∨ k = 10 ∨ k = 11 ∨ k = 12 := by omega
                                · exact hd ⟨0, .phase⟩ (by simp) rfl
                                · exact hd ⟨1, .phase⟩ (by simp) rfl
                                · exact hd ⟨2, .phase⟩ (by simp) rfl
                                · exact hd ⟨3, .phase⟩ (by simp) rfl
                                · exact hd ⟨4, .phase⟩ (by simp) rfl
                                · exact hd ⟨5, .phase⟩ (by simp) rfl
                                · exact hd ⟨6, .phase⟩ (by simp) rfl
                                · exact hd ⟨7, .phase⟩ (by simp) rfl
                                · exact hd ⟨8, .phase⟩ (by simp) rfl
                                · exact hd ⟨9, .phase⟩ (by simp) rfl
                                · exact hd ⟨10, .phase⟩ (by simp) rfl
                                · exact hd ⟨11, .phase⟩ (by simp) rfl
                                · exact hd ⟨12, .data⟩ (by simp) rfl)
                              refine wpOp_step rfl (fun K' hK => ?_)
                              go_simp
                              refine hK _ _ ?_
                              exact ⟨_, _, _, _, _, _, _, _, _, _, _, _, _, _, rfl, (I0), (fun h => upd_mono (I1 (upd_ne h (by decide)))), (fun h => ⟨upd_mono (I2 (upd_ne h (by decide))).1, upd_mono (I2 (upd_ne h (by decide))).2⟩), (fun h => upd_mono (I3 (upd_ne h (by decide)))), (fun h => absurd (upd_self.symm.trans h) (by decide)), (fun _ k hk => upd_mono (hphase.out k hk)), (fun h h4 => f0 (upd_ne h (by decide)) (by rw [upd_other (by decide)] at h4; exact h4)), (fun h => f1 (upd_ne h (by decide))), (fun h => f2 (upd_ne h (by decide))), (fun h => f3 (upd_ne h (by decide))), (fun h h7 => f4 (upd_ne h (by decide)) (by rw [upd_other (by decide)] at h7; exact h7)), (fun h => f5 (upd_ne h (by decide))), (fun h => by
                                  obtain ⟨g6, e1, e2⟩ := f6 (upd_ne h (by decide))
                                  exact ⟨g6, e1, fun h7 => ⟨(e2 (by rw [upd_other (by decide)] at h7; exact h7)).1, fun h0 h4 => (e2 (by rw [upd_other (by decide)] at h7; exact h7)).2.1 (upd_ne h0 (by decide)) (by rw [upd_other (by decide)] at h4; exact h4), fun h4 => (e2 (by rw [upd_other (by decide)] at h7; exact h7)).2.2 (upd_ne h4 (by decide))⟩⟩), (fun h h12 => f7 (upd_ne h (by decide)) (by rw [upd_other (by decide)] at h12; exact h12)), (fun h => f8 (upd_ne h (by decide))), (fun h => f9 (upd_ne h (by decide))), (fun h => f10 (upd_ne h (by decide))), (fun h => f11 (upd_ne h (by decide))), (fun h => f12 (upd_ne h (by decide))), (fun _ => ⟨upd_mono (hd ⟨12, .data⟩ (by simp) rfl), rfl⟩)⟩
                          case hdone =>
                            rintro L ac ww hall ⟨t8, t122, t123, t124, t125, t126, t127, t128, t129, t130, t131, t132, t133, t134, rfl, I0, I1, I2, I3, I4, I5, f0, f1, f2, f3, f4, f5, f6, f7, f8, f9, f10, f11, f12, f13⟩
                            have e0 := f0 (hall 0 (by decide))
                            have e1 := f1 (hall 1 (by decide))
                            have e2 := f2 (hall 2 (by decide))
                            have e3 := f3 (hall 3 (by decide))
                            have e4 := f4 (hall 4 (by decide))
                            have e5 := f5 (hall 5 (by decide))
                            have e6 := f6 (hall 6 (by decide))
                            have e7 := f7 (hall 7 (by decide))
                            have e8 := f8 (hall 8 (by decide))
                            have e9 := f9 (hall 9 (by decide))
                            have e10 := f10 (hall 10 (by decide))
                            have e11 := f11 (hall 11 (by decide))
                            have e12 := f12 (hall 12 (by decide))
                            have e13 := f13 (hall 13 (by decide))
                            clear f0 f1 f2 f3 f4 f5 f6 f7 f8 f9 f10 f11 f12 f13
                            clear v5 v6
                            obtain ⟨_, rfl⟩ := e13
                            obtain ⟨A8, c8, ev8, _⟩ := e12.form
                            obtain ⟨g6, e6x, _⟩ := e6
                            subst e1 e2 e3 e5 e8 e9 e10 e11 e6x
                            clear e0 e4 e7 I1 I2 I3 I4 I5
                            have hJ := Bud.join_facts HOKL2.out HXG.out (by rw [HN.out]; omega) (by simp only; omega)
                            have OW : OwnY ww w.heap.size t8 (Bud.joinAt out m) := (OwnY.cast (by rw [hJ.2.1]; rw [HD.out]) e12).base bW1.size
                            have HLP := Lib.hid (show Bud.giveY xs P a = Bud.loopG P (P - (jx + 1)) (Bud.joinAt out m) m by rw [hgv2.out, show P - jx = (P - (jx + 1)) + 1 by omega, Bud.loop_some HST.out])
                            have hjl : (Bud.joinAt out m).length = (m + 2) - 1 := by rw [hJ.2.2.1, HN.out]
                            have hsl : sliceLen t8 = (m + 2) - 1 := by
                              rw [ev8]
                              show (out.take m ++ [(⟨sx, (jx : Int) + 1, false⟩ : Bl)] ++ []).length = _
                              rw [← hjl, hJ.2.1]; rw [HD.out]
                            have HJJ := Lib.hid hJ
                            clear hJ ev8 e12
                            go_wp2
                            go_roundw
                            case rel => exact ⟨Bud.joinAt out m, m, _, OW, rfl, HJJ.out.2.2.2, HJJ.out.1, by omega, rfl, by
                              have e : (((jx : Int) + 1)).toNat = jx + 1 := by omega
                              show Hid (Bud.giveY xs P a = Bud.loopG P (P - ((jx : Int) + 1).toNat) (Bud.joinAt out m) m)
                              rw [e]
                              exact HLP, bW1.trans (I0.mono bW1.size)⟩
                            case measure => first | (rw [hsl]; show _ < (m + 2); omega) | (simp only [hsl, sliceLen]; omega)

                        · have v3 : (m : Int) + 2 ≤ N := by omega
                          have v4 : (m : Int) + 2 ≤ c3 := by omega
                          have HTL := Lib.hid (fun W' (e2 : Below W1.heap.size W1 W') => (by have := (HRO.out.below e2).drop (k := m + 2) (by omega); rw [Nat.zero_add] at this; exact this : BS W' W1.heap.size (some ⟨g3, (m + 2) * 3, none⟩) (N - (m + 2)) (out.drop (m + 2))))
                          refine wp_region_inv (by kernel_rfl) (by kernel_rfl) (fun L ac ww => ∃ t8 t122 t123 t124 t125 t126 t127 t128 t129 t130 t131 t132 t133 t134 : Value, ac = { tmps := #[Value.slice A n c, Value.int IntKind.i64 ↑P, Value.int IntKind.i64 a, undef, undef, undef, Value.slice none 0 0, Value.bool false, t8, Value.int IntKind.i64 (↑m + 1), Value.int IntKind.i64 ↑k, Value.int IntKind.i64 mv, Value.int IntKind.i64 ↑m, Value.pointer (some ⟨W0.heap.size, 0, none⟩), Value.slice A n c, Value.int IntKind.i64 ↑P, Value.bool true, Value.bool false, undef, Value.slice (some ⟨w1.heap.size, 0, none⟩) 0 0, Value.slice A n c, Value.slice (some ⟨gv, 0, none⟩) n c2, Value.int IntKind.i64 ↑k, Value.slice (some ⟨gv, 0, none⟩) n c2, Value.int IntKind.i64 ↑n, Value.bool false, u26, u27, u28, u29, u30, u31, u32, u33, u34, u35, u36, u37, u38, u39, u40, u41, u42, Value.int IntKind.i64 ↑b, Value.bool false, undef, Value.slice (some ⟨gv, 0, none⟩) n c2, Value.int IntKind.i64 ↑b, Value.pointer (some ⟨gv, b * 3, none⟩), Value.pointer (some ⟨gv, b * 3 + 2, none⟩), Value.slice (some ⟨g3, 0, none⟩) N c3, Value.int IntKind.i64 (↑m + 1), Value.pointer (some ⟨g3, (m + 1) * 3, none⟩), Value.pointer (some ⟨g3, (m + 1) * 3 + 1, none⟩), Value.int IntKind.i64 ↑jx, Value.int IntKind.i64 ↑P, Value.bool true, Value.slice (some ⟨g3, 0, none⟩) N c3, Value.int IntKind.i64 (↑m + 1), Value.pointer (some ⟨g3, (m + 1) * 3, none⟩), Value.agg #[Value.int IntKind.i64 ↑sy, Value.int IntKind.i64 ↑jx, Value.bool false], Value.int IntKind.i64 mv, Value.int IntKind.i64 (↑m + 1), Value.int IntKind.i64 mv, Value.slice (some ⟨g3, 0, none⟩) N c3, Value.int IntKind.i64 (↑m + 1), Value.pointer (some ⟨g3, (m + 1) * 3, none⟩), Value.pointer (some ⟨g3, (m + 1) * 3, none⟩), Value.int IntKind.i64 ↑sy, Value.bool true, Value.int IntKind.i64 (↑m + 1), Value.int IntKind.i64 ↑m, Value.int IntKind.i64 ↑m, Value.bool false, Value.bool false, Value.int IntKind.i64 ↑m, Value.int IntKind.i64 (↑m + 1), Value.slice (some ⟨g3, 0, none⟩) N c3, Value.int IntKind.i64 ↑N, Value.bool false, Value.bool false, Value.bool false, Value.slice (some ⟨g3, 0, none⟩) N c3, Value.int IntKind.i64 ↑m, Value.pointer (some ⟨g3, m * 3, none⟩), Value.pointer (some ⟨g3, m * 3 + 2, none⟩), Value.bool false, Value.bool false, Value.bool false, Value.slice (some ⟨g3, 0, none⟩) N c3, Value.int IntKind.i64 ↑m, Value.int IntKind.i64 (↑m + 1), Value.pointer (some ⟨g3, (m + 1) * 3, none⟩), Value.pointer (some ⟨g3, (m + 1) * 3 + 2, none⟩), Value.bool false, Value.bool false, Value.bool false, Value.slice (some ⟨g3, 0, none⟩) N c3, Value.int IntKind.i64 ↑m, Value.pointer (some ⟨g3, m * 3, none⟩), Value.pointer (some ⟨g3, m * 3 + 1, none⟩), Value.int IntKind.i64 ↑jx, Value.slice (some ⟨g3, 0, none⟩) N c3, Value.int IntKind.i64 ↑m, Value.int IntKind.i64 (↑m + 1), Value.pointer (some ⟨g3, (m + 1) * 3, none⟩), Value.pointer (some ⟨g3, (m + 1) * 3 + 1, none⟩), Value.int IntKind.i64 ↑jx, Value.bool false, Value.bool false, Value.slice (some ⟨g3, 0, none⟩) N c3, Value.int IntKind.i64 ↑m, Value.pointer (some ⟨g3, m * 3, none⟩), Value.pointer (some ⟨g3, m * 3, none⟩), Value.int IntKind.i64 ↑sx, Value.slice (some ⟨g3, 0, none⟩) N c3, Value.int IntKind.i64 ↑m, Value.pointer (some ⟨g3, m * 3, none⟩), Value.pointer (some ⟨g3, m * 3 + 1, none⟩), Value.int IntKind.i64 ↑jx, Value.int IntKind.i64 (↑jx + 1), Value.agg #[Value.int IntKind.i64 ↑sx, Value.int IntKind.i64 (↑jx + 1), Value.bool false], t122, t123, t124, t125, t126, t127, t128, t129, t130, t131, t132, t133, t134, u135, undef], defers := [] } ∧ (Below W1.heap.size W1 ww) ∧ (L 4 = true → L 0 = true) ∧ (L 7 = true → L 4 = true ∧ L 6 = true) ∧ (L 12 = true → L 7 = true) ∧ (L 13 = false → t8 = .slice (some ⟨g3, 0, none⟩) N c3) ∧ (L 13 = true → ∀ i, i < 13 → L i = true) ∧ (L 0 = true → L 4 = false → OwnY ww W1.heap.size t122 []) ∧ (L 1 = true → t123 = .slice (some ⟨g3, 0, none⟩) N c3) ∧ (L 2 = true → t124 = .int .i64 m) ∧ (L 3 = true → t125 = .slice (some ⟨g3, 0, none⟩) m c3) ∧ (L 4 = true → L 7 = false → OwnY ww W1.heap.size t126 (out.take m)) ∧ (L 5 = true → t127 = .agg #[.int .i64 sx, .int .i64 ((jx : Int) + 1), .bool false]) ∧ (L 6 = true → ∃ g6, t128 = .slice (some ⟨g6, 0, none⟩) 1 1 ∧ (L 7 = false → OwnY ww W1.heap.size (.slice (some ⟨g6, 0, none⟩) 1 1) [(⟨sx, (jx : Int) + 1, false⟩ : Bl)] ∧ (L 0 = true → L 4 = false → t122.ownBlock ≠ some g6) ∧ (L 4 = true → t126.ownBlock ≠ some g6))) ∧ (L 7 = true → L 12 = false → OwnY ww W1.heap.size t129 ((out.take m) ++ [(⟨sx, (jx : Int) + 1, false⟩ : Bl)])) ∧ (L 8 = true → t130 = .slice (some ⟨g3, 0, none⟩) N c3) ∧ (L 9 = true → t131 = .int .i64 m) ∧ (L 10 = true → t132 = .int .i64 ((m : Int) + 2)) ∧ (L 11 = true → t133 = .slice (some ⟨g3, (m + 2) * 3, none⟩) (N - (m + 2)) (c3 - (m + 2))) ∧ (L 12 = true → OwnY ww W1.heap.size t134 ((out.take m) ++ [(⟨sx, (jx : Int) + 1, false⟩ : Bl)] ++ out.drop (m + 2))) ∧ (L 13 = true → L 12 = true ∧ t8 = t134)) ?h0 ?hstep ?hdone
                          case h0 => exact ⟨_, _, _, _, _, _, _, _, _, _, _, _, _, _, rfl, h1W, (fun h => absurd h Bool.false_ne_true), (fun h => absurd h Bool.false_ne_true), (fun h => absurd h Bool.false_ne_true), fun _ => rfl, (fun h => absurd h Bool.false_ne_true), (fun h => absurd h Bool.false_ne_true), (fun h => absurd h Bool.false_ne_true), (fun h => absurd h Bool.false_ne_true), (fun h => absurd h Bool.false_ne_true), (fun h => absurd h Bool.false_ne_true), (fun h => absurd h Bool.false_ne_true), (fun h => absurd h Bool.false_ne_true), (fun h => absurd h Bool.false_ne_true), (fun h => absurd h Bool.false_ne_true), (fun h => absurd h Bool.false_ne_true), (fun h => absurd h Bool.false_ne_true), (fun h => absurd h Bool.false_ne_true), (fun h => absurd h Bool.false_ne_true), (fun h => absurd h Bool.false_ne_true)⟩
                          case hstep =>
                            rintro L ac ww i o ho hL hd ⟨t8, t122, t123, t124, t125, t126, t127, t128, t129, t130, t131, t132, t133, t134, rfl, I0, I1, I2, I3, I4, I5, f0, f1, f2, f3, f4, f5, f6, f7, f8, f9, f10, f11, f12, f13⟩
                            have hi : i < 14 := (Array.getElem?_eq_some_iff.1 ho).1
                            obtain rfl | rfl | rfl | rfl | rfl | rfl | rfl | rfl | rfl | rfl | rfl | rfl | rfl | rfl : i = 0 ∨ i = 1 ∨ i = 2 ∨ i = 3 ∨ i = 4 ∨ i = 5 ∨ i = 6 ∨ i = 7 ∨ i = 8 ∨ i = 9 ∨ i = 10 ∨ i = 11 ∨ i = 12 ∨ i = 13 := by omega
                            · obtain rfl := Option.some.inj ho
                              have h4 : L 4 = false := by
                                cases hh : L 4
                                · rfl
                                · exact absurd ((I1 hh).symm.trans hL) (by decide)
                              have h7 : L 7 = false := by
                                cases hh : L 7
                                · rfl
                                · exact absurd ((I2 hh).1.symm.trans h4) (by decide)
                              have h12 : L 12 = false := by
                                cases hh : L 12
                                · rfl
                                · exact absurd ((I3 hh).symm.trans h7) (by decide)
                              refine wpOp_step rfl (fun K' hK => ?_)
                              go_simp
                              refine hK _ _ ?_
                              exact ⟨_, _, _, _, _, _, _, _, _, _, _, _, _, _, rfl, (I0.alloc I0.size _), (fun _ => upd_self), (fun h => ⟨upd_mono (I2 (upd_ne h (by decide))).1, upd_mono (I2 (upd_ne h (by decide))).2⟩), (fun h => upd_mono (I3 (upd_ne h (by decide)))), (fun h => I4 (by rw [upd_other (by decide)] at h; exact h)), (upd_all I5 (by decide)), (fun _ _ => own_noneY ww _ I0.size), (fun h => f1 (upd_ne h (by decide))), (fun h => f2 (upd_ne h (by decide))), (fun h => f3 (upd_ne h (by decide))), (fun h => absurd ((upd_ne h (by decide)).symm.trans h4) (by decide)), (fun h => f5 (upd_ne h (by decide))), (fun h => by
                                  obtain ⟨g6, e1, e2⟩ := f6 (upd_ne h (by decide))
                                  have q6 := (World.ownsRow.lt (e2 h7).1 g6 rfl).2
                                  exact ⟨g6, e1, fun _ => ⟨World.ownsRow.alloc (e2 h7).1 _, fun _ _ e => by
                                    have e' : some ww.heap.size = some g6 := e
                                    injection e' with e'
                                    omega, fun h4' => (e2 h7).2.2 (upd_ne h4' (by decide))⟩⟩), (fun h => absurd ((upd_ne h (by decide)).symm.trans h7) (by decide)), (fun h => f8 (upd_ne h (by decide))), (fun h => f9 (upd_ne h (by decide))), (fun h => f10 (upd_ne h (by decide))), (fun h => f11 (upd_ne h (by decide))), (fun h => absurd ((upd_ne h (by decide)).symm.trans h12) (by decide)), (fun h => ⟨upd_mono (f13 (upd_ne h (by decide))).1, (f13 (upd_ne h (by decide))).2⟩)⟩
                            · obtain rfl := Option.some.inj ho
                              have h13 : L 13 = false := by
                                cases hh : L 13
                                · rfl
                                · exact absurd ((I5 hh 1 (by omega)).symm.trans hL) (by decide)
                              have ht8 := I4 h13
                              subst ht8
                              refine wpOp_step rfl (fun K' hK => ?_)
                              go_simp
                              refine hK _ _ ?_
                              exact ⟨_, _, _, _, _, _, _, _, _, _, _, _, _, _, rfl, (I0), (fun h => upd_mono (I1 (upd_ne h (by decide)))), (fun h => ⟨upd_mono (I2 (upd_ne h (by decide))).1, upd_mono (I2 (upd_ne h (by decide))).2⟩), (fun h => upd_mono (I3 (upd_ne h (by decide)))), (fun _ => rfl), (upd_all I5 (by decide)), (fun h h4 => f0 (upd_ne h (by decide)) (by rw [upd_other (by decide)] at h4; exact h4)), (fun _ => rfl), (fun h => f2 (upd_ne h (by decide))), (fun h => f3 (upd_ne h (by decide))), (fun h h7 => f4 (upd_ne h (by decide)) (by rw [upd_other (by decide)] at h7; exact h7)), (fun h => f5 (upd_ne h (by decide))), (fun h => by
                                  obtain ⟨g6, e1, e2⟩ := f6 (upd_ne h (by decide))
                                  exact ⟨g6, e1, fun h7 => ⟨(e2 (by rw [upd_other (by decide)] at h7; exact h7)).1, fun h0 h4 => (e2 (by rw [upd_other (by decide)] at h7; exact h7)).2.1 (upd_ne h0 (by decide)) (by rw [upd_other (by decide)] at h4; exact h4), fun h4 => (e2 (by rw [upd_other (by decide)] at h7; exact h7)).2.2 (upd_ne h4 (by decide))⟩⟩), (fun h h12 => f7 (upd_ne h (by decide)) (by rw [upd_other (by decide)] at h12; exact h12)), (fun h => f8 (upd_ne h (by decide))), (fun h => f9 (upd_ne h (by decide))), (fun h => f10 (upd_ne h (by decide))), (fun h => f11 (upd_ne h (by decide))), (fun h => f12 (upd_ne h (by decide))), (fun h => ⟨upd_mono (f13 (upd_ne h (by decide))).1, (f13 (upd_ne h (by decide))).2⟩)⟩
                            · obtain rfl := Option.some.inj ho
                              refine wpOp_step rfl (fun K' hK => ?_)
                              go_simp
                              refine hK _ _ ?_
                              exact ⟨_, _, _, _, _, _, _, _, _, _, _, _, _, _, rfl, (I0), (fun h => upd_mono (I1 (upd_ne h (by decide)))), (fun h => ⟨upd_mono (I2 (upd_ne h (by decide))).1, upd_mono (I2 (upd_ne h (by decide))).2⟩), (fun h => upd_mono (I3 (upd_ne h (by decide)))), (fun h => I4 (by rw [upd_other (by decide)] at h; exact h)), (upd_all I5 (by decide)), (fun h h4 => f0 (upd_ne h (by decide)) (by rw [upd_other (by decide)] at h4; exact h4)), (fun h => f1 (upd_ne h (by decide))), (fun _ => rfl), (fun h => f3 (upd_ne h (by decide))), (fun h h7 => f4 (upd_ne h (by decide)) (by rw [upd_other (by decide)] at h7; exact h7)), (fun h => f5 (upd_ne h (by decide))), (fun h => by
                                  obtain ⟨g6, e1, e2⟩ := f6 (upd_ne h (by decide))
                                  exact ⟨g6, e1, fun h7 => ⟨(e2 (by rw [upd_other (by decide)] at h7; exact h7)).1, fun h0 h4 => (e2 (by rw [upd_other (by decide)] at h7; exact h7)).2.1 (upd_ne h0 (by decide)) (by rw [upd_other (by decide)] at h4; exact h4), fun h4 => (e2 (by rw [upd_other (by decide)] at h7; exact h7)).2.2 (upd_ne h4 (by decide))⟩⟩), (fun h h12 => f7 (upd_ne h (by decide)) (by rw [upd_other (by decide)] at h12; exact h12)), (fun h => f8 (upd_ne h (by decide))), (fun h => f9 (upd_ne h (by decide))), (fun h => f10 (upd_ne h (by decide))), (fun h => f11 (upd_ne h (by decide))), (fun h => f12 (upd_ne h (by decide))), (fun h => ⟨upd_mono (f13 (upd_ne h (by decide))).1, (f13 (upd_ne h (by decide))).2⟩)⟩
                            · obtain rfl := Option.some.inj ho
                              have g1 := f1 (hd ⟨1, .data⟩ (by simp) rfl)
                              have g2 := f2 (hd ⟨2, .data⟩ (by simp) rfl)
                              subst g1
                              subst g2
                              refine wpOp_step rfl (fun K' hK => ?_)
                              go_simp
                              refine hK _ _ ?_
                              exact ⟨_, _, _, _, _, _, _, _, _, _, _, _, _, _, rfl, (I0), (fun h => upd_mono (I1 (upd_ne h (by decide)))), (fun h => ⟨upd_mono (I2 (upd_ne h (by decide))).1, upd_mono (I2 (upd_ne h (by decide))).2⟩), (fun h => upd_mono (I3 (upd_ne h (by decide)))), (fun h => I4 (by rw [upd_other (by decide)] at h; exact h)), (upd_all I5 (by decide)), (fun h h4 => f0 (upd_ne h (by decide)) (by rw [upd_other (by decide)] at h4; exact h4)), (fun h => f1 (upd_ne h (by decide))), (fun h => f2 (upd_ne h (by decide))), (fun _ => rfl), (fun h h7 => f4 (upd_ne h (by decide)) (by rw [upd_other (by decide)] at h7; exact h7)), (fun h => f5 (upd_ne h (by decide))), (fun h => by
                                  obtain ⟨g6, e1, e2⟩ := f6 (upd_ne h (by decide))
                                  exact ⟨g6, e1, fun h7 => ⟨(e2 (by rw [upd_other (by decide)] at h7; exact h7)).1, fun h0 h4 => (e2 (by rw [upd_other (by decide)] at h7; exact h7)).2.1 (upd_ne h0 (by decide)) (by rw [upd_other (by decide)] at h4; exact h4), fun h4 => (e2 (by rw [upd_other (by decide)] at h7; exact h7)).2.2 (upd_ne h4 (by decide))⟩⟩), (fun h h12 => f7 (upd_ne h (by decide)) (by rw [upd_other (by decide)] at h12; exact h12)), (fun h => f8 (upd_ne h (by decide))), (fun h => f9 (upd_ne h (by decide))), (fun h => f10 (upd_ne h (by decide))), (fun h => f11 (upd_ne h (by decide))), (fun h => f12 (upd_ne h (by decide))), (fun h => ⟨upd_mono (f13 (upd_ne h (by decide))).1, (f13 (upd_ne h (by decide))).2⟩)⟩
                            · obtain rfl := Option.some.inj ho
                              have g0 := f0 (hd ⟨0, .data⟩ (by simp) rfl)
                              have g3 := f3 (hd ⟨3, .data⟩ (by simp) rfl)
                              subst g3
                              have h7 : L 7 = false := by
                                cases hh : L 7
                                · rfl
                                · exact absurd ((I2 hh).1.symm.trans hL) (by decide)
                              have h12 : L 12 = false := by
                                cases hh : L 12
                                · rfl
                                · exact absurd ((I3 hh).symm.trans h7) (by decide)
                              have O0 := g0 hL
                              have h0' := hd ⟨0, .data⟩ (by simp) rfl
                              refine wpOp_step rfl (fun K' hK => ?_)
                              refine app_stepY (.tmp 122) (.tmp 125) rfl W1.heap.size t122 [] rfl O0 (some ⟨g3, 0, none⟩) m c3 W1.heap.size (out.take m) rfl ((HRO.out.below I0).take (by omega)) (by simp <;> omega) I0.size ?_
                              intro v' w' o1 g1 s1
                              refine hK _ _ ?_
                              exact ⟨_, _, _, _, _, _, _, _, _, _, _, _, _, _, rfl, (I0.grown g1 I0.size (fun k hk => (World.ownsRow.lt O0 k hk).1)), (fun _ => upd_mono h0'), (fun h => ⟨upd_mono (I2 (upd_ne h (by decide))).1, upd_mono (I2 (upd_ne h (by decide))).2⟩), (fun h => upd_mono (I3 (upd_ne h (by decide)))), (fun h => I4 (by rw [upd_other (by decide)] at h; exact h)), (upd_all I5 (by decide)), (fun _ h => absurd (upd_self.symm.trans h) (by decide)), (fun h => f1 (upd_ne h (by decide))), (fun h => f2 (upd_ne h (by decide))), (fun h => f3 (upd_ne h (by decide))), (fun _ _ => OwnY.cast (by simp) o1), (fun h => f5 (upd_ne h (by decide))), (fun h => by
                                  obtain ⟨g6, e1, e2⟩ := f6 (upd_ne h (by decide))
                                  have q6 := (World.ownsRow.lt (e2 h7).1 g6 rfl).2
                                  exact ⟨g6, e1, fun _ => ⟨OwnY.far (e2 h7).1 g1 (.inr (fun e => (e2 h7).2.1 h0' hL e.symm)), fun _ h4 => absurd (upd_self.symm.trans h4) (by decide), fun _ e => by
                                    rcases s1 with s1 | s1
                                    · exact (e2 h7).2.1 h0' hL (s1.symm.trans e)
                                    · rw [s1] at e
                                      injection e with e
                                      omega⟩⟩), (fun h => absurd ((upd_ne h (by decide)).symm.trans h7) (by decide)), (fun h => f8 (upd_ne h (by decide))), (fun h => f9 (upd_ne h (by decide))), (fun h => f10 (upd_ne h (by decide))), (fun h => f11 (upd_ne h (by decide))), (fun h => absurd ((upd_ne h (by decide)).symm.trans h12) (by decide)), (fun h => ⟨upd_mono (f13 (upd_ne h (by decide))).1, (f13 (upd_ne h (by decide))).2⟩)⟩
                            · obtain rfl := Option.some.inj ho
                              obtain ⟨n0, n1, n2⟩ := HC1.out ww I0
                              refine wpOp_step rfl (fun K' hK => ?_)
                              go_simp
                              refine hK _ _ ?_
                              exact ⟨_, _, _, _, _, _, _, _, _, _, _, _, _, _, rfl, (I0), (fun h => upd_mono (I1 (upd_ne h (by decide)))), (fun h => ⟨upd_mono (I2 (upd_ne h (by decide))).1, upd_mono (I2 (upd_ne h (by decide))).2⟩), (fun h => upd_mono (I3 (upd_ne h (by decide)))), (fun h => I4 (by rw [upd_other (by decide)] at h; exact h)), (upd_all I5 (by decide)), (fun h h4 => f0 (upd_ne h (by decide)) (by rw [upd_other (by decide)] at h4; exact h4)), (fun h => f1 (upd_ne h (by decide))), (fun h => f2 (upd_ne h (by decide))), (fun h => f3 (upd_ne h (by decide))), (fun h h7 => f4 (upd_ne h (by decide)) (by rw [upd_other (by decide)] at h7; exact h7)), (fun _ => rfl), (fun h => by
                                  obtain ⟨g6, e1, e2⟩ := f6 (upd_ne h (by decide))
                                  exact ⟨g6, e1, fun h7 => ⟨(e2 (by rw [upd_other (by decide)] at h7; exact h7)).1, fun h0 h4 => (e2 (by rw [upd_other (by decide)] at h7; exact h7)).2.1 (upd_ne h0 (by decide)) (by rw [upd_other (by decide)] at h4; exact h4), fun h4 => (e2 (by rw [upd_other (by decide)] at h7; exact h7)).2.2 (upd_ne h4 (by decide))⟩⟩), (fun h h12 => f7 (upd_ne h (by decide)) (by rw [upd_other (by decide)] at h12; exact h12)), (fun h => f8 (upd_ne h (by decide))), (fun h => f9 (upd_ne h (by decide))), (fun h => f10 (upd_ne h (by decide))), (fun h => f11 (upd_ne h (by decide))), (fun h => f12 (upd_ne h (by decide))), (fun h => ⟨upd_mono (f13 (upd_ne h (by decide))).1, (f13 (upd_ne h (by decide))).2⟩)⟩
                            · obtain rfl := Option.some.inj ho
                              have g5 := f5 (hd ⟨5, .data⟩ (by simp) rfl)
                              subst g5
                              have h7 : L 7 = false := by
                                cases hh : L 7
                                · rfl
                                · exact absurd ((I2 hh).2.symm.trans hL) (by decide)
                              have h12 : L 12 = false := by
                                cases hh : L 12
                                · rfl
                                · exact absurd ((I3 hh).symm.trans h7) (by decide)
                              refine wpOp_step rfl (fun K' hK => ?_)
                              go_simp
                              refine hK _ _ ?_
                              exact ⟨_, _, _, _, _, _, _, _, _, _, _, _, _, _, rfl, (I0.alloc I0.size _), (fun h => upd_mono (I1 (upd_ne h (by decide)))), (fun h => ⟨upd_mono (I2 (upd_ne h (by decide))).1, upd_mono (I2 (upd_ne h (by decide))).2⟩), (fun h => upd_mono (I3 (upd_ne h (by decide)))), (fun h => I4 (by rw [upd_other (by decide)] at h; exact h)), (upd_all I5 (by decide)), (fun h h4 => World.ownsRow.alloc (f0 (upd_ne h (by decide)) (by rw [upd_other (by decide)] at h4; exact h4)) _), (fun h => f1 (upd_ne h (by decide))), (fun h => f2 (upd_ne h (by decide))), (fun h => f3 (upd_ne h (by decide))), (fun h h7' => World.ownsRow.alloc (f4 (upd_ne h (by decide)) h7) _), (fun h => f5 (upd_ne h (by decide))), (fun _ => ⟨ww.heap.size, rfl, fun _ => ⟨own_oneY ww sx ((jx : Int) + 1) false W1.heap.size I0.size, fun h0 h4 e => by
                                  have := (World.ownsRow.lt (f0 (upd_ne h0 (by decide)) (by rw [upd_other (by decide)] at h4; exact h4)) _ e).2
                                  omega, fun h4 e => by
                                  have := (World.ownsRow.lt (f4 (upd_ne h4 (by decide)) h7) _ e).2
                                  omega⟩⟩), (fun h => absurd ((upd_ne h (by decide)).symm.trans h7) (by decide)), (fun h => f8 (upd_ne h (by decide))), (fun h => f9 (upd_ne h (by decide))), (fun h => f10 (upd_ne h (by decide))), (fun h => f11 (upd_ne h (by decide))), (fun h => absurd ((upd_ne h (by decide)).symm.trans h12) (by decide)), (fun h => ⟨upd_mono (f13 (upd_ne h (by decide))).1, (f13 (upd_ne h (by decide))).2⟩)⟩
                            · obtain rfl := Option.some.inj ho
                              have g4' := f4 (hd ⟨4, .data⟩ (by simp) rfl)
                              have g6' := f6 (hd ⟨6, .data⟩ (by simp) rfl)
                              obtain ⟨g6, rfl, e6⟩ := g6'
                              have O4 := g4' hL
                              have O6 := (e6 hL).1
                              have h12 : L 12 = false := by
                                cases hh : L 12
                                · rfl
                                · exact absurd ((I3 hh).symm.trans hL) (by decide)
                              have h4' := hd ⟨4, .data⟩ (by simp) rfl
                              refine wpOp_step rfl (fun K' hK => ?_)
                              refine app_stepY (.tmp 126) (.tmp 128) rfl W1.heap.size t126 (out.take m) rfl O4 (some ⟨g6, 0, none⟩) 1 1 ww.heap.size [(⟨sx, (jx : Int) + 1, false⟩ : Bl)] rfl (O6.reads HAI.out) (by simp <;> omega) I0.size ?_
                              intro v' w' o1 g1 s1
                              refine hK _ _ ?_
                              exact ⟨_, _, _, _, _, _, _, _, _, _, _, _, _, _, rfl, (I0.grown g1 I0.size (fun k hk => (World.ownsRow.lt O4 k hk).1)), (fun h => upd_mono (I1 (upd_ne h (by decide)))), (fun _ => ⟨upd_mono h4', upd_mono (hd ⟨6, .data⟩ (by simp) rfl)⟩), (fun h => upd_mono (I3 (upd_ne h (by decide)))), (fun h => I4 (by rw [upd_other (by decide)] at h; exact h)), (upd_all I5 (by decide)), (fun h h4 => absurd ((upd_other (by decide)).symm.trans h4) (by rw [h4']; decide)), (fun h => f1 (upd_ne h (by decide))), (fun h => f2 (upd_ne h (by decide))), (fun h => f3 (upd_ne h (by decide))), (fun _ h => absurd (upd_self.symm.trans h) (by decide)), (fun h => f5 (upd_ne h (by decide))), (fun _ => ⟨g6, rfl, fun h => absurd (upd_self.symm.trans h) (by decide)⟩), (fun _ _ => o1), (fun h => f8 (upd_ne h (by decide))), (fun h => f9 (upd_ne h (by decide))), (fun h => f10 (upd_ne h (by decide))), (fun h => f11 (upd_ne h (by decide))), (fun h => absurd ((upd_ne h (by decide)).symm.trans h12) (by decide)), (fun h => ⟨upd_mono (f13 (upd_ne h (by decide))).1, (f13 (upd_ne h (by decide))).2⟩)⟩
                            · obtain rfl := Option.some.inj ho
                              have h13 : L 13 = false := by
                                cases hh : L 13
                                · rfl
                                · exact absurd ((I5 hh 8 (by omega)).symm.trans hL) (by decide)
                              have ht8 := I4 h13
                              subst ht8
                              refine wpOp_step rfl (fun K' hK => ?_)
                              go_simp
                              refine hK _ _ ?_
                              exact ⟨_, _, _, _, _, _, _, _, _, _, _, _, _, _, rfl, (I0), (fun h => upd_mono (I1 (upd_ne h (by decide)))), (fun h => ⟨upd_mono (I2 (upd_ne h (by decide))).1, upd_mono (I2 (upd_ne h (by decide))).2⟩), (fun h => upd_mono (I3 (upd_ne h (by decide)))), (fun _ => rfl), (upd_all I5 (by decide)), (fun h h4 => f0 (upd_ne h (by decide)) (by rw [upd_other (by decide)] at h4; exact h4)), (fun h => f1 (upd_ne h (by decide))), (fun h => f2 (upd_ne h (by decide))), (fun h => f3 (upd_ne h (by decide))), (fun h h7 => f4 (upd_ne h (by decide)) (by rw [upd_other (by decide)] at h7; exact h7)), (fun h => f5 (upd_ne h (by decide))), (fun h => by
                                  obtain ⟨g6, e1, e2⟩ := f6 (upd_ne h (by decide))
                                  exact ⟨g6, e1, fun h7 => ⟨(e2 (by rw [upd_other (by decide)] at h7; exact h7)).1, fun h0 h4 => (e2 (by rw [upd_other (by decide)] at h7; exact h7)).2.1 (upd_ne h0 (by decide)) (by rw [upd_other (by decide)] at h4; exact h4), fun h4 => (e2 (by rw [upd_other (by decide)] at h7; exact h7)).2.2 (upd_ne h4 (by decide))⟩⟩), (fun h h12 => f7 (upd_ne h (by decide)) (by rw [upd_other (by decide)] at h12; exact h12)), (fun _ => rfl), (fun h => f9 (upd_ne h (by decide))), (fun h => f10 (upd_ne h (by decide))), (fun h => f11 (upd_ne h (by decide))), (fun h => f12 (upd_ne h (by decide))), (fun h => ⟨upd_mono (f13 (upd_ne h (by decide))).1, (f13 (upd_ne h (by decide))).2⟩)⟩
                            · obtain rfl := Option.some.inj ho
                              refine wpOp_step rfl (fun K' hK => ?_)
                              go_simp
                              refine hK _ _ ?_
                              exact ⟨_, _, _, _, _, _, _, _, _, _, _, _, _, _, rfl, (I0), (fun h => upd_mono (I1 (upd_ne h (by decide)))), (fun h => ⟨upd_mono (I2 (upd_ne h (by decide))).1, upd_mono (I2 (upd_ne h (by decide))).2⟩), (fun h => upd_mono (I3 (upd_ne h (by decide)))), (fun h => I4 (by rw [upd_other (by decide)] at h; exact h)), (upd_all I5 (by decide)), (fun h h4 => f0 (upd_ne h (by decide)) (by rw [upd_other (by decide)] at h4; exact h4)), (fun h => f1 (upd_ne h (by decide))), (fun h => f2 (upd_ne h (by decide))), (fun h => f3 (upd_ne h (by decide))), (fun h h7 => f4 (upd_ne h (by decide)) (by rw [upd_other (by decide)] at h7; exact h7)), (fun h => f5 (upd_ne h (by decide))), (fun h => by
                                  obtain ⟨g6, e1, e2⟩ := f6 (upd_ne h (by decide))
                                  exact ⟨g6, e1, fun h7 => ⟨(e2 (by rw [upd_other (by decide)] at h7; exact h7)).1, fun h0 h4 => (e2 (by rw [upd_other (by decide)] at h7; exact h7)).2.1 (upd_ne h0 (by decide)) (by rw [upd_other (by decide)] at h4; exact h4), fun h4 => (e2 (by rw [upd_other (by decide)] at h7; exact h7)).2.2 (upd_ne h4 (by decide))⟩⟩), (fun h h12 => f7 (upd_ne h (by decide)) (by rw [upd_other (by decide)] at h12; exact h12)), (fun h => f8 (upd_ne h (by decide))), (fun _ => rfl), (fun h => f10 (upd_ne h (by decide))), (fun h => f11 (upd_ne h (by decide))), (fun h => f12 (upd_ne h (by decide))), (fun h => ⟨upd_mono (f13 (upd_ne h (by decide))).1, (f13 (upd_ne h (by decide))).2⟩)⟩
                            · obtain rfl := Option.some.inj ho
                              have g9 := f9 (hd ⟨9, .data⟩ (by simp) rfl)
                              subst g9
                              have hw : IntKind.i64.wrap ((m : Int) + 2) = (m : Int) + 2 := IntWalk.i64_in _ (by omega)
                              refine wpOp_step rfl (fun K' hK => ?_)
                              go_simp
                              refine hK _ _ ?_
                              clear hw
                              exact ⟨_, _, _, _, _, _, _, _, _, _, _, _, _, _, rfl, (I0), (fun h => upd_mono (I1 (upd_ne h (by decide)))), (fun h => ⟨upd_mono (I2 (upd_ne h (by decide))).1, upd_mono (I2 (upd_ne h (by decide))).2⟩), (fun h => upd_mono (I3 (upd_ne h (by decide)))), (fun h => I4 (by rw [upd_other (by decide)] at h; exact h)), (upd_all I5 (by decide)), (fun h h4 => f0 (upd_ne h (by decide)) (by rw [upd_other (by decide)] at h4; exact h4)), (fun h => f1 (upd_ne h (by decide))), (fun h => f2 (upd_ne h (by decide))), (fun h => f3 (upd_ne h (by decide))), (fun h h7 => f4 (upd_ne h (by decide)) (by rw [upd_other (by decide)] at h7; exact h7)), (fun h => f5 (upd_ne h (by decide))), (fun h => by
                                  obtain ⟨g6, e1, e2⟩ := f6 (upd_ne h (by decide))
                                  exact ⟨g6, e1, fun h7 => ⟨(e2 (by rw [upd_other (by decide)] at h7; exact h7)).1, fun h0 h4 => (e2 (by rw [upd_other (by decide)] at h7; exact h7)).2.1 (upd_ne h0 (by decide)) (by rw [upd_other (by decide)] at h4; exact h4), fun h4 => (e2 (by rw [upd_other (by decide)] at h7; exact h7)).2.2 (upd_ne h4 (by decide))⟩⟩), (fun h h12 => f7 (upd_ne h (by decide)) (by rw [upd_other (by decide)] at h12; exact h12)), (fun h => f8 (upd_ne h (by decide))), (fun h => f9 (upd_ne h (by decide))), (fun _ => rfl), (fun h => f11 (upd_ne h (by decide))), (fun h => f12 (upd_ne h (by decide))), (fun h => ⟨upd_mono (f13 (upd_ne h (by decide))).1, (f13 (upd_ne h (by decide))).2⟩)⟩
                            · obtain rfl := Option.some.inj ho
                              have g8 := f8 (hd ⟨8, .data⟩ (by simp) rfl)
                              have g10 := f10 (hd ⟨10, .data⟩ (by simp) rfl)
                              subst g8
                              subst g10
                              refine wpOp_step rfl (fun K' hK => ?_)
                              go_simp
                              refine hK _ _ ?_
                              exact ⟨_, _, _, _, _, _, _, _, _, _, _, _, _, _, rfl, (I0), (fun h => upd_mono (I1 (upd_ne h (by decide)))), (fun h => ⟨upd_mono (I2 (upd_ne h (by decide))).1, upd_mono (I2 (upd_ne h (by decide))).2⟩), (fun h => upd_mono (I3 (upd_ne h (by decide)))), (fun h => I4 (by rw [upd_other (by decide)] at h; exact h)), (upd_all I5 (by decide)), (fun h h4 => f0 (upd_ne h (by decide)) (by rw [upd_other (by decide)] at h4; exact h4)), (fun h => f1 (upd_ne h (by decide))), (fun h => f2 (upd_ne h (by decide))), (fun h => f3 (upd_ne h (by decide))), (fun h h7 => f4 (upd_ne h (by decide)) (by rw [upd_other (by decide)] at h7; exact h7)), (fun h => f5 (upd_ne h (by decide))), (fun h => by
                                  obtain ⟨g6, e1, e2⟩ := f6 (upd_ne h (by decide))
                                  exact ⟨g6, e1, fun h7 => ⟨(e2 (by rw [upd_other (by decide)] at h7; exact h7)).1, fun h0 h4 => (e2 (by rw [upd_other (by decide)] at h7; exact h7)).2.1 (upd_ne h0 (by decide)) (by rw [upd_other (by decide)] at h4; exact h4), fun h4 => (e2 (by rw [upd_other (by decide)] at h7; exact h7)).2.2 (upd_ne h4 (by decide))⟩⟩), (fun h h12 => f7 (upd_ne h (by decide)) (by rw [upd_other (by decide)] at h12; exact h12)), (fun h => f8 (upd_ne h (by decide))), (fun h => f9 (upd_ne h (by decide))), (fun h => f10 (upd_ne h (by decide))), (fun _ => rfl), (fun h => f12 (upd_ne h (by decide))), (fun h => ⟨upd_mono (f13 (upd_ne h (by decide))).1, (f13 (upd_ne h (by decide))).2⟩)⟩
                            · obtain rfl := Option.some.inj ho
                              have g7' := f7 (hd ⟨7, .data⟩ (by simp) rfl)
                              have g11 := f11 (hd ⟨11, .data⟩ (by simp) rfl)
                              subst g11
                              have O7 := g7' hL
                              have h7' := hd ⟨7, .data⟩ (by simp) rfl
                              refine wpOp_step rfl (fun K' hK => ?_)
                              refine app_stepY (.tmp 129) (.tmp 133) rfl W1.heap.size t129 ((out.take m) ++ [(⟨sx, (jx : Int) + 1, false⟩ : Bl)]) rfl O7 (some ⟨g3, (m + 2) * 3, none⟩) (N - (m + 2)) (c3 - (m + 2)) W1.heap.size (out.drop (m + 2)) rfl (HTL.out ww I0) (by simp <;> omega) I0.size ?_
                              intro v' w' o1 g1 s1
                              refine hK _ _ ?_
                              exact ⟨_, _, _, _, _, _, _, _, _, _, _, _, _, _, rfl, (I0.grown g1 I0.size (fun k hk => (World.ownsRow.lt O7 k hk).1)), (fun h => upd_mono (I1 (upd_ne h (by decide)))), (fun h => ⟨upd_mono (I2 (upd_ne h (by decide))).1, upd_mono (I2 (upd_ne h (by decide))).2⟩), (fun _ => upd_mono h7'), (fun h => I4 (by rw [upd_other (by decide)] at h; exact h)), (upd_all I5 (by decide)), (fun h h4 => absurd ((upd_other (by decide)).symm.trans h4) (by rw [(I2 h7').1]; decide)), (fun h => f1 (upd_ne h (by decide))), (fun h => f2 (upd_ne h (by decide))), (fun h => f3 (upd_ne h (by decide))), (fun h h7 => absurd ((upd_other (by decide)).symm.trans h7) (by rw [h7']; decide)), (fun h => f5 (upd_ne h (by decide))), (fun h => by
                                  obtain ⟨g6, e1, _⟩ := f6 (upd_ne h (by decide))
                                  exact ⟨g6, e1, fun h7 => absurd ((upd_other (by decide)).symm.trans h7) (by rw [h7']; decide)⟩), (fun _ h => absurd (upd_self.symm.trans h) (by decide)), (fun h => f8 (upd_ne h (by decide))), (fun h => f9 (upd_ne h (by decide))), (fun h => f10 (upd_ne h (by decide))), (fun h => f11 (upd_ne h (by decide))), (fun _ => o1), (fun h => absurd ((f13 (upd_ne h (by decide))).1.symm.trans hL) (by decide))⟩
                            · obtain rfl := Option.some.inj ho
                              have g12 := f12 (hd ⟨12, .data⟩ (by simp) rfl)
                              have hphase := Lib.hid (show ∀ k, k < 13 → L k = true by
                                intro k hk
                                obtain rfl | rfl | rfl | rfl | rfl | rfl | rfl | rfl | rfl | rfl | rfl | rfl | rfl : k = 0 ∨ k = 1 ∨ k = 2 ∨ k = 3 ∨ k = 4 ∨ k = 5 ∨ k = 6 ∨ k = 7 ∨ k = 8 ∨ k = 9 ∨ k = 10 ∨ k = 11 ∨ k = 12 := by omega
                                · exact hd ⟨0, .phase⟩ (by simp) rfl
                                · exact hd ⟨1, .phase⟩ (by simp) rfl
                                · exact hd ⟨2, .phase⟩ (by simp) rfl
                                · exact hd ⟨3, .phase⟩ (by simp) rfl
                                · exact hd ⟨4, .phase⟩ (by simp) rfl
                                · exact hd ⟨5, .phase⟩ (by simp) rfl
                                · exact hd ⟨6, .phase⟩ (by simp) rfl
                                · exact hd ⟨7, .phase⟩ (by simp) rfl
                                · exact hd ⟨8, .phase⟩ (by simp) rfl
                                · exact hd ⟨9, .phase⟩ (by simp) rfl
                                · exact hd ⟨10, .phase⟩ (by simp) rfl
                                · exact hd ⟨11, .phase⟩ (by simp) rfl
                                · exact hd ⟨12, .data⟩ (by simp) rfl)
                              refine wpOp_step rfl (fun K' hK => ?_)
                              go_simp
                              refine hK _ _ ?_
                              exact ⟨_, _, _, _, _, _, _, _, _, _, _, _, _, _, rfl, (I0), (fun h => upd_mono (I1 (upd_ne h (by decide)))), (fun h => ⟨upd_mono (I2 (upd_ne h (by decide))).1, upd_mono (I2 (upd_ne h (by decide))).2⟩), (fun h => upd_mono (I3 (upd_ne h (by decide)))), (fun h => absurd (upd_self.symm.trans h) (by decide)), (fun _ k hk => upd_mono (hphase.out k hk)), (fun h h4 => f0 (upd_ne h (by decide)) (by rw [upd_other (by decide)] at h4; exact h4)), (fun h => f1 (upd_ne h (by decide))), (fun h => f2 (upd_ne h (by decide))), (fun h => f3 (upd_ne h (by decide))), (fun h h7 => f4 (upd_ne h (by decide)) (by rw [upd_other (by decide)] at h7; exact h7)), (fun h => f5 (upd_ne h (by decide))), (fun h => by
                                  obtain ⟨g6, e1, e2⟩ := f6 (upd_ne h (by decide))
                                  exact ⟨g6, e1, fun h7 => ⟨(e2 (by rw [upd_other (by decide)] at h7; exact h7)).1, fun h0 h4 => (e2 (by rw [upd_other (by decide)] at h7; exact h7)).2.1 (upd_ne h0 (by decide)) (by rw [upd_other (by decide)] at h4; exact h4), fun h4 => (e2 (by rw [upd_other (by decide)] at h7; exact h7)).2.2 (upd_ne h4 (by decide))⟩⟩), (fun h h12 => f7 (upd_ne h (by decide)) (by rw [upd_other (by decide)] at h12; exact h12)), (fun h => f8 (upd_ne h (by decide))), (fun h => f9 (upd_ne h (by decide))), (fun h => f10 (upd_ne h (by decide))), (fun h => f11 (upd_ne h (by decide))), (fun h => f12 (upd_ne h (by decide))), (fun _ => ⟨upd_mono (hd ⟨12, .data⟩ (by simp) rfl), rfl⟩)⟩
                          case hdone =>
                            rintro L ac ww hall ⟨t8, t122, t123, t124, t125, t126, t127, t128, t129, t130, t131, t132, t133, t134, rfl, I0, I1, I2, I3, I4, I5, f0, f1, f2, f3, f4, f5, f6, f7, f8, f9, f10, f11, f12, f13⟩
                            have e0 := f0 (hall 0 (by decide))
                            have e1 := f1 (hall 1 (by decide))
                            have e2 := f2 (hall 2 (by decide))
                            have e3 := f3 (hall 3 (by decide))
                            have e4 := f4 (hall 4 (by decide))
                            have e5 := f5 (hall 5 (by decide))
                            have e6 := f6 (hall 6 (by decide))
                            have e7 := f7 (hall 7 (by decide))
                            have e8 := f8 (hall 8 (by decide))
                            have e9 := f9 (hall 9 (by decide))
                            have e10 := f10 (hall 10 (by decide))
                            have e11 := f11 (hall 11 (by decide))
                            have e12 := f12 (hall 12 (by decide))
                            have e13 := f13 (hall 13 (by decide))
                            clear f0 f1 f2 f3 f4 f5 f6 f7 f8 f9 f10 f11 f12 f13
                            clear v5 v6
                            obtain ⟨_, rfl⟩ := e13
                            obtain ⟨A8, c8, ev8, _⟩ := e12.form
                            obtain ⟨g6, e6x, _⟩ := e6
                            subst e1 e2 e3 e5 e8 e9 e10 e11 e6x
                            clear e0 e4 e7 I1 I2 I3 I4 I5
                            have hJ := Bud.join_facts HOKL2.out HXG.out (by rw [HN.out]; omega) (by simp only; omega)
                            have OW : OwnY ww w.heap.size t8 (Bud.joinAt out m) := (OwnY.cast (by rw [hJ.2.1]) e12).base bW1.size
                            have HLP := Lib.hid (show Bud.giveY xs P a = Bud.loopG P (P - (jx + 1)) (Bud.joinAt out m) m by rw [hgv2.out, show P - jx = (P - (jx + 1)) + 1 by omega, Bud.loop_some HST.out])
                            have hjl : (Bud.joinAt out m).length = N - 1 := by rw [hJ.2.2.1, HN.out]
                            have hsl : sliceLen t8 = N - 1 := by
                              rw [ev8]
                              show (out.take m ++ [(⟨sx, (jx : Int) + 1, false⟩ : Bl)] ++ out.drop (m + 2)).length = _
                              rw [← hjl, hJ.2.1]
                            have HJJ := Lib.hid hJ
                            clear hJ ev8 e12
                            go_wp2
                            go_roundw
                            case rel => exact ⟨Bud.joinAt out m, m, _, OW, rfl, HJJ.out.2.2.2, HJJ.out.1, by omega, rfl, by
                              have e : (((jx : Int) + 1)).toNat = jx + 1 := by omega
                              show Hid (Bud.giveY xs P a = Bud.loopG P (P - ((jx : Int) + 1).toNat) (Bud.joinAt out m) m)
                              rw [e]
                              exact HLP, bW1.trans (I0.mono bW1.size)⟩
                            case measure => first | (rw [hsl]; show _ < N; omega) | (simp only [hsl, sliceLen]; omega)

                    · have hz' : ((jx : Int) != (jy : Int)) = true := by rw [bne_iff_ne]; omega
                      have hz'' : (jx != jy) = true := by rw [bne_iff_ne]; exact hz
                      have HE := Lib.hid (show Bud.giveY xs P a = out by rw [hgv2.out]; exact Bud.loop_none (by rw [HJS.out, if_neg (by rintro ⟨_, _, h3⟩; rw [HX2.out, HZ2.out] at h3; omega)]) _)
                      go_wp2_with fail
                      go_big_quiet (fail)
                      go_wp2
                      go_ret2
                      exact GaveY2.of_ (HO.out.below (below_drewN b4 _) (Nat.le_refl _)) (below_drewN (hb.trans (b4.mono hb.size)) _) HE.out.symm HOKG.out.symm
                  · rw [hxu] at l3
                    have HE := Lib.hid (show Bud.giveY xs P a = out by rw [hgv2.out]; exact Bud.loop_none (by rw [HJS.out, if_neg (by rintro ⟨h1, _⟩; rw [hxu] at h1; cases h1)]) _)
                    go_wp2_with fail
                    go_big_quiet (fail)
                    go_wp2
                    go_ret2
                    exact GaveY2.of_ (HO.out.below (below_drewN b4 _) (Nat.le_refl _)) (below_drewN (hb.trans (b4.mono hb.size)) _) HE.out.symm HOKG.out.symm
              · have HLM := Lib.hid (show Bud.lowG y' q = q by rw [HLW.out, if_neg hm])
                have t6 : decide ((q : Int) < 0) = false := decide_eq_false (by omega)
                have t1 : IntKind.i64.wrap ((q : Int) + 1) = (q : Int) + 1 := IntWalk.i64_in _ (by omega)
                by_cases hqn2 : q + 1 < N
                · obtain ⟨_, _, x, e', _, hx, _, _, l1, l2, l3⟩ := R4.at_ (k := q + 1) (by omega)
                  injection e' with e'
                  injection e' with ea eb
                  subst ea eb
                  obtain ⟨sx, jx, x1, x2, x3, x4⟩ := HOKL2.out (q + 1) x hx
                  rw [x1] at l1
                  rw [x2] at l2
                  simp only [Nat.zero_add] at l1 l2 l3
                  have HJS := Lib.hid (Bud.jstep_xy (p := P) HY.out HLM.out (by rw [HZ2.out]; omega) HY.out hx)
                  have HX1 := Lib.hid x1
                  have HX2 := Lib.hid x2
                  clear hx x1 x2
                  have t2 : ((q : Int) + 1).toNat = q + 1 := by omega
                  have t3 : (q : Int) + 1 < N := by omega
                  have t4 : 0 ≤ (q : Int) + 1 := by omega
                  have t5 : (q : Int) < N := by omega
                  have t7 : decide ((N : Int) ≤ (q : Int) + 1) = false := decide_eq_false (by omega)
                  have t8 : decide (N ≤ q + 1) = false := decide_eq_false (by omega)
                  cases hxu : x.u
                  · rw [hxu] at l3
                    by_cases hz : jx = jy
                    · subst hz
                      have HST := Lib.hid (show Bud.jstep P out q = some q by rw [HJS.out, if_pos ⟨HYU.out, hxu, by rw [HX2.out, HZ2.out]⟩])
                      have HXE := Lib.hid (show y' = ⟨sy, jx, false⟩ by have := HZ1.out; have := HZ2.out; have := HYU.out; obtain ⟨_, _, _⟩ := y'; simp_all)
                      go_wp2_with fail
                      go_big_quiet (fail)
                      clear t1 t2
                      go_wp2_with fail
                      obtain ⟨W0, hW0⟩ : ∃ W0, W0 = (w4.drewN nq).drew := ⟨_, rfl⟩
                      have b40 : Below w4.heap.size w4 W0 := by rw [hW0]; exact (below_drewN (Below.refl _ _) _).drew
                      have bb4 : Below w.heap.size w w4 := hb.trans (b4.mono hb.size)
                      have bW0 : Below w.heap.size w W0 := bb4.trans (b40.mono bb4.size)
                      have h0W : (w4.drewN nq).drew = W0 := hW0.symm
                      have n0' : W0.cell? ⟨g3, q * 3, none⟩ = some (.int .i64 sy) := (b40.cell (p := ⟨g3, q * 3, none⟩) hg4).trans k1
                      have n1' : W0.cell? ⟨g3, q * 3 + 1, none⟩ = some (.int .i64 jx) := (b40.cell (p := ⟨g3, q * 3 + 1, none⟩) hg4).trans k2
                      have hg0 : g3 < W0.heap.size := Nat.lt_of_lt_of_le hg4 b40.size
                      have HC := Lib.hid (fun w' (hw' : Below W0.heap.size W0 w') => (show w'.cell? ⟨g3, q * 3, none⟩ = some (.int .i64 sy) ∧ w'.cell? ⟨g3, q * 3 + 1, none⟩ = some (.int .i64 jx) from
                        ⟨(hw'.cell (p := ⟨g3, q * 3, none⟩) hg0).trans n0', (hw'.cell (p := ⟨g3, q * 3 + 1, none⟩) hg0).trans n1'⟩))
                      have HR0 := Lib.hid (R4.up b40)
                      clear hW0 n0' n1' k1 k2 k3 l1 l2 l3 R4
                      refine wp_region_inv (by kernel_rfl) (by kernel_rfl) (fun L ac ww => ∃ t13 t110 t111 t112 t113 t114 t115 t116 t117 t118 t119 t120 t121 : Value, ac = { tmps := #[Value.slice A n c, Value.int IntKind.i64 ↑P, Value.int IntKind.i64 a, undef, undef, undef, Value.slice none 0 0, Value.bool false, Value.slice (some ⟨g3, 0, none⟩) N c3, Value.int IntKind.i64 ↑q, Value.int IntKind.i64 ↑k, Value.int IntKind.i64 mv, Value.int IntKind.i64 ↑q, t13, Value.slice A n c, Value.int IntKind.i64 ↑P, Value.bool true, Value.bool false, undef, Value.slice (some ⟨w1.heap.size, 0, none⟩) 0 0, Value.slice A n c, Value.slice (some ⟨gv, 0, none⟩) n c2, Value.int IntKind.i64 ↑k, Value.slice (some ⟨gv, 0, none⟩) n c2, Value.int IntKind.i64 ↑n, Value.bool false, u26, u27, u28, u29, u30, u31, u32, u33, u34, u35, u36, u37, u38, u39, u40, u41, u42, Value.int IntKind.i64 ↑b, Value.bool false, undef, Value.slice (some ⟨gv, 0, none⟩) n c2, Value.int IntKind.i64 ↑b, Value.pointer (some ⟨gv, b * 3, none⟩), Value.pointer (some ⟨gv, b * 3 + 2, none⟩), Value.slice (some ⟨g3, 0, none⟩) N c3, Value.int IntKind.i64 ↑q, Value.pointer (some ⟨g3, q * 3, none⟩), Value.pointer (some ⟨g3, q * 3 + 1, none⟩), Value.int IntKind.i64 ↑jx, Value.int IntKind.i64 ↑P, Value.bool true, Value.slice (some ⟨g3, 0, none⟩) N c3, Value.int IntKind.i64 ↑q, Value.pointer (some ⟨g3, q * 3, none⟩), Value.agg #[Value.int IntKind.i64 ↑sy, Value.int IntKind.i64 ↑jx, Value.bool false], Value.int IntKind.i64 mv, Value.int IntKind.i64 ↑q, Value.int IntKind.i64 mv, Value.slice (some ⟨g3, 0, none⟩) N c3, Value.int IntKind.i64 ↑q, Value.pointer (some ⟨g3, q * 3, none⟩), Value.pointer (some ⟨g3, q * 3, none⟩), Value.int IntKind.i64 ↑sy, Value.bool (decide (mv < ↑sy)), u70, u71, Value.int IntKind.i64 ↑q, Value.bool false, Value.bool false, Value.int IntKind.i64 ↑q, Value.int IntKind.i64 (↑q + 1), Value.slice (some ⟨g3, 0, none⟩) N c3, Value.int IntKind.i64 ↑N, Value.bool false, Value.bool false, Value.bool false, Value.slice (some ⟨g3, 0, none⟩) N c3, Value.int IntKind.i64 ↑q, Value.pointer (some ⟨g3, q * 3, none⟩), Value.pointer (some ⟨g3, q * 3 + 2, none⟩), Value.bool false, Value.bool false, Value.bool false, Value.slice (some ⟨g3, 0, none⟩) N c3, Value.int IntKind.i64 ↑q, Value.int IntKind.i64 (↑q + 1), Value.pointer (some ⟨g3, (q + 1) * 3, none⟩), Value.pointer (some ⟨g3, (q + 1) * 3 + 2, none⟩), Value.bool false, Value.bool false, Value.bool false, Value.slice (some ⟨g3, 0, none⟩) N c3, Value.int IntKind.i64 ↑q, Value.pointer (some ⟨g3, q * 3, none⟩), Value.pointer (some ⟨g3, q * 3 + 1, none⟩), Value.int IntKind.i64 ↑jx, Value.slice (some ⟨g3, 0, none⟩) N c3, Value.int IntKind.i64 ↑q, Value.int IntKind.i64 (↑q + 1), Value.pointer (some ⟨g3, (q + 1) * 3, none⟩), Value.pointer (some ⟨g3, (q + 1) * 3 + 1, none⟩), Value.int IntKind.i64 ↑jx, Value.bool false, Value.bool false, t110, t111, t112, t113, t114, t115, t116, t117, t118, t119, t120, t121, u122, u123, u124, u125, u126, u127, u128, u129, u130, u131, u132, u133, u134, u135, undef], defers := [] } ∧ (Below W0.heap.size W0 ww) ∧ (L 12 = true → L 13 = false → ww = W0.alloc (.cells #[.int .i64 0, .int .i64 0, .bool false] 40)) ∧ (L 12 = false → ww = W0) ∧ (L 13 = true → L 12 = true) ∧ (L 0 = true → t110 = .slice (some ⟨g3, 0, none⟩) N c3) ∧ (L 1 = true → t111 = .int .i64 q) ∧ (L 2 = true → t112 = .pointer (some ⟨g3, q * 3, none⟩)) ∧ (L 3 = true → t113 = .pointer (some ⟨g3, q * 3, none⟩)) ∧ (L 4 = true → t114 = .int .i64 sy) ∧ (L 5 = true → t115 = .slice (some ⟨g3, 0, none⟩) N c3) ∧ (L 6 = true → t116 = .int .i64 q) ∧ (L 7 = true → t117 = .pointer (some ⟨g3, q * 3, none⟩)) ∧ (L 8 = true → t118 = .pointer (some ⟨g3, q * 3 + 1, none⟩)) ∧ (L 9 = true → t119 = .int .i64 jx) ∧ (L 10 = true → t120 = .int .i64 ((jx : Int) + 1)) ∧ (L 11 = true → t121 = .agg #[.int .i64 sy, .int .i64 ((jx : Int) + 1), .bool false]) ∧ (L 12 = true → t13 = .pointer (some ⟨W0.heap.size, 0, none⟩)) ∧ (L 13 = true → ww = W0.alloc (.cells #[.int .i64 sy, .int .i64 ((jx : Int) + 1), .bool false] 40))) ?h0 ?hstep ?hdone
                      case h0 => exact ⟨_, _, _, _, _, _, _, _, _, _, _, _, _, rfl, by rw [h0W]; exact Below.refl _ _, (fun h => absurd h Bool.false_ne_true), fun _ => h0W, (fun h => absurd h Bool.false_ne_true), (fun h => absurd h Bool.false_ne_true), (fun h => absurd h Bool.false_ne_true), (fun h => absurd h Bool.false_ne_true), (fun h => absurd h Bool.false_ne_true), (fun h => absurd h Bool.false_ne_true), (fun h => absurd h Bool.false_ne_true), (fun h => absurd h Bool.false_ne_true), (fun h => absurd h Bool.false_ne_true), (fun h => absurd h Bool.false_ne_true), (fun h => absurd h Bool.false_ne_true), (fun h => absurd h Bool.false_ne_true), (fun h => absurd h Bool.false_ne_true), (fun h => absurd h Bool.false_ne_true), (fun h => absurd h Bool.false_ne_true)⟩
                      case hstep =>
                        rintro L ac ww i o ho hL hd ⟨t13, t110, t111, t112, t113, t114, t115, t116, t117, t118, t119, t120, t121, rfl, I0, I1, I2, I3, f0, f1, f2, f3, f4, f5, f6, f7, f8, f9, f10, f11, f12, f13⟩
                        have hi : i < 14 := (Array.getElem?_eq_some_iff.1 ho).1
                        obtain rfl | rfl | rfl | rfl | rfl | rfl | rfl | rfl | rfl | rfl | rfl | rfl | rfl | rfl : i = 0 ∨ i = 1 ∨ i = 2 ∨ i = 3 ∨ i = 4 ∨ i = 5 ∨ i = 6 ∨ i = 7 ∨ i = 8 ∨ i = 9 ∨ i = 10 ∨ i = 11 ∨ i = 12 ∨ i = 13 := by omega
                        · obtain rfl := Option.some.inj ho
                          refine wpOp_step rfl (fun K' hK => ?_)
                          go_simp
                          refine hK _ _ ?_
                          exact ⟨_, _, _, _, _, _, _, _, _, _, _, _, _, rfl, (I0), (fun h h13 => I1 (upd_ne h (by decide)) (by rw [upd_other (by decide)] at h13; exact h13)), (fun h => I2 (by rw [upd_other (by decide)] at h; exact h)), (fun h => upd_mono (I3 (upd_ne h (by decide)))), (fun _ => rfl), (fun h => f1 (upd_ne h (by decide))), (fun h => f2 (upd_ne h (by decide))), (fun h => f3 (upd_ne h (by decide))), (fun h => f4 (upd_ne h (by decide))), (fun h => f5 (upd_ne h (by decide))), (fun h => f6 (upd_ne h (by decide))), (fun h => f7 (upd_ne h (by decide))), (fun h => f8 (upd_ne h (by decide))), (fun h => f9 (upd_ne h (by decide))), (fun h => f10 (upd_ne h (by decide))), (fun h => f11 (upd_ne h (by decide))), (fun h => f12 (upd_ne h (by decide))), (fun h => f13 (upd_ne h (by decide)))⟩
                        · obtain rfl := Option.some.inj ho
                          refine wpOp_step rfl (fun K' hK => ?_)
                          go_simp
                          refine hK _ _ ?_
                          exact ⟨_, _, _, _, _, _, _, _, _, _, _, _, _, rfl, (I0), (fun h h13 => I1 (upd_ne h (by decide)) (by rw [upd_other (by decide)] at h13; exact h13)), (fun h => I2 (by rw [upd_other (by decide)] at h; exact h)), (fun h => upd_mono (I3 (upd_ne h (by decide)))), (fun h => f0 (upd_ne h (by decide))), (fun _ => rfl), (fun h => f2 (upd_ne h (by decide))), (fun h => f3 (upd_ne h (by decide))), (fun h => f4 (upd_ne h (by decide))), (fun h => f5 (upd_ne h (by decide))), (fun h => f6 (upd_ne h (by decide))), (fun h => f7 (upd_ne h (by decide))), (fun h => f8 (upd_ne h (by decide))), (fun h => f9 (upd_ne h (by decide))), (fun h => f10 (upd_ne h (by decide))), (fun h => f11 (upd_ne h (by decide))), (fun h => f12 (upd_ne h (by decide))), (fun h => f13 (upd_ne h (by decide)))⟩
                        · obtain rfl := Option.some.inj ho
                          have g0 := f0 (hd ⟨0, .data⟩ (by simp) rfl)
                          have g1 := f1 (hd ⟨1, .data⟩ (by simp) rfl)
                          subst g0
                          subst g1
                          refine wpOp_step rfl (fun K' hK => ?_)
                          go_simp
                          refine hK _ _ ?_
                          exact ⟨_, _, _, _, _, _, _, _, _, _, _, _, _, rfl, (I0), (fun h h13 => I1 (upd_ne h (by decide)) (by rw [upd_other (by decide)] at h13; exact h13)), (fun h => I2 (by rw [upd_other (by decide)] at h; exact h)), (fun h => upd_mono (I3 (upd_ne h (by decide)))), (fun h => f0 (upd_ne h (by decide))), (fun h => f1 (upd_ne h (by decide))), (fun _ => by simp), (fun h => f3 (upd_ne h (by decide))), (fun h => f4 (upd_ne h (by decide))), (fun h => f5 (upd_ne h (by decide))), (fun h => f6 (upd_ne h (by decide))), (fun h => f7 (upd_ne h (by decide))), (fun h => f8 (upd_ne h (by decide))), (fun h => f9 (upd_ne h (by decide))), (fun h => f10 (upd_ne h (by decide))), (fun h => f11 (upd_ne h (by decide))), (fun h => f12 (upd_ne h (by decide))), (fun h => f13 (upd_ne h (by decide)))⟩
                        · obtain rfl := Option.some.inj ho
                          have g2 := f2 (hd ⟨2, .data⟩ (by simp) rfl)
                          subst g2
                          refine wpOp_step rfl (fun K' hK => ?_)
                          go_simp
                          refine hK _ _ ?_
                          exact ⟨_, _, _, _, _, _, _, _, _, _, _, _, _, rfl, (I0), (fun h h13 => I1 (upd_ne h (by decide)) (by rw [upd_other (by decide)] at h13; exact h13)), (fun h => I2 (by rw [upd_other (by decide)] at h; exact h)), (fun h => upd_mono (I3 (upd_ne h (by decide)))), (fun h => f0 (upd_ne h (by decide))), (fun h => f1 (upd_ne h (by decide))), (fun h => f2 (upd_ne h (by decide))), (fun _ => rfl), (fun h => f4 (upd_ne h (by decide))), (fun h => f5 (upd_ne h (by decide))), (fun h => f6 (upd_ne h (by decide))), (fun h => f7 (upd_ne h (by decide))), (fun h => f8 (upd_ne h (by decide))), (fun h => f9 (upd_ne h (by decide))), (fun h => f10 (upd_ne h (by decide))), (fun h => f11 (upd_ne h (by decide))), (fun h => f12 (upd_ne h (by decide))), (fun h => f13 (upd_ne h (by decide)))⟩
                        · obtain rfl := Option.some.inj ho
                          have g3 := f3 (hd ⟨3, .data⟩ (by simp) rfl)
                          subst g3
                          obtain ⟨n0, n1⟩ := HC.out ww I0
                          refine wpOp_step rfl (fun K' hK => ?_)
                          go_simp
                          refine hK _ _ ?_
                          exact ⟨_, _, _, _, _, _, _, _, _, _, _, _, _, rfl, (I0), (fun h h13 => I1 (upd_ne h (by decide)) (by rw [upd_other (by decide)] at h13; exact h13)), (fun h => I2 (by rw [upd_other (by decide)] at h; exact h)), (fun h => upd_mono (I3 (upd_ne h (by decide)))), (fun h => f0 (upd_ne h (by decide))), (fun h => f1 (upd_ne h (by decide))), (fun h => f2 (upd_ne h (by decide))), (fun h => f3 (upd_ne h (by decide))), (fun _ => rfl), (fun h => f5 (upd_ne h (by decide))), (fun h => f6 (upd_ne h (by decide))), (fun h => f7 (upd_ne h (by decide))), (fun h => f8 (upd_ne h (by decide))), (fun h => f9 (upd_ne h (by decide))), (fun h => f10 (upd_ne h (by decide))), (fun h => f11 (upd_ne h (by decide))), (fun h => f12 (upd_ne h (by decide))), (fun h => f13 (upd_ne h (by decide)))⟩
                        · obtain rfl := Option.some.inj ho
                          refine wpOp_step rfl (fun K' hK => ?_)
                          go_simp
                          refine hK _ _ ?_
                          exact ⟨_, _, _, _, _, _, _, _, _, _, _, _, _, rfl, (I0), (fun h h13 => I1 (upd_ne h (by decide)) (by rw [upd_other (by decide)] at h13; exact h13)), (fun h => I2 (by rw [upd_other (by decide)] at h; exact h)), (fun h => upd_mono (I3 (upd_ne h (by decide)))), (fun h => f0 (upd_ne h (by decide))), (fun h => f1 (upd_ne h (by decide))), (fun h => f2 (upd_ne h (by decide))), (fun h => f3 (upd_ne h (by decide))), (fun h => f4 (upd_ne h (by decide))), (fun _ => rfl), (fun h => f6 (upd_ne h (by decide))), (fun h => f7 (upd_ne h (by decide))), (fun h => f8 (upd_ne h (by decide))), (fun h => f9 (upd_ne h (by decide))), (fun h => f10 (upd_ne h (by decide))), (fun h => f11 (upd_ne h (by decide))), (fun h => f12 (upd_ne h (by decide))), (fun h => f13 (upd_ne h (by decide)))⟩
                        · obtain rfl := Option.some.inj ho
                          refine wpOp_step rfl (fun K' hK => ?_)
                          go_simp
                          refine hK _ _ ?_
                          exact ⟨_, _, _, _, _, _, _, _, _, _, _, _, _, rfl, (I0), (fun h h13 => I1 (upd_ne h (by decide)) (by rw [upd_other (by decide)] at h13; exact h13)), (fun h => I2 (by rw [upd_other (by decide)] at h; exact h)), (fun h => upd_mono (I3 (upd_ne h (by decide)))), (fun h => f0 (upd_ne h (by decide))), (fun h => f1 (upd_ne h (by decide))), (fun h => f2 (upd_ne h (by decide))), (fun h => f3 (upd_ne h (by decide))), (fun h => f4 (upd_ne h (by decide))), (fun h => f5 (upd_ne h (by decide))), (fun _ => rfl), (fun h => f7 (upd_ne h (by decide))), (fun h => f8 (upd_ne h (by decide))), (fun h => f9 (upd_ne h (by decide))), (fun h => f10 (upd_ne h (by decide))), (fun h => f11 (upd_ne h (by decide))), (fun h => f12 (upd_ne h (by decide))), (fun h => f13 (upd_ne h (by decide)))⟩
                        · obtain rfl := Option.some.inj ho
                          have g5 := f5 (hd ⟨5, .data⟩ (by simp) rfl)
                          have g6 := f6 (hd ⟨6, .data⟩ (by simp) rfl)
                          subst g5
                          subst g6
                          refine wpOp_step rfl (fun K' hK => ?_)
                          go_simp
                          refine hK _ _ ?_
                          exact ⟨_, _, _, _, _, _, _, _, _, _, _, _, _, rfl, (I0), (fun h h13 => I1 (upd_ne h (by decide)) (by rw [upd_other (by decide)] at h13; exact h13)), (fun h => I2 (by rw [upd_other (by decide)] at h; exact h)), (fun h => upd_mono (I3 (upd_ne h (by decide)))), (fun h => f0 (upd_ne h (by decide))), (fun h => f1 (upd_ne h (by decide))), (fun h => f2 (upd_ne h (by decide))), (fun h => f3 (upd_ne h (by decide))), (fun h => f4 (upd_ne h (by decide))), (fun h => f5 (upd_ne h (by decide))), (fun h => f6 (upd_ne h (by decide))), (fun _ => by simp), (fun h => f8 (upd_ne h (by decide))), (fun h => f9 (upd_ne h (by decide))), (fun h => f10 (upd_ne h (by decide))), (fun h => f11 (upd_ne h (by decide))), (fun h => f12 (upd_ne h (by decide))), (fun h => f13 (upd_ne h (by decide)))⟩
                        · obtain rfl := Option.some.inj ho
                          have g7 := f7 (hd ⟨7, .data⟩ (by simp) rfl)
                          subst g7
                          refine wpOp_step rfl (fun K' hK => ?_)
                          go_simp
                          refine hK _ _ ?_
                          exact ⟨_, _, _, _, _, _, _, _, _, _, _, _, _, rfl, (I0), (fun h h13 => I1 (upd_ne h (by decide)) (by rw [upd_other (by decide)] at h13; exact h13)), (fun h => I2 (by rw [upd_other (by decide)] at h; exact h)), (fun h => upd_mono (I3 (upd_ne h (by decide)))), (fun h => f0 (upd_ne h (by decide))), (fun h => f1 (upd_ne h (by decide))), (fun h => f2 (upd_ne h (by decide))), (fun h => f3 (upd_ne h (by decide))), (fun h => f4 (upd_ne h (by decide))), (fun h => f5 (upd_ne h (by decide))), (fun h => f6 (upd_ne h (by decide))), (fun h => f7 (upd_ne h (by decide))), (fun _ => rfl), (fun h => f9 (upd_ne h (by decide))), (fun h => f10 (upd_ne h (by decide))), (fun h => f11 (upd_ne h (by decide))), (fun h => f12 (upd_ne h (by decide))), (fun h => f13 (upd_ne h (by decide)))⟩
                        · obtain rfl := Option.some.inj ho
                          have g8 := f8 (hd ⟨8, .data⟩ (by simp) rfl)
                          subst g8
                          obtain ⟨n0, n1⟩ := HC.out ww I0
                          refine wpOp_step rfl (fun K' hK => ?_)
                          go_simp
                          refine hK _ _ ?_
                          exact ⟨_, _, _, _, _, _, _, _, _, _, _, _, _, rfl, (I0), (fun h h13 => I1 (upd_ne h (by decide)) (by rw [upd_other (by decide)] at h13; exact h13)), (fun h => I2 (by rw [upd_other (by decide)] at h; exact h)), (fun h => upd_mono (I3 (upd_ne h (by decide)))), (fun h => f0 (upd_ne h (by decide))), (fun h => f1 (upd_ne h (by decide))), (fun h => f2 (upd_ne h (by decide))), (fun h => f3 (upd_ne h (by decide))), (fun h => f4 (upd_ne h (by decide))), (fun h => f5 (upd_ne h (by decide))), (fun h => f6 (upd_ne h (by decide))), (fun h => f7 (upd_ne h (by decide))), (fun h => f8 (upd_ne h (by decide))), (fun _ => rfl), (fun h => f10 (upd_ne h (by decide))), (fun h => f11 (upd_ne h (by decide))), (fun h => f12 (upd_ne h (by decide))), (fun h => f13 (upd_ne h (by decide)))⟩
                        · obtain rfl := Option.some.inj ho
                          have g9 := f9 (hd ⟨9, .data⟩ (by simp) rfl)
                          subst g9
                          have hw : IntKind.i64.wrap ((jx : Int) + 1) = (jx : Int) + 1 := IntWalk.i64_in _ (by omega)
                          refine wpOp_step rfl (fun K' hK => ?_)
                          go_simp
                          refine hK _ _ ?_
                          clear hw
                          exact ⟨_, _, _, _, _, _, _, _, _, _, _, _, _, rfl, (I0), (fun h h13 => I1 (upd_ne h (by decide)) (by rw [upd_other (by decide)] at h13; exact h13)), (fun h => I2 (by rw [upd_other (by decide)] at h; exact h)), (fun h => upd_mono (I3 (upd_ne h (by decide)))), (fun h => f0 (upd_ne h (by decide))), (fun h => f1 (upd_ne h (by decide))), (fun h => f2 (upd_ne h (by decide))), (fun h => f3 (upd_ne h (by decide))), (fun h => f4 (upd_ne h (by decide))), (fun h => f5 (upd_ne h (by decide))), (fun h => f6 (upd_ne h (by decide))), (fun h => f7 (upd_ne h (by decide))), (fun h => f8 (upd_ne h (by decide))), (fun h => f9 (upd_ne h (by decide))), (fun _ => rfl), (fun h => f11 (upd_ne h (by decide))), (fun h => f12 (upd_ne h (by decide))), (fun h => f13 (upd_ne h (by decide)))⟩
                        · obtain rfl := Option.some.inj ho
                          have g4 := f4 (hd ⟨4, .data⟩ (by simp) rfl)
                          have g10 := f10 (hd ⟨10, .data⟩ (by simp) rfl)
                          subst g4
                          subst g10
                          refine wpOp_step rfl (fun K' hK => ?_)
                          go_simp
                          refine hK _ _ ?_
                          exact ⟨_, _, _, _, _, _, _, _, _, _, _, _, _, rfl, (I0), (fun h h13 => I1 (upd_ne h (by decide)) (by rw [upd_other (by decide)] at h13; exact h13)), (fun h => I2 (by rw [upd_other (by decide)] at h; exact h)), (fun h => upd_mono (I3 (upd_ne h (by decide)))), (fun h => f0 (upd_ne h (by decide))), (fun h => f1 (upd_ne h (by decide))), (fun h => f2 (upd_ne h (by decide))), (fun h => f3 (upd_ne h (by decide))), (fun h => f4 (upd_ne h (by decide))), (fun h => f5 (upd_ne h (by decide))), (fun h => f6 (upd_ne h (by decide))), (fun h => f7 (upd_ne h (by decide))), (fun h => f8 (upd_ne h (by decide))), (fun h => f9 (upd_ne h (by decide))), (fun h => f10 (upd_ne h (by decide))), (fun _ => rfl), (fun h => f12 (upd_ne h (by decide))), (fun h => f13 (upd_ne h (by decide)))⟩
                        · obtain rfl := Option.some.inj ho
                          have hw0 := I2 hL
                          subst hw0
                          refine wpOp_step rfl (fun K' hK => ?_)
                          go_simp
                          refine hK _ _ ?_
                          exact ⟨_, _, _, _, _, _, _, _, _, _, _, _, _, rfl, ((Below.refl _ _).alloc (Nat.le_refl _) _), (fun _ _ => rfl), (fun h => absurd (upd_self.symm.trans h) (by decide)), (fun h => upd_mono (I3 (upd_ne h (by decide)))), (fun h => f0 (upd_ne h (by decide))), (fun h => f1 (upd_ne h (by decide))), (fun h => f2 (upd_ne h (by decide))), (fun h => f3 (upd_ne h (by decide))), (fun h => f4 (upd_ne h (by decide))), (fun h => f5 (upd_ne h (by decide))), (fun h => f6 (upd_ne h (by decide))), (fun h => f7 (upd_ne h (by decide))), (fun h => f8 (upd_ne h (by decide))), (fun h => f9 (upd_ne h (by decide))), (fun h => f10 (upd_ne h (by decide))), (fun h => f11 (upd_ne h (by decide))), (fun _ => rfl), (fun h => absurd ((I3 (upd_ne h (by decide))).symm.trans hL) (by decide))⟩
                        · obtain rfl := Option.some.inj ho
                          have g12 := f12 (hd ⟨12, .data⟩ (by simp) rfl)
                          have g11 := f11 (hd ⟨11, .data⟩ (by simp) rfl)
                          subst g12
                          subst g11
                          have h12 := hd ⟨12, .data⟩ (by simp) rfl
                          have hw0 := I1 h12 hL
                          subst hw0
                          refine wpOp_step rfl (fun K' hK => ?_)
                          go_simp
                          refine hK _ _ ?_
                          exact ⟨_, _, _, _, _, _, _, _, _, _, _, _, _, rfl, ((Below.refl _ _).alloc (Nat.le_refl _) _), (fun _ h => absurd (upd_self.symm.trans h) (by decide)), (fun h => absurd ((upd_other (by decide)).symm.trans h) (by rw [h12]; decide)), (fun _ => upd_mono h12), (fun h => f0 (upd_ne h (by decide))), (fun h => f1 (upd_ne h (by decide))), (fun h => f2 (upd_ne h (by decide))), (fun h => f3 (upd_ne h (by decide))), (fun h => f4 (upd_ne h (by decide))), (fun h => f5 (upd_ne h (by decide))), (fun h => f6 (upd_ne h (by decide))), (fun h => f7 (upd_ne h (by decide))), (fun h => f8 (upd_ne h (by decide))), (fun h => f9 (upd_ne h (by decide))), (fun h => f10 (upd_ne h (by decide))), (fun h => f11 (upd_ne h (by decide))), (fun h => f12 (upd_ne h (by decide))), (fun _ => rfl)⟩
                      case hdone =>
                        rintro L ac ww hall ⟨t13, t110, t111, t112, t113, t114, t115, t116, t117, t118, t119, t120, t121, rfl, I0, I1, I2, I3, f0, f1, f2, f3, f4, f5, f6, f7, f8, f9, f10, f11, f12, f13⟩
                        have e0 := f0 (hall 0 (by decide))
                        have e1 := f1 (hall 1 (by decide))
                        have e2 := f2 (hall 2 (by decide))
                        have e3 := f3 (hall 3 (by decide))
                        have e4 := f4 (hall 4 (by decide))
                        have e5 := f5 (hall 5 (by decide))
                        have e6 := f6 (hall 6 (by decide))
                        have e7 := f7 (hall 7 (by decide))
                        have e8 := f8 (hall 8 (by decide))
                        have e9 := f9 (hall 9 (by decide))
                        have e10 := f10 (hall 10 (by decide))
                        have e11 := f11 (hall 11 (by decide))
                        have e12 := f12 (hall 12 (by decide))
                        have e13 := f13 (hall 13 (by decide))
                        clear f0 f1 f2 f3 f4 f5 f6 f7 f8 f9 f10 f11 f12 f13
                        subst e0 e1 e2 e3 e4 e5 e6 e7 e8 e9 e10 e11 e12
                        subst e13
                        clear I0 I1 I2 I3
                        go_wp2_with fail
                        have HXG := Lib.hid (show out[q]? = some ⟨sy, jx, false⟩ by rw [← HXE.out]; exact HY.out)
                        obtain ⟨W1, hW1⟩ : ∃ W1, W1 = (W0.alloc (.cells #[.int .i64 sy, .int .i64 ((jx : Int) + 1), .bool false] 40)).drew := ⟨_, rfl⟩
                        have b01 : Below W0.heap.size W0 W1 := by rw [hW1]; exact ((Below.refl _ _).alloc (Nat.le_refl _) _).drew
                        have s01 : W1.heap.size = W0.heap.size + 1 := by rw [hW1]; simp
                        have bW1 : Below w.heap.size w W1 := bW0.trans (b01.mono bW0.size)
                        have h1W : Below W1.heap.size W1 (W0.alloc (.cells #[.int .i64 sy, .int .i64 ((jx : Int) + 1), .bool false] 40)).drew := by rw [hW1]; exact Below.refl _ _
                        have m0 : W1.cell? ⟨W0.heap.size, 0, none⟩ = some (.int .i64 sy) := by rw [hW1]; simp
                        have m1 : W1.cell? ⟨W0.heap.size, 1, none⟩ = some (.int .i64 ((jx : Int) + 1)) := by rw [hW1]; simp
                        have m2 : W1.cell? ⟨W0.heap.size, 2, none⟩ = some (.bool false) := by rw [hW1]; simp
                        have HC1 := Lib.hid (fun w' (hw' : Below W1.heap.size W1 w') => (show w'.cell? ⟨W0.heap.size, 0, none⟩ = some (.int .i64 sy) ∧ w'.cell? ⟨W0.heap.size, 1, none⟩ = some (.int .i64 ((jx : Int) + 1)) ∧ w'.cell? ⟨W0.heap.size, 2, none⟩ = some (.bool false) from
                          ⟨(hw'.cell (p := ⟨W0.heap.size, 0, none⟩) (by show W0.heap.size < _; omega)).trans m0, (hw'.cell (p := ⟨W0.heap.size, 1, none⟩) (by show W0.heap.size < _; omega)).trans m1, (hw'.cell (p := ⟨W0.heap.size, 2, none⟩) (by show W0.heap.size < _; omega)).trans m2⟩))
                        have HRO := Lib.hid (HR0.out.up b01)
                        have HAI := Lib.hid (show AllI [(⟨sy, (jx : Int) + 1, false⟩ : Bl)] from allI_one (by omega) (by omega) (by omega) (by omega))
                        clear hW1 m0 m1 m2
                        have hM2 : q + 2 ≤ N := by omega
                        have v1 : (q : Int) ≤ N := by omega
                        have v2 : (q : Int) ≤ c3 := by omega
                        have v5 : ((q : Int) + 2).toNat = q + 2 := by omega
                        have v6 : 0 ≤ (q : Int) + 2 := by omega
                        by_cases hcc : c3 = q + 2
                        · have eN : N = q + 2 := by omega
                          have HD := Lib.hid (show out.drop (q + 2) = [] from List.drop_eq_nil_of_le (by rw [HN.out]; omega))
                          subst hcc eN
                          have v7 : (q : Int) ≤ (q : Int) + 2 := by omega
                          have HTL := Lib.hid (fun W' (_ : Below W1.heap.size W1 W') => BS.none_ W' W1.heap.size (some (⟨g3, 0, none⟩ : Addr)))
                          refine wp_region_inv (by kernel_rfl) (by kernel_rfl) (fun L ac ww => ∃ t8 t122 t123 t124 t125 t126 t127 t128 t129 t130 t131 t132 t133 t134 : Value, ac = { tmps := #[Value.slice A n c, Value.int IntKind.i64 ↑P, Value.int IntKind.i64 a, undef, undef, undef, Value.slice none 0 0, Value.bool false, t8, Value.int IntKind.i64 ↑q, Value.int IntKind.i64 ↑k, Value.int IntKind.i64 mv, Value.int IntKind.i64 ↑q, Value.pointer (some ⟨W0.heap.size, 0, none⟩), Value.slice A n c, Value.int IntKind.i64 ↑P, Value.bool true, Value.bool false, undef, Value.slice (some ⟨w1.heap.size, 0, none⟩) 0 0, Value.slice A n c, Value.slice (some ⟨gv, 0, none⟩) n c2, Value.int IntKind.i64 ↑k, Value.slice (some ⟨gv, 0, none⟩) n c2, Value.int IntKind.i64 ↑n, Value.bool false, u26, u27, u28, u29, u30, u31, u32, u33, u34, u35, u36, u37, u38, u39, u40, u41, u42, Value.int IntKind.i64 ↑b, Value.bool false, undef, Value.slice (some ⟨gv, 0, none⟩) n c2, Value.int IntKind.i64 ↑b, Value.pointer (some ⟨gv, b * 3, none⟩), Value.pointer (some ⟨gv, b * 3 + 2, none⟩), Value.slice (some ⟨g3, 0, none⟩) (q + 2) (q + 2), Value.int IntKind.i64 ↑q, Value.pointer (some ⟨g3, q * 3, none⟩), Value.pointer (some ⟨g3, q * 3 + 1, none⟩), Value.int IntKind.i64 ↑jx, Value.int IntKind.i64 ↑P, Value.bool true, Value.slice (some ⟨g3, 0, none⟩) (q + 2) (q + 2), Value.int IntKind.i64 ↑q, Value.pointer (some ⟨g3, q * 3, none⟩), Value.agg #[Value.int IntKind.i64 ↑sy, Value.int IntKind.i64 ↑jx, Value.bool false], Value.int IntKind.i64 mv, Value.int IntKind.i64 ↑q, Value.int IntKind.i64 mv, Value.slice (some ⟨g3, 0, none⟩) (q + 2) (q + 2), Value.int IntKind.i64 ↑q, Value.pointer (some ⟨g3, q * 3, none⟩), Value.pointer (some ⟨g3, q * 3, none⟩), Value.int IntKind.i64 ↑sy, Value.bool (decide (mv < ↑sy)), u70, u71, Value.int IntKind.i64 ↑q, Value.bool false, Value.bool false, Value.int IntKind.i64 ↑q, Value.int IntKind.i64 (↑q + 1), Value.slice (some ⟨g3, 0, none⟩) (q + 2) (q + 2), Value.int IntKind.i64 (q + 2), Value.bool false, Value.bool false, Value.bool false, Value.slice (some ⟨g3, 0, none⟩) (q + 2) (q + 2), Value.int IntKind.i64 ↑q, Value.pointer (some ⟨g3, q * 3, none⟩), Value.pointer (some ⟨g3, q * 3 + 2, none⟩), Value.bool false, Value.bool false, Value.bool false, Value.slice (some ⟨g3, 0, none⟩) (q + 2) (q + 2), Value.int IntKind.i64 ↑q, Value.int IntKind.i64 (↑q + 1), Value.pointer (some ⟨g3, (q + 1) * 3, none⟩), Value.pointer (some ⟨g3, (q + 1) * 3 + 2, none⟩), Value.bool false, Value.bool false, Value.bool false, Value.slice (some ⟨g3, 0, none⟩) (q + 2) (q + 2), Value.int IntKind.i64 ↑q, Value.pointer (some ⟨g3, q * 3, none⟩), Value.pointer (some ⟨g3, q * 3 + 1, none⟩), Value.int IntKind.i64 ↑jx, Value.slice (some ⟨g3, 0, none⟩) (q + 2) (q + 2), Value.int IntKind.i64 ↑q, Value.int IntKind.i64 (↑q + 1), Value.pointer (some ⟨g3, (q + 1) * 3, none⟩), Value.pointer (some ⟨g3, (q + 1) * 3 + 1, none⟩), Value.int IntKind.i64 ↑jx, Value.bool false, Value.bool false, Value.slice (some ⟨g3, 0, none⟩) (q + 2) (q + 2), Value.int IntKind.i64 ↑q, Value.pointer (some ⟨g3, q * 3, none⟩), Value.pointer (some ⟨g3, q * 3, none⟩), Value.int IntKind.i64 ↑sy, Value.slice (some ⟨g3, 0, none⟩) (q + 2) (q + 2), Value.int IntKind.i64 ↑q, Value.pointer (some ⟨g3, q * 3, none⟩), Value.pointer (some ⟨g3, q * 3 + 1, none⟩), Value.int IntKind.i64 ↑jx, Value.int IntKind.i64 (↑jx + 1), Value.agg #[Value.int IntKind.i64 ↑sy, Value.int IntKind.i64 (↑jx + 1), Value.bool false], t122, t123, t124, t125, t126, t127, t128, t129, t130, t131, t132, t133, t134, u135, undef], defers := [] } ∧ (Below W1.heap.size W1 ww) ∧ (L 4 = true → L 0 = true) ∧ (L 7 = true → L 4 = true ∧ L 6 = true) ∧ (L 12 = true → L 7 = true) ∧ (L 13 = false → t8 = .slice (some ⟨g3, 0, none⟩) (q + 2) (q + 2)) ∧ (L 13 = true → ∀ i, i < 13 → L i = true) ∧ (L 0 = true → L 4 = false → OwnY ww W1.heap.size t122 []) ∧ (L 1 = true → t123 = .slice (some ⟨g3, 0, none⟩) (q + 2) (q + 2)) ∧ (L 2 = true → t124 = .int .i64 q) ∧ (L 3 = true → t125 = .slice (some ⟨g3, 0, none⟩) q (q + 2)) ∧ (L 4 = true → L 7 = false → OwnY ww W1.heap.size t126 (out.take q)) ∧ (L 5 = true → t127 = .agg #[.int .i64 sy, .int .i64 ((jx : Int) + 1), .bool false]) ∧ (L 6 = true → ∃ g6, t128 = .slice (some ⟨g6, 0, none⟩) 1 1 ∧ (L 7 = false → OwnY ww W1.heap.size (.slice (some ⟨g6, 0, none⟩) 1 1) [(⟨sy, (jx : Int) + 1, false⟩ : Bl)] ∧ (L 0 = true → L 4 = false → t122.ownBlock ≠ some g6) ∧ (L 4 = true → t126.ownBlock ≠ some g6))) ∧ (L 7 = true → L 12 = false → OwnY ww W1.heap.size t129 ((out.take q) ++ [(⟨sy, (jx : Int) + 1, false⟩ : Bl)])) ∧ (L 8 = true → t130 = .slice (some ⟨g3, 0, none⟩) (q + 2) (q + 2)) ∧ (L 9 = true → t131 = .int .i64 q) ∧ (L 10 = true → t132 = .int .i64 ((q : Int) + 2)) ∧ (L 11 = true → t133 = .slice (some ⟨g3, 0, none⟩) 0 0) ∧ (L 12 = true → OwnY ww W1.heap.size t134 ((out.take q) ++ [(⟨sy, (jx : Int) + 1, false⟩ : Bl)] ++ [])) ∧ (L 13 = true → L 12 = true ∧ t8 = t134)) ?h0 ?hstep ?hdone
                          case h0 => exact ⟨_, _, _, _, _, _, _, _, _, _, _, _, _, _, rfl, h1W, (fun h => absurd h Bool.false_ne_true), (fun h => absurd h Bool.false_ne_true), (fun h => absurd h Bool.false_ne_true), fun _ => rfl, (fun h => absurd h Bool.false_ne_true), (fun h => absurd h Bool.false_ne_true), (fun h => absurd h Bool.false_ne_true), (fun h => absurd h Bool.false_ne_true), (fun h => absurd h Bool.false_ne_true), (fun h => absurd h Bool.false_ne_true), (fun h => absurd h Bool.false_ne_true), (fun h => absurd h Bool.false_ne_true), (fun h => absurd h Bool.false_ne_true), (fun h => absurd h Bool.false_ne_true), (fun h => absurd h Bool.false_ne_true), (fun h => absurd h Bool.false_ne_true), (fun h => absurd h Bool.false_ne_true), (fun h => absurd h Bool.false_ne_true), (fun h => absurd h Bool.false_ne_true)⟩
                          case hstep =>
                            rintro L ac ww i o ho hL hd ⟨t8, t122, t123, t124, t125, t126, t127, t128, t129, t130, t131, t132, t133, t134, rfl, I0, I1, I2, I3, I4, I5, f0, f1, f2, f3, f4, f5, f6, f7, f8, f9, f10, f11, f12, f13⟩
                            have hi : i < 14 := (Array.getElem?_eq_some_iff.1 ho).1
                            obtain rfl | rfl | rfl | rfl | rfl | rfl | rfl | rfl | rfl | rfl | rfl | rfl | rfl | rfl : i = 0 ∨ i = 1 ∨ i = 2 ∨ i = 3 ∨ i = 4 ∨ i = 5 ∨ i = 6 ∨ i = 7 ∨ i = 8 ∨ i = 9 ∨ i = 10 ∨ i = 11 ∨ i = 12 ∨ i = 13 := by omega
                            · obtain rfl := Option.some.inj ho
                              have h4 : L 4 = false := by
                                cases hh : L 4
                                · rfl
                                · exact absurd ((I1 hh).symm.trans hL) (by decide)
                              have h7 : L 7 = false := by
                                cases hh : L 7
                                · rfl
                                · exact absurd ((I2 hh).1.symm.trans h4) (by decide)
                              have h12 : L 12 = false := by
                                cases hh : L 12
                                · rfl
                                · exact absurd ((I3 hh).symm.trans h7) (by decide)
                              refine wpOp_step rfl (fun K' hK => ?_)
                              go_simp
                              refine hK _ _ ?_
                              exact ⟨_, _, _, _, _, _, _, _, _, _, _, _, _, _, rfl, (I0.alloc I0.size _), (fun _ => upd_self), (fun h => ⟨upd_mono (I2 (upd_ne h (by decide))).1, upd_mono (I2 (upd_ne h (by decide))).2⟩), (fun h => upd_mono (I3 (upd_ne h (by decide)))), (fun h => I4 (by rw [upd_other (by decide)] at h; exact h)), (upd_all I5 (by decide)), (fun _ _ => own_noneY ww _ I0.size), (fun h => f1 (upd_ne h (by decide))), (fun h => f2 (upd_ne h (by decide))), (fun h => f3 (upd_ne h (by decide))), (fun h => absurd ((upd_ne h (by decide)).symm.trans h4) (by decide)), (fun h => f5 (upd_ne h (by decide))), (fun h => by
                                  obtain ⟨g6, e1, e2⟩ := f6 (upd_ne h (by decide))
                                  have q6 := (World.ownsRow.lt (e2 h7).1 g6 rfl).2
                                  exact ⟨g6, e1, fun _ => ⟨World.ownsRow.alloc (e2 h7).1 _, fun _ _ e => by
                                    have e' : some ww.heap.size = some g6 := e
                                    injection e' with e'
                                    omega, fun h4' => (e2 h7).2.2 (upd_ne h4' (by decide))⟩⟩), (fun h => absurd ((upd_ne h (by decide)).symm.trans h7) (by decide)), (fun h => f8 (upd_ne h (by decide))), (fun h => f9 (upd_ne h (by decide))), (fun h => f10 (upd_ne h (by decide))), (fun h => f11 (upd_ne h (by decide))), (fun h => absurd ((upd_ne h (by decide)).symm.trans h12) (by decide)), (fun h => ⟨upd_mono (f13 (upd_ne h (by decide))).1, (f13 (upd_ne h (by decide))).2⟩)⟩
                            · obtain rfl := Option.some.inj ho
                              have h13 : L 13 = false := by
                                cases hh : L 13
                                · rfl
                                · exact absurd ((I5 hh 1 (by omega)).symm.trans hL) (by decide)
                              have ht8 := I4 h13
                              subst ht8
                              refine wpOp_step rfl (fun K' hK => ?_)
                              go_simp
                              refine hK _ _ ?_
                              exact ⟨_, _, _, _, _, _, _, _, _, _, _, _, _, _, rfl, (I0), (fun h => upd_mono (I1 (upd_ne h (by decide)))), (fun h => ⟨upd_mono (I2 (upd_ne h (by decide))).1, upd_mono (I2 (upd_ne h (by decide))).2⟩), (fun h => upd_mono (I3 (upd_ne h (by decide)))), (fun _ => rfl), (upd_all I5 (by decide)), (fun h h4 => f0 (upd_ne h (by decide)) (by rw [upd_other (by decide)] at h4; exact h4)), (fun _ => rfl), (fun h => f2 (upd_ne h (by decide))), (fun h => f3 (upd_ne h (by decide))), (fun h h7 => f4 (upd_ne h (by decide)) (by rw [upd_other (by decide)] at h7; exact h7)), (fun h => f5 (upd_ne h (by decide))), (fun h => by
                                  obtain ⟨g6, e1, e2⟩ := f6 (upd_ne h (by decide))
                                  exact ⟨g6, e1, fun h7 => ⟨(e2 (by rw [upd_other (by decide)] at h7; exact h7)).1, fun h0 h4 => (e2 (by rw [upd_other (by decide)] at h7; exact h7)).2.1 (upd_ne h0 (by decide)) (by rw [upd_other (by decide)] at h4; exact h4), fun h4 => (e2 (by rw [upd_other (by decide)] at h7; exact h7)).2.2 (upd_ne h4 (by decide))⟩⟩), (fun h h12 => f7 (upd_ne h (by decide)) (by rw [upd_other (by decide)] at h12; exact h12)), (fun h => f8 (upd_ne h (by decide))), (fun h => f9 (upd_ne h (by decide))), (fun h => f10 (upd_ne h (by decide))), (fun h => f11 (upd_ne h (by decide))), (fun h => f12 (upd_ne h (by decide))), (fun h => ⟨upd_mono (f13 (upd_ne h (by decide))).1, (f13 (upd_ne h (by decide))).2⟩)⟩
                            · obtain rfl := Option.some.inj ho
                              refine wpOp_step rfl (fun K' hK => ?_)
                              go_simp
                              refine hK _ _ ?_
                              exact ⟨_, _, _, _, _, _, _, _, _, _, _, _, _, _, rfl, (I0), (fun h => upd_mono (I1 (upd_ne h (by decide)))), (fun h => ⟨upd_mono (I2 (upd_ne h (by decide))).1, upd_mono (I2 (upd_ne h (by decide))).2⟩), (fun h => upd_mono (I3 (upd_ne h (by decide)))), (fun h => I4 (by rw [upd_other (by decide)] at h; exact h)), (upd_all I5 (by decide)), (fun h h4 => f0 (upd_ne h (by decide)) (by rw [upd_other (by decide)] at h4; exact h4)), (fun h => f1 (upd_ne h (by decide))), (fun _ => rfl), (fun h => f3 (upd_ne h (by decide))), (fun h h7 => f4 (upd_ne h (by decide)) (by rw [upd_other (by decide)] at h7; exact h7)), (fun h => f5 (upd_ne h (by decide))), (fun h => by
                                  obtain ⟨g6, e1, e2⟩ := f6 (upd_ne h (by decide))
                                  exact ⟨g6, e1, fun h7 => ⟨(e2 (by rw [upd_other (by decide)] at h7; exact h7)).1, fun h0 h4 => (e2 (by rw [upd_other (by decide)] at h7; exact h7)).2.1 (upd_ne h0 (by decide)) (by rw [upd_other (by decide)] at h4; exact h4), fun h4 => (e2 (by rw [upd_other (by decide)] at h7; exact h7)).2.2 (upd_ne h4 (by decide))⟩⟩), (fun h h12 => f7 (upd_ne h (by decide)) (by rw [upd_other (by decide)] at h12; exact h12)), (fun h => f8 (upd_ne h (by decide))), (fun h => f9 (upd_ne h (by decide))), (fun h => f10 (upd_ne h (by decide))), (fun h => f11 (upd_ne h (by decide))), (fun h => f12 (upd_ne h (by decide))), (fun h => ⟨upd_mono (f13 (upd_ne h (by decide))).1, (f13 (upd_ne h (by decide))).2⟩)⟩
                            · obtain rfl := Option.some.inj ho
                              have g1 := f1 (hd ⟨1, .data⟩ (by simp) rfl)
                              have g2 := f2 (hd ⟨2, .data⟩ (by simp) rfl)
                              subst g1
                              subst g2
                              refine wpOp_step rfl (fun K' hK => ?_)
                              go_simp
                              refine hK _ _ ?_
                              exact ⟨_, _, _, _, _, _, _, _, _, _, _, _, _, _, rfl, (I0), (fun h => upd_mono (I1 (upd_ne h (by decide)))), (fun h => ⟨upd_mono (I2 (upd_ne h (by decide))).1, upd_mono (I2 (upd_ne h (by decide))).2⟩), (fun h => upd_mono (I3 (upd_ne h (by decide)))), (fun h => I4 (by rw [upd_other (by decide)] at h; exact h)), (upd_all I5 (by decide)), (fun h h4 => f0 (upd_ne h (by decide)) (by rw [upd_other (by decide)] at h4; exact h4)), (fun h => f1 (upd_ne h (by decide))), (fun h => f2 (upd_ne h (by decide))), (fun _ => rfl), (fun h h7 => f4 (upd_ne h (by decide)) (by rw [upd_other (by decide)] at h7; exact h7)), (fun h => f5 (upd_ne h (by decide))), (fun h => by
                                  obtain ⟨g6, e1, e2⟩ := f6 (upd_ne h (by decide))
                                  exact ⟨g6, e1, fun h7 => ⟨(e2 (by rw [upd_other (by decide)] at h7; exact h7)).1, fun h0 h4 => (e2 (by rw [upd_other (by decide)] at h7; exact h7)).2.1 (upd_ne h0 (by decide)) (by rw [upd_other (by decide)] at h4; exact h4), fun h4 => (e2 (by rw [upd_other (by decide)] at h7; exact h7)).2.2 (upd_ne h4 (by decide))⟩⟩), (fun h h12 => f7 (upd_ne h (by decide)) (by rw [upd_other (by decide)] at h12; exact h12)), (fun h => f8 (upd_ne h (by decide))), (fun h => f9 (upd_ne h (by decide))), (fun h => f10 (upd_ne h (by decide))), (fun h => f11 (upd_ne h (by decide))), (fun h => f12 (upd_ne h (by decide))), (fun h => ⟨upd_mono (f13 (upd_ne h (by decide))).1, (f13 (upd_ne h (by decide))).2⟩)⟩
                            · obtain rfl := Option.some.inj ho
                              have g0 := f0 (hd ⟨0, .data⟩ (by simp) rfl)
                              have g3 := f3 (hd ⟨3, .data⟩ (by simp) rfl)
                              subst g3
                              have h7 : L 7 = false := by
                                cases hh : L 7
                                · rfl
                                · exact absurd ((I2 hh).1.symm.trans hL) (by decide)
                              have h12 : L 12 = false := by
                                cases hh : L 12
                                · rfl
                                · exact absurd ((I3 hh).symm.trans h7) (by decide)
                              have O0 := g0 hL
                              have h0' := hd ⟨0, .data⟩ (by simp) rfl
                              refine wpOp_step rfl (fun K' hK => ?_)
                              refine app_stepY (.tmp 122) (.tmp 125) rfl W1.heap.size t122 [] rfl O0 (some ⟨g3, 0, none⟩) q (q + 2) W1.heap.size (out.take q) rfl ((HRO.out.below I0).take (by omega)) (by simp <;> omega) I0.size ?_
                              intro v' w' o1 g1 s1
                              refine hK _ _ ?_
                              exact ⟨_, _, _, _, _, _, _, _, _, _, _, _, _, _, rfl, (I0.grown g1 I0.size (fun k hk => (World.ownsRow.lt O0 k hk).1)), (fun _ => upd_mono h0'), (fun h => ⟨upd_mono (I2 (upd_ne h (by decide))).1, upd_mono (I2 (upd_ne h (by decide))).2⟩), (fun h => upd_mono (I3 (upd_ne h (by decide)))), (fun h => I4 (by rw [upd_other (by decide)] at h; exact h)), (upd_all I5 (by decide)), (fun _ h => absurd (upd_self.symm.trans h) (by decide)), (fun h => f1 (upd_ne h (by decide))), (fun h => f2 (upd_ne h (by decide))), (fun h => f3 (upd_ne h (by decide))), (fun _ _ => OwnY.cast (by simp) o1), (fun h => f5 (upd_ne h (by decide))), (fun h => by
                                  obtain ⟨g6, e1, e2⟩ := f6 (upd_ne h (by decide))
                                  have q6 := (World.ownsRow.lt (e2 h7).1 g6 rfl).2
                                  exact ⟨g6, e1, fun _ => ⟨OwnY.far (e2 h7).1 g1 (.inr (fun e => (e2 h7).2.1 h0' hL e.symm)), fun _ h4 => absurd (upd_self.symm.trans h4) (by decide), fun _ e => by
                                    rcases s1 with s1 | s1
                                    · exact (e2 h7).2.1 h0' hL (s1.symm.trans e)
                                    · rw [s1] at e
                                      injection e with e
                                      omega⟩⟩), (fun h => absurd ((upd_ne h (by decide)).symm.trans h7) (by decide)), (fun h => f8 (upd_ne h (by decide))), (fun h => f9 (upd_ne h (by decide))), (fun h => f10 (upd_ne h (by decide))), (fun h => f11 (upd_ne h (by decide))), (fun h => absurd ((upd_ne h (by decide)).symm.trans h12) (by decide)), (fun h => ⟨upd_mono (f13 (upd_ne h (by decide))).1, (f13 (upd_ne h (by decide))).2⟩)⟩
                            · obtain rfl := Option.some.inj ho
                              obtain ⟨n0, n1, n2⟩ := HC1.out ww I0
                              refine wpOp_step rfl (fun K' hK => ?_)
                              go_simp
                              refine hK _ _ ?_
                              exact ⟨_, _, _, _, _, _, _, _, _, _, _, _, _, _, rfl, (I0), (fun h => upd_mono (I1 (upd_ne h (by decide)))), (fun h => ⟨upd_mono (I2 (upd_ne h (by decide))).1, upd_mono (I2 (upd_ne h (by decide))).2⟩), (fun h => upd_mono (I3 (upd_ne h (by decide)))), (fun h => I4 (by rw [upd_other (by decide)] at h; exact h)), (upd_all I5 (by decide)), (fun h h4 => f0 (upd_ne h (by decide)) (by rw [upd_other (by decide)] at h4; exact h4)), (fun h => f1 (upd_ne h (by decide))), (fun h => f2 (upd_ne h (by decide))), (fun h => f3 (upd_ne h (by decide))), (fun h h7 => f4 (upd_ne h (by decide)) (by rw [upd_other (by decide)] at h7; exact h7)), (fun _ => rfl), (fun h => by
                                  obtain ⟨g6, e1, e2⟩ := f6 (upd_ne h (by decide))
                                  exact ⟨g6, e1, fun h7 => ⟨(e2 (by rw [upd_other (by decide)] at h7; exact h7)).1, fun h0 h4 => (e2 (by rw [upd_other (by decide)] at h7; exact h7)).2.1 (upd_ne h0 (by decide)) (by rw [upd_other (by decide)] at h4; exact h4), fun h4 => (e2 (by rw [upd_other (by decide)] at h7; exact h7)).2.2 (upd_ne h4 (by decide))⟩⟩), (fun h h12 => f7 (upd_ne h (by decide)) (by rw [upd_other (by decide)] at h12; exact h12)), (fun h => f8 (upd_ne h (by decide))), (fun h => f9 (upd_ne h (by decide))), (fun h => f10 (upd_ne h (by decide))), (fun h => f11 (upd_ne h (by decide))), (fun h => f12 (upd_ne h (by decide))), (fun h => ⟨upd_mono (f13 (upd_ne h (by decide))).1, (f13 (upd_ne h (by decide))).2⟩)⟩
                            · obtain rfl := Option.some.inj ho
                              have g5 := f5 (hd ⟨5, .data⟩ (by simp) rfl)
                              subst g5
                              have h7 : L 7 = false := by
                                cases hh : L 7
                                · rfl
                                · exact absurd ((I2 hh).2.symm.trans hL) (by decide)
                              have h12 : L 12 = false := by
                                cases hh : L 12
                                · rfl
                                · exact absurd ((I3 hh).symm.trans h7) (by decide)
                              refine wpOp_step rfl (fun K' hK => ?_)
                              go_simp
                              refine hK _ _ ?_
                              exact ⟨_, _, _, _, _, _, _, _, _, _, _, _, _, _, rfl, (I0.alloc I0.size _), (fun h => upd_mono (I1 (upd_ne h (by decide)))), (fun h => ⟨upd_mono (I2 (upd_ne h (by decide))).1, upd_mono (I2 (upd_ne h (by decide))).2⟩), (fun h => upd_mono (I3 (upd_ne h (by decide)))), (fun h => I4 (by rw [upd_other (by decide)] at h; exact h)), (upd_all I5 (by decide)), (fun h h4 => World.ownsRow.alloc (f0 (upd_ne h (by decide)) (by rw [upd_other (by decide)] at h4; exact h4)) _), (fun h => f1 (upd_ne h (by decide))), (fun h => f2 (upd_ne h (by decide))), (fun h => f3 (upd_ne h (by decide))), (fun h h7' => World.ownsRow.alloc (f4 (upd_ne h (by decide)) h7) _), (fun h => f5 (upd_ne h (by decide))), (fun _ => ⟨ww.heap.size, rfl, fun _ => ⟨own_oneY ww sy ((jx : Int) + 1) false W1.heap.size I0.size, fun h0 h4 e => by
                                  have := (World.ownsRow.lt (f0 (upd_ne h0 (by decide)) (by rw [upd_other (by decide)] at h4; exact h4)) _ e).2
                                  omega, fun h4 e => by
                                  have := (World.ownsRow.lt (f4 (upd_ne h4 (by decide)) h7) _ e).2
                                  omega⟩⟩), (fun h => absurd ((upd_ne h (by decide)).symm.trans h7) (by decide)), (fun h => f8 (upd_ne h (by decide))), (fun h => f9 (upd_ne h (by decide))), (fun h => f10 (upd_ne h (by decide))), (fun h => f11 (upd_ne h (by decide))), (fun h => absurd ((upd_ne h (by decide)).symm.trans h12) (by decide)), (fun h => ⟨upd_mono (f13 (upd_ne h (by decide))).1, (f13 (upd_ne h (by decide))).2⟩)⟩
                            · obtain rfl := Option.some.inj ho
                              have g4' := f4 (hd ⟨4, .data⟩ (by simp) rfl)
                              have g6' := f6 (hd ⟨6, .data⟩ (by simp) rfl)
                              obtain ⟨g6, rfl, e6⟩ := g6'
                              have O4 := g4' hL
                              have O6 := (e6 hL).1
                              have h12 : L 12 = false := by
                                cases hh : L 12
                                · rfl
                                · exact absurd ((I3 hh).symm.trans hL) (by decide)
                              have h4' := hd ⟨4, .data⟩ (by simp) rfl
                              refine wpOp_step rfl (fun K' hK => ?_)
                              refine app_stepY (.tmp 126) (.tmp 128) rfl W1.heap.size t126 (out.take q) rfl O4 (some ⟨g6, 0, none⟩) 1 1 ww.heap.size [(⟨sy, (jx : Int) + 1, false⟩ : Bl)] rfl (O6.reads HAI.out) (by simp <;> omega) I0.size ?_
                              intro v' w' o1 g1 s1
                              refine hK _ _ ?_
                              exact ⟨_, _, _, _, _, _, _, _, _, _, _, _, _, _, rfl, (I0.grown g1 I0.size (fun k hk => (World.ownsRow.lt O4 k hk).1)), (fun h => upd_mono (I1 (upd_ne h (by decide)))), (fun _ => ⟨upd_mono h4', upd_mono (hd ⟨6, .data⟩ (by simp) rfl)⟩), (fun h => upd_mono (I3 (upd_ne h (by decide)))), (fun h => I4 (by rw [upd_other (by decide)] at h; exact h)), (upd_all I5 (by decide)), (fun h h4 => absurd ((upd_other (by decide)).symm.trans h4) (by rw [h4']; decide)), (fun h => f1 (upd_ne h (by decide))), (fun h => f2 (upd_ne h (by decide))), (fun h => f3 (upd_ne h (by decide))), (fun _ h => absurd (upd_self.symm.trans h) (by decide)), (fun h => f5 (upd_ne h (by decide))), (fun _ => ⟨g6, rfl, fun h => absurd (upd_self.symm.trans h) (by decide)⟩), (fun _ _ => o1), (fun h => f8 (upd_ne h (by decide))), (fun h => f9 (upd_ne h (by decide))), (fun h => f10 (upd_ne h (by decide))), (fun h => f11 (upd_ne h (by decide))), (fun h => absurd ((upd_ne h (by decide)).symm.trans h12) (by decide)), (fun h => ⟨upd_mono (f13 (upd_ne h (by decide))).1, (f13 (upd_ne h (by decide))).2⟩)⟩
                            · obtain rfl := Option.some.inj ho
                              have h13 : L 13 = false := by
                                cases hh : L 13
                                · rfl
                                · exact absurd ((I5 hh 8 (by omega)).symm.trans hL) (by decide)
                              have ht8 := I4 h13
                              subst ht8
                              refine wpOp_step rfl (fun K' hK => ?_)
                              go_simp
                              refine hK _ _ ?_
                              exact ⟨_, _, _, _, _, _, _, _, _, _, _, _, _, _, rfl, (I0), (fun h => upd_mono (I1 (upd_ne h (by decide)))), (fun h => ⟨upd_mono (I2 (upd_ne h (by decide))).1, upd_mono (I2 (upd_ne h (by decide))).2⟩), (fun h => upd_mono (I3 (upd_ne h (by decide)))), (fun _ => rfl), (upd_all I5 (by decide)), (fun h h4 => f0 (upd_ne h (by decide)) (by rw [upd_other (by decide)] at h4; exact h4)), (fun h => f1 (upd_ne h (by decide))), (fun h => f2 (upd_ne h (by decide))), (fun h => f3 (upd_ne h (by decide))), (fun h h7 => f4 (upd_ne h (by decide)) (by rw [upd_other (by decide)] at h7; exact h7)), (fun h => f5 (upd_ne h (by decide))), (fun h => by
                                  obtain ⟨g6, e1, e2⟩ := f6 (upd_ne h (by decide))
                                  exact ⟨g6, e1, fun h7 => ⟨(e2 (by rw [upd_other (by decide)] at h7; exact h7)).1, fun h0 h4 => (e2 (by rw [upd_other (by decide)] at h7; exact h7)).2.1 (upd_ne h0 (by decide)) (by rw [upd_other (by decide)] at h4; exact h4), fun h4 => (e2 (by rw [upd_other (by decide)] at h7; exact h7)).2.2 (upd_ne h4 (by decide))⟩⟩), (fun h h12 => f7 (upd_ne h (by decide)) (by rw [upd_other (by decide)] at h12; exact h12)), (fun _ => rfl), (fun h => f9 (upd_ne h (by decide))), (fun h => f10 (upd_ne h (by decide))), (fun h => f11 (upd_ne h (by decide))), (fun h => f12 (upd_ne h (by decide))), (fun h => ⟨upd_mono (f13 (upd_ne h (by decide))).1, (f13 (upd_ne h (by decide))).2⟩)⟩
                            · obtain rfl := Option.some.inj ho
                              refine wpOp_step rfl (fun K' hK => ?_)
                              go_simp
                              refine hK _ _ ?_
                              exact ⟨_, _, _, _, _, _, _, _, _, _, _, _, _, _, rfl, (I0), (fun h => upd_mono (I1 (upd_ne h (by decide)))), (fun h => ⟨upd_mono (I2 (upd_ne h (by decide))).1, upd_mono (I2 (upd_ne h (by decide))).2⟩), (fun h => upd_mono (I3 (upd_ne h (by decide)))), (fun h => I4 (by rw [upd_other (by decide)] at h; exact h)), (upd_all I5 (by decide)), (fun h h4 => f0 (upd_ne h (by decide)) (by rw [upd_other (by decide)] at h4; exact h4)), (fun h => f1 (upd_ne h (by decide))), (fun h => f2 (upd_ne h (by decide))), (fun h => f3 (upd_ne h (by decide))), (fun h h7 => f4 (upd_ne h (by decide)) (by rw [upd_other (by decide)] at h7; exact h7)), (fun h => f5 (upd_ne h (by decide))), (fun h => by
                                  obtain ⟨g6, e1, e2⟩ := f6 (upd_ne h (by decide))
                                  exact ⟨g6, e1, fun h7 => ⟨(e2 (by rw [upd_other (by decide)] at h7; exact h7)).1, fun h0 h4 => (e2 (by rw [upd_other (by decide)] at h7; exact h7)).2.1 (upd_ne h0 (by decide)) (by rw [upd_other (by decide)] at h4; exact h4), fun h4 => (e2 (by rw [upd_other (by decide)] at h7; exact h7)).2.2 (upd_ne h4 (by decide))⟩⟩), (fun h h12 => f7 (upd_ne h (by decide)) (by rw [upd_other (by decide)] at h12; exact h12)), (fun h => f8 (upd_ne h (by decide))), (fun _ => rfl), (fun h => f10 (upd_ne h (by decide))), (fun h => f11 (upd_ne h (by decide))), (fun h => f12 (upd_ne h (by decide))), (fun h => ⟨upd_mono (f13 (upd_ne h (by decide))).1, (f13 (upd_ne h (by decide))).2⟩)⟩
                            · obtain rfl := Option.some.inj ho
                              have g9 := f9 (hd ⟨9, .data⟩ (by simp) rfl)
                              subst g9
                              have hw : IntKind.i64.wrap ((q : Int) + 2) = (q : Int) + 2 := IntWalk.i64_in _ (by omega)
                              refine wpOp_step rfl (fun K' hK => ?_)
                              go_simp
                              refine hK _ _ ?_
                              clear hw
                              exact ⟨_, _, _, _, _, _, _, _, _, _, _, _, _, _, rfl, (I0), (fun h => upd_mono (I1 (upd_ne h (by decide)))), (fun h => ⟨upd_mono (I2 (upd_ne h (by decide))).1, upd_mono (I2 (upd_ne h (by decide))).2⟩), (fun h => upd_mono (I3 (upd_ne h (by decide)))), (fun h => I4 (by rw [upd_other (by decide)] at h; exact h)), (upd_all I5 (by decide)), (fun h h4 => f0 (upd_ne h (by decide)) (by rw [upd_other (by decide)] at h4; exact h4)), (fun h => f1 (upd_ne h (by decide))), (fun h => f2 (upd_ne h (by decide))), (fun h => f3 (upd_ne h (by decide))), (fun h h7 => f4 (upd_ne h (by decide)) (by rw [upd_other (by decide)] at h7; exact h7)), (fun h => f5 (upd_ne h (by decide))), (fun h => by
                                  obtain ⟨g6, e1, e2⟩ := f6 (upd_ne h (by decide))
                                  exact ⟨g6, e1, fun h7 => ⟨(e2 (by rw [upd_other (by decide)] at h7; exact h7)).1, fun h0 h4 => (e2 (by rw [upd_other (by decide)] at h7; exact h7)).2.1 (upd_ne h0 (by decide)) (by rw [upd_other (by decide)] at h4; exact h4), fun h4 => (e2 (by rw [upd_other (by decide)] at h7; exact h7)).2.2 (upd_ne h4 (by decide))⟩⟩), (fun h h12 => f7 (upd_ne h (by decide)) (by rw [upd_other (by decide)] at h12; exact h12)), (fun h => f8 (upd_ne h (by decide))), (fun h => f9 (upd_ne h (by decide))), (fun _ => rfl), (fun h => f11 (upd_ne h (by decide))), (fun h => f12 (upd_ne h (by decide))), (fun h => ⟨upd_mono (f13 (upd_ne h (by decide))).1, (f13 (upd_ne h (by decide))).2⟩)⟩
                            · obtain rfl := Option.some.inj ho
                              have g8 := f8 (hd ⟨8, .data⟩ (by simp) rfl)
                              have g10 := f10 (hd ⟨10, .data⟩ (by simp) rfl)
                              subst g8
                              subst g10
                              refine wpOp_step rfl (fun K' hK => ?_)
                              go_simp
                              refine hK _ _ ?_
                              exact ⟨_, _, _, _, _, _, _, _, _, _, _, _, _, _, rfl, (I0), (fun h => upd_mono (I1 (upd_ne h (by decide)))), (fun h => ⟨upd_mono (I2 (upd_ne h (by decide))).1, upd_mono (I2 (upd_ne h (by decide))).2⟩), (fun h => upd_mono (I3 (upd_ne h (by decide)))), (fun h => I4 (by rw [upd_other (by decide)] at h; exact h)), (upd_all I5 (by decide)), (fun h h4 => f0 (upd_ne h (by decide)) (by rw [upd_other (by decide)] at h4; exact h4)), (fun h => f1 (upd_ne h (by decide))), (fun h => f2 (upd_ne h (by decide))), (fun h => f3 (upd_ne h (by decide))), (fun h h7 => f4 (upd_ne h (by decide)) (by rw [upd_other (by decide)] at h7; exact h7)), (fun h => f5 (upd_ne h (by decide))), (fun h => by
                                  obtain ⟨g6, e1, e2⟩ := f6 (upd_ne h (by decide))
                                  exact ⟨g6, e1, fun h7 => ⟨(e2 (by rw [upd_other (by decide)] at h7; exact h7)).1, fun h0 h4 => (e2 (by rw [upd_other (by decide)] at h7; exact h7)).2.1 (upd_ne h0 (by decide)) (by rw [upd_other (by decide)] at h4; exact h4), fun h4 => (e2 (by rw [upd_other (by decide)] at h7; exact h7)).2.2 (upd_ne h4 (by decide))⟩⟩), (fun h h12 => f7 (upd_ne h (by decide)) (by rw [upd_other (by decide)] at h12; exact h12)), (fun h => f8 (upd_ne h (by decide))), (fun h => f9 (upd_ne h (by decide))), (fun h => f10 (upd_ne h (by decide))), (fun _ => rfl), (fun h => f12 (upd_ne h (by decide))), (fun h => ⟨upd_mono (f13 (upd_ne h (by decide))).1, (f13 (upd_ne h (by decide))).2⟩)⟩
                            · obtain rfl := Option.some.inj ho
                              have g7' := f7 (hd ⟨7, .data⟩ (by simp) rfl)
                              have g11 := f11 (hd ⟨11, .data⟩ (by simp) rfl)
                              subst g11
                              have O7 := g7' hL
                              have h7' := hd ⟨7, .data⟩ (by simp) rfl
                              refine wpOp_step rfl (fun K' hK => ?_)
                              refine app_stepY (.tmp 129) (.tmp 133) rfl W1.heap.size t129 ((out.take q) ++ [(⟨sy, (jx : Int) + 1, false⟩ : Bl)]) rfl O7 (some ⟨g3, 0, none⟩) 0 0 W1.heap.size ([]) rfl (HTL.out ww I0) (by simp <;> omega) I0.size ?_
                              intro v' w' o1 g1 s1
                              refine hK _ _ ?_
                              exact ⟨_, _, _, _, _, _, _, _, _, _, _, _, _, _, rfl, (I0.grown g1 I0.size (fun k hk => (World.ownsRow.lt O7 k hk).1)), (fun h => upd_mono (I1 (upd_ne h (by decide)))), (fun h => ⟨upd_mono (I2 (upd_ne h (by decide))).1, upd_mono (I2 (upd_ne h (by decide))).2⟩), (fun _ => upd_mono h7'), (fun h => I4 (by rw [upd_other (by decide)] at h; exact h)), (upd_all I5 (by decide)), (fun h h4 => absurd ((upd_other (by decide)).symm.trans h4) (by rw [(I2 h7').1]; decide)), (fun h => f1 (upd_ne h (by decide))), (fun h => f2 (upd_ne h (by decide))), (fun h => f3 (upd_ne h (by decide))), (fun h h7 => absurd ((upd_other (by decide)).symm.trans h7) (by rw [h7']; decide)), (fun h => f5 (upd_ne h (by decide))), (fun h => by
                                  obtain ⟨g6, e1, _⟩ := f6 (upd_ne h (by decide))
                                  exact ⟨g6, e1, fun h7 => absurd ((upd_other (by decide)).symm.trans h7) (by rw [h7']; decide)⟩), (fun _ h => absurd (upd_self.symm.trans h) (by decide)), (fun h => f8 (upd_ne h (by decide))), (fun h => f9 (upd_ne h (by decide))), (fun h => f10 (upd_ne h (by decide))), (fun h => f11 (upd_ne h (by decide))), (fun _ => o1), (fun h => absurd ((f13 (upd_ne h (by decide))).1.symm.trans hL) (by decide))⟩
                            · obtain rfl := Option.some.inj ho
                              have g12 := f12 (hd ⟨12, .data⟩ (by simp) rfl)
                              have hphase := Lib.hid (show ∀ k, k < 13 → L k = true by
                                intro k hk
                                obtain rfl | rfl | rfl | rfl | rfl | rfl | rfl | rfl | rfl | rfl | rfl | rfl | rfl : k = 0 ∨ k = 1 ∨ k = 2 ∨ k = 3 ∨ k = 4 ∨ k = 5 ∨ k = 6 ∨ k = 7 ∨ k = 8 ∨ k = 9 ∨ k = 10 ∨ k = 11 ∨ k = 12 := by omega
                                · exact hd ⟨0, .phase⟩ (by simp) rfl
                                · exact hd ⟨1, .phase⟩ (by simp) rfl
                                · exact hd ⟨2, .phase⟩ (by simp) rfl
                                · exact hd ⟨3, .phase⟩ (by simp) rfl
                                · exact hd ⟨4, .phase⟩ (by simp) rfl
                                · exact hd ⟨5, .phase⟩ (by simp) rfl
                                · exact hd ⟨6, .phase⟩ (by simp) rfl
                                · exact hd ⟨7, .phase⟩ (by simp) rfl
                                · exact hd ⟨8, .phase⟩ (by simp) rfl
                                · exact hd ⟨9, .phase⟩ (by simp) rfl
                                · exact hd ⟨10, .phase⟩ (by simp) rfl
                                · exact hd ⟨11, .phase⟩ (by simp) rfl
                                · exact hd ⟨12, .data⟩ (by simp) rfl)
                              refine wpOp_step rfl (fun K' hK => ?_)
                              go_simp
                              refine hK _ _ ?_
                              exact ⟨_, _, _, _, _, _, _, _, _, _, _, _, _, _, rfl, (I0), (fun h => upd_mono (I1 (upd_ne h (by decide)))), (fun h => ⟨upd_mono (I2 (upd_ne h (by decide))).1, upd_mono (I2 (upd_ne h (by decide))).2⟩), (fun h => upd_mono (I3 (upd_ne h (by decide)))), (fun h => absurd (upd_self.symm.trans h) (by decide)), (fun _ k hk => upd_mono (hphase.out k hk)), (fun h h4 => f0 (upd_ne h (by decide)) (by rw [upd_other (by decide)] at h4; exact h4)), (fun h => f1 (upd_ne h (by decide))), (fun h => f2 (upd_ne h (by decide))), (fun h => f3 (upd_ne h (by decide))), (fun h h7 => f4 (upd_ne h (by decide)) (by rw [upd_other (by decide)] at h7; exact h7)), (fun h => f5 (upd_ne h (by decide))), (fun h => by
                                  obtain ⟨g6, e1, e2⟩ := f6 (upd_ne h (by decide))
                                  exact ⟨g6, e1, fun h7 => ⟨(e2 (by rw [upd_other (by decide)] at h7; exact h7)).1, fun h0 h4 => (e2 (by rw [upd_other (by decide)] at h7; exact h7)).2.1 (upd_ne h0 (by decide)) (by rw [upd_other (by decide)] at h4; exact h4), fun h4 => (e2 (by rw [upd_other (by decide)] at h7; exact h7)).2.2 (upd_ne h4 (by decide))⟩⟩), (fun h h12 => f7 (upd_ne h (by decide)) (by rw [upd_other (by decide)] at h12; exact h12)), (fun h => f8 (upd_ne h (by decide))), (fun h => f9 (upd_ne h (by decide))), (fun h => f10 (upd_ne h (by decide))), (fun h => f11 (upd_ne h (by decide))), (fun h => f12 (upd_ne h (by decide))), (fun _ => ⟨upd_mono (hd ⟨12, .data⟩ (by simp) rfl), rfl⟩)⟩
                          case hdone =>
                            rintro L ac ww hall ⟨t8, t122, t123, t124, t125, t126, t127, t128, t129, t130, t131, t132, t133, t134, rfl, I0, I1, I2, I3, I4, I5, f0, f1, f2, f3, f4, f5, f6, f7, f8, f9, f10, f11, f12, f13⟩
                            have e0 := f0 (hall 0 (by decide))
                            have e1 := f1 (hall 1 (by decide))
                            have e2 := f2 (hall 2 (by decide))
                            have e3 := f3 (hall 3 (by decide))
                            have e4 := f4 (hall 4 (by decide))
                            have e5 := f5 (hall 5 (by decide))
                            have e6 := f6 (hall 6 (by decide))
                            have e7 := f7 (hall 7 (by decide))
                            have e8 := f8 (hall 8 (by decide))
                            have e9 := f9 (hall 9 (by decide))
                            have e10 := f10 (hall 10 (by decide))
                            have e11 := f11 (hall 11 (by decide))
                            have e12 := f12 (hall 12 (by decide))
                            have e13 := f13 (hall 13 (by decide))
                            clear f0 f1 f2 f3 f4 f5 f6 f7 f8 f9 f10 f11 f12 f13
                            clear v5 v6
                            obtain ⟨_, rfl⟩ := e13
                            obtain ⟨A8, c8, ev8, _⟩ := e12.form
                            obtain ⟨g6, e6x, _⟩ := e6
                            subst e1 e2 e3 e5 e8 e9 e10 e11 e6x
                            clear e0 e4 e7 I1 I2 I3 I4 I5
                            have hJ := Bud.join_facts HOKL2.out HXG.out (by rw [HN.out]; omega) (by simp only; omega)
                            have OW : OwnY ww w.heap.size t8 (Bud.joinAt out q) := (OwnY.cast (by rw [hJ.2.1]; rw [HD.out]) e12).base bW1.size
                            have HLP := Lib.hid (show Bud.giveY xs P a = Bud.loopG P (P - (jx + 1)) (Bud.joinAt out q) q by rw [hgv2.out, show P - jx = (P - (jx + 1)) + 1 by omega, Bud.loop_some HST.out])
                            have hjl : (Bud.joinAt out q).length = (q + 2) - 1 := by rw [hJ.2.2.1, HN.out]
                            have hsl : sliceLen t8 = (q + 2) - 1 := by
                              rw [ev8]
                              show (out.take q ++ [(⟨sy, (jx : Int) + 1, false⟩ : Bl)] ++ []).length = _
                              rw [← hjl, hJ.2.1]; rw [HD.out]
                            have HJJ := Lib.hid hJ
                            clear hJ ev8 e12
                            go_wp2
                            go_roundw
                            case rel => exact ⟨Bud.joinAt out q, q, _, OW, rfl, HJJ.out.2.2.2, HJJ.out.1, by omega, rfl, by
                              have e : (((jx : Int) + 1)).toNat = jx + 1 := by omega
                              show Hid (Bud.giveY xs P a = Bud.loopG P (P - ((jx : Int) + 1).toNat) (Bud.joinAt out q) q)
                              rw [e]
                              exact HLP, bW1.trans (I0.mono bW1.size)⟩
                            case measure => first | (rw [hsl]; show _ < (q + 2); omega) | (simp only [hsl, sliceLen]; omega)

                        · have v3 : (q : Int) + 2 ≤ N := by omega
                          have v4 : (q : Int) + 2 ≤ c3 := by omega
                          have HTL := Lib.hid (fun W' (e2 : Below W1.heap.size W1 W') => (by have := (HRO.out.below e2).drop (k := q + 2) (by omega); rw [Nat.zero_add] at this; exact this : BS W' W1.heap.size (some ⟨g3, (q + 2) * 3, none⟩) (N - (q + 2)) (out.drop (q + 2))))
                          refine wp_region_inv (by kernel_rfl) (by kernel_rfl) (fun L ac ww => ∃ t8 t122 t123 t124 t125 t126 t127 t128 t129 t130 t131 t132 t133 t134 : Value, ac = { tmps := #[Value.slice A n c, Value.int IntKind.i64 ↑P, Value.int IntKind.i64 a, undef, undef, undef, Value.slice none 0 0, Value.bool false, t8, Value.int IntKind.i64 ↑q, Value.int IntKind.i64 ↑k, Value.int IntKind.i64 mv, Value.int IntKind.i64 ↑q, Value.pointer (some ⟨W0.heap.size, 0, none⟩), Value.slice A n c, Value.int IntKind.i64 ↑P, Value.bool true, Value.bool false, undef, Value.slice (some ⟨w1.heap.size, 0, none⟩) 0 0, Value.slice A n c, Value.slice (some ⟨gv, 0, none⟩) n c2, Value.int IntKind.i64 ↑k, Value.slice (some ⟨gv, 0, none⟩) n c2, Value.int IntKind.i64 ↑n, Value.bool false, u26, u27, u28, u29, u30, u31, u32, u33, u34, u35, u36, u37, u38, u39, u40, u41, u42, Value.int IntKind.i64 ↑b, Value.bool false, undef, Value.slice (some ⟨gv, 0, none⟩) n c2, Value.int IntKind.i64 ↑b, Value.pointer (some ⟨gv, b * 3, none⟩), Value.pointer (some ⟨gv, b * 3 + 2, none⟩), Value.slice (some ⟨g3, 0, none⟩) N c3, Value.int IntKind.i64 ↑q, Value.pointer (some ⟨g3, q * 3, none⟩), Value.pointer (some ⟨g3, q * 3 + 1, none⟩), Value.int IntKind.i64 ↑jx, Value.int IntKind.i64 ↑P, Value.bool true, Value.slice (some ⟨g3, 0, none⟩) N c3, Value.int IntKind.i64 ↑q, Value.pointer (some ⟨g3, q * 3, none⟩), Value.agg #[Value.int IntKind.i64 ↑sy, Value.int IntKind.i64 ↑jx, Value.bool false], Value.int IntKind.i64 mv, Value.int IntKind.i64 ↑q, Value.int IntKind.i64 mv, Value.slice (some ⟨g3, 0, none⟩) N c3, Value.int IntKind.i64 ↑q, Value.pointer (some ⟨g3, q * 3, none⟩), Value.pointer (some ⟨g3, q * 3, none⟩), Value.int IntKind.i64 ↑sy, Value.bool (decide (mv < ↑sy)), u70, u71, Value.int IntKind.i64 ↑q, Value.bool false, Value.bool false, Value.int IntKind.i64 ↑q, Value.int IntKind.i64 (↑q + 1), Value.slice (some ⟨g3, 0, none⟩) N c3, Value.int IntKind.i64 ↑N, Value.bool false, Value.bool false, Value.bool false, Value.slice (some ⟨g3, 0, none⟩) N c3, Value.int IntKind.i64 ↑q, Value.pointer (some ⟨g3, q * 3, none⟩), Value.pointer (some ⟨g3, q * 3 + 2, none⟩), Value.bool false, Value.bool false, Value.bool false, Value.slice (some ⟨g3, 0, none⟩) N c3, Value.int IntKind.i64 ↑q, Value.int IntKind.i64 (↑q + 1), Value.pointer (some ⟨g3, (q + 1) * 3, none⟩), Value.pointer (some ⟨g3, (q + 1) * 3 + 2, none⟩), Value.bool false, Value.bool false, Value.bool false, Value.slice (some ⟨g3, 0, none⟩) N c3, Value.int IntKind.i64 ↑q, Value.pointer (some ⟨g3, q * 3, none⟩), Value.pointer (some ⟨g3, q * 3 + 1, none⟩), Value.int IntKind.i64 ↑jx, Value.slice (some ⟨g3, 0, none⟩) N c3, Value.int IntKind.i64 ↑q, Value.int IntKind.i64 (↑q + 1), Value.pointer (some ⟨g3, (q + 1) * 3, none⟩), Value.pointer (some ⟨g3, (q + 1) * 3 + 1, none⟩), Value.int IntKind.i64 ↑jx, Value.bool false, Value.bool false, Value.slice (some ⟨g3, 0, none⟩) N c3, Value.int IntKind.i64 ↑q, Value.pointer (some ⟨g3, q * 3, none⟩), Value.pointer (some ⟨g3, q * 3, none⟩), Value.int IntKind.i64 ↑sy, Value.slice (some ⟨g3, 0, none⟩) N c3, Value.int IntKind.i64 ↑q, Value.pointer (some ⟨g3, q * 3, none⟩), Value.pointer (some ⟨g3, q * 3 + 1, none⟩), Value.int IntKind.i64 ↑jx, Value.int IntKind.i64 (↑jx + 1), Value.agg #[Value.int IntKind.i64 ↑sy, Value.int IntKind.i64 (↑jx + 1), Value.bool false], t122, t123, t124, t125, t126, t127, t128, t129, t130, t131, t132, t133, t134, u135, undef], defers := [] } ∧ (Below W1.heap.size W1 ww) ∧ (L 4 = true → L 0 = true) ∧ (L 7 = true → L 4 = true ∧ L 6 = true) ∧ (L 12 = true → L 7 = true) ∧ (L 13 = false → t8 = .slice (some ⟨g3, 0, none⟩) N c3) ∧ (L 13 = true → ∀ i, i < 13 → L i = true) ∧ (L 0 = true → L 4 = false → OwnY ww W1.heap.size t122 []) ∧ (L 1 = true → t123 = .slice (some ⟨g3, 0, none⟩) N c3) ∧ (L 2 = true → t124 = .int .i64 q) ∧ (L 3 = true → t125 = .slice (some ⟨g3, 0, none⟩) q c3) ∧ (L 4 = true → L 7 = false → OwnY ww W1.heap.size t126 (out.take q)) ∧ (L 5 = true → t127 = .agg #[.int .i64 sy, .int .i64 ((jx : Int) + 1), .bool false]) ∧ (L 6 = true → ∃ g6, t128 = .slice (some ⟨g6, 0, none⟩) 1 1 ∧ (L 7 = false → OwnY ww W1.heap.size (.slice (some ⟨g6, 0, none⟩) 1 1) [(⟨sy, (jx : Int) + 1, false⟩ : Bl)] ∧ (L 0 = true → L 4 = false → t122.ownBlock ≠ some g6) ∧ (L 4 = true → t126.ownBlock ≠ some g6))) ∧ (L 7 = true → L 12 = false → OwnY ww W1.heap.size t129 ((out.take q) ++ [(⟨sy, (jx : Int) + 1, false⟩ : Bl)])) ∧ (L 8 = true → t130 = .slice (some ⟨g3, 0, none⟩) N c3) ∧ (L 9 = true → t131 = .int .i64 q) ∧ (L 10 = true → t132 = .int .i64 ((q : Int) + 2)) ∧ (L 11 = true → t133 = .slice (some ⟨g3, (q + 2) * 3, none⟩) (N - (q + 2)) (c3 - (q + 2))) ∧ (L 12 = true → OwnY ww W1.heap.size t134 ((out.take q) ++ [(⟨sy, (jx : Int) + 1, false⟩ : Bl)] ++ out.drop (q + 2))) ∧ (L 13 = true → L 12 = true ∧ t8 = t134)) ?h0 ?hstep ?hdone
                          case h0 => exact ⟨_, _, _, _, _, _, _, _, _, _, _, _, _, _, rfl, h1W, (fun h => absurd h Bool.false_ne_true), (fun h => absurd h Bool.false_ne_true), (fun h => absurd h Bool.false_ne_true), fun _ => rfl, (fun h => absurd h Bool.false_ne_true), (fun h => absurd h Bool.false_ne_true), (fun h => absurd h Bool.false_ne_true), (fun h => absurd h Bool.false_ne_true), (fun h => absurd h Bool.false_ne_true), (fun h => absurd h Bool.false_ne_true), (fun h => absurd h Bool.false_ne_true), (fun h => absurd h Bool.false_ne_true), (fun h => absurd h Bool.false_ne_true), (fun h => absurd h Bool.false_ne_true), (fun h => absurd h Bool.false_ne_true), (fun h => absurd h Bool.false_ne_true), (fun h => absurd h Bool.false_ne_true), (fun h => absurd h Bool.false_ne_true), (fun h => absurd h Bool.false_ne_true)⟩
                          case hstep =>
                            rintro L ac ww i o ho hL hd ⟨t8, t122, t123, t124, t125, t126, t127, t128, t129, t130, t131, t132, t133, t134, rfl, I0, I1, I2, I3, I4, I5, f0, f1, f2, f3, f4, f5, f6, f7, f8, f9, f10, f11, f12, f13⟩
                            have hi : i < 14 := (Array.getElem?_eq_some_iff.1 ho).1
                            obtain rfl | rfl | rfl | rfl | rfl | rfl | rfl | rfl | rfl | rfl | rfl | rfl | rfl | rfl : i = 0 ∨ i = 1 ∨ i = 2 ∨ i = 3 ∨ i = 4 ∨ i = 5 ∨ i = 6 ∨ i = 7 ∨ i = 8 ∨ i = 9 ∨ i = 10 ∨ i = 11 ∨ i = 12 ∨ i = 13 := by omega
                            · obtain rfl := Option.some.inj ho
                              have h4 : L 4 = false := by
                                cases hh : L 4
                                · rfl
                                · exact absurd ((I1 hh).symm.trans hL) (by decide)
                              have h7 : L 7 = false := by
                                cases hh : L 7
                                · rfl
                                · exact absurd ((I2 hh).1.symm.trans h4) (by decide)
                              have h12 : L 12 = false := by
                                cases hh : L 12
                                · rfl
                                · exact absurd ((I3 hh).symm.trans h7) (by decide)
                              refine wpOp_step rfl (fun K' hK => ?_)
                              go_simp
                              refine hK _ _ ?_
                              exact ⟨_, _, _, _, _, _, _, _, _, _, _, _, _, _, rfl, (I0.alloc I0.size _), (fun _ => upd_self), (fun h => ⟨upd_mono (I2 (upd_ne h (by decide))).1, upd_mono (I2 (upd_ne h (by decide))).2⟩), (fun h => upd_mono (I3 (upd_ne h (by decide)))), (fun h => I4 (by rw [upd_other (by decide)] at h; exact h)), (upd_all I5 (by decide)), (fun _ _ => own_noneY ww _ I0.size), (fun h => f1 (upd_ne h (by decide))), (fun h => f2 (upd_ne h (by decide))), (fun h => f3 (upd_ne h (by decide))), (fun h => absurd ((upd_ne h (by decide)).symm.trans h4) (by decide)), (fun h => f5 (upd_ne h (by decide))), (fun h => by
                                  obtain ⟨g6, e1, e2⟩ := f6 (upd_ne h (by decide))
                                  have q6 := (World.ownsRow.lt (e2 h7).1 g6 rfl).2
                                  exact ⟨g6, e1, fun _ => ⟨World.ownsRow.alloc (e2 h7).1 _, fun _ _ e => by
                                    have e' : some ww.heap.size = some g6 := e
                                    injection e' with e'
                                    omega, fun h4' => (e2 h7).2.2 (upd_ne h4' (by decide))⟩⟩), (fun h => absurd ((upd_ne h (by decide)).symm.trans h7) (by decide)), (fun h => f8 (upd_ne h (by decide))), (fun h => f9 (upd_ne h (by decide))), (fun h => f10 (upd_ne h (by decide))), (fun h => f11 (upd_ne h (by decide))), (fun h => absurd ((upd_ne h (by decide)).symm.trans h12) (by decide)), (fun h => ⟨upd_mono (f13 (upd_ne h (by decide))).1, (f13 (upd_ne h (by decide))).2⟩)⟩
                            · obtain rfl := Option.some.inj ho
                              have h13 : L 13 = false := by
                                cases hh : L 13
                                · rfl
                                · exact absurd ((I5 hh 1 (by omega)).symm.trans hL) (by decide)
                              have ht8 := I4 h13
                              subst ht8
                              refine wpOp_step rfl (fun K' hK => ?_)
                              go_simp
                              refine hK _ _ ?_
                              exact ⟨_, _, _, _, _, _, _, _, _, _, _, _, _, _, rfl, (I0), (fun h => upd_mono (I1 (upd_ne h (by decide)))), (fun h => ⟨upd_mono (I2 (upd_ne h (by decide))).1, upd_mono (I2 (upd_ne h (by decide))).2⟩), (fun h => upd_mono (I3 (upd_ne h (by decide)))), (fun _ => rfl), (upd_all I5 (by decide)), (fun h h4 => f0 (upd_ne h (by decide)) (by rw [upd_other (by decide)] at h4; exact h4)), (fun _ => rfl), (fun h => f2 (upd_ne h (by decide))), (fun h => f3 (upd_ne h (by decide))), (fun h h7 => f4 (upd_ne h (by decide)) (by rw [upd_other (by decide)] at h7; exact h7)), (fun h => f5 (upd_ne h (by decide))), (fun h => by
                                  obtain ⟨g6, e1, e2⟩ := f6 (upd_ne h (by decide))
                                  exact ⟨g6, e1, fun h7 => ⟨(e2 (by rw [upd_other (by decide)] at h7; exact h7)).1, fun h0 h4 => (e2 (by rw [upd_other (by decide)] at h7; exact h7)).2.1 (upd_ne h0 (by decide)) (by rw [upd_other (by decide)] at h4; exact h4), fun h4 => (e2 (by rw [upd_other (by decide)] at h7; exact h7)).2.2 (upd_ne h4 (by decide))⟩⟩), (fun h h12 => f7 (upd_ne h (by decide)) (by rw [upd_other (by decide)] at h12; exact h12)), (fun h => f8 (upd_ne h (by decide))), (fun h => f9 (upd_ne h (by decide))), (fun h => f10 (upd_ne h (by decide))), (fun h => f11 (upd_ne h (by decide))), (fun h => f12 (upd_ne h (by decide))), (fun h => ⟨upd_mono (f13 (upd_ne h (by decide))).1, (f13 (upd_ne h (by decide))).2⟩)⟩
                            · obtain rfl := Option.some.inj ho
                              refine wpOp_step rfl (fun K' hK => ?_)
                              go_simp
                              refine hK _ _ ?_
                              exact ⟨_, _, _, _, _, _, _, _, _, _, _, _, _, _, rfl, (I0), (fun h => upd_mono (I1 (upd_ne h (by decide)))), (fun h => ⟨upd_mono (I2 (upd_ne h (by decide))).1, upd_mono (I2 (upd_ne h (by decide))).2⟩), (fun h => upd_mono (I3 (upd_ne h (by decide)))), (fun h => I4 (by rw [upd_other (by decide)] at h; exact h)), (upd_all I5 (by decide)), (fun h h4 => f0 (upd_ne h (by decide)) (by rw [upd_other (by decide)] at h4; exact h4)), (fun h => f1 (upd_ne h (by decide))), (fun _ => rfl), (fun h => f3 (upd_ne h (by decide))), (fun h h7 => f4 (upd_ne h (by decide)) (by rw [upd_other (by decide)] at h7; exact h7)), (fun h => f5 (upd_ne h (by decide))), (fun h => by
                                  obtain ⟨g6, e1, e2⟩ := f6 (upd_ne h (by decide))
                                  exact ⟨g6, e1, fun h7 => ⟨(e2 (by rw [upd_other (by decide)] at h7; exact h7)).1, fun h0 h4 => (e2 (by rw [upd_other (by decide)] at h7; exact h7)).2.1 (upd_ne h0 (by decide)) (by rw [upd_other (by decide)] at h4; exact h4), fun h4 => (e2 (by rw [upd_other (by decide)] at h7; exact h7)).2.2 (upd_ne h4 (by decide))⟩⟩), (fun h h12 => f7 (upd_ne h (by decide)) (by rw [upd_other (by decide)] at h12; exact h12)), (fun h => f8 (upd_ne h (by decide))), (fun h => f9 (upd_ne h (by decide))), (fun h => f10 (upd_ne h (by decide))), (fun h => f11 (upd_ne h (by decide))), (fun h => f12 (upd_ne h (by decide))), (fun h => ⟨upd_mono (f13 (upd_ne h (by decide))).1, (f13 (upd_ne h (by decide))).2⟩)⟩
                            · obtain rfl := Option.some.inj ho
                              have g1 := f1 (hd ⟨1, .data⟩ (by simp) rfl)
                              have g2 := f2 (hd ⟨2, .data⟩ (by simp) rfl)
                              subst g1
                              subst g2
                              refine wpOp_step rfl (fun K' hK => ?_)
                              go_simp
                              refine hK _ _ ?_
                              exact ⟨_, _, _, _, _, _, _, _, _, _, _, _, _, _, rfl, (I0), (fun h => upd_mono (I1 (upd_ne h (by decide)))), (fun h => ⟨upd_mono (I2 (upd_ne h (by decide))).1, upd_mono (I2 (upd_ne h (by decide))).2⟩), (fun h => upd_mono (I3 (upd_ne h (by decide)))), (fun h => I4 (by rw [upd_other (by decide)] at h; exact h)), (upd_all I5 (by decide)), (fun h h4 => f0 (upd_ne h (by decide)) (by rw [upd_other (by decide)] at h4; exact h4)), (fun h => f1 (upd_ne h (by decide))), (fun h => f2 (upd_ne h (by decide))), (fun _ => rfl), (fun h h7 => f4 (upd_ne h (by decide)) (by rw [upd_other (by decide)] at h7; exact h7)), (fun h => f5 (upd_ne h (by decide))), (fun h => by
                                  obtain ⟨g6, e1, e2⟩ := f6 (upd_ne h (by decide))
                                  exact ⟨g6, e1, fun h7 => ⟨(e2 (by rw [upd_other (by decide)] at h7; exact h7)).1, fun h0 h4 => (e2 (by rw [upd_other (by decide)] at h7; exact h7)).2.1 (upd_ne h0 (by decide)) (by rw [upd_other (by decide)] at h4; exact h4), fun h4 => (e2 (by rw [upd_other (by decide)] at h7; exact h7)).2.2 (upd_ne h4 (by decide))⟩⟩), (fun h h12 => f7 (upd_ne h (by decide)) (by rw [upd_other (by decide)] at h12; exact h12)), (fun h => f8 (upd_ne h (by decide))), (fun h => f9 (upd_ne h (by decide))), (fun h => f10 (upd_ne h (by decide))), (fun h => f11 (upd_ne h (by decide))), (fun h => f12 (upd_ne h (by decide))), (fun h => ⟨upd_mono (f13 (upd_ne h (by decide))).1, (f13 (upd_ne h (by decide))).2⟩)⟩
                            · obtain rfl := Option.some.inj ho
                              have g0 := f0 (hd ⟨0, .data⟩ (by simp) rfl)
                              have g3 := f3 (hd ⟨3, .data⟩ (by simp) rfl)
                              subst g3
                              have h7 : L 7 = false := by
                                cases hh : L 7
                                · rfl
                                · exact absurd ((I2 hh).1.symm.trans hL) (by decide)
                              have h12 : L 12 = false := by
                                cases hh : L 12
                                · rfl
                                · exact absurd ((I3 hh).symm.trans h7) (by decide)
                              have O0 := g0 hL
                              have h0' := hd ⟨0, .data⟩ (by simp) rfl
                              refine wpOp_step rfl (fun K' hK => ?_)
                              refine app_stepY (.tmp 122) (.tmp 125) rfl W1.heap.size t122 [] rfl O0 (some ⟨g3, 0, none⟩) q c3 W1.heap.size (out.take q) rfl ((HRO.out.below I0).take (by omega)) (by simp <;> omega) I0.size ?_
                              intro v' w' o1 g1 s1
                              refine hK _ _ ?_
                              exact ⟨_, _, _, _, _, _, _, _, _, _, _, _, _, _, rfl, (I0.grown g1 I0.size (fun k hk => (World.ownsRow.lt O0 k hk).1)), (fun _ => upd_mono h0'), (fun h => ⟨upd_mono (I2 (upd_ne h (by decide))).1, upd_mono (I2 (upd_ne h (by decide))).2⟩), (fun h => upd_mono (I3 (upd_ne h (by decide)))), (fun h => I4 (by rw [upd_other (by decide)] at h; exact h)), (upd_all I5 (by decide)), (fun _ h => absurd (upd_self.symm.trans h) (by decide)), (fun h => f1 (upd_ne h (by decide))), (fun h => f2 (upd_ne h (by decide))), (fun h => f3 (upd_ne h (by decide))), (fun _ _ => OwnY.cast (by simp) o1), (fun h => f5 (upd_ne h (by decide))), (fun h => by
                                  obtain ⟨g6, e1, e2⟩ := f6 (upd_ne h (by decide))
                                  have q6 := (World.ownsRow.lt (e2 h7).1 g6 rfl).2
                                  exact ⟨g6, e1, fun _ => ⟨OwnY.far (e2 h7).1 g1 (.inr (fun e => (e2 h7).2.1 h0' hL e.symm)), fun _ h4 => absurd (upd_self.symm.trans h4) (by decide), fun _ e => by
                                    rcases s1 with s1 | s1
                                    · exact (e2 h7).2.1 h0' hL (s1.symm.trans e)
                                    · rw [s1] at e
                                      injection e with e
                                      omega⟩⟩), (fun h => absurd ((upd_ne h (by decide)).symm.trans h7) (by decide)), (fun h => f8 (upd_ne h (by decide))), (fun h => f9 (upd_ne h (by decide))), (fun h => f10 (upd_ne h (by decide))), (fun h => f11 (upd_ne h (by decide))), (fun h => absurd ((upd_ne h (by decide)).symm.trans h12) (by decide)), (fun h => ⟨upd_mono (f13 (upd_ne h (by decide))).1, (f13 (upd_ne h (by decide))).2⟩)⟩
                            · obtain rfl := Option.some.inj ho
                              obtain ⟨n0, n1, n2⟩ := HC1.out ww I0
                              refine wpOp_step rfl (fun K' hK => ?_)
                              go_simp
                              refine hK _ _ ?_
                              exact ⟨_, _, _, _, _, _, _, _, _, _, _, _, _, _, rfl, (I0), (fun h => upd_mono (I1 (upd_ne h (by decide)))), (fun h => ⟨upd_mono (I2 (upd_ne h (by decide))).1, upd_mono (I2 (upd_ne h (by decide))).2⟩), (fun h => upd_mono (I3 (upd_ne h (by decide)))), (fun h => I4 (by rw [upd_other (by decide)] at h; exact h)), (upd_all I5 (by decide)), (fun h h4 => f0 (upd_ne h (by decide)) (by rw [upd_other (by decide)] at h4; exact h4)), (fun h => f1 (upd_ne h (by decide))), (fun h => f2 (upd_ne h (by decide))), (fun h => f3 (upd_ne h (by decide))), (fun h h7 => f4 (upd_ne h (by decide)) (by rw [upd_other (by decide)] at h7; exact h7)), (fun _ => rfl), (fun h => by
                                  obtain ⟨g6, e1, e2⟩ := f6 (upd_ne h (by decide))
                                  exact ⟨g6, e1, fun h7 => ⟨(e2 (by rw [upd_other (by decide)] at h7; exact h7)).1, fun h0 h4 => (e2 (by rw [upd_other (by decide)] at h7; exact h7)).2.1 (upd_ne h0 (by decide)) (by rw [upd_other (by decide)] at h4; exact h4), fun h4 => (e2 (by rw [upd_other (by decide)] at h7; exact h7)).2.2 (upd_ne h4 (by decide))⟩⟩), (fun h h12 => f7 (upd_ne h (by decide)) (by rw [upd_other (by decide)] at h12; exact h12)), (fun h => f8 (upd_ne h (by decide))), (fun h => f9 (upd_ne h (by decide))), (fun h => f10 (upd_ne h (by decide))), (fun h => f11 (upd_ne h (by decide))), (fun h => f12 (upd_ne h (by decide))), (fun h => ⟨upd_mono (f13 (upd_ne h (by decide))).1, (f13 (upd_ne h (by decide))).2⟩)⟩
                            · obtain rfl := Option.some.inj ho
                              have g5 := f5 (hd ⟨5, .data⟩ (by simp) rfl)
                              subst g5
                              have h7 : L 7 = false := by
                                cases hh : L 7
                                · rfl
                                · exact absurd ((I2 hh).2.symm.trans hL) (by decide)
                              have h12 : L 12 = false := by
                                cases hh : L 12
                                · rfl
                                · exact absurd ((I3 hh).symm.trans h7) (by decide)
                              refine wpOp_step rfl (fun K' hK => ?_)
                              go_simp
                              refine hK _ _ ?_
                              exact ⟨_, _, _, _, _, _, _, _, _, _, _, _, _, _, rfl, (I0.alloc I0.size _), (fun h => upd_mono (I1 (upd_ne h (by decide)))), (fun h => ⟨upd_mono (I2 (upd_ne h (by decide))).1, upd_mono (I2 (upd_ne h (by decide))).2⟩), (fun h => upd_mono (I3 (upd_ne h (by decide)))), (fun h => I4 (by rw [upd_other (by decide)] at h; exact h)), (upd_all I5 (by decide)), (fun h h4 => World.ownsRow.alloc (f0 (upd_ne h (by decide)) (by rw [upd_other (by decide)] at h4; exact h4)) _), (fun h => f1 (upd_ne h (by decide))), (fun h => f2 (upd_ne h (by decide))), (fun h => f3 (upd_ne h (by decide))), (fun h h7' => World.ownsRow.alloc (f4 (upd_ne h (by decide)) h7) _), (fun h => f5 (upd_ne h (by decide))), (fun _ => ⟨ww.heap.size, rfl, fun _ => ⟨own_oneY ww sy ((jx : Int) + 1) false W1.heap.size I0.size, fun h0 h4 e => by
                                  have := (World.ownsRow.lt (f0 (upd_ne h0 (by decide)) (by rw [upd_other (by decide)] at h4; exact h4)) _ e).2
                                  omega, fun h4 e => by
                                  have := (World.ownsRow.lt (f4 (upd_ne h4 (by decide)) h7) _ e).2
                                  omega⟩⟩), (fun h => absurd ((upd_ne h (by decide)).symm.trans h7) (by decide)), (fun h => f8 (upd_ne h (by decide))), (fun h => f9 (upd_ne h (by decide))), (fun h => f10 (upd_ne h (by decide))), (fun h => f11 (upd_ne h (by decide))), (fun h => absurd ((upd_ne h (by decide)).symm.trans h12) (by decide)), (fun h => ⟨upd_mono (f13 (upd_ne h (by decide))).1, (f13 (upd_ne h (by decide))).2⟩)⟩
                            · obtain rfl := Option.some.inj ho
                              have g4' := f4 (hd ⟨4, .data⟩ (by simp) rfl)
                              have g6' := f6 (hd ⟨6, .data⟩ (by simp) rfl)
                              obtain ⟨g6, rfl, e6⟩ := g6'
                              have O4 := g4' hL
                              have O6 := (e6 hL).1
                              have h12 : L 12 = false := by
                                cases hh : L 12
                                · rfl
                                · exact absurd ((I3 hh).symm.trans hL) (by decide)
                              have h4' := hd ⟨4, .data⟩ (by simp) rfl
                              refine wpOp_step rfl (fun K' hK => ?_)
                              refine app_stepY (.tmp 126) (.tmp 128) rfl W1.heap.size t126 (out.take q) rfl O4 (some ⟨g6, 0, none⟩) 1 1 ww.heap.size [(⟨sy, (jx : Int) + 1, false⟩ : Bl)] rfl (O6.reads HAI.out) (by simp <;> omega) I0.size ?_
                              intro v' w' o1 g1 s1
                              refine hK _ _ ?_
                              exact ⟨_, _, _, _, _, _, _, _, _, _, _, _, _, _, rfl, (I0.grown g1 I0.size (fun k hk => (World.ownsRow.lt O4 k hk).1)), (fun h => upd_mono (I1 (upd_ne h (by decide)))), (fun _ => ⟨upd_mono h4', upd_mono (hd ⟨6, .data⟩ (by simp) rfl)⟩), (fun h => upd_mono (I3 (upd_ne h (by decide)))), (fun h => I4 (by rw [upd_other (by decide)] at h; exact h)), (upd_all I5 (by decide)), (fun h h4 => absurd ((upd_other (by decide)).symm.trans h4) (by rw [h4']; decide)), (fun h => f1 (upd_ne h (by decide))), (fun h => f2 (upd_ne h (by decide))), (fun h => f3 (upd_ne h (by decide))), (fun _ h => absurd (upd_self.symm.trans h) (by decide)), (fun h => f5 (upd_ne h (by decide))), (fun _ => ⟨g6, rfl, fun h => absurd (upd_self.symm.trans h) (by decide)⟩), (fun _ _ => o1), (fun h => f8 (upd_ne h (by decide))), (fun h => f9 (upd_ne h (by decide))), (fun h => f10 (upd_ne h (by decide))), (fun h => f11 (upd_ne h (by decide))), (fun h => absurd ((upd_ne h (by decide)).symm.trans h12) (by decide)), (fun h => ⟨upd_mono (f13 (upd_ne h (by decide))).1, (f13 (upd_ne h (by decide))).2⟩)⟩
                            · obtain rfl := Option.some.inj ho
                              have h13 : L 13 = false := by
                                cases hh : L 13
                                · rfl
                                · exact absurd ((I5 hh 8 (by omega)).symm.trans hL) (by decide)
                              have ht8 := I4 h13
                              subst ht8
                              refine wpOp_step rfl (fun K' hK => ?_)
                              go_simp
                              refine hK _ _ ?_
                              exact ⟨_, _, _, _, _, _, _, _, _, _, _, _, _, _, rfl, (I0), (fun h => upd_mono (I1 (upd_ne h (by decide)))), (fun h => ⟨upd_mono (I2 (upd_ne h (by decide))).1, upd_mono (I2 (upd_ne h (by decide))).2⟩), (fun h => upd_mono (I3 (upd_ne h (by decide)))), (fun _ => rfl), (upd_all I5 (by decide)), (fun h h4 => f0 (upd_ne h (by decide)) (by rw [upd_other (by decide)] at h4; exact h4)), (fun h => f1 (upd_ne h (by decide))), (fun h => f2 (upd_ne h (by decide))), (fun h => f3 (upd_ne h (by decide))), (fun h h7 => f4 (upd_ne h (by decide)) (by rw [upd_other (by decide)] at h7; exact h7)), (fun h => f5 (upd_ne h (by decide))), (fun h => by
                                  obtain ⟨g6, e1, e2⟩ := f6 (upd_ne h (by decide))
                                  exact ⟨g6, e1, fun h7 => ⟨(e2 (by rw [upd_other (by decide)] at h7; exact h7)).1, fun h0 h4 => (e2 (by rw [upd_other (by decide)] at h7; exact h7)).2.1 (upd_ne h0 (by decide)) (by rw [upd_other (by decide)] at h4; exact h4), fun h4 => (e2 (by rw [upd_other (by decide)] at h7; exact h7)).2.2 (upd_ne h4 (by decide))⟩⟩), (fun h h12 => f7 (upd_ne h (by decide)) (by rw [upd_other (by decide)] at h12; exact h12)), (fun _ => rfl), (fun h => f9 (upd_ne h (by decide))), (fun h => f10 (upd_ne h (by decide))), (fun h => f11 (upd_ne h (by decide))), (fun h => f12 (upd_ne h (by decide))), (fun h => ⟨upd_mono (f13 (upd_ne h (by decide))).1, (f13 (upd_ne h (by decide))).2⟩)⟩
                            · obtain rfl := Option.some.inj ho
                              refine wpOp_step rfl (fun K' hK => ?_)
                              go_simp
                              refine hK _ _ ?_
                              exact ⟨_, _, _, _, _, _, _, _, _, _, _, _, _, _, rfl, (I0), (fun h => upd_mono (I1 (upd_ne h (by decide)))), (fun h => ⟨upd_mono (I2 (upd_ne h (by decide))).1, upd_mono (I2 (upd_ne h (by decide))).2⟩), (fun h => upd_mono (I3 (upd_ne h (by decide)))), (fun h => I4 (by rw [upd_other (by decide)] at h; exact h)), (upd_all I5 (by decide)), (fun h h4 => f0 (upd_ne h (by decide)) (by rw [upd_other (by decide)] at h4; exact h4)), (fun h => f1 (upd_ne h (by decide))), (fun h => f2 (upd_ne h (by decide))), (fun h => f3 (upd_ne h (by decide))), (fun h h7 => f4 (upd_ne h (by decide)) (by rw [upd_other (by decide)] at h7; exact h7)), (fun h => f5 (upd_ne h (by decide))), (fun h => by
                                  obtain ⟨g6, e1, e2⟩ := f6 (upd_ne h (by decide))
                                  exact ⟨g6, e1, fun h7 => ⟨(e2 (by rw [upd_other (by decide)] at h7; exact h7)).1, fun h0 h4 => (e2 (by rw [upd_other (by decide)] at h7; exact h7)).2.1 (upd_ne h0 (by decide)) (by rw [upd_other (by decide)] at h4; exact h4), fun h4 => (e2 (by rw [upd_other (by decide)] at h7; exact h7)).2.2 (upd_ne h4 (by decide))⟩⟩), (fun h h12 => f7 (upd_ne h (by decide)) (by rw [upd_other (by decide)] at h12; exact h12)), (fun h => f8 (upd_ne h (by decide))), (fun _ => rfl), (fun h => f10 (upd_ne h (by decide))), (fun h => f11 (upd_ne h (by decide))), (fun h => f12 (upd_ne h (by decide))), (fun h => ⟨upd_mono (f13 (upd_ne h (by decide))).1, (f13 (upd_ne h (by decide))).2⟩)⟩
                            · obtain rfl := Option.some.inj ho
                              have g9 := f9 (hd ⟨9, .data⟩ (by simp) rfl)
                              subst g9
                              have hw : IntKind.i64.wrap ((q : Int) + 2) = (q : Int) + 2 := IntWalk.i64_in _ (by omega)
                              refine wpOp_step rfl (fun K' hK => ?_)
                              go_simp
                              refine hK _ _ ?_
                              clear hw
                              exact ⟨_, _, _, _, _, _, _, _, _, _, _, _, _, _, rfl, (I0), (fun h => upd_mono (I1 (upd_ne h (by decide)))), (fun h => ⟨upd_mono (I2 (upd_ne h (by decide))).1, upd_mono (I2 (upd_ne h (by decide))).2⟩), (fun h => upd_mono (I3 (upd_ne h (by decide)))), (fun h => I4 (by rw [upd_other (by decide)] at h; exact h)), (upd_all I5 (by decide)), (fun h h4 => f0 (upd_ne h (by decide)) (by rw [upd_other (by decide)] at h4; exact h4)), (fun h => f1 (upd_ne h (by decide))), (fun h => f2 (upd_ne h (by decide))), (fun h => f3 (upd_ne h (by decide))), (fun h h7 => f4 (upd_ne h (by decide)) (by rw [upd_other (by decide)] at h7; exact h7)), (fun h => f5 (upd_ne h (by decide))), (fun h => by
                                  obtain ⟨g6, e1, e2⟩ := f6 (upd_ne h (by decide))
                                  exact ⟨g6, e1, fun h7 => ⟨(e2 (by rw [upd_other (by decide)] at h7; exact h7)).1, fun h0 h4 => (e2 (by rw [upd_other (by decide)] at h7; exact h7)).2.1 (upd_ne h0 (by decide)) (by rw [upd_other (by decide)] at h4; exact h4), fun h4 => (e2 (by rw [upd_other (by decide)] at h7; exact h7)).2.2 (upd_ne h4 (by decide))⟩⟩), (fun h h12 => f7 (upd_ne h (by decide)) (by rw [upd_other (by decide)] at h12; exact h12)), (fun h => f8 (upd_ne h (by decide))), (fun h => f9 (upd_ne h (by decide))), (fun _ => rfl), (fun h => f11 (upd_ne h (by decide))), (fun h => f12 (upd_ne h (by decide))), (fun h => ⟨upd_mono (f13 (upd_ne h (by decide))).1, (f13 (upd_ne h (by decide))).2⟩)⟩
                            · obtain rfl := Option.some.inj ho
                              have g8 := f8 (hd ⟨8, .data⟩ (by simp) rfl)
                              have g10 := f10 (hd ⟨10, .data⟩ (by simp) rfl)
                              subst g8
                              subst g10
                              refine wpOp_step rfl (fun K' hK => ?_)
                              go_simp
                              refine hK _ _ ?_
                              exact ⟨_, _, _, _, _, _, _, _, _, _, _, _, _, _, rfl, (I0), (fun h => upd_mono (I1 (upd_ne h (by decide)))), (fun h => ⟨upd_mono (I2 (upd_ne h (by decide))).1, upd_mono (I2 (upd_ne h (by decide))).2⟩), (fun h => upd_mono (I3 (upd_ne h (by decide)))), (fun h => I4 (by rw [upd_other (by decide)] at h; exact h)), (upd_all I5 (by decide)), (fun h h4 => f0 (upd_ne h (by decide)) (by rw [upd_other (by decide)] at h4; exact h4)), (fun h => f1 (upd_ne h (by decide))), (fun h => f2 (upd_ne h (by decide))), (fun h => f3 (upd_ne h (by decide))), (fun h h7 => f4 (upd_ne h (by decide)) (by rw [upd_other (by decide)] at h7; exact h7)), (fun h => f5 (upd_ne h (by decide))), (fun h => by
                                  obtain ⟨g6, e1, e2⟩ := f6 (upd_ne h (by decide))
                                  exact ⟨g6, e1, fun h7 => ⟨(e2 (by rw [upd_other (by decide)] at h7; exact h7)).1, fun h0 h4 => (e2 (by rw [upd_other (by decide)] at h7; exact h7)).2.1 (upd_ne h0 (by decide)) (by rw [upd_other (by decide)] at h4; exact h4), fun h4 => (e2 (by rw [upd_other (by decide)] at h7; exact h7)).2.2 (upd_ne h4 (by decide))⟩⟩), (fun h h12 => f7 (upd_ne h (by decide)) (by rw [upd_other (by decide)] at h12; exact h12)), (fun h => f8 (upd_ne h (by decide))), (fun h => f9 (upd_ne h (by decide))), (fun h => f10 (upd_ne h (by decide))), (fun _ => rfl), (fun h => f12 (upd_ne h (by decide))), (fun h => ⟨upd_mono (f13 (upd_ne h (by decide))).1, (f13 (upd_ne h (by decide))).2⟩)⟩
                            · obtain rfl := Option.some.inj ho
                              have g7' := f7 (hd ⟨7, .data⟩ (by simp) rfl)
                              have g11 := f11 (hd ⟨11, .data⟩ (by simp) rfl)
                              subst g11
                              have O7 := g7' hL
                              have h7' := hd ⟨7, .data⟩ (by simp) rfl
                              refine wpOp_step rfl (fun K' hK => ?_)
                              refine app_stepY (.tmp 129) (.tmp 133) rfl W1.heap.size t129 ((out.take q) ++ [(⟨sy, (jx : Int) + 1, false⟩ : Bl)]) rfl O7 (some ⟨g3, (q + 2) * 3, none⟩) (N - (q + 2)) (c3 - (q + 2)) W1.heap.size (out.drop (q + 2)) rfl (HTL.out ww I0) (by simp <;> omega) I0.size ?_
                              intro v' w' o1 g1 s1
                              refine hK _ _ ?_
                              exact ⟨_, _, _, _, _, _, _, _, _, _, _, _, _, _, rfl, (I0.grown g1 I0.size (fun k hk => (World.ownsRow.lt O7 k hk).1)), (fun h => upd_mono (I1 (upd_ne h (by decide)))), (fun h => ⟨upd_mono (I2 (upd_ne h (by decide))).1, upd_mono (I2 (upd_ne h (by decide))).2⟩), (fun _ => upd_mono h7'), (fun h => I4 (by rw [upd_other (by decide)] at h; exact h)), (upd_all I5 (by decide)), (fun h h4 => absurd ((upd_other (by decide)).symm.trans h4) (by rw [(I2 h7').1]; decide)), (fun h => f1 (upd_ne h (by decide))), (fun h => f2 (upd_ne h (by decide))), (fun h => f3 (upd_ne h (by decide))), (fun h h7 => absurd ((upd_other (by decide)).symm.trans h7) (by rw [h7']; decide)), (fun h => f5 (upd_ne h (by decide))), (fun h => by
                                  obtain ⟨g6, e1, _⟩ := f6 (upd_ne h (by decide))
                                  exact ⟨g6, e1, fun h7 => absurd ((upd_other (by decide)).symm.trans h7) (by rw [h7']; decide)⟩), (fun _ h => absurd (upd_self.symm.trans h) (by decide)), (fun h => f8 (upd_ne h (by decide))), (fun h => f9 (upd_ne h (by decide))), (fun h => f10 (upd_ne h (by decide))), (fun h => f11 (upd_ne h (by decide))), (fun _ => o1), (fun h => absurd ((f13 (upd_ne h (by decide))).1.symm.trans hL) (by decide))⟩
                            · obtain rfl := Option.some.inj ho
                              have g12 := f12 (hd ⟨12, .data⟩ (by simp) rfl)
                              have hphase := Lib.hid (show ∀ k, k < 13 → L k = true by
                                intro k hk
                                obtain rfl | rfl | rfl | rfl | rfl | rfl | rfl | rfl | rfl | rfl | rfl | rfl | rfl : k = 0 ∨ k = 1 ∨ k = 2 ∨ k = 3 ∨ k = 4 ∨ k = 5 ∨ k = 6 ∨ k = 7 ∨ k = 8 ∨ k = 9 ∨ k = 10 ∨ k = 11 ∨ k = 12 := by omega
                                · exact hd ⟨0, .phase⟩ (by simp) rfl
                                · exact hd ⟨1, .phase⟩ (by simp) rfl
                                · exact hd ⟨2, .phase⟩ (by simp) rfl
                                · exact hd ⟨3, .phase⟩ (by simp) rfl
                                · exact hd ⟨4, .phase⟩ (by simp) rfl
                                · exact hd ⟨5, .phase⟩ (by simp) rfl
                                · exact hd ⟨6, .phase⟩ (by simp) rfl
                                · exact hd ⟨7, .phase⟩ (by simp) rfl
                                · exact hd ⟨8, .phase⟩ (by simp) rfl
                                · exact hd ⟨9, .phase⟩ (by simp) rfl
                                · exact hd ⟨10, .phase⟩ (by simp) rfl
                                · exact hd ⟨11, .phase⟩ (by simp) rfl
                                · exact hd ⟨12, .data⟩ (by simp) rfl)
                              refine wpOp_step rfl (fun K' hK => ?_)
                              go_simp
                              refine hK _ _ ?_
                              exact ⟨_, _, _, _, _, _, _, _, _, _, _, _, _, _, rfl, (I0), (fun h => upd_mono (I1 (upd_ne h (by decide)))), (fun h => ⟨upd_mono (I2 (upd_ne h (by decide))).1, upd_mono (I2 (upd_ne h (by decide))).2⟩), (fun h => upd_mono (I3 (upd_ne h (by decide)))), (fun h => absurd (upd_self.symm.trans h) (by decide)), (fun _ k hk => upd_mono (hphase.out k hk)), (fun h h4 => f0 (upd_ne h (by decide)) (by rw [upd_other (by decide)] at h4; exact h4)), (fun h => f1 (upd_ne h (by decide))), (fun h => f2 (upd_ne h (by decide))), (fun h => f3 (upd_ne h (by decide))), (fun h h7 => f4 (upd_ne h (by decide)) (by rw [upd_other (by decide)] at h7; exact h7)), (fun h => f5 (upd_ne h (by decide))), (fun h => by
                                  obtain ⟨g6, e1, e2⟩ := f6 (upd_ne h (by decide))
                                  exact ⟨g6, e1, fun h7 => ⟨(e2 (by rw [upd_other (by decide)] at h7; exact h7)).1, fun h0 h4 => (e2 (by rw [upd_other (by decide)] at h7; exact h7)).2.1 (upd_ne h0 (by decide)) (by rw [upd_other (by decide)] at h4; exact h4), fun h4 => (e2 (by rw [upd_other (by decide)] at h7; exact h7)).2.2 (upd_ne h4 (by decide))⟩⟩), (fun h h12 => f7 (upd_ne h (by decide)) (by rw [upd_other (by decide)] at h12; exact h12)), (fun h => f8 (upd_ne h (by decide))), (fun h => f9 (upd_ne h (by decide))), (fun h => f10 (upd_ne h (by decide))), (fun h => f11 (upd_ne h (by decide))), (fun h => f12 (upd_ne h (by decide))), (fun _ => ⟨upd_mono (hd ⟨12, .data⟩ (by simp) rfl), rfl⟩)⟩
                          case hdone =>
                            rintro L ac ww hall ⟨t8, t122, t123, t124, t125, t126, t127, t128, t129, t130, t131, t132, t133, t134, rfl, I0, I1, I2, I3, I4, I5, f0, f1, f2, f3, f4, f5, f6, f7, f8, f9, f10, f11, f12, f13⟩
                            have e0 := f0 (hall 0 (by decide))
                            have e1 := f1 (hall 1 (by decide))
                            have e2 := f2 (hall 2 (by decide))
                            have e3 := f3 (hall 3 (by decide))
                            have e4 := f4 (hall 4 (by decide))
                            have e5 := f5 (hall 5 (by decide))
                            have e6 := f6 (hall 6 (by decide))
                            have e7 := f7 (hall 7 (by decide))
                            have e8 := f8 (hall 8 (by decide))
                            have e9 := f9 (hall 9 (by decide))
                            have e10 := f10 (hall 10 (by decide))
                            have e11 := f11 (hall 11 (by decide))
                            have e12 := f12 (hall 12 (by decide))
                            have e13 := f13 (hall 13 (by decide))
                            clear f0 f1 f2 f3 f4 f5 f6 f7 f8 f9 f10 f11 f12 f13
                            clear v5 v6
                            obtain ⟨_, rfl⟩ := e13
                            obtain ⟨A8, c8, ev8, _⟩ := e12.form
                            obtain ⟨g6, e6x, _⟩ := e6
                            subst e1 e2 e3 e5 e8 e9 e10 e11 e6x
                            clear e0 e4 e7 I1 I2 I3 I4 I5
                            have hJ := Bud.join_facts HOKL2.out HXG.out (by rw [HN.out]; omega) (by simp only; omega)
                            have OW : OwnY ww w.heap.size t8 (Bud.joinAt out q) := (OwnY.cast (by rw [hJ.2.1]) e12).base bW1.size
                            have HLP := Lib.hid (show Bud.giveY xs P a = Bud.loopG P (P - (jx + 1)) (Bud.joinAt out q) q by rw [hgv2.out, show P - jx = (P - (jx + 1)) + 1 by omega, Bud.loop_some HST.out])
                            have hjl : (Bud.joinAt out q).length = N - 1 := by rw [hJ.2.2.1, HN.out]
                            have hsl : sliceLen t8 = N - 1 := by
                              rw [ev8]
                              show (out.take q ++ [(⟨sy, (jx : Int) + 1, false⟩ : Bl)] ++ out.drop (q + 2)).length = _
                              rw [← hjl, hJ.2.1]
                            have HJJ := Lib.hid hJ
                            clear hJ ev8 e12
                            go_wp2
                            go_roundw
                            case rel => exact ⟨Bud.joinAt out q, q, _, OW, rfl, HJJ.out.2.2.2, HJJ.out.1, by omega, rfl, by
                              have e : (((jx : Int) + 1)).toNat = jx + 1 := by omega
                              show Hid (Bud.giveY xs P a = Bud.loopG P (P - ((jx : Int) + 1).toNat) (Bud.joinAt out q) q)
                              rw [e]
                              exact HLP, bW1.trans (I0.mono bW1.size)⟩
                            case measure => first | (rw [hsl]; show _ < N; omega) | (simp only [hsl, sliceLen]; omega)

                    · have hz' : ((jy : Int) != (jx : Int)) = true := by rw [bne_iff_ne]; omega
                      have hz'' : (jy != jx) = true := by rw [bne_iff_ne]; omega
                      have HE := Lib.hid (show Bud.giveY xs P a = out by rw [hgv2.out]; exact Bud.loop_none (by rw [HJS.out, if_neg (by rintro ⟨_, _, h3⟩; rw [HX2.out, HZ2.out] at h3; omega)]) _)
                      go_wp2_with fail
                      go_big_quiet (fail)
                      go_wp2
                      go_ret2
                      exact GaveY2.of_ (HO.out.below (below_drewN b4 _) (Nat.le_refl _)) (below_drewN (hb.trans (b4.mono hb.size)) _) HE.out.symm HOKG.out.symm
                  · rw [hxu] at l3
                    have HE := Lib.hid (show Bud.giveY xs P a = out by rw [hgv2.out]; exact Bud.loop_none (by rw [HJS.out, if_neg (by rintro ⟨_, h1, _⟩; rw [hxu] at h1; cases h1)]) _)
                    go_wp2_with fail
                    go_big_quiet (fail)
                    go_wp2
                    go_ret2
                    exact GaveY2.of_ (HO.out.below (below_drewN b4 _) (Nat.le_refl _)) (below_drewN (hb.trans (b4.mono hb.size)) _) HE.out.symm HOKG.out.symm
                · have t7 : (N : Int) ≤ (q : Int) + 1 := by omega
                  have HE := Lib.hid (show Bud.giveY xs P a = out by rw [hgv2.out]; exact Bud.loop_none (Bud.jstep_len HY.out HLM.out (by rw [HN.out]; omega)) _)
                  go_wp2_with fail
                  go_big_quiet (fail)
                  go_wp2
                  go_ret2
                  exact GaveY2.of_ (HO.out.below (below_drewN b4 _) (Nat.le_refl _)) (below_drewN (hb.trans (b4.mono hb.size)) _) HE.out.symm HOKG.out.symm
            · have hjP' : ¬ ((jy : Int) < P) := by omega
              have HE := Lib.hid (show Bud.giveY xs P a = out by rw [hgv2.out, show P - jy = 0 by omega]; rfl)
              go_wp2
              go_ret2
              exact GaveY2.of_ HO.out hb HE.out.symm HOKG.out.symm
end Go.Proofs.Ythihaclhlmpioaa
