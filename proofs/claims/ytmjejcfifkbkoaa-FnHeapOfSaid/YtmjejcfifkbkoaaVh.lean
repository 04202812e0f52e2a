/- What the model's HeapOf returns: for every list of numbers. No conditions. -/
import Derived.Test.YtmjejcfifkbkoaaVu
import Derived.Deep.Cut
namespace Go.Proofs.Ytmjejcfifkbkoaa
open Go.RowKit
set_option maxRecDepth 100000

namespace Hps
theorem Dec.bad3 {xs : List Int} {cs : List Cl} {rs : List Int} (D : Dec xs cs rs) (hn : rs ≠ []) (h : rs.length < 2 ∨ ∃ x : Int, rs[1]? = some x ∧ ¬ (0 ≤ x ∧ x ≤ 3 ∧ x ≤ (rs.length : Int) - 2)) : heapOfV xs = (zeroH, false) := by
  have hp : parseV rs = none := by
    match rs, hn, h with
    | [a], _, _ => exact parseV_one a
    | a :: b :: l, _, h =>
      rw [parseV_cons, if_neg]
      rintro ⟨h1, h2, h3⟩
      rcases h with h | ⟨x, hx, hxo⟩
      · rw [List.length_cons, List.length_cons] at h
        omega
      · simp at hx hxo
        subst hx
        have := hxo h1 h2
        omega
  refine heapOf_none (by have := D.four; omega) ?_
  rw [D.flat, parse_raws _ _ D.used, hp]
  split <;> rfl
theorem Dec.fin3 {xs : List Int} {cs : List Cl} (D : Dec xs cs []) : heapOfV xs = if viewH ⟨cs, xs.take 4⟩ = xs then (⟨cs, xs.take 4⟩, true) else (zeroH, false) := by
  have h4 := D.four
  rw [D.fin]
  cases hv : validH ⟨cs, xs.take 4⟩
  · rw [if_neg (fun e => by cases e.1), if_neg]
    rw [view_not hv]
    rintro rfl
    simp at h4
  · simp
theorem Dec.short4 {xs : List Int} {cs : List Cl} {rs : List Int} (D : Dec xs cs rs) : cs.length + rs.length + 4 ≤ xs.length := by
  have e : ∀ l : List Cl, l.length ≤ ((l.map rawV).flatten).length := fun l => by
    induction l with
    | nil => simp
    | cons c l ih => simp [rawV] at ih ⊢; omega
  have := congrArg List.length D.flat
  rw [List.length_append, List.length_drop] at this
  have := e cs
  have := D.four
  omega
end Hps
/-- roots of the call's own take the place of those before -/
theorem BoxSt.rootsNew {w0 wr w1 : World} {b : Nat} {vc vr v9 : Value} {rvs : List Value} {h : Hp} {ys : List Int} (S : BoxSt w0 wr b vc vr rvs h) (hb : Below wr.heap.size wr w1) (o9 : OwnI w1 wr.heap.size v9 ys) :
    BoxSt w0 (w1.setCell ⟨b, 1, none⟩ v9) b vc v9 rvs ⟨h.cs, ys⟩ := by
  have hlo := S.lo
  have hbl := S.box.lt
  have S1 := S.up hb
  have hsp := S1.own.sep
  unfold Sep at hsp
  rw [List.pairwise_cons, List.pairwise_cons] at hsp
  obtain ⟨sp1, sp2, sp3⟩ := hsp
  have hnew : ∀ v ∈ vc :: rvs, v.ownBlock = none ∨ v.ownBlock ≠ v9.ownBlock := fun v hv => by
    cases ev : v.ownBlock with
    | none => exact .inl rfl
    | some k =>
      right
      intro e'
      have a1 := (World.ownsRow.lt o9 k e'.symm).1
      have a2 := (S.own.blocks (v := v) (by rcases List.mem_cons.1 hv with rfl | hv <;> simp [*]) ev).2
      omega
  have own1 : OwnHx w1 w0.heap.size vc v9 rvs ⟨h.cs, ys⟩ := by
    refine ⟨S1.own.len, S1.own.row, S1.own.refs, o9.base S.low.size, ?_⟩
    unfold Sep
    rw [List.pairwise_cons, List.pairwise_cons]
    refine ⟨fun v hv => ?_, fun v hv => sep_back (hnew v (by simp [hv])), sp3⟩
    rcases List.mem_cons.1 hv with rfl | hv
    · exact hnew vc (by simp)
    · exact sp1 v (by simp [hv])
  have ap : Apart (some b) (vc :: v9 :: rvs) := by
    intro v hv
    simp only [List.mem_cons] at hv
    rcases hv with rfl | rfl | hv
    · exact S.apart v (by simp)
    · cases ev : v.ownBlock with
      | none => exact .inl rfl
      | some k =>
        right
        intro e'
        have e' := Option.some.inj e'
        have a1 := (World.ownsRow.lt o9 k ev).1
        omega
    · exact S.apart v (by simp [hv])
  exact ⟨own1.far (put_any w1 b 1 v9) ap, ap, S1.box.put 1 v9, S1.low.setCell (p := ⟨b, 1, none⟩) (by show w0.heap.size ≤ b; omega) _, hlo⟩

set_option maxHeartbeats 8000000 in
theorem mHeapOf_any (A : Option Addr) (n c : Nat) (xs : List Int) (w : World) (h : IS w w.heap.size A n xs) (hn : n ≤ 1099511627776) (hc : n ≤ c) :
    Calls Try.prog 30 #[.slice A n c] w (GaveH2 w (Hps.heapOfV xs).1 (Hps.heapOfV xs).2) := by
  have hln := h.1
  have bW : Below w.heap.size w (w.alloc (.cells #[.slice none 0 0, .slice none 0 0] 28)) := (Below.refl _ _).alloc (Nat.le_refl _) _
  have q0 := Rw.new w 28 #[.slice none 0 0, .slice none 0 0]
  have hsz0 : (w.alloc (.cells #[.slice none 0 0, .slice none 0 0] 28)).heap.size = w.heap.size + 1 := by simp
  obtain ⟨rvs0, S0⟩ := BoxSt.of (own_zeroH (w.alloc (.cells #[.slice none 0 0, .slice none 0 0] 28)) _ (Nat.le_refl _)) (Below.refl _ _)
  go_enter Try.func30, Try.ntmps30
  go_upto_region 2 with fail
  rw [hsz0] at S0
  generalize w.alloc (.cells #[.slice none 0 0, .slice none 0 0] 28) = W0 at bW q0 S0 hsz0 ⊢
  generalize W0.alloc (.cells #[.slice none 0 0, .slice none 0 0] 28) = w1 at S0 ⊢
  obtain ⟨b, hb⟩ : ∃ b, w.heap.size + 1 = b := ⟨_, rfl⟩
  rw [hb] at S0 hsz0 ⊢
  have HZ := Lib.hid hsz0
  have HB := Lib.hid hb
  clear hsz0 hb
  have hq0 : w.heap.size < W0.heap.size := q0.lt
  by_cases h4 : n < 4
  · have h4' : (n : Int) < 4 := by omega
    have HE := Lib.hid (Hps.heapOf_short (v := xs) (by omega))
    have q1 := q0.keep S0.low hq0
    have x0 : w1.cell? ⟨b, 0, none⟩ = some (.slice none 0 0) := S0.box.cell 0
    have x1 : w1.cell? ⟨b, 1, none⟩ = some (.slice none 0 0) := S0.box.cell 1
    have r2 : w1.frozen? ⟨w.heap.size, 0, none⟩ = false := q1.frozen 0
    have r3 : w1.frozen? ⟨w.heap.size, 1, none⟩ = false := q1.frozen 1
    have r4 : w1.cell? ⟨w.heap.size, 0, none⟩ = some (.slice none 0 0) := q1.cell 0
    have r5 : w1.cell? ⟨w.heap.size, 1, none⟩ = some (.slice none 0 0) := q1.cell 1
    have r6 : ((w1.setCell ⟨w.heap.size, 0, none⟩ (.slice none 0 0)).setCell ⟨w.heap.size, 1, none⟩ (.slice none 0 0)).cell? ⟨w.heap.size, 0, none⟩ = some (.slice none 0 0) := ((q1.put 0 (.slice none 0 0)).put 1 (.slice none 0 0)).cell 0
    have r7 : ((w1.setCell ⟨w.heap.size, 0, none⟩ (.slice none 0 0)).setCell ⟨w.heap.size, 1, none⟩ (.slice none 0 0)).cell? ⟨w.heap.size, 1, none⟩ = some (.slice none 0 0) := ((q1.put 0 (.slice none 0 0)).put 1 (.slice none 0 0)).cell 1
    have BB := ((bW.trans (S0.low.mono bW.size)).setCell (p := ⟨w.heap.size, 0, none⟩) (Nat.le_refl _) (.slice none 0 0)).setCell (p := ⟨w.heap.size, 1, none⟩) (Nat.le_refl _) (.slice none 0 0)
    clear S0 q0 q1
    go_wp2_with fail
    exact bodyPost_ret (v := .tuple #[.agg #[.slice none 0 0, .slice none 0 0], .bool false]) (by simp [results, Try.results30, go_sem, *]) rfl ⟨_, _, by rw [HE.out], by rw [HE.out]; exact own_zeroH _ _ BB.size, BB⟩
  · have h4' : ¬ (n : Int) < 4 := by omega
    obtain ⟨g, o, x, rfl, hg, -, -⟩ := h.at_ (k := 0) (by omega)
    have k1 : (4 : Int) ≤ c := by omega
    have k2 : (4 : Int) ≤ n := by omega
    have hL4 : (xs.take 4).length = 4 := by rw [List.length_take]; omega
    have HD := Lib.hid (Hps.Dec.start (xs := xs) (by omega))
    have rf := ((h.front (r := 4) (by omega)).below (bW.trans (S0.low.mono bW.size)))
    have on := own_noneI w1 w1.heap.size (Nat.le_refl _)
    have bn : Below w1.heap.size w1 (w1.alloc (.cells #[] 3)) := (Below.refl _ _).alloc (Nat.le_refl _) _
    have rf2 := rf.below (bn.mono (by have := S0.low.size; have := bW.size; omega))
    have HLN := Lib.hid hln
    have HL4 := Lib.hid hL4
    have SS0 := Lib.hid S0
    have GO := Lib.hid (fun v9 w9 (g9 : (w1.alloc (.cells #[] 3)).grownBy w9 (Value.slice (some ⟨w1.heap.size, 0, none⟩) 0 0).ownBlock) (o9 : OwnI w9 w1.heap.size v9 ([] ++ xs.take 4)) => And.intro (S0.rootsNew (bn.grown g9 bn.size (fun kk hk => (World.ownsRow.lt on kk hk).1)) o9) (S0.box.keep (bn.grown g9 bn.size (fun kk hk => (World.ownsRow.lt on kk hk).1)) S0.box.lt))
    clear hln hL4 S0 rf
    go_upto_region 5 with (at_builtin; refine wpList_appendI rfl (.tmp 13) (.tmp 15) rfl w1.heap.size _ [] rfl on (some ⟨g, o, none⟩) 4 _ _ (xs.take 4) rfl rf2 (by simp) bn.size ?_; intro v9 w9 o9 g9 s9; obtain ⟨SN, BX⟩ := GO.out v9 w9 g9 o9; obtain ⟨A1, c1, e9, -⟩ := o9.form; rw [List.nil_append, HL4.out] at e9; subst e9; have z9 := BX.cell 1; have f9 := BX.frozen 1; clear o9 g9 s9 BX)
    clear z9 f9 GO on bn rf2 SS0
    generalize w9.setCell ⟨b, 1, none⟩ (.slice A1 4 c1) = w2 at SN ⊢
    go_wp2_with fail
    go_loopw [5] (fun i wr => ∃ (k : Nat) (cs : List Cl) (vc : Value) (rvs : List Value), 4 ≤ k ∧ k ≤ n ∧ i = .int .i64 k ∧ BoxSt W0 wr b vc (.slice A1 4 c1) rvs ⟨cs, xs.take 4⟩ ∧ Hid (Hps.Dec xs cs (xs.drop k))) (fun i _ => n - (intOf i).toNat)
    case atStart => exact ⟨4, _, _, _, Nat.le_refl _, by omega, rfl, SN, HD⟩
    case round =>
      clear SN HD
      obtain ⟨k, cs, vc, rvs, hk4, hk, rfl, S, HD⟩ := hrel
      have bw := bW.trans (S.low.mono bW.size)
      have hq1 : w.heap.size < W0.heap.size := hq0
      obtain ⟨Ac, cc, _, _, rfl, e2, -⟩ := S.own.form
      clear e2
      obtain ⟨q, hq⟩ : ∃ q, cs.length = q := ⟨_, rfl⟩
      have HQ := Lib.hid hq
      have hsh := HD.out.short4
      rw [hq, List.length_drop, HLN.out] at hsh
      try rw [show (⟨cs, xs.take 4⟩ : Hp).cs.length = q from hq] at S
      clear hq
      rcases Nat.lt_or_ge k n with hlt | hge
      · have hlt' : (k : Int) < n := by omega
        have HW1 : IntKind.i64.wrap ((k : Int) + 1) = (k : Int) + 1 := IntWalk.i64_in _ (by omega)
        have HW2 : IntKind.i64.wrap ((k : Int) + 2) = (k : Int) + 2 := IntWalk.i64_in _ (by omega)
        have hrs : xs.drop k ≠ [] := fun e => by
          have := congrArg List.length e
          rw [List.length_drop, HLN.out] at this
          simp at this
          omega
        rcases Nat.lt_or_ge (k + 1) n with hk1 | hk1
        · obtain ⟨g', o', x, e0, -, hx0, y0⟩ := (h.below bw).at_ (k := k) hlt
          have e0 := Option.some.inj e0
          injection e0 with e1 e2
          subst e1 e2
          obtain ⟨g', o', y, e0, -, hx1, y1⟩ := (h.below bw).at_ (k := k + 1) hk1
          have e0 := Option.some.inj e0
          injection e0 with e1 e2
          subst e1 e2
          have hd0 : (xs.drop k)[0]? = some x := by rw [List.getElem?_drop, Nat.add_zero]; exact hx0
          have hd1 : (xs.drop k)[1]? = some y := by rw [List.getElem?_drop]; exact hx1
          have hdl : (xs.drop k).length = n - k := by rw [List.length_drop, HLN.out]
          have hge1 : decide ((k : Int) + 1 ≥ n) = false := decide_eq_false (by omega)
          have hk1' : (k : Int) + 1 < n := by omega
          have hk10 : (0 : Int) ≤ (k : Int) + 1 := by omega
          have htn1 : ((k : Int) + 1).toNat = k + 1 := by omega
          by_cases hin : 0 ≤ y ∧ y ≤ 3
          · obtain ⟨r, rfl⟩ : ∃ r : Nat, y = r := ⟨y.toNat, by omega⟩
            obtain ⟨hi0, hi3⟩ := hin
            have HW3 : IntKind.i64.wrap ((k : Int) + 2 + r) = (k : Int) + 2 + r := IntWalk.i64_in _ (by omega)
            by_cases hfit : k + 2 + r ≤ n
            · have hgt : decide ((k : Int) + 2 + r > n) = false := decide_eq_false (by omega)
              have HN := Lib.hid (HD.out.next hd0 hd1 (by rw [hdl]; omega))
              rw [List.drop_drop, List.drop_drop, show k + (2 + r) = k + 2 + r by omega] at HN
              have hl1 : (decide ((0 : Int) ≤ r) && decide ((r : Int) ≤ 3)) = true := by simp; omega
              go_wp2_with fail
              refine (l1In_any _ _ _ _).mono ?_
              rw [hl1]
              rintro e w6 ⟨rfl, rfl⟩
              clear hl1
              go_upto_region 9 with fail
              have hbl : b < wr.heap.size := S.box.lt
              have hgl : g < wr.heap.size := by have := bw.size; omega
              have x0 : wr.cell? ⟨b, 0, none⟩ = some (.slice Ac q cc) := S.box.cell 0
              obtain ⟨A4, hA4⟩ : ∃ A4, (if c = k + 2 then some (⟨g, o, none⟩ : Addr) else some ⟨g, o + (k + 2), none⟩) = A4 := ⟨_, rfl⟩
              have R4 : IS wr wr.heap.size A4 r ((xs.drop (k + 2)).take r) := by
                by_cases e : c = k + 2
                · obtain rfl : r = 0 := by omega
                  rw [List.take_zero]
                  exact IS.none_ _ _ _
                · rw [if_neg e] at hA4
                  rw [← hA4]
                  exact ((h.below bw).part (by omega)).more bw.size
              have hr40 : ([] : List Int).length + r ≤ 1099511627776 := by simp; omega
              have j1 : (0 : Int) ≤ (k : Int) + 2 := by omega
              have j2 : (k : Int) + 2 + r ≤ c := by omega
              have j3 : (k : Int) + 2 ≤ (k : Int) + 2 + r := by omega
              have j4 : (k : Int) + 2 ≤ n := by omega
              have j5 : ((k : Int) + 2 + r).toNat = k + 2 + r := by omega
              have j6 : ((k : Int) + 2).toNat = k + 2 := by omega
              have j7 : k + 2 + r - (k + 2) = r := by omega
              have SS := Lib.hid S
              clear S hd0 hd1 hdl hge1 hgt hx0 hx1 hrs
              refine wp_region_inv (by kernel_rfl) (by kernel_rfl) (fun L ac ww => ∃ t50 t51 t52 t53 t54 t55 t56 t57 t58 t59 t60 t61 t62 t63 t64 t65 t66 t67 t68 t69 t70 t71 t72 t73 : Value, ac = { tmps := #[Value.slice (some { block := g, off := o }) n c, undef, Value.pointer (some { block := w.heap.size, off := 0 }), u3, Value.pointer (some { block := b, off := 0 }), Value.int IntKind.i64 ↑k, undef, undef, Value.agg #[Value.slice none 0 0, Value.slice none 0 0], Value.slice (some { block := g, off := o }) n c, Value.int IntKind.i64 ↑n, Value.bool false, undef, Value.slice (some { block := w1.heap.size, off := 0 }) 0 0, Value.slice (some { block := g, off := o }) n c, Value.slice (some { block := g, off := o }) 4 c, Value.slice A1 4 c1, Value.pointer (some { block := b, off := 1 }), Value.int IntKind.i64 ↑k, Value.slice (some { block := g, off := o }) n c, Value.int IntKind.i64 ↑n, Value.bool true, Value.int IntKind.i64 ↑k, Value.int IntKind.i64 (↑k + 1), Value.slice (some { block := g, off := o }) n c, Value.int IntKind.i64 ↑n, Value.bool false, Value.bool false, Value.slice (some { block := g, off := o }) n c, Value.int IntKind.i64 ↑k, Value.int IntKind.i64 (↑k + 1), Value.pointer (some { block := g, off := o + (k + 1) }), Value.int IntKind.i64 ↑r, Value.bool true, Value.bool false, Value.bool false, Value.bool false, Value.int IntKind.i64 ↑k, Value.int IntKind.i64 (↑k + 2), Value.slice (some { block := g, off := o }) n c, Value.int IntKind.i64 ↑k, Value.int IntKind.i64 (↑k + 1), Value.pointer (some { block := g, off := o + (k + 1) }), Value.int IntKind.i64 ↑r, Value.int IntKind.i64 (↑k + 2 + ↑r), Value.slice (some { block := g, off := o }) n c, Value.int IntKind.i64 ↑n, Value.bool false, Value.bool false, u49, t50, t51, t52, t53, t54, t55, t56, t57, t58, t59, t60, t61, t62, t63, t64, t65, t66, t67, t68, t69, t70, t71, t72, t73, u74, u75, u76, u77, u78, u79, u80, u81, undef, undef, undef, undef, undef, undef, undef, undef, undef, undef, undef, undef, undef, undef, undef, undef, undef, undef, undef, undef, undef, undef, undef, undef, undef], defers := [] } ∧ (L 22 = false → Below wr.heap.size wr ww) ∧ (Closed [(1, 0), (4, 2), (4, 3), (5, 4), (9, 8), (11, 10), (14, 13), (15, 12), (15, 14), (16, 15), (17, 11), (17, 16), (18, 7), (18, 9), (18, 17), (19, 6), (19, 18), (20, 5), (20, 19), (21, 20), (22, 1), (22, 19), (22, 21)] L) ∧ (L 0 = true → t50 = .pointer (some ⟨b, 0, none⟩)) ∧ (L 1 = true → t51 = .slice Ac q cc) ∧ (L 2 = true → t52 = .slice (some ⟨g, o, none⟩) n c) ∧ (L 3 = true → t53 = .int .i64 k) ∧ (L 4 = true → t54 = .pointer (some ⟨g, o + k, none⟩)) ∧ (L 5 = true → t55 = .int .i64 x) ∧ (L 6 = true → ∃ g6, t56 = .slice (some ⟨g6, 0, none⟩) 0 0 ∧ (L 19 = false → OwnI ww wr.heap.size t56 [])) ∧ (L 7 = true → t57 = .slice (some ⟨g, o, none⟩) n c) ∧ (L 8 = true → t58 = .int .i64 k) ∧ (L 9 = true → t59 = .int .i64 ((k : Int) + 2)) ∧ (L 10 = true → t60 = .int .i64 k) ∧ (L 11 = true → t61 = .int .i64 ((k : Int) + 2)) ∧ (L 12 = true → t62 = .slice (some ⟨g, o, none⟩) n c) ∧ (L 13 = true → t63 = .int .i64 k) ∧ (L 14 = true → t64 = .int .i64 ((k : Int) + 1)) ∧ (L 15 = true → t65 = .pointer (some ⟨g, o + (k + 1), none⟩)) ∧ (L 16 = true → t66 = .int .i64 r) ∧ (L 17 = true → t67 = .int .i64 ((k : Int) + 2 + r)) ∧ (L 18 = true → t68 = .slice A4 r (c - (k + 2))) ∧ (L 19 = true → ∃ A8 c8, t69 = .slice A8 r c8 ∧ (L 22 = false → OwnI ww wr.heap.size t69 ((xs.drop (k + 2)).take r))) ∧ (L 20 = true → t70 = .agg #[.bool true, .int .i64 x, t69] ∧ L 19 = true) ∧ (L 21 = true → (∃ g12, t71 = .slice (some ⟨g12, 0, none⟩) 1 1 ∧ (L 22 = false → Rw ww g12 61 #[.bool true, .int .i64 x, t69])) ∧ L 19 = true) ∧ (L 22 = true → ∃ A9 c9, t72 = .slice A9 (q + 1) c9 ∧ ∃ wp w9, ww = (if L 24 = true then w9.setCell ⟨b, 0, none⟩ t72 else w9) ∧ Below wr.heap.size wr wp ∧ OwnI wp wr.heap.size t69 ((xs.drop (k + 2)).take r) ∧ wp.grownBy w9 (Value.slice Ac q cc).ownBlock ∧ w9.ownsRow W0.heap.size 61 3 t72 (q + 1) (flatC cs rvs ++ [.bool true, .int .i64 x, t69]) ∧ (t72.ownBlock = (Value.slice Ac q cc).ownBlock ∨ t72.ownBlock = some wp.heap.size) ∧ L 19 = true) ∧ (L 23 = true → t73 = .pointer (some ⟨b, 0, none⟩)) ∧ (L 24 = true → ∀ p, p < 24 → L p = true)) ?h0 ?hstep ?hdone
              case h0 => exact ⟨_, _, _, _, _, _, _, _, _, _, _, _, _, _, _, _, _, _, _, _, _, _, _, _, rfl, fun _ => (Below.refl _ _).drew, fun _ _ h => absurd h Bool.false_ne_true, (fun h => absurd h Bool.false_ne_true), (fun h => absurd h Bool.false_ne_true), (fun h => absurd h Bool.false_ne_true), (fun h => absurd h Bool.false_ne_true), (fun h => absurd h Bool.false_ne_true), (fun h => absurd h Bool.false_ne_true), (fun h => absurd h Bool.false_ne_true), (fun h => absurd h Bool.false_ne_true), (fun h => absurd h Bool.false_ne_true), (fun h => absurd h Bool.false_ne_true), (fun h => absurd h Bool.false_ne_true), (fun h => absurd h Bool.false_ne_true), (fun h => absurd h Bool.false_ne_true), (fun h => absurd h Bool.false_ne_true), (fun h => absurd h Bool.false_ne_true), (fun h => absurd h Bool.false_ne_true), (fun h => absurd h Bool.false_ne_true), (fun h => absurd h Bool.false_ne_true), (fun h => absurd h Bool.false_ne_true), (fun h => absurd h Bool.false_ne_true), (fun h => absurd h Bool.false_ne_true), (fun h => absurd h Bool.false_ne_true), (fun h => absurd h Bool.false_ne_true), (fun h => absurd h Bool.false_ne_true), (fun h => absurd h Bool.false_ne_true)⟩
              case hstep =>
                rintro L ac ww i o ho hL hd ⟨t50, t51, t52, t53, t54, t55, t56, t57, t58, t59, t60, t61, t62, t63, t64, t65, t66, t67, t68, t69, t70, t71, t72, t73, rfl, I0, I1, f0, f1, f2, f3, f4, f5, f6, f7, f8, f9, f10, f11, f12, f13, f14, f15, f16, f17, f18, f19, f20, f21, f22, f23, f24⟩
                have hi : i < 25 := (Array.getElem?_eq_some_iff.1 ho).1
                obtain rfl | rfl | rfl | rfl | rfl | rfl | rfl | rfl | rfl | rfl | rfl | rfl | rfl | rfl | rfl | rfl | rfl | rfl | rfl | rfl | rfl | rfl | rfl | rfl | rfl : i = 0 ∨ i = 1 ∨ i = 2 ∨ i = 3 ∨ i = 4 ∨ i = 5 ∨ i = 6 ∨ i = 7 ∨ i = 8 ∨ i = 9 ∨ i = 10 ∨ i = 11 ∨ i = 12 ∨ i = 13 ∨ i = 14 ∨ i = 15 ∨ i = 16 ∨ i = 17 ∨ i = 18 ∨ i = 19 ∨ i = 20 ∨ i = 21 ∨ i = 22 ∨ i = 23 ∨ i = 24 := by omega
                · obtain rfl := Option.some.inj ho
                  have hL22 : L 22 = false := by
                    cases e : L 22
                    · rfl
                    · exact absurd (I1.get (i := 1) (j := 0) (by decide) (I1.get (i := 22) (j := 1) (by decide) e)) (by rw [hL]; decide)
                  have J := I0 hL22
                  refine wpOp_step rfl (fun K' hK => ?_)
                  go_simp
                  refine hK _ _ ?_
                  exact ⟨_, _, _, _, _, _, _, _, _, _, _, _, _, _, _, _, _, _, _, _, _, _, _, _, rfl, (fun _ => J), (Closed.step I1 (by
                    intro p hp e
                    simp only [List.mem_cons, List.not_mem_nil, or_false] at hp
                    rcases hp with rfl | rfl | rfl | rfl | rfl | rfl | rfl | rfl | rfl | rfl | rfl | rfl | rfl | rfl | rfl | rfl | rfl | rfl | rfl | rfl | rfl | rfl | rfl
                    · exact absurd e (by decide)
                    · exact absurd e (by decide)
                    · exact absurd e (by decide)
                    · exact absurd e (by decide)
                    · exact absurd e (by decide)
                    · exact absurd e (by decide)
                    · exact absurd e (by decide)
                    · exact absurd e (by decide)
                    · exact absurd e (by decide)
                    · exact absurd e (by decide)
                    · exact absurd e (by decide)
                    · exact absurd e (by decide)
                    · exact absurd e (by decide)
                    · exact absurd e (by decide)
                    · exact absurd e (by decide)
                    · exact absurd e (by decide)
                    · exact absurd e (by decide)
                    · exact absurd e (by decide)
                    · exact absurd e (by decide)
                    · exact absurd e (by decide)
                    · exact absurd e (by decide)
                    · exact absurd e (by decide)
                    · exact absurd e (by decide))), (fun _ => rfl), (kp f1), (kp f2), (kp f3), (kp f4), (kp f5), (fun h => by
                    obtain ⟨g6, e6, r6⟩ := f6 (upd_ne h (by decide))
                    exact ⟨g6, e6, fun h19 => r6 (by rw [upd_other (by decide)] at h19; exact h19)⟩), (kp f7), (kp f8), (kp f9), (kp f10), (kp f11), (kp f12), (kp f13), (kp f14), (kp f15), (kp f16), (kp f17), (kp f18), (fun h => by
                    obtain ⟨A8, c8, e8, r8⟩ := f19 (upd_ne h (by decide))
                    exact ⟨A8, c8, e8, fun h22 => r8 (by rw [upd_other (by decide)] at h22; exact h22)⟩), (fun h => ⟨(f20 (upd_ne h (by decide))).1, upd_mono (f20 (upd_ne h (by decide))).2⟩), (fun h => by
                    obtain ⟨⟨g12, e12, r12⟩, l12⟩ := f21 (upd_ne h (by decide))
                    exact ⟨⟨g12, e12, fun h22 => r12 (by rw [upd_other (by decide)] at h22; exact h22)⟩, upd_mono l12⟩), (fun h => absurd (I1.get (i := 1) (j := 0) (by decide) (I1.get (i := 22) (j := 1) (by decide) (upd_ne h (by decide)))) (by rw [hL]; decide)), (kp f23), (fun h => absurd (f24 (upd_ne h (by decide)) 0 (by decide)) (by rw [hL]; decide))⟩
                · obtain rfl := Option.some.inj ho
                  have g0 := f0 (hd ⟨0, .data⟩ (by simp) rfl)
                  subst g0
                  have hL22 : L 22 = false := by
                    cases e : L 22
                    · rfl
                    · exact absurd (I1.get (i := 22) (j := 1) (by decide) e) (by rw [hL]; decide)
                  have J := I0 hL22
                  have z0 : ww.cell? ⟨b, 0, none⟩ = some (.slice Ac q cc) := (J.cell (p := ⟨b, 0, none⟩) hbl).trans x0
                  refine wpOp_step rfl (fun K' hK => ?_)
                  go_simp
                  refine hK _ _ ?_
                  exact ⟨_, _, _, _, _, _, _, _, _, _, _, _, _, _, _, _, _, _, _, _, _, _, _, _, rfl, (fun _ => J), (Closed.step I1 (by
                    intro p hp e
                    simp only [List.mem_cons, List.not_mem_nil, or_false] at hp
                    rcases hp with rfl | rfl | rfl | rfl | rfl | rfl | rfl | rfl | rfl | rfl | rfl | rfl | rfl | rfl | rfl | rfl | rfl | rfl | rfl | rfl | rfl | rfl | rfl
                    · exact hd ⟨0, .data⟩ (by simp) rfl
                    · exact absurd e (by decide)
                    · exact absurd e (by decide)
                    · exact absurd e (by decide)
                    · exact absurd e (by decide)
                    · exact absurd e (by decide)
                    · exact absurd e (by decide)
                    · exact absurd e (by decide)
                    · exact absurd e (by decide)
                    · exact absurd e (by decide)
                    · exact absurd e (by decide)
                    · exact absurd e (by decide)
                    · exact absurd e (by decide)
                    · exact absurd e (by decide)
                    · exact absurd e (by decide)
                    · exact absurd e (by decide)
                    · exact absurd e (by decide)
                    · exact absurd e (by decide)
                    · exact absurd e (by decide)
                    · exact absurd e (by decide)
                    · exact absurd e (by decide)
                    · exact absurd e (by decide)
                    · exact absurd e (by decide))), (kp f0), (fun _ => rfl), (kp f2), (kp f3), (kp f4), (kp f5), (fun h => by
                    obtain ⟨g6, e6, r6⟩ := f6 (upd_ne h (by decide))
                    exact ⟨g6, e6, fun h19 => r6 (by rw [upd_other (by decide)] at h19; exact h19)⟩), (kp f7), (kp f8), (kp f9), (kp f10), (kp f11), (kp f12), (kp f13), (kp f14), (kp f15), (kp f16), (kp f17), (kp f18), (fun h => by
                    obtain ⟨A8, c8, e8, r8⟩ := f19 (upd_ne h (by decide))
                    exact ⟨A8, c8, e8, fun h22 => r8 (by rw [upd_other (by decide)] at h22; exact h22)⟩), (fun h => ⟨(f20 (upd_ne h (by decide))).1, upd_mono (f20 (upd_ne h (by decide))).2⟩), (fun h => by
                    obtain ⟨⟨g12, e12, r12⟩, l12⟩ := f21 (upd_ne h (by decide))
                    exact ⟨⟨g12, e12, fun h22 => r12 (by rw [upd_other (by decide)] at h22; exact h22)⟩, upd_mono l12⟩), (fun h => absurd (I1.get (i := 22) (j := 1) (by decide) (upd_ne h (by decide))) (by rw [hL]; decide)), (kp f23), (fun h => absurd (f24 (upd_ne h (by decide)) 1 (by decide)) (by rw [hL]; decide))⟩
                · obtain rfl := Option.some.inj ho
                  have hL22 : L 22 = false := by
                    cases e : L 22
                    · rfl
                    · exact absurd (I1.get (i := 4) (j := 2) (by decide) (I1.get (i := 5) (j := 4) (by decide) (I1.get (i := 20) (j := 5) (by decide) (I1.get (i := 21) (j := 20) (by decide) (I1.get (i := 22) (j := 21) (by decide) e))))) (by rw [hL]; decide)
                  have J := I0 hL22
                  refine wpOp_step rfl (fun K' hK => ?_)
                  go_simp
                  refine hK _ _ ?_
                  exact ⟨_, _, _, _, _, _, _, _, _, _, _, _, _, _, _, _, _, _, _, _, _, _, _, _, rfl, (fun _ => J), (Closed.step I1 (by
                    intro p hp e
                    simp only [List.mem_cons, List.not_mem_nil, or_false] at hp
                    rcases hp with rfl | rfl | rfl | rfl | rfl | rfl | rfl | rfl | rfl | rfl | rfl | rfl | rfl | rfl | rfl | rfl | rfl | rfl | rfl | rfl | rfl | rfl | rfl
                    · exact absurd e (by decide)
                    · exact absurd e (by decide)
                    · exact absurd e (by decide)
                    · exact absurd e (by decide)
                    · exact absurd e (by decide)
                    · exact absurd e (by decide)
                    · exact absurd e (by decide)
                    · exact absurd e (by decide)
                    · exact absurd e (by decide)
                    · exact absurd e (by decide)
                    · exact absurd e (by decide)
                    · exact absurd e (by decide)
                    · exact absurd e (by decide)
                    · exact absurd e (by decide)
                    · exact absurd e (by decide)
                    · exact absurd e (by decide)
                    · exact absurd e (by decide)
                    · exact absurd e (by decide)
                    · exact absurd e (by decide)
                    · exact absurd e (by decide)
                    · exact absurd e (by decide)
                    · exact absurd e (by decide)
                    · exact absurd e (by decide))), (kp f0), (kp f1), (fun _ => rfl), (kp f3), (kp f4), (kp f5), (fun h => by
                    obtain ⟨g6, e6, r6⟩ := f6 (upd_ne h (by decide))
                    exact ⟨g6, e6, fun h19 => r6 (by rw [upd_other (by decide)] at h19; exact h19)⟩), (kp f7), (kp f8), (kp f9), (kp f10), (kp f11), (kp f12), (kp f13), (kp f14), (kp f15), (kp f16), (kp f17), (kp f18), (fun h => by
                    obtain ⟨A8, c8, e8, r8⟩ := f19 (upd_ne h (by decide))
                    exact ⟨A8, c8, e8, fun h22 => r8 (by rw [upd_other (by decide)] at h22; exact h22)⟩), (fun h => ⟨(f20 (upd_ne h (by decide))).1, upd_mono (f20 (upd_ne h (by decide))).2⟩), (fun h => by
                    obtain ⟨⟨g12, e12, r12⟩, l12⟩ := f21 (upd_ne h (by decide))
                    exact ⟨⟨g12, e12, fun h22 => r12 (by rw [upd_other (by decide)] at h22; exact h22)⟩, upd_mono l12⟩), (fun h => absurd (I1.get (i := 4) (j := 2) (by decide) (I1.get (i := 5) (j := 4) (by decide) (I1.get (i := 20) (j := 5) (by decide) (I1.get (i := 21) (j := 20) (by decide) (I1.get (i := 22) (j := 21) (by decide) (upd_ne h (by decide))))))) (by rw [hL]; decide)), (kp f23), (fun h => absurd (f24 (upd_ne h (by decide)) 2 (by decide)) (by rw [hL]; decide))⟩
                · obtain rfl := Option.some.inj ho
                  have hL22 : L 22 = false := by
                    cases e : L 22
                    · rfl
                    · exact absurd (I1.get (i := 4) (j := 3) (by decide) (I1.get (i := 5) (j := 4) (by decide) (I1.get (i := 20) (j := 5) (by decide) (I1.get (i := 21) (j := 20) (by decide) (I1.get (i := 22) (j := 21) (by decide) e))))) (by rw [hL]; decide)
                  have J := I0 hL22
                  refine wpOp_step rfl (fun K' hK => ?_)
                  go_simp
                  refine hK _ _ ?_
                  exact ⟨_, _, _, _, _, _, _, _, _, _, _, _, _, _, _, _, _, _, _, _, _, _, _, _, rfl, (fun _ => J), (Closed.step I1 (by
                    intro p hp e
                    simp only [List.mem_cons, List.not_mem_nil, or_false] at hp
                    rcases hp with rfl | rfl | rfl | rfl | rfl | rfl | rfl | rfl | rfl | rfl | rfl | rfl | rfl | rfl | rfl | rfl | rfl | rfl | rfl | rfl | rfl | rfl | rfl
                    · exact absurd e (by decide)
                    · exact absurd e (by decide)
                    · exact absurd e (by decide)
                    · exact absurd e (by decide)
                    · exact absurd e (by decide)
                    · exact absurd e (by decide)
                    · exact absurd e (by decide)
                    · exact absurd e (by decide)
                    · exact absurd e (by decide)
                    · exact absurd e (by decide)
                    · exact absurd e (by decide)
                    · exact absurd e (by decide)
                    · exact absurd e (by decide)
                    · exact absurd e (by decide)
                    · exact absurd e (by decide)
                    · exact absurd e (by decide)
                    · exact absurd e (by decide)
                    · exact absurd e (by decide)
                    · exact absurd e (by decide)
                    · exact absurd e (by decide)
                    · exact absurd e (by decide)
                    · exact absurd e (by decide)
                    · exact absurd e (by decide))), (kp f0), (kp f1), (kp f2), (fun _ => rfl), (kp f4), (kp f5), (fun h => by
                    obtain ⟨g6, e6, r6⟩ := f6 (upd_ne h (by decide))
                    exact ⟨g6, e6, fun h19 => r6 (by rw [upd_other (by decide)] at h19; exact h19)⟩), (kp f7), (kp f8), (kp f9), (kp f10), (kp f11), (kp f12), (kp f13), (kp f14), (kp f15), (kp f16), (kp f17), (kp f18), (fun h => by
                    obtain ⟨A8, c8, e8, r8⟩ := f19 (upd_ne h (by decide))
                    exact ⟨A8, c8, e8, fun h22 => r8 (by rw [upd_other (by decide)] at h22; exact h22)⟩), (fun h => ⟨(f20 (upd_ne h (by decide))).1, upd_mono (f20 (upd_ne h (by decide))).2⟩), (fun h => by
                    obtain ⟨⟨g12, e12, r12⟩, l12⟩ := f21 (upd_ne h (by decide))
                    exact ⟨⟨g12, e12, fun h22 => r12 (by rw [upd_other (by decide)] at h22; exact h22)⟩, upd_mono l12⟩), (fun h => absurd (I1.get (i := 4) (j := 3) (by decide) (I1.get (i := 5) (j := 4) (by decide) (I1.get (i := 20) (j := 5) (by decide) (I1.get (i := 21) (j := 20) (by decide) (I1.get (i := 22) (j := 21) (by decide) (upd_ne h (by decide))))))) (by rw [hL]; decide)), (kp f23), (fun h => absurd (f24 (upd_ne h (by decide)) 3 (by decide)) (by rw [hL]; decide))⟩
                · obtain rfl := Option.some.inj ho
                  have g2 := f2 (hd ⟨2, .data⟩ (by simp) rfl)
                  have g3 := f3 (hd ⟨3, .data⟩ (by simp) rfl)
                  subst g2
                  subst g3
                  have hL22 : L 22 = false := by
                    cases e : L 22
                    · rfl
                    · exact absurd (I1.get (i := 5) (j := 4) (by decide) (I1.get (i := 20) (j := 5) (by decide) (I1.get (i := 21) (j := 20) (by decide) (I1.get (i := 22) (j := 21) (by decide) e)))) (by rw [hL]; decide)
                  have J := I0 hL22
                  refine wpOp_step rfl (fun K' hK => ?_)
                  go_simp
                  refine hK _ _ ?_
                  exact ⟨_, _, _, _, _, _, _, _, _, _, _, _, _, _, _, _, _, _, _, _, _, _, _, _, rfl, (fun _ => J), (Closed.step I1 (by
                    intro p hp e
                    simp only [List.mem_cons, List.not_mem_nil, or_false] at hp
                    rcases hp with rfl | rfl | rfl | rfl | rfl | rfl | rfl | rfl | rfl | rfl | rfl | rfl | rfl | rfl | rfl | rfl | rfl | rfl | rfl | rfl | rfl | rfl | rfl
                    · exact absurd e (by decide)
                    · exact hd ⟨2, .data⟩ (by simp) rfl
                    · exact hd ⟨3, .data⟩ (by simp) rfl
                    · exact absurd e (by decide)
                    · exact absurd e (by decide)
                    · exact absurd e (by decide)
                    · exact absurd e (by decide)
                    · exact absurd e (by decide)
                    · exact absurd e (by decide)
                    · exact absurd e (by decide)
                    · exact absurd e (by decide)
                    · exact absurd e (by decide)
                    · exact absurd e (by decide)
                    · exact absurd e (by decide)
                    · exact absurd e (by decide)
                    · exact absurd e (by decide)
                    · exact absurd e (by decide)
                    · exact absurd e (by decide)
                    · exact absurd e (by decide)
                    · exact absurd e (by decide)
                    · exact absurd e (by decide)
                    · exact absurd e (by decide)
                    · exact absurd e (by decide))), (kp f0), (kp f1), (kp f2), (kp f3), (fun _ => rfl), (kp f5), (fun h => by
                    obtain ⟨g6, e6, r6⟩ := f6 (upd_ne h (by decide))
                    exact ⟨g6, e6, fun h19 => r6 (by rw [upd_other (by decide)] at h19; exact h19)⟩), (kp f7), (kp f8), (kp f9), (kp f10), (kp f11), (kp f12), (kp f13), (kp f14), (kp f15), (kp f16), (kp f17), (kp f18), (fun h => by
                    obtain ⟨A8, c8, e8, r8⟩ := f19 (upd_ne h (by decide))
                    exact ⟨A8, c8, e8, fun h22 => r8 (by rw [upd_other (by decide)] at h22; exact h22)⟩), (fun h => ⟨(f20 (upd_ne h (by decide))).1, upd_mono (f20 (upd_ne h (by decide))).2⟩), (fun h => by
                    obtain ⟨⟨g12, e12, r12⟩, l12⟩ := f21 (upd_ne h (by decide))
                    exact ⟨⟨g12, e12, fun h22 => r12 (by rw [upd_other (by decide)] at h22; exact h22)⟩, upd_mono l12⟩), (fun h => absurd (I1.get (i := 5) (j := 4) (by decide) (I1.get (i := 20) (j := 5) (by decide) (I1.get (i := 21) (j := 20) (by decide) (I1.get (i := 22) (j := 21) (by decide) (upd_ne h (by decide)))))) (by rw [hL]; decide)), (kp f23), (fun h => absurd (f24 (upd_ne h (by decide)) 4 (by decide)) (by rw [hL]; decide))⟩
                · obtain rfl := Option.some.inj ho
                  have g4 := f4 (hd ⟨4, .data⟩ (by simp) rfl)
                  subst g4
                  have hL22 : L 22 = false := by
                    cases e : L 22
                    · rfl
                    · exact absurd (I1.get (i := 20) (j := 5) (by decide) (I1.get (i := 21) (j := 20) (by decide) (I1.get (i := 22) (j := 21) (by decide) e))) (by rw [hL]; decide)
                  have J := I0 hL22
                  have z3 : ww.cell? ⟨g, o + k, none⟩ = some (.int .i64 x) := (J.cell (p := ⟨g, o + k, none⟩) hgl).trans y0
                  refine wpOp_step rfl (fun K' hK => ?_)
                  go_simp
                  refine hK _ _ ?_
                  exact ⟨_, _, _, _, _, _, _, _, _, _, _, _, _, _, _, _, _, _, _, _, _, _, _, _, rfl, (fun _ => J), (Closed.step I1 (by
                    intro p hp e
                    simp only [List.mem_cons, List.not_mem_nil, or_false] at hp
                    rcases hp with rfl | rfl | rfl | rfl | rfl | rfl | rfl | rfl | rfl | rfl | rfl | rfl | rfl | rfl | rfl | rfl | rfl | rfl | rfl | rfl | rfl | rfl | rfl
                    · exact absurd e (by decide)
                    · exact absurd e (by decide)
                    · exact absurd e (by decide)
                    · exact hd ⟨4, .data⟩ (by simp) rfl
                    · exact absurd e (by decide)
                    · exact absurd e (by decide)
                    · exact absurd e (by decide)
                    · exact absurd e (by decide)
                    · exact absurd e (by decide)
                    · exact absurd e (by decide)
                    · exact absurd e (by decide)
                    · exact absurd e (by decide)
                    · exact absurd e (by decide)
                    · exact absurd e (by decide)
                    · exact absurd e (by decide)
                    · exact absurd e (by decide)
                    · exact absurd e (by decide)
                    · exact absurd e (by decide)
                    · exact absurd e (by decide)
                    · exact absurd e (by decide)
                    · exact absurd e (by decide)
                    · exact absurd e (by decide)
                    · exact absurd e (by decide))), (kp f0), (kp f1), (kp f2), (kp f3), (kp f4), (fun _ => rfl), (fun h => by
                    obtain ⟨g6, e6, r6⟩ := f6 (upd_ne h (by decide))
                    exact ⟨g6, e6, fun h19 => r6 (by rw [upd_other (by decide)] at h19; exact h19)⟩), (kp f7), (kp f8), (kp f9), (kp f10), (kp f11), (kp f12), (kp f13), (kp f14), (kp f15), (kp f16), (kp f17), (kp f18), (fun h => by
                    obtain ⟨A8, c8, e8, r8⟩ := f19 (upd_ne h (by decide))
                    exact ⟨A8, c8, e8, fun h22 => r8 (by rw [upd_other (by decide)] at h22; exact h22)⟩), (fun h => ⟨(f20 (upd_ne h (by decide))).1, upd_mono (f20 (upd_ne h (by decide))).2⟩), (fun h => by
                    obtain ⟨⟨g12, e12, r12⟩, l12⟩ := f21 (upd_ne h (by decide))
                    exact ⟨⟨g12, e12, fun h22 => r12 (by rw [upd_other (by decide)] at h22; exact h22)⟩, upd_mono l12⟩), (fun h => absurd (I1.get (i := 20) (j := 5) (by decide) (I1.get (i := 21) (j := 20) (by decide) (I1.get (i := 22) (j := 21) (by decide) (upd_ne h (by decide))))) (by rw [hL]; decide)), (kp f23), (fun h => absurd (f24 (upd_ne h (by decide)) 5 (by decide)) (by rw [hL]; decide))⟩
                · obtain rfl := Option.some.inj ho
                  have hL22 : L 22 = false := by
                    cases e : L 22
                    · rfl
                    · exact absurd (I1.get (i := 19) (j := 6) (by decide) (I1.get (i := 22) (j := 19) (by decide) e)) (by rw [hL]; decide)
                  have J := I0 hL22
                  have b5 : Below ww.heap.size ww (ww.alloc (.cells #[] 3)) := (Below.refl _ _).alloc (Nat.le_refl _) _
                  have on := own_noneI ww wr.heap.size J.size
                  refine wpOp_step rfl (fun K' hK => ?_)
                  go_simp
                  refine hK _ _ ?_
                  exact ⟨_, _, _, _, _, _, _, _, _, _, _, _, _, _, _, _, _, _, _, _, _, _, _, _, rfl, (fun _ => J.alloc J.size _), (Closed.step I1 (by
                    intro p hp e
                    simp only [List.mem_cons, List.not_mem_nil, or_false] at hp
                    rcases hp with rfl | rfl | rfl | rfl | rfl | rfl | rfl | rfl | rfl | rfl | rfl | rfl | rfl | rfl | rfl | rfl | rfl | rfl | rfl | rfl | rfl | rfl | rfl
                    · exact absurd e (by decide)
                    · exact absurd e (by decide)
                    · exact absurd e (by decide)
                    · exact absurd e (by decide)
                    · exact absurd e (by decide)
                    · exact absurd e (by decide)
                    · exact absurd e (by decide)
                    · exact absurd e (by decide)
                    · exact absurd e (by decide)
                    · exact absurd e (by decide)
                    · exact absurd e (by decide)
                    · exact absurd e (by decide)
                    · exact absurd e (by decide)
                    · exact absurd e (by decide)
                    · exact absurd e (by decide)
                    · exact absurd e (by decide)
                    · exact absurd e (by decide)
                    · exact absurd e (by decide)
                    · exact absurd e (by decide)
                    · exact absurd e (by decide)
                    · exact absurd e (by decide)
                    · exact absurd e (by decide)
                    · exact absurd e (by decide))), (kp f0), (kp f1), (kp f2), (kp f3), (kp f4), (kp f5), (fun _ => ⟨_, rfl, fun _ => on⟩), (kp f7), (kp f8), (kp f9), (kp f10), (kp f11), (kp f12), (kp f13), (kp f14), (kp f15), (kp f16), (kp f17), (kp f18), (fun h => absurd (I1.get (i := 19) (j := 6) (by decide) (upd_ne h (by decide))) (by rw [hL]; decide)), (fun h => ⟨(f20 (upd_ne h (by decide))).1, upd_mono (f20 (upd_ne h (by decide))).2⟩), (fun h => absurd (I1.get (i := 19) (j := 6) (by decide) (I1.get (i := 20) (j := 19) (by decide) (I1.get (i := 21) (j := 20) (by decide) (upd_ne h (by decide))))) (by rw [hL]; decide)), (fun h => absurd (I1.get (i := 19) (j := 6) (by decide) (I1.get (i := 22) (j := 19) (by decide) (upd_ne h (by decide)))) (by rw [hL]; decide)), (kp f23), (fun h => absurd (f24 (upd_ne h (by decide)) 6 (by decide)) (by rw [hL]; decide))⟩
                · obtain rfl := Option.some.inj ho
                  have hL22 : L 22 = false := by
                    cases e : L 22
                    · rfl
                    · exact absurd (I1.get (i := 18) (j := 7) (by decide) (I1.get (i := 19) (j := 18) (by decide) (I1.get (i := 22) (j := 19) (by decide) e))) (by rw [hL]; decide)
                  have J := I0 hL22
                  refine wpOp_step rfl (fun K' hK => ?_)
                  go_simp
                  refine hK _ _ ?_
                  exact ⟨_, _, _, _, _, _, _, _, _, _, _, _, _, _, _, _, _, _, _, _, _, _, _, _, rfl, (fun _ => J), (Closed.step I1 (by
                    intro p hp e
                    simp only [List.mem_cons, List.not_mem_nil, or_false] at hp
                    rcases hp with rfl | rfl | rfl | rfl | rfl | rfl | rfl | rfl | rfl | rfl | rfl | rfl | rfl | rfl | rfl | rfl | rfl | rfl | rfl | rfl | rfl | rfl | rfl
                    · exact absurd e (by decide)
                    · exact absurd e (by decide)
                    · exact absurd e (by decide)
                    · exact absurd e (by decide)
                    · exact absurd e (by decide)
                    · exact absurd e (by decide)
                    · exact absurd e (by decide)
                    · exact absurd e (by decide)
                    · exact absurd e (by decide)
                    · exact absurd e (by decide)
                    · exact absurd e (by decide)
                    · exact absurd e (by decide)
                    · exact absurd e (by decide)
                    · exact absurd e (by decide)
                    · exact absurd e (by decide)
                    · exact absurd e (by decide)
                    · exact absurd e (by decide)
                    · exact absurd e (by decide)
                    · exact absurd e (by decide)
                    · exact absurd e (by decide)
                    · exact absurd e (by decide)
                    · exact absurd e (by decide)
                    · exact absurd e (by decide))), (kp f0), (kp f1), (kp f2), (kp f3), (kp f4), (kp f5), (fun h => by
                    obtain ⟨g6, e6, r6⟩ := f6 (upd_ne h (by decide))
                    exact ⟨g6, e6, fun h19 => r6 (by rw [upd_other (by decide)] at h19; exact h19)⟩), (fun _ => rfl), (kp f8), (kp f9), (kp f10), (kp f11), (kp f12), (kp f13), (kp f14), (kp f15), (kp f16), (kp f17), (kp f18), (fun h => by
                    obtain ⟨A8, c8, e8, r8⟩ := f19 (upd_ne h (by decide))
                    exact ⟨A8, c8, e8, fun h22 => r8 (by rw [upd_other (by decide)] at h22; exact h22)⟩), (fun h => ⟨(f20 (upd_ne h (by decide))).1, upd_mono (f20 (upd_ne h (by decide))).2⟩), (fun h => by
                    obtain ⟨⟨g12, e12, r12⟩, l12⟩ := f21 (upd_ne h (by decide))
                    exact ⟨⟨g12, e12, fun h22 => r12 (by rw [upd_other (by decide)] at h22; exact h22)⟩, upd_mono l12⟩), (fun h => absurd (I1.get (i := 18) (j := 7) (by decide) (I1.get (i := 19) (j := 18) (by decide) (I1.get (i := 22) (j := 19) (by decide) (upd_ne h (by decide))))) (by rw [hL]; decide)), (kp f23), (fun h => absurd (f24 (upd_ne h (by decide)) 7 (by decide)) (by rw [hL]; decide))⟩
                · obtain rfl := Option.some.inj ho
                  have hL22 : L 22 = false := by
                    cases e : L 22
                    · rfl
                    · exact absurd (I1.get (i := 9) (j := 8) (by decide) (I1.get (i := 18) (j := 9) (by decide) (I1.get (i := 19) (j := 18) (by decide) (I1.get (i := 22) (j := 19) (by decide) e)))) (by rw [hL]; decide)
                  have J := I0 hL22
                  refine wpOp_step rfl (fun K' hK => ?_)
                  go_simp
                  refine hK _ _ ?_
                  exact ⟨_, _, _, _, _, _, _, _, _, _, _, _, _, _, _, _, _, _, _, _, _, _, _, _, rfl, (fun _ => J), (Closed.step I1 (by
                    intro p hp e
                    simp only [List.mem_cons, List.not_mem_nil, or_false] at hp
                    rcases hp with rfl | rfl | rfl | rfl | rfl | rfl | rfl | rfl | rfl | rfl | rfl | rfl | rfl | rfl | rfl | rfl | rfl | rfl | rfl | rfl | rfl | rfl | rfl
                    · exact absurd e (by decide)
                    · exact absurd e (by decide)
                    · exact absurd e (by decide)
                    · exact absurd e (by decide)
                    · exact absurd e (by decide)
                    · exact absurd e (by decide)
                    · exact absurd e (by decide)
                    · exact absurd e (by decide)
                    · exact absurd e (by decide)
                    · exact absurd e (by decide)
                    · exact absurd e (by decide)
                    · exact absurd e (by decide)
                    · exact absurd e (by decide)
                    · exact absurd e (by decide)
                    · exact absurd e (by decide)
                    · exact absurd e (by decide)
                    · exact absurd e (by decide)
                    · exact absurd e (by decide)
                    · exact absurd e (by decide)
                    · exact absurd e (by decide)
                    · exact absurd e (by decide)
                    · exact absurd e (by decide)
                    · exact absurd e (by decide))), (kp f0), (kp f1), (kp f2), (kp f3), (kp f4), (kp f5), (fun h => by
                    obtain ⟨g6, e6, r6⟩ := f6 (upd_ne h (by decide))
                    exact ⟨g6, e6, fun h19 => r6 (by rw [upd_other (by decide)] at h19; exact h19)⟩), (kp f7), (fun _ => rfl), (kp f9), (kp f10), (kp f11), (kp f12), (kp f13), (kp f14), (kp f15), (kp f16), (kp f17), (kp f18), (fun h => by
                    obtain ⟨A8, c8, e8, r8⟩ := f19 (upd_ne h (by decide))
                    exact ⟨A8, c8, e8, fun h22 => r8 (by rw [upd_other (by decide)] at h22; exact h22)⟩), (fun h => ⟨(f20 (upd_ne h (by decide))).1, upd_mono (f20 (upd_ne h (by decide))).2⟩), (fun h => by
                    obtain ⟨⟨g12, e12, r12⟩, l12⟩ := f21 (upd_ne h (by decide))
                    exact ⟨⟨g12, e12, fun h22 => r12 (by rw [upd_other (by decide)] at h22; exact h22)⟩, upd_mono l12⟩), (fun h => absurd (I1.get (i := 9) (j := 8) (by decide) (I1.get (i := 18) (j := 9) (by decide) (I1.get (i := 19) (j := 18) (by decide) (I1.get (i := 22) (j := 19) (by decide) (upd_ne h (by decide)))))) (by rw [hL]; decide)), (kp f23), (fun h => absurd (f24 (upd_ne h (by decide)) 8 (by decide)) (by rw [hL]; decide))⟩
                · obtain rfl := Option.some.inj ho
                  have g8 := f8 (hd ⟨8, .data⟩ (by simp) rfl)
                  subst g8
                  have hL22 : L 22 = false := by
                    cases e : L 22
                    · rfl
                    · exact absurd (I1.get (i := 18) (j := 9) (by decide) (I1.get (i := 19) (j := 18) (by decide) (I1.get (i := 22) (j := 19) (by decide) e))) (by rw [hL]; decide)
                  have J := I0 hL22
                  refine wpOp_step rfl (fun K' hK => ?_)
                  go_simp
                  refine hK _ _ ?_
                  exact ⟨_, _, _, _, _, _, _, _, _, _, _, _, _, _, _, _, _, _, _, _, _, _, _, _, rfl, (fun _ => J), (Closed.step I1 (by
                    intro p hp e
                    simp only [List.mem_cons, List.not_mem_nil, or_false] at hp
                    rcases hp with rfl | rfl | rfl | rfl | rfl | rfl | rfl | rfl | rfl | rfl | rfl | rfl | rfl | rfl | rfl | rfl | rfl | rfl | rfl | rfl | rfl | rfl | rfl
                    · exact absurd e (by decide)
                    · exact absurd e (by decide)
                    · exact absurd e (by decide)
                    · exact absurd e (by decide)
                    · exact hd ⟨8, .data⟩ (by simp) rfl
                    · exact absurd e (by decide)
                    · exact absurd e (by decide)
                    · exact absurd e (by decide)
                    · exact absurd e (by decide)
                    · exact absurd e (by decide)
                    · exact absurd e (by decide)
                    · exact absurd e (by decide)
                    · exact absurd e (by decide)
                    · exact absurd e (by decide)
                    · exact absurd e (by decide)
                    · exact absurd e (by decide)
                    · exact absurd e (by decide)
                    · exact absurd e (by decide)
                    · exact absurd e (by decide)
                    · exact absurd e (by decide)
                    · exact absurd e (by decide)
                    · exact absurd e (by decide)
                    · exact absurd e (by decide))), (kp f0), (kp f1), (kp f2), (kp f3), (kp f4), (kp f5), (fun h => by
                    obtain ⟨g6, e6, r6⟩ := f6 (upd_ne h (by decide))
                    exact ⟨g6, e6, fun h19 => r6 (by rw [upd_other (by decide)] at h19; exact h19)⟩), (kp f7), (kp f8), (fun _ => rfl), (kp f10), (kp f11), (kp f12), (kp f13), (kp f14), (kp f15), (kp f16), (kp f17), (kp f18), (fun h => by
                    obtain ⟨A8, c8, e8, r8⟩ := f19 (upd_ne h (by decide))
                    exact ⟨A8, c8, e8, fun h22 => r8 (by rw [upd_other (by decide)] at h22; exact h22)⟩), (fun h => ⟨(f20 (upd_ne h (by decide))).1, upd_mono (f20 (upd_ne h (by decide))).2⟩), (fun h => by
                    obtain ⟨⟨g12, e12, r12⟩, l12⟩ := f21 (upd_ne h (by decide))
                    exact ⟨⟨g12, e12, fun h22 => r12 (by rw [upd_other (by decide)] at h22; exact h22)⟩, upd_mono l12⟩), (fun h => absurd (I1.get (i := 18) (j := 9) (by decide) (I1.get (i := 19) (j := 18) (by decide) (I1.get (i := 22) (j := 19) (by decide) (upd_ne h (by decide))))) (by rw [hL]; decide)), (kp f23), (fun h => absurd (f24 (upd_ne h (by decide)) 9 (by decide)) (by rw [hL]; decide))⟩
                · obtain rfl := Option.some.inj ho
                  have hL22 : L 22 = false := by
                    cases e : L 22
                    · rfl
                    · exact absurd (I1.get (i := 11) (j := 10) (by decide) (I1.get (i := 17) (j := 11) (by decide) (I1.get (i := 18) (j := 17) (by decide) (I1.get (i := 19) (j := 18) (by decide) (I1.get (i := 22) (j := 19) (by decide) e))))) (by rw [hL]; decide)
                  have J := I0 hL22
                  refine wpOp_step rfl (fun K' hK => ?_)
                  go_simp
                  refine hK _ _ ?_
                  exact ⟨_, _, _, _, _, _, _, _, _, _, _, _, _, _, _, _, _, _, _, _, _, _, _, _, rfl, (fun _ => J), (Closed.step I1 (by
                    intro p hp e
                    simp only [List.mem_cons, List.not_mem_nil, or_false] at hp
                    rcases hp with rfl | rfl | rfl | rfl | rfl | rfl | rfl | rfl | rfl | rfl | rfl | rfl | rfl | rfl | rfl | rfl | rfl | rfl | rfl | rfl | rfl | rfl | rfl
                    · exact absurd e (by decide)
                    · exact absurd e (by decide)
                    · exact absurd e (by decide)
                    · exact absurd e (by decide)
                    · exact absurd e (by decide)
                    · exact absurd e (by decide)
                    · exact absurd e (by decide)
                    · exact absurd e (by decide)
                    · exact absurd e (by decide)
                    · exact absurd e (by decide)
                    · exact absurd e (by decide)
                    · exact absurd e (by decide)
                    · exact absurd e (by decide)
                    · exact absurd e (by decide)
                    · exact absurd e (by decide)
                    · exact absurd e (by decide)
                    · exact absurd e (by decide)
                    · exact absurd e (by decide)
                    · exact absurd e (by decide)
                    · exact absurd e (by decide)
                    · exact absurd e (by decide)
                    · exact absurd e (by decide)
                    · exact absurd e (by decide))), (kp f0), (kp f1), (kp f2), (kp f3), (kp f4), (kp f5), (fun h => by
                    obtain ⟨g6, e6, r6⟩ := f6 (upd_ne h (by decide))
                    exact ⟨g6, e6, fun h19 => r6 (by rw [upd_other (by decide)] at h19; exact h19)⟩), (kp f7), (kp f8), (kp f9), (fun _ => rfl), (kp f11), (kp f12), (kp f13), (kp f14), (kp f15), (kp f16), (kp f17), (kp f18), (fun h => by
                    obtain ⟨A8, c8, e8, r8⟩ := f19 (upd_ne h (by decide))
                    exact ⟨A8, c8, e8, fun h22 => r8 (by rw [upd_other (by decide)] at h22; exact h22)⟩), (fun h => ⟨(f20 (upd_ne h (by decide))).1, upd_mono (f20 (upd_ne h (by decide))).2⟩), (fun h => by
                    obtain ⟨⟨g12, e12, r12⟩, l12⟩ := f21 (upd_ne h (by decide))
                    exact ⟨⟨g12, e12, fun h22 => r12 (by rw [upd_other (by decide)] at h22; exact h22)⟩, upd_mono l12⟩), (fun h => absurd (I1.get (i := 11) (j := 10) (by decide) (I1.get (i := 17) (j := 11) (by decide) (I1.get (i := 18) (j := 17) (by decide) (I1.get (i := 19) (j := 18) (by decide) (I1.get (i := 22) (j := 19) (by decide) (upd_ne h (by decide))))))) (by rw [hL]; decide)), (kp f23), (fun h => absurd (f24 (upd_ne h (by decide)) 10 (by decide)) (by rw [hL]; decide))⟩
                · obtain rfl := Option.some.inj ho
                  have g10 := f10 (hd ⟨10, .data⟩ (by simp) rfl)
                  subst g10
                  have hL22 : L 22 = false := by
                    cases e : L 22
                    · rfl
                    · exact absurd (I1.get (i := 17) (j := 11) (by decide) (I1.get (i := 18) (j := 17) (by decide) (I1.get (i := 19) (j := 18) (by decide) (I1.get (i := 22) (j := 19) (by decide) e)))) (by rw [hL]; decide)
                  have J := I0 hL22
                  refine wpOp_step rfl (fun K' hK => ?_)
                  go_simp
                  refine hK _ _ ?_
                  exact ⟨_, _, _, _, _, _, _, _, _, _, _, _, _, _, _, _, _, _, _, _, _, _, _, _, rfl, (fun _ => J), (Closed.step I1 (by
                    intro p hp e
                    simp only [List.mem_cons, List.not_mem_nil, or_false] at hp
                    rcases hp with rfl | rfl | rfl | rfl | rfl | rfl | rfl | rfl | rfl | rfl | rfl | rfl | rfl | rfl | rfl | rfl | rfl | rfl | rfl | rfl | rfl | rfl | rfl
                    · exact absurd e (by decide)
                    · exact absurd e (by decide)
                    · exact absurd e (by decide)
                    · exact absurd e (by decide)
                    · exact absurd e (by decide)
                    · exact hd ⟨10, .data⟩ (by simp) rfl
                    · exact absurd e (by decide)
                    · exact absurd e (by decide)
                    · exact absurd e (by decide)
                    · exact absurd e (by decide)
                    · exact absurd e (by decide)
                    · exact absurd e (by decide)
                    · exact absurd e (by decide)
                    · exact absurd e (by decide)
                    · exact absurd e (by decide)
                    · exact absurd e (by decide)
                    · exact absurd e (by decide)
                    · exact absurd e (by decide)
                    · exact absurd e (by decide)
                    · exact absurd e (by decide)
                    · exact absurd e (by decide)
                    · exact absurd e (by decide)
                    · exact absurd e (by decide))), (kp f0), (kp f1), (kp f2), (kp f3), (kp f4), (kp f5), (fun h => by
                    obtain ⟨g6, e6, r6⟩ := f6 (upd_ne h (by decide))
                    exact ⟨g6, e6, fun h19 => r6 (by rw [upd_other (by decide)] at h19; exact h19)⟩), (kp f7), (kp f8), (kp f9), (kp f10), (fun _ => rfl), (kp f12), (kp f13), (kp f14), (kp f15), (kp f16), (kp f17), (kp f18), (fun h => by
                    obtain ⟨A8, c8, e8, r8⟩ := f19 (upd_ne h (by decide))
                    exact ⟨A8, c8, e8, fun h22 => r8 (by rw [upd_other (by decide)] at h22; exact h22)⟩), (fun h => ⟨(f20 (upd_ne h (by decide))).1, upd_mono (f20 (upd_ne h (by decide))).2⟩), (fun h => by
                    obtain ⟨⟨g12, e12, r12⟩, l12⟩ := f21 (upd_ne h (by decide))
                    exact ⟨⟨g12, e12, fun h22 => r12 (by rw [upd_other (by decide)] at h22; exact h22)⟩, upd_mono l12⟩), (fun h => absurd (I1.get (i := 17) (j := 11) (by decide) (I1.get (i := 18) (j := 17) (by decide) (I1.get (i := 19) (j := 18) (by decide) (I1.get (i := 22) (j := 19) (by decide) (upd_ne h (by decide)))))) (by rw [hL]; decide)), (kp f23), (fun h => absurd (f24 (upd_ne h (by decide)) 11 (by decide)) (by rw [hL]; decide))⟩
                · obtain rfl := Option.some.inj ho
                  have hL22 : L 22 = false := by
                    cases e : L 22
                    · rfl
                    · exact absurd (I1.get (i := 15) (j := 12) (by decide) (I1.get (i := 16) (j := 15) (by decide) (I1.get (i := 17) (j := 16) (by decide) (I1.get (i := 18) (j := 17) (by decide) (I1.get (i := 19) (j := 18) (by decide) (I1.get (i := 22) (j := 19) (by decide) e)))))) (by rw [hL]; decide)
                  have J := I0 hL22
                  refine wpOp_step rfl (fun K' hK => ?_)
                  go_simp
                  refine hK _ _ ?_
                  exact ⟨_, _, _, _, _, _, _, _, _, _, _, _, _, _, _, _, _, _, _, _, _, _, _, _, rfl, (fun _ => J), (Closed.step I1 (by
                    intro p hp e
                    simp only [List.mem_cons, List.not_mem_nil, or_false] at hp
                    rcases hp with rfl | rfl | rfl | rfl | rfl | rfl | rfl | rfl | rfl | rfl | rfl | rfl | rfl | rfl | rfl | rfl | rfl | rfl | rfl | rfl | rfl | rfl | rfl
                    · exact absurd e (by decide)
                    · exact absurd e (by decide)
                    · exact absurd e (by decide)
                    · exact absurd e (by decide)
                    · exact absurd e (by decide)
                    · exact absurd e (by decide)
                    · exact absurd e (by decide)
                    · exact absurd e (by decide)
                    · exact absurd e (by decide)
                    · exact absurd e (by decide)
                    · exact absurd e (by decide)
                    · exact absurd e (by decide)
                    · exact absurd e (by decide)
                    · exact absurd e (by decide)
                    · exact absurd e (by decide)
                    · exact absurd e (by decide)
                    · exact absurd e (by decide)
                    · exact absurd e (by decide)
                    · exact absurd e (by decide)
                    · exact absurd e (by decide)
                    · exact absurd e (by decide)
                    · exact absurd e (by decide)
                    · exact absurd e (by decide))), (kp f0), (kp f1), (kp f2), (kp f3), (kp f4), (kp f5), (fun h => by
                    obtain ⟨g6, e6, r6⟩ := f6 (upd_ne h (by decide))
                    exact ⟨g6, e6, fun h19 => r6 (by rw [upd_other (by decide)] at h19; exact h19)⟩), (kp f7), (kp f8), (kp f9), (kp f10), (kp f11), (fun _ => rfl), (kp f13), (kp f14), (kp f15), (kp f16), (kp f17), (kp f18), (fun h => by
                    obtain ⟨A8, c8, e8, r8⟩ := f19 (upd_ne h (by decide))
                    exact ⟨A8, c8, e8, fun h22 => r8 (by rw [upd_other (by decide)] at h22; exact h22)⟩), (fun h => ⟨(f20 (upd_ne h (by decide))).1, upd_mono (f20 (upd_ne h (by decide))).2⟩), (fun h => by
                    obtain ⟨⟨g12, e12, r12⟩, l12⟩ := f21 (upd_ne h (by decide))
                    exact ⟨⟨g12, e12, fun h22 => r12 (by rw [upd_other (by decide)] at h22; exact h22)⟩, upd_mono l12⟩), (fun h => absurd (I1.get (i := 15) (j := 12) (by decide) (I1.get (i := 16) (j := 15) (by decide) (I1.get (i := 17) (j := 16) (by decide) (I1.get (i := 18) (j := 17) (by decide) (I1.get (i := 19) (j := 18) (by decide) (I1.get (i := 22) (j := 19) (by decide) (upd_ne h (by decide)))))))) (by rw [hL]; decide)), (kp f23), (fun h => absurd (f24 (upd_ne h (by decide)) 12 (by decide)) (by rw [hL]; decide))⟩
                · obtain rfl := Option.some.inj ho
                  have hL22 : L 22 = false := by
                    cases e : L 22
                    · rfl
                    · exact absurd (I1.get (i := 14) (j := 13) (by decide) (I1.get (i := 15) (j := 14) (by decide) (I1.get (i := 16) (j := 15) (by decide) (I1.get (i := 17) (j := 16) (by decide) (I1.get (i := 18) (j := 17) (by decide) (I1.get (i := 19) (j := 18) (by decide) (I1.get (i := 22) (j := 19) (by decide) e))))))) (by rw [hL]; decide)
                  have J := I0 hL22
                  refine wpOp_step rfl (fun K' hK => ?_)
                  go_simp
                  refine hK _ _ ?_
                  exact ⟨_, _, _, _, _, _, _, _, _, _, _, _, _, _, _, _, _, _, _, _, _, _, _, _, rfl, (fun _ => J), (Closed.step I1 (by
                    intro p hp e
                    simp only [List.mem_cons, List.not_mem_nil, or_false] at hp
                    rcases hp with rfl | rfl | rfl | rfl | rfl | rfl | rfl | rfl | rfl | rfl | rfl | rfl | rfl | rfl | rfl | rfl | rfl | rfl | rfl | rfl | rfl | rfl | rfl
                    · exact absurd e (by decide)
                    · exact absurd e (by decide)
                    · exact absurd e (by decide)
                    · exact absurd e (by decide)
                    · exact absurd e (by decide)
                    · exact absurd e (by decide)
                    · exact absurd e (by decide)
                    · exact absurd e (by decide)
                    · exact absurd e (by decide)
                    · exact absurd e (by decide)
                    · exact absurd e (by decide)
                    · exact absurd e (by decide)
                    · exact absurd e (by decide)
                    · exact absurd e (by decide)
                    · exact absurd e (by decide)
                    · exact absurd e (by decide)
                    · exact absurd e (by decide)
                    · exact absurd e (by decide)
                    · exact absurd e (by decide)
                    · exact absurd e (by decide)
                    · exact absurd e (by decide)
                    · exact absurd e (by decide)
                    · exact absurd e (by decide))), (kp f0), (kp f1), (kp f2), (kp f3), (kp f4), (kp f5), (fun h => by
                    obtain ⟨g6, e6, r6⟩ := f6 (upd_ne h (by decide))
                    exact ⟨g6, e6, fun h19 => r6 (by rw [upd_other (by decide)] at h19; exact h19)⟩), (kp f7), (kp f8), (kp f9), (kp f10), (kp f11), (kp f12), (fun _ => rfl), (kp f14), (kp f15), (kp f16), (kp f17), (kp f18), (fun h => by
                    obtain ⟨A8, c8, e8, r8⟩ := f19 (upd_ne h (by decide))
                    exact ⟨A8, c8, e8, fun h22 => r8 (by rw [upd_other (by decide)] at h22; exact h22)⟩), (fun h => ⟨(f20 (upd_ne h (by decide))).1, upd_mono (f20 (upd_ne h (by decide))).2⟩), (fun h => by
                    obtain ⟨⟨g12, e12, r12⟩, l12⟩ := f21 (upd_ne h (by decide))
                    exact ⟨⟨g12, e12, fun h22 => r12 (by rw [upd_other (by decide)] at h22; exact h22)⟩, upd_mono l12⟩), (fun h => absurd (I1.get (i := 14) (j := 13) (by decide) (I1.get (i := 15) (j := 14) (by decide) (I1.get (i := 16) (j := 15) (by decide) (I1.get (i := 17) (j := 16) (by decide) (I1.get (i := 18) (j := 17) (by decide) (I1.get (i := 19) (j := 18) (by decide) (I1.get (i := 22) (j := 19) (by decide) (upd_ne h (by decide))))))))) (by rw [hL]; decide)), (kp f23), (fun h => absurd (f24 (upd_ne h (by decide)) 13 (by decide)) (by rw [hL]; decide))⟩
                · obtain rfl := Option.some.inj ho
                  have g13 := f13 (hd ⟨13, .data⟩ (by simp) rfl)
                  subst g13
                  have hL22 : L 22 = false := by
                    cases e : L 22
                    · rfl
                    · exact absurd (I1.get (i := 15) (j := 14) (by decide) (I1.get (i := 16) (j := 15) (by decide) (I1.get (i := 17) (j := 16) (by decide) (I1.get (i := 18) (j := 17) (by decide) (I1.get (i := 19) (j := 18) (by decide) (I1.get (i := 22) (j := 19) (by decide) e)))))) (by rw [hL]; decide)
                  have J := I0 hL22
                  refine wpOp_step rfl (fun K' hK => ?_)
                  go_simp
                  refine hK _ _ ?_
                  exact ⟨_, _, _, _, _, _, _, _, _, _, _, _, _, _, _, _, _, _, _, _, _, _, _, _, rfl, (fun _ => J), (Closed.step I1 (by
                    intro p hp e
                    simp only [List.mem_cons, List.not_mem_nil, or_false] at hp
                    rcases hp with rfl | rfl | rfl | rfl | rfl | rfl | rfl | rfl | rfl | rfl | rfl | rfl | rfl | rfl | rfl | rfl | rfl | rfl | rfl | rfl | rfl | rfl | rfl
                    · exact absurd e (by decide)
                    · exact absurd e (by decide)
                    · exact absurd e (by decide)
                    · exact absurd e (by decide)
                    · exact absurd e (by decide)
                    · exact absurd e (by decide)
                    · exact hd ⟨13, .data⟩ (by simp) rfl
                    · exact absurd e (by decide)
                    · exact absurd e (by decide)
                    · exact absurd e (by decide)
                    · exact absurd e (by decide)
                    · exact absurd e (by decide)
                    · exact absurd e (by decide)
                    · exact absurd e (by decide)
                    · exact absurd e (by decide)
                    · exact absurd e (by decide)
                    · exact absurd e (by decide)
                    · exact absurd e (by decide)
                    · exact absurd e (by decide)
                    · exact absurd e (by decide)
                    · exact absurd e (by decide)
                    · exact absurd e (by decide)
                    · exact absurd e (by decide))), (kp f0), (kp f1), (kp f2), (kp f3), (kp f4), (kp f5), (fun h => by
                    obtain ⟨g6, e6, r6⟩ := f6 (upd_ne h (by decide))
                    exact ⟨g6, e6, fun h19 => r6 (by rw [upd_other (by decide)] at h19; exact h19)⟩), (kp f7), (kp f8), (kp f9), (kp f10), (kp f11), (kp f12), (kp f13), (fun _ => rfl), (kp f15), (kp f16), (kp f17), (kp f18), (fun h => by
                    obtain ⟨A8, c8, e8, r8⟩ := f19 (upd_ne h (by decide))
                    exact ⟨A8, c8, e8, fun h22 => r8 (by rw [upd_other (by decide)] at h22; exact h22)⟩), (fun h => ⟨(f20 (upd_ne h (by decide))).1, upd_mono (f20 (upd_ne h (by decide))).2⟩), (fun h => by
                    obtain ⟨⟨g12, e12, r12⟩, l12⟩ := f21 (upd_ne h (by decide))
                    exact ⟨⟨g12, e12, fun h22 => r12 (by rw [upd_other (by decide)] at h22; exact h22)⟩, upd_mono l12⟩), (fun h => absurd (I1.get (i := 15) (j := 14) (by decide) (I1.get (i := 16) (j := 15) (by decide) (I1.get (i := 17) (j := 16) (by decide) (I1.get (i := 18) (j := 17) (by decide) (I1.get (i := 19) (j := 18) (by decide) (I1.get (i := 22) (j := 19) (by decide) (upd_ne h (by decide)))))))) (by rw [hL]; decide)), (kp f23), (fun h => absurd (f24 (upd_ne h (by decide)) 14 (by decide)) (by rw [hL]; decide))⟩
                · obtain rfl := Option.some.inj ho
                  have g12 := f12 (hd ⟨12, .data⟩ (by simp) rfl)
                  have g14 := f14 (hd ⟨14, .data⟩ (by simp) rfl)
                  subst g12
                  subst g14
                  have hL22 : L 22 = false := by
                    cases e : L 22
                    · rfl
                    · exact absurd (I1.get (i := 16) (j := 15) (by decide) (I1.get (i := 17) (j := 16) (by decide) (I1.get (i := 18) (j := 17) (by decide) (I1.get (i := 19) (j := 18) (by decide) (I1.get (i := 22) (j := 19) (by decide) e))))) (by rw [hL]; decide)
                  have J := I0 hL22
                  refine wpOp_step rfl (fun K' hK => ?_)
                  go_simp
                  refine hK _ _ ?_
                  exact ⟨_, _, _, _, _, _, _, _, _, _, _, _, _, _, _, _, _, _, _, _, _, _, _, _, rfl, (fun _ => J), (Closed.step I1 (by
                    intro p hp e
                    simp only [List.mem_cons, List.not_mem_nil, or_false] at hp
                    rcases hp with rfl | rfl | rfl | rfl | rfl | rfl | rfl | rfl | rfl | rfl | rfl | rfl | rfl | rfl | rfl | rfl | rfl | rfl | rfl | rfl | rfl | rfl | rfl
                    · exact absurd e (by decide)
                    · exact absurd e (by decide)
                    · exact absurd e (by decide)
                    · exact absurd e (by decide)
                    · exact absurd e (by decide)
                    · exact absurd e (by decide)
                    · exact absurd e (by decide)
                    · exact hd ⟨12, .data⟩ (by simp) rfl
                    · exact hd ⟨14, .data⟩ (by simp) rfl
                    · exact absurd e (by decide)
                    · exact absurd e (by decide)
                    · exact absurd e (by decide)
                    · exact absurd e (by decide)
                    · exact absurd e (by decide)
                    · exact absurd e (by decide)
                    · exact absurd e (by decide)
                    · exact absurd e (by decide)
                    · exact absurd e (by decide)
                    · exact absurd e (by decide)
                    · exact absurd e (by decide)
                    · exact absurd e (by decide)
                    · exact absurd e (by decide)
                    · exact absurd e (by decide))), (kp f0), (kp f1), (kp f2), (kp f3), (kp f4), (kp f5), (fun h => by
                    obtain ⟨g6, e6, r6⟩ := f6 (upd_ne h (by decide))
                    exact ⟨g6, e6, fun h19 => r6 (by rw [upd_other (by decide)] at h19; exact h19)⟩), (kp f7), (kp f8), (kp f9), (kp f10), (kp f11), (kp f12), (kp f13), (kp f14), (fun _ => rfl), (kp f16), (kp f17), (kp f18), (fun h => by
                    obtain ⟨A8, c8, e8, r8⟩ := f19 (upd_ne h (by decide))
                    exact ⟨A8, c8, e8, fun h22 => r8 (by rw [upd_other (by decide)] at h22; exact h22)⟩), (fun h => ⟨(f20 (upd_ne h (by decide))).1, upd_mono (f20 (upd_ne h (by decide))).2⟩), (fun h => by
                    obtain ⟨⟨g12, e12, r12⟩, l12⟩ := f21 (upd_ne h (by decide))
                    exact ⟨⟨g12, e12, fun h22 => r12 (by rw [upd_other (by decide)] at h22; exact h22)⟩, upd_mono l12⟩), (fun h => absurd (I1.get (i := 16) (j := 15) (by decide) (I1.get (i := 17) (j := 16) (by decide) (I1.get (i := 18) (j := 17) (by decide) (I1.get (i := 19) (j := 18) (by decide) (I1.get (i := 22) (j := 19) (by decide) (upd_ne h (by decide))))))) (by rw [hL]; decide)), (kp f23), (fun h => absurd (f24 (upd_ne h (by decide)) 15 (by decide)) (by rw [hL]; decide))⟩
                · obtain rfl := Option.some.inj ho
                  have g15 := f15 (hd ⟨15, .data⟩ (by simp) rfl)
                  subst g15
                  have hL22 : L 22 = false := by
                    cases e : L 22
                    · rfl
                    · exact absurd (I1.get (i := 17) (j := 16) (by decide) (I1.get (i := 18) (j := 17) (by decide) (I1.get (i := 19) (j := 18) (by decide) (I1.get (i := 22) (j := 19) (by decide) e)))) (by rw [hL]; decide)
                  have J := I0 hL22
                  have z3 : ww.cell? ⟨g, o + (k + 1), none⟩ = some (.int .i64 r) := (J.cell (p := ⟨g, o + (k + 1), none⟩) hgl).trans y1
                  refine wpOp_step rfl (fun K' hK => ?_)
                  go_simp
                  refine hK _ _ ?_
                  exact ⟨_, _, _, _, _, _, _, _, _, _, _, _, _, _, _, _, _, _, _, _, _, _, _, _, rfl, (fun _ => J), (Closed.step I1 (by
                    intro p hp e
                    simp only [List.mem_cons, List.not_mem_nil, or_false] at hp
                    rcases hp with rfl | rfl | rfl | rfl | rfl | rfl | rfl | rfl | rfl | rfl | rfl | rfl | rfl | rfl | rfl | rfl | rfl | rfl | rfl | rfl | rfl | rfl | rfl
                    · exact absurd e (by decide)
                    · exact absurd e (by decide)
                    · exact absurd e (by decide)
                    · exact absurd e (by decide)
                    · exact absurd e (by decide)
                    · exact absurd e (by decide)
                    · exact absurd e (by decide)
                    · exact absurd e (by decide)
                    · exact absurd e (by decide)
                    · exact hd ⟨15, .data⟩ (by simp) rfl
                    · exact absurd e (by decide)
                    · exact absurd e (by decide)
                    · exact absurd e (by decide)
                    · exact absurd e (by decide)
                    · exact absurd e (by decide)
                    · exact absurd e (by decide)
                    · exact absurd e (by decide)
                    · exact absurd e (by decide)
                    · exact absurd e (by decide)
                    · exact absurd e (by decide)
                    · exact absurd e (by decide)
                    · exact absurd e (by decide)
                    · exact absurd e (by decide))), (kp f0), (kp f1), (kp f2), (kp f3), (kp f4), (kp f5), (fun h => by
                    obtain ⟨g6, e6, r6⟩ := f6 (upd_ne h (by decide))
                    exact ⟨g6, e6, fun h19 => r6 (by rw [upd_other (by decide)] at h19; exact h19)⟩), (kp f7), (kp f8), (kp f9), (kp f10), (kp f11), (kp f12), (kp f13), (kp f14), (kp f15), (fun _ => rfl), (kp f17), (kp f18), (fun h => by
                    obtain ⟨A8, c8, e8, r8⟩ := f19 (upd_ne h (by decide))
                    exact ⟨A8, c8, e8, fun h22 => r8 (by rw [upd_other (by decide)] at h22; exact h22)⟩), (fun h => ⟨(f20 (upd_ne h (by decide))).1, upd_mono (f20 (upd_ne h (by decide))).2⟩), (fun h => by
                    obtain ⟨⟨g12, e12, r12⟩, l12⟩ := f21 (upd_ne h (by decide))
                    exact ⟨⟨g12, e12, fun h22 => r12 (by rw [upd_other (by decide)] at h22; exact h22)⟩, upd_mono l12⟩), (fun h => absurd (I1.get (i := 17) (j := 16) (by decide) (I1.get (i := 18) (j := 17) (by decide) (I1.get (i := 19) (j := 18) (by decide) (I1.get (i := 22) (j := 19) (by decide) (upd_ne h (by decide)))))) (by rw [hL]; decide)), (kp f23), (fun h => absurd (f24 (upd_ne h (by decide)) 16 (by decide)) (by rw [hL]; decide))⟩
                · obtain rfl := Option.some.inj ho
                  have g11 := f11 (hd ⟨11, .data⟩ (by simp) rfl)
                  have g16 := f16 (hd ⟨16, .data⟩ (by simp) rfl)
                  subst g11
                  subst g16
                  have hL22 : L 22 = false := by
                    cases e : L 22
                    · rfl
                    · exact absurd (I1.get (i := 18) (j := 17) (by decide) (I1.get (i := 19) (j := 18) (by decide) (I1.get (i := 22) (j := 19) (by decide) e))) (by rw [hL]; decide)
                  have J := I0 hL22
                  refine wpOp_step rfl (fun K' hK => ?_)
                  go_simp
                  refine hK _ _ ?_
                  exact ⟨_, _, _, _, _, _, _, _, _, _, _, _, _, _, _, _, _, _, _, _, _, _, _, _, rfl, (fun _ => J), (Closed.step I1 (by
                    intro p hp e
                    simp only [List.mem_cons, List.not_mem_nil, or_false] at hp
                    rcases hp with rfl | rfl | rfl | rfl | rfl | rfl | rfl | rfl | rfl | rfl | rfl | rfl | rfl | rfl | rfl | rfl | rfl | rfl | rfl | rfl | rfl | rfl | rfl
                    · exact absurd e (by decide)
                    · exact absurd e (by decide)
                    · exact absurd e (by decide)
                    · exact absurd e (by decide)
                    · exact absurd e (by decide)
                    · exact absurd e (by decide)
                    · exact absurd e (by decide)
                    · exact absurd e (by decide)
                    · exact absurd e (by decide)
                    · exact absurd e (by decide)
                    · exact hd ⟨11, .data⟩ (by simp) rfl
                    · exact hd ⟨16, .data⟩ (by simp) rfl
                    · exact absurd e (by decide)
                    · exact absurd e (by decide)
                    · exact absurd e (by decide)
                    · exact absurd e (by decide)
                    · exact absurd e (by decide)
                    · exact absurd e (by decide)
                    · exact absurd e (by decide)
                    · exact absurd e (by decide)
                    · exact absurd e (by decide)
                    · exact absurd e (by decide)
                    · exact absurd e (by decide))), (kp f0), (kp f1), (kp f2), (kp f3), (kp f4), (kp f5), (fun h => by
                    obtain ⟨g6, e6, r6⟩ := f6 (upd_ne h (by decide))
                    exact ⟨g6, e6, fun h19 => r6 (by rw [upd_other (by decide)] at h19; exact h19)⟩), (kp f7), (kp f8), (kp f9), (kp f10), (kp f11), (kp f12), (kp f13), (kp f14), (kp f15), (kp f16), (fun _ => rfl), (kp f18), (fun h => by
                    obtain ⟨A8, c8, e8, r8⟩ := f19 (upd_ne h (by decide))
                    exact ⟨A8, c8, e8, fun h22 => r8 (by rw [upd_other (by decide)] at h22; exact h22)⟩), (fun h => ⟨(f20 (upd_ne h (by decide))).1, upd_mono (f20 (upd_ne h (by decide))).2⟩), (fun h => by
                    obtain ⟨⟨g12, e12, r12⟩, l12⟩ := f21 (upd_ne h (by decide))
                    exact ⟨⟨g12, e12, fun h22 => r12 (by rw [upd_other (by decide)] at h22; exact h22)⟩, upd_mono l12⟩), (fun h => absurd (I1.get (i := 18) (j := 17) (by decide) (I1.get (i := 19) (j := 18) (by decide) (I1.get (i := 22) (j := 19) (by decide) (upd_ne h (by decide))))) (by rw [hL]; decide)), (kp f23), (fun h => absurd (f24 (upd_ne h (by decide)) 17 (by decide)) (by rw [hL]; decide))⟩
                · obtain rfl := Option.some.inj ho
                  have g7 := f7 (hd ⟨7, .data⟩ (by simp) rfl)
                  have g9 := f9 (hd ⟨9, .data⟩ (by simp) rfl)
                  have g17 := f17 (hd ⟨17, .data⟩ (by simp) rfl)
                  subst g7
                  subst g9
                  subst g17
                  have hL22 : L 22 = false := by
                    cases e : L 22
                    · rfl
                    · exact absurd (I1.get (i := 19) (j := 18) (by decide) (I1.get (i := 22) (j := 19) (by decide) e)) (by rw [hL]; decide)
                  have J := I0 hL22
                  refine wpOp_step rfl (fun K' hK => ?_)
                  go_simp
                  refine hK _ _ ?_
                  exact ⟨_, _, _, _, _, _, _, _, _, _, _, _, _, _, _, _, _, _, _, _, _, _, _, _, rfl, (fun _ => J), (Closed.step I1 (by
                    intro p hp e
                    simp only [List.mem_cons, List.not_mem_nil, or_false] at hp
                    rcases hp with rfl | rfl | rfl | rfl | rfl | rfl | rfl | rfl | rfl | rfl | rfl | rfl | rfl | rfl | rfl | rfl | rfl | rfl | rfl | rfl | rfl | rfl | rfl
                    · exact absurd e (by decide)
                    · exact absurd e (by decide)
                    · exact absurd e (by decide)
                    · exact absurd e (by decide)
                    · exact absurd e (by decide)
                    · exact absurd e (by decide)
                    · exact absurd e (by decide)
                    · exact absurd e (by decide)
                    · exact absurd e (by decide)
                    · exact absurd e (by decide)
                    · exact absurd e (by decide)
                    · exact absurd e (by decide)
                    · exact hd ⟨7, .data⟩ (by simp) rfl
                    · exact hd ⟨9, .data⟩ (by simp) rfl
                    · exact hd ⟨17, .data⟩ (by simp) rfl
                    · exact absurd e (by decide)
                    · exact absurd e (by decide)
                    · exact absurd e (by decide)
                    · exact absurd e (by decide)
                    · exact absurd e (by decide)
                    · exact absurd e (by decide)
                    · exact absurd e (by decide)
                    · exact absurd e (by decide))), (kp f0), (kp f1), (kp f2), (kp f3), (kp f4), (kp f5), (fun h => by
                    obtain ⟨g6, e6, r6⟩ := f6 (upd_ne h (by decide))
                    exact ⟨g6, e6, fun h19 => r6 (by rw [upd_other (by decide)] at h19; exact h19)⟩), (kp f7), (kp f8), (kp f9), (kp f10), (kp f11), (kp f12), (kp f13), (kp f14), (kp f15), (kp f16), (kp f17), (fun _ => rfl), (fun h => by
                    obtain ⟨A8, c8, e8, r8⟩ := f19 (upd_ne h (by decide))
                    exact ⟨A8, c8, e8, fun h22 => r8 (by rw [upd_other (by decide)] at h22; exact h22)⟩), (fun h => ⟨(f20 (upd_ne h (by decide))).1, upd_mono (f20 (upd_ne h (by decide))).2⟩), (fun h => by
                    obtain ⟨⟨g12, e12, r12⟩, l12⟩ := f21 (upd_ne h (by decide))
                    exact ⟨⟨g12, e12, fun h22 => r12 (by rw [upd_other (by decide)] at h22; exact h22)⟩, upd_mono l12⟩), (fun h => absurd (I1.get (i := 19) (j := 18) (by decide) (I1.get (i := 22) (j := 19) (by decide) (upd_ne h (by decide)))) (by rw [hL]; decide)), (kp f23), (fun h => absurd (f24 (upd_ne h (by decide)) 18 (by decide)) (by rw [hL]; decide))⟩
                · obtain rfl := Option.some.inj ho
                  have g6 := f6 (hd ⟨6, .data⟩ (by simp) rfl)
                  have g18 := f18 (hd ⟨18, .data⟩ (by simp) rfl)
                  subst g18
                  have hL22 : L 22 = false := by
                    cases e : L 22
                    · rfl
                    · exact absurd (I1.get (i := 22) (j := 19) (by decide) e) (by rw [hL]; decide)
                  have J := I0 hL22
                  obtain ⟨g6, e6, r6⟩ := g6
                  subst e6
                  have o6 := r6 hL
                  have r7 := (R4.below (J.mono (Nat.le_refl _))).more (B' := ww.heap.size) J.size
                  refine wpOp_step rfl (fun K' hK => ?_)
                  refine app_stepI rfl (.tmp 56) (.tmp 68) rfl wr.heap.size _ [] rfl o6 A4 r _ _ ((xs.drop (k + 2)).take r) rfl r7 hr40 J.size ?_
                  intro v' w' o1 g1 s1
                  rw [List.nil_append] at o1
                  obtain ⟨A8, c8, e8, -⟩ := o1.form
                  rw [R4.1] at e8
                  subst e8
                  refine hK _ _ ?_
                  exact ⟨_, _, _, _, _, _, _, _, _, _, _, _, _, _, _, _, _, _, _, _, _, _, _, _, rfl, (fun _ => J.grown g1 J.size (fun kk hk => (World.ownsRow.lt o6 kk hk).1)), (Closed.step I1 (by
                    intro p hp e
                    simp only [List.mem_cons, List.not_mem_nil, or_false] at hp
                    rcases hp with rfl | rfl | rfl | rfl | rfl | rfl | rfl | rfl | rfl | rfl | rfl | rfl | rfl | rfl | rfl | rfl | rfl | rfl | rfl | rfl | rfl | rfl | rfl
                    · exact absurd e (by decide)
                    · exact absurd e (by decide)
                    · exact absurd e (by decide)
                    · exact absurd e (by decide)
                    · exact absurd e (by decide)
                    · exact absurd e (by decide)
                    · exact absurd e (by decide)
                    · exact absurd e (by decide)
                    · exact absurd e (by decide)
                    · exact absurd e (by decide)
                    · exact absurd e (by decide)
                    · exact absurd e (by decide)
                    · exact absurd e (by decide)
                    · exact absurd e (by decide)
                    · exact absurd e (by decide)
                    · exact hd ⟨6, .data⟩ (by simp) rfl
                    · exact hd ⟨18, .data⟩ (by simp) rfl
                    · exact absurd e (by decide)
                    · exact absurd e (by decide)
                    · exact absurd e (by decide)
                    · exact absurd e (by decide)
                    · exact absurd e (by decide)
                    · exact absurd e (by decide))), (kp f0), (kp f1), (kp f2), (kp f3), (kp f4), (kp f5), (fun _ => ⟨g6, rfl, fun h => absurd h (by rw [upd_self]; decide)⟩), (kp f7), (kp f8), (kp f9), (kp f10), (kp f11), (kp f12), (kp f13), (kp f14), (kp f15), (kp f16), (kp f17), (kp f18), (fun _ => ⟨A8, c8, rfl, fun _ => o1⟩), (fun h => absurd (f20 (upd_ne h (by decide))).2 (by rw [hL]; decide)), (fun h => absurd (f21 (upd_ne h (by decide))).2 (by rw [hL]; decide)), (fun h => absurd (I1.get (i := 22) (j := 19) (by decide) (upd_ne h (by decide))) (by rw [hL]; decide)), (kp f23), (fun h => absurd (f24 (upd_ne h (by decide)) 19 (by decide)) (by rw [hL]; decide))⟩
                · obtain rfl := Option.some.inj ho
                  have g5 := f5 (hd ⟨5, .data⟩ (by simp) rfl)
                  have g19 := f19 (hd ⟨19, .data⟩ (by simp) rfl)
                  subst g5
                  have hL22 : L 22 = false := by
                    cases e : L 22
                    · rfl
                    · exact absurd (I1.get (i := 21) (j := 20) (by decide) (I1.get (i := 22) (j := 21) (by decide) e)) (by rw [hL]; decide)
                  have J := I0 hL22
                  have l10 := Lib.hid (hd ⟨19, .data⟩ (by simp) rfl)
                  obtain ⟨A8, c8, e8, r8⟩ := g19
                  subst e8
                  refine wpOp_step rfl (fun K' hK => ?_)
                  go_simp
                  refine hK _ _ ?_
                  exact ⟨_, _, _, _, _, _, _, _, _, _, _, _, _, _, _, _, _, _, _, _, _, _, _, _, rfl, (fun _ => J), (Closed.step I1 (by
                    intro p hp e
                    simp only [List.mem_cons, List.not_mem_nil, or_false] at hp
                    rcases hp with rfl | rfl | rfl | rfl | rfl | rfl | rfl | rfl | rfl | rfl | rfl | rfl | rfl | rfl | rfl | rfl | rfl | rfl | rfl | rfl | rfl | rfl | rfl
                    · exact absurd e (by decide)
                    · exact absurd e (by decide)
                    · exact absurd e (by decide)
                    · exact absurd e (by decide)
                    · exact absurd e (by decide)
                    · exact absurd e (by decide)
                    · exact absurd e (by decide)
                    · exact absurd e (by decide)
                    · exact absurd e (by decide)
                    · exact absurd e (by decide)
                    · exact absurd e (by decide)
                    · exact absurd e (by decide)
                    · exact absurd e (by decide)
                    · exact absurd e (by decide)
                    · exact absurd e (by decide)
                    · exact absurd e (by decide)
                    · exact absurd e (by decide)
                    · exact hd ⟨5, .data⟩ (by simp) rfl
                    · exact hd ⟨19, .data⟩ (by simp) rfl
                    · exact absurd e (by decide)
                    · exact absurd e (by decide)
                    · exact absurd e (by decide)
                    · exact absurd e (by decide))), (kp f0), (kp f1), (kp f2), (kp f3), (kp f4), (kp f5), (fun h => by
                    obtain ⟨g6, e6, r6⟩ := f6 (upd_ne h (by decide))
                    exact ⟨g6, e6, fun h19 => r6 (by rw [upd_other (by decide)] at h19; exact h19)⟩), (kp f7), (kp f8), (kp f9), (kp f10), (kp f11), (kp f12), (kp f13), (kp f14), (kp f15), (kp f16), (kp f17), (kp f18), (fun _ => ⟨A8, c8, rfl, fun h22 => r8 (by rw [upd_other (by decide)] at h22; exact h22)⟩), (fun _ => ⟨rfl, upd_mono l10.out⟩), (fun h => by
                    obtain ⟨⟨g12, e12, r12⟩, l12⟩ := f21 (upd_ne h (by decide))
                    exact ⟨⟨g12, e12, fun h22 => r12 (by rw [upd_other (by decide)] at h22; exact h22)⟩, upd_mono l12⟩), (fun h => absurd (I1.get (i := 21) (j := 20) (by decide) (I1.get (i := 22) (j := 21) (by decide) (upd_ne h (by decide)))) (by rw [hL]; decide)), (kp f23), (fun h => absurd (f24 (upd_ne h (by decide)) 20 (by decide)) (by rw [hL]; decide))⟩
                · obtain rfl := Option.some.inj ho
                  have g20 := f20 (hd ⟨20, .data⟩ (by simp) rfl)
                  have hL22 : L 22 = false := by
                    cases e : L 22
                    · rfl
                    · exact absurd (I1.get (i := 22) (j := 21) (by decide) e) (by rw [hL]; decide)
                  have J := I0 hL22
                  obtain ⟨g11, l10⟩ := g20
                  subst g11
                  have L10 := Lib.hid l10
                  clear l10
                  obtain ⟨A8, c8, e8, r8⟩ := f19 L10.out
                  subst e8
                  have b5 : Below ww.heap.size ww (ww.alloc (.cells #[.bool true, .int .i64 x, .slice A8 r c8] 61)) := (Below.refl _ _).alloc (Nat.le_refl _) _
                  have q12 := Rw.new ww 61 #[.bool true, .int .i64 x, .slice A8 r c8]
                  refine wpOp_step rfl (fun K' hK => ?_)
                  go_simp
                  refine hK _ _ ?_
                  exact ⟨_, _, _, _, _, _, _, _, _, _, _, _, _, _, _, _, _, _, _, _, _, _, _, _, rfl, (fun _ => J.alloc J.size _), (Closed.step I1 (by
                    intro p hp e
                    simp only [List.mem_cons, List.not_mem_nil, or_false] at hp
                    rcases hp with rfl | rfl | rfl | rfl | rfl | rfl | rfl | rfl | rfl | rfl | rfl | rfl | rfl | rfl | rfl | rfl | rfl | rfl | rfl | rfl | rfl | rfl | rfl
                    · exact absurd e (by decide)
                    · exact absurd e (by decide)
                    · exact absurd e (by decide)
                    · exact absurd e (by decide)
                    · exact absurd e (by decide)
                    · exact absurd e (by decide)
                    · exact absurd e (by decide)
                    · exact absurd e (by decide)
                    · exact absurd e (by decide)
                    · exact absurd e (by decide)
                    · exact absurd e (by decide)
                    · exact absurd e (by decide)
                    · exact absurd e (by decide)
                    · exact absurd e (by decide)
                    · exact absurd e (by decide)
                    · exact absurd e (by decide)
                    · exact absurd e (by decide)
                    · exact absurd e (by decide)
                    · exact absurd e (by decide)
                    · exact hd ⟨20, .data⟩ (by simp) rfl
                    · exact absurd e (by decide)
                    · exact absurd e (by decide)
                    · exact absurd e (by decide))), (kp f0), (kp f1), (kp f2), (kp f3), (kp f4), (kp f5), (fun h => by
                    obtain ⟨g6, e6, r6⟩ := f6 (upd_ne h (by decide))
                    exact ⟨g6, e6, fun h19 => absurd L10.out (by rw [upd_other (by decide)] at h19; rw [h19]; decide)⟩), (kp f7), (kp f8), (kp f9), (kp f10), (kp f11), (kp f12), (kp f13), (kp f14), (kp f15), (kp f16), (kp f17), (kp f18), (fun _ => ⟨A8, c8, rfl, fun _ => (r8 hL22).below b5 (Nat.le_refl _)⟩), (fun h => ⟨(f20 (upd_ne h (by decide))).1, upd_mono (f20 (upd_ne h (by decide))).2⟩), (fun _ => ⟨⟨_, rfl, fun _ => q12⟩, upd_mono L10.out⟩), (fun h => absurd (I1.get (i := 22) (j := 21) (by decide) (upd_ne h (by decide))) (by rw [hL]; decide)), (kp f23), (fun h => absurd (f24 (upd_ne h (by decide)) 21 (by decide)) (by rw [hL]; decide))⟩
                · obtain rfl := Option.some.inj ho
                  have g1 := f1 (hd ⟨1, .data⟩ (by simp) rfl)
                  have g21 := f21 (hd ⟨21, .data⟩ (by simp) rfl)
                  subst g1
                  have lq : Hid (L 19 = true) := Lib.hid (hd ⟨19, .chain⟩ (by simp) rfl)
                  have J := I0 hL
                  obtain ⟨⟨g12, e12, r12⟩, -⟩ := g21
                  subst e12
                  have q12 := r12 hL
                  obtain ⟨A8, c8, e8, r8⟩ := f19 lq.out
                  subst e8
                  have o8 := r8 hL
                  have S6 := SS.out.up J
                  have own6 : ww.ownsRow W0.heap.size 61 3 (.slice Ac q cc) q (flatC cs rvs) := by
                    have := S6.own.row
                    rwa [show (⟨cs, xs.take 4⟩ : Hp).cs.length = q from HQ.out] at this
                  have hw0 := S6.low.size
                  refine wpOp_step rfl (fun K' hK => ?_)
                  refine app_stepC rfl (.tmp 51) (.tmp 71) rfl W0.heap.size _ q (flatC cs rvs) rfl own6 g12 true x A8 r c8 rfl q12 (by omega) hw0 ?_
                  intro v' w' A9 c9 e9 o1 g1 s1
                  subst e9
                  refine hK _ _ ?_
                  exact ⟨_, _, _, _, _, _, _, _, _, _, _, _, _, _, _, _, _, _, _, _, _, _, _, _, rfl, (fun h => absurd h (by rw [upd_self]; decide)), (Closed.step I1 (by
                    intro p hp e
                    simp only [List.mem_cons, List.not_mem_nil, or_false] at hp
                    rcases hp with rfl | rfl | rfl | rfl | rfl | rfl | rfl | rfl | rfl | rfl | rfl | rfl | rfl | rfl | rfl | rfl | rfl | rfl | rfl | rfl | rfl | rfl | rfl
                    · exact absurd e (by decide)
                    · exact absurd e (by decide)
                    · exact absurd e (by decide)
                    · exact absurd e (by decide)
                    · exact absurd e (by decide)
                    · exact absurd e (by decide)
                    · exact absurd e (by decide)
                    · exact absurd e (by decide)
                    · exact absurd e (by decide)
                    · exact absurd e (by decide)
                    · exact absurd e (by decide)
                    · exact absurd e (by decide)
                    · exact absurd e (by decide)
                    · exact absurd e (by decide)
                    · exact absurd e (by decide)
                    · exact absurd e (by decide)
                    · exact absurd e (by decide)
                    · exact absurd e (by decide)
                    · exact absurd e (by decide)
                    · exact absurd e (by decide)
                    · exact hd ⟨1, .data⟩ (by simp) rfl
                    · exact hd ⟨19, .chain⟩ (by simp) rfl
                    · exact hd ⟨21, .data⟩ (by simp) rfl)), (kp f0), (kp f1), (kp f2), (kp f3), (kp f4), (kp f5), (fun h => by
                    obtain ⟨g6, e6, r6⟩ := f6 (upd_ne h (by decide))
                    exact ⟨g6, e6, fun h19 => absurd lq.out (by rw [upd_other (by decide)] at h19; rw [h19]; decide)⟩), (kp f7), (kp f8), (kp f9), (kp f10), (kp f11), (kp f12), (kp f13), (kp f14), (kp f15), (kp f16), (kp f17), (kp f18), (fun _ => ⟨A8, c8, rfl, fun h => absurd h (by rw [upd_self]; decide)⟩), (fun h => ⟨(f20 (upd_ne h (by decide))).1, upd_mono (f20 (upd_ne h (by decide))).2⟩), (fun _ => ⟨⟨g12, rfl, fun h => absurd h (by rw [upd_self]; decide)⟩, upd_mono lq.out⟩), (fun _ => ⟨A9, c9, rfl, ww, w', by
                    rw [upd_other (by decide)]
                    cases e : L 24
                    · rw [if_neg (by decide)]
                    · exact absurd (f24 e 22 (by decide)) (by rw [hL]; decide), J, o8, g1, o1, s1, upd_mono lq.out⟩), (kp f23), (fun h => absurd (f24 (upd_ne h (by decide)) 22 (by decide)) (by rw [hL]; decide))⟩
                · obtain rfl := Option.some.inj ho
                  refine wpOp_step rfl (fun K' hK => ?_)
                  go_simp
                  refine hK _ _ ?_
                  exact ⟨_, _, _, _, _, _, _, _, _, _, _, _, _, _, _, _, _, _, _, _, _, _, _, _, rfl, (fun h => I0 (by rw [upd_other (by decide)] at h; exact h)), (Closed.step I1 (by
                    intro p hp e
                    simp only [List.mem_cons, List.not_mem_nil, or_false] at hp
                    rcases hp with rfl | rfl | rfl | rfl | rfl | rfl | rfl | rfl | rfl | rfl | rfl | rfl | rfl | rfl | rfl | rfl | rfl | rfl | rfl | rfl | rfl | rfl | rfl
                    · exact absurd e (by decide)
                    · exact absurd e (by decide)
                    · exact absurd e (by decide)
                    · exact absurd e (by decide)
                    · exact absurd e (by decide)
                    · exact absurd e (by decide)
                    · exact absurd e (by decide)
                    · exact absurd e (by decide)
                    · exact absurd e (by decide)
                    · exact absurd e (by decide)
                    · exact absurd e (by decide)
                    · exact absurd e (by decide)
                    · exact absurd e (by decide)
                    · exact absurd e (by decide)
                    · exact absurd e (by decide)
                    · exact absurd e (by decide)
                    · exact absurd e (by decide)
                    · exact absurd e (by decide)
                    · exact absurd e (by decide)
                    · exact absurd e (by decide)
                    · exact absurd e (by decide)
                    · exact absurd e (by decide)
                    · exact absurd e (by decide))), (kp f0), (kp f1), (kp f2), (kp f3), (kp f4), (kp f5), (fun h => by
                    obtain ⟨g6, e6, r6⟩ := f6 (upd_ne h (by decide))
                    exact ⟨g6, e6, fun h19 => r6 (by rw [upd_other (by decide)] at h19; exact h19)⟩), (kp f7), (kp f8), (kp f9), (kp f10), (kp f11), (kp f12), (kp f13), (kp f14), (kp f15), (kp f16), (kp f17), (kp f18), (fun h => by
                    obtain ⟨A8, c8, e8, r8⟩ := f19 (upd_ne h (by decide))
                    exact ⟨A8, c8, e8, fun h22 => r8 (by rw [upd_other (by decide)] at h22; exact h22)⟩), (fun h => ⟨(f20 (upd_ne h (by decide))).1, upd_mono (f20 (upd_ne h (by decide))).2⟩), (fun h => by
                    obtain ⟨⟨g12, e12, r12⟩, l12⟩ := f21 (upd_ne h (by decide))
                    exact ⟨⟨g12, e12, fun h22 => r12 (by rw [upd_other (by decide)] at h22; exact h22)⟩, upd_mono l12⟩), (fun h => by
                    obtain ⟨A9, c9, e9, wp, w9, e10, r1, r2, r3, r4, r5, r6⟩ := f22 (upd_ne h (by decide))
                    exact ⟨A9, c9, e9, wp, w9, by rw [upd_other (by decide)]; exact e10, r1, r2, r3, r4, r5, upd_mono r6⟩), (fun _ => rfl), (fun h => absurd (f24 (upd_ne h (by decide)) 23 (by decide)) (by rw [hL]; decide))⟩
                · obtain rfl := Option.some.inj ho
                  have g22 := f22 (hd ⟨22, .data⟩ (by simp) rfl)
                  have g23 := f23 (hd ⟨23, .data⟩ (by simp) rfl)
                  subst g23
                  have lq : Hid (∀ p, p < 24 → L p = true) := Lib.hid (by
                    intro p hp
                    obtain rfl | rfl | rfl | rfl | rfl | rfl | rfl | rfl | rfl | rfl | rfl | rfl | rfl | rfl | rfl | rfl | rfl | rfl | rfl | rfl | rfl | rfl | rfl | rfl : p = 0 ∨ p = 1 ∨ p = 2 ∨ p = 3 ∨ p = 4 ∨ p = 5 ∨ p = 6 ∨ p = 7 ∨ p = 8 ∨ p = 9 ∨ p = 10 ∨ p = 11 ∨ p = 12 ∨ p = 13 ∨ p = 14 ∨ p = 15 ∨ p = 16 ∨ p = 17 ∨ p = 18 ∨ p = 19 ∨ p = 20 ∨ p = 21 ∨ p = 22 ∨ p = 23 := by omega
                    · exact hd ⟨0, .phase⟩ (by simp) rfl
                    · exact hd ⟨1, .phase⟩ (by simp) rfl
                    · exact hd ⟨2, .phase⟩ (by simp) rfl
                    · exact hd ⟨3, .phase⟩ (by simp) rfl
                    · exact hd ⟨4, .phase⟩ (by simp) rfl
                    · exact hd ⟨5, .phase⟩ (by simp) rfl
                    · exact hd ⟨6, .phase⟩ (by simp) rfl
                    · exact hd ⟨7, .phase⟩ (by simp) rfl
                    · exact hd ⟨8, .phase⟩ (by simp) rfl
                    · exact hd ⟨9, .phase⟩ (by simp) rfl
                    · exact hd ⟨10, .phase⟩ (by simp) rfl
                    · exact hd ⟨11, .phase⟩ (by simp) rfl
                    · exact hd ⟨12, .phase⟩ (by simp) rfl
                    · exact hd ⟨13, .phase⟩ (by simp) rfl
                    · exact hd ⟨14, .phase⟩ (by simp) rfl
                    · exact hd ⟨15, .phase⟩ (by simp) rfl
                    · exact hd ⟨16, .phase⟩ (by simp) rfl
                    · exact hd ⟨17, .phase⟩ (by simp) rfl
                    · exact hd ⟨18, .phase⟩ (by simp) rfl
                    · exact hd ⟨19, .phase⟩ (by simp) rfl
                    · exact hd ⟨20, .phase⟩ (by simp) rfl
                    · exact hd ⟨21, .phase⟩ (by simp) rfl
                    · exact hd ⟨22, .phase⟩ (by simp) rfl
                    · exact hd ⟨23, .data⟩ (by simp) rfl)
                  obtain ⟨A9, c9, e9, wp, w9, e10, r1, r2, r3, r4, r5, r6⟩ := g22
                  rw [hL, if_neg (by decide)] at e10
                  subst e10
                  subst e9
                  have hb9 : Rw ww b 28 #[.slice Ac q cc, .slice A1 4 c1] := Rw.far (SS.out.up r1).box r3 (row_type (by have := (SS.out.up r1).own.row; rw [show (⟨cs, xs.take 4⟩ : Hp).cs.length = q from HQ.out] at this; exact this) (SS.out.up r1).box (by decide))
                  have z0 : ww.cell? ⟨b, 0, none⟩ = some (.slice Ac q cc) := hb9.cell 0
                  have zf : ww.frozen? ⟨b, 0, none⟩ = false := hb9.frozen 0
                  refine wpOp_step rfl (fun K' hK => ?_)
                  go_simp
                  refine hK _ _ ?_
                  exact ⟨_, _, _, _, _, _, _, _, _, _, _, _, _, _, _, _, _, _, _, _, _, _, _, _, rfl, (fun h => by
                    rw [upd_other (by decide)] at h
                    exact absurd (lq.out 22 (by decide)) (by rw [h]; decide)), (Closed.step I1 (by
                    intro p hp e
                    simp only [List.mem_cons, List.not_mem_nil, or_false] at hp
                    rcases hp with rfl | rfl | rfl | rfl | rfl | rfl | rfl | rfl | rfl | rfl | rfl | rfl | rfl | rfl | rfl | rfl | rfl | rfl | rfl | rfl | rfl | rfl | rfl
                    · exact absurd e (by decide)
                    · exact absurd e (by decide)
                    · exact absurd e (by decide)
                    · exact absurd e (by decide)
                    · exact absurd e (by decide)
                    · exact absurd e (by decide)
                    · exact absurd e (by decide)
                    · exact absurd e (by decide)
                    · exact absurd e (by decide)
                    · exact absurd e (by decide)
                    · exact absurd e (by decide)
                    · exact absurd e (by decide)
                    · exact absurd e (by decide)
                    · exact absurd e (by decide)
                    · exact absurd e (by decide)
                    · exact absurd e (by decide)
                    · exact absurd e (by decide)
                    · exact absurd e (by decide)
                    · exact absurd e (by decide)
                    · exact absurd e (by decide)
                    · exact absurd e (by decide)
                    · exact absurd e (by decide)
                    · exact absurd e (by decide))), (kp f0), (kp f1), (kp f2), (kp f3), (kp f4), (kp f5), (fun h => by
                    obtain ⟨g6, e6, r6⟩ := f6 (upd_ne h (by decide))
                    exact ⟨g6, e6, fun h19 => absurd (lq.out 19 (by decide)) (by rw [upd_other (by decide)] at h19; rw [h19]; decide)⟩), (kp f7), (kp f8), (kp f9), (kp f10), (kp f11), (kp f12), (kp f13), (kp f14), (kp f15), (kp f16), (kp f17), (kp f18), (fun h => by
                    obtain ⟨A8, c8, e8, r8⟩ := f19 (upd_ne h (by decide))
                    exact ⟨A8, c8, e8, fun h22 => absurd (lq.out 22 (by decide)) (by rw [upd_other (by decide)] at h22; rw [h22]; decide)⟩), (fun h => ⟨(f20 (upd_ne h (by decide))).1, upd_mono (f20 (upd_ne h (by decide))).2⟩), (fun h => by
                    obtain ⟨⟨g12, e12, r12⟩, l12⟩ := f21 (upd_ne h (by decide))
                    exact ⟨⟨g12, e12, fun h22 => absurd (lq.out 22 (by decide)) (by rw [upd_other (by decide)] at h22; rw [h22]; decide)⟩, upd_mono l12⟩), (fun _ => ⟨A9, c9, rfl, wp, ww, by rw [upd_self, if_pos rfl], r1, r2, r3, r4, r5, upd_mono (lq.out 19 (by decide))⟩), (kp f23), (fun _ p hp => upd_mono (lq.out p hp))⟩
              case hdone =>
                rintro L ac ww hall ⟨t50, t51, t52, t53, t54, t55, t56, t57, t58, t59, t60, t61, t62, t63, t64, t65, t66, t67, t68, t69, t70, t71, t72, t73, rfl, I0, I1, f0, f1, f2, f3, f4, f5, f6, f7, f8, f9, f10, f11, f12, f13, f14, f15, f16, f17, f18, f19, f20, f21, f22, f23, f24⟩
                have e0 := f0 (hall 0 (by decide))
                have e1 := f1 (hall 1 (by decide))
                have e2 := f2 (hall 2 (by decide))
                have e3 := f3 (hall 3 (by decide))
                have e4 := f4 (hall 4 (by decide))
                have e5 := f5 (hall 5 (by decide))
                have e6 := f6 (hall 6 (by decide))
                have e7 := f7 (hall 7 (by decide))
                have e8 := f8 (hall 8 (by decide))
                have e9 := f9 (hall 9 (by decide))
                have e10 := f10 (hall 10 (by decide))
                have e11 := f11 (hall 11 (by decide))
                have e12 := f12 (hall 12 (by decide))
                have e13 := f13 (hall 13 (by decide))
                have e14 := f14 (hall 14 (by decide))
                have e15 := f15 (hall 15 (by decide))
                have e16 := f16 (hall 16 (by decide))
                have e17 := f17 (hall 17 (by decide))
                have e18 := f18 (hall 18 (by decide))
                have e19 := f19 (hall 19 (by decide))
                have e20 := f20 (hall 20 (by decide))
                have e21 := f21 (hall 21 (by decide))
                have e22 := f22 (hall 22 (by decide))
                have e23 := f23 (hall 23 (by decide))
                have e24 := f24 (hall 24 (by decide))
                clear f0 f1 f2 f3 f4 f5 f6 f7 f8 f9 f10 f11 f12 f13 f14 f15 f16 f17 f18 f19 f20 f21 f22 f23 f24
                obtain ⟨A9, c9, rfl, wp, w9', e17, r1, r2, r3, r4, r5, r6⟩ := e22
                rw [hall 24 (by decide), if_pos rfl] at e17
                subst e17
                have SP := SS.out.up r1
                have hap : ∀ v ∈ (Value.slice Ac q cc) :: (.slice A1 4 c1) :: rvs, t69.ownBlock = none ∨ t69.ownBlock ≠ v.ownBlock := fun v hv => by
                  cases e : t69.ownBlock with
                  | none => exact .inl rfl
                  | some j =>
                    right
                    intro e'
                    have a1 := (World.ownsRow.lt r2 j e).1
                    have a2 := (SS.out.own.blocks hv e'.symm).2
                    omega
                have h8b : t69.ownBlock ≠ some b := fun e => by
                  have := (World.ownsRow.lt r2 b e).1
                  omega
                have SF := SP.snoc (cl := ⟨true, x, (xs.drop (k + 2)).take r⟩) (v9 := .slice A9 (q + 1) c9) (v8 := t69) r3 (by rw [show (⟨cs, xs.take 4⟩ : Hp).cs.length = q from HQ.out]; exact r4) r5 (r2.base SS.out.low.size) hap h8b
                clear I0 I1 e0 e1 e2 e3 e4 e5 e6 e7 e8 e9 e10 e11 e12 e13 e14 e15 e16 e17 e18 e19 e20 e21 e23 e24 hall r1 r2 r3 r4 r5 r6 SP hap h8b x0 SS
                generalize w9'.setCell ⟨b, 0, none⟩ (.slice A9 (q + 1) c9) = wf at SF ⊢
                have bwf := bW.trans (SF.low.mono bW.size)
                have y1' : wf.cell? ⟨g, o + (k + 1), none⟩ = some (.int .i64 r) := (bwf.cell (p := ⟨g, o + (k + 1), none⟩) hg).trans ((bw.cell (p := ⟨g, o + (k + 1), none⟩) hg).symm.trans y1)
                clear y0 y1 R4 hA4 bw bwf
                go_wp2_with fail
                go_roundw
                case rel => exact ⟨k + 2 + r, _, _, _, by omega, hfit, by go_num, SF, HN⟩
                case measure => simp [intOf]; omega
            · have hgt : decide ((k : Int) + 2 + r > n) = true := decide_eq_true (by omega)
              have HE := Lib.hid (HD.out.bad3 hrs (.inr ⟨_, hd1, by rw [hdl]; omega⟩))
              have hl1 : (decide ((0 : Int) ≤ r) && decide ((r : Int) ≤ 3)) = true := by simp; omega
              have q1 := q0.keep S.low hq0
              have r2 : wr.frozen? ⟨w.heap.size, 0, none⟩ = false := q1.frozen 0
              have r3 : wr.frozen? ⟨w.heap.size, 1, none⟩ = false := q1.frozen 1
              have r4 : wr.cell? ⟨w.heap.size, 0, none⟩ = some (.slice none 0 0) := q1.cell 0
              have r5 : wr.cell? ⟨w.heap.size, 1, none⟩ = some (.slice none 0 0) := q1.cell 1
              have r6 : ((wr.setCell ⟨w.heap.size, 0, none⟩ (.slice none 0 0)).setCell ⟨w.heap.size, 1, none⟩ (.slice none 0 0)).cell? ⟨w.heap.size, 0, none⟩ = some (.slice none 0 0) := ((q1.put 0 (.slice none 0 0)).put 1 (.slice none 0 0)).cell 0
              have r7 : ((wr.setCell ⟨w.heap.size, 0, none⟩ (.slice none 0 0)).setCell ⟨w.heap.size, 1, none⟩ (.slice none 0 0)).cell? ⟨w.heap.size, 1, none⟩ = some (.slice none 0 0) := ((q1.put 0 (.slice none 0 0)).put 1 (.slice none 0 0)).cell 1
              have BB := ((bW.trans (S.low.mono bW.size)).setCell (p := ⟨w.heap.size, 0, none⟩) (Nat.le_refl _) (.slice none 0 0)).setCell (p := ⟨w.heap.size, 1, none⟩) (Nat.le_refl _) (.slice none 0 0)
              clear S q1
              clear hd0 hd1 hdl hx0 hx1 hrs HD hfit
              go_wp2_with fail
              refine (l1In_any _ _ _ _).mono ?_
              rw [hl1]
              rintro e w6 ⟨rfl, rfl⟩
              clear hl1
              go_wp2_with fail
              exact bodyPost_ret (v := .tuple #[.agg #[.slice none 0 0, .slice none 0 0], .bool false]) (by simp [results, Try.results30, go_sem, *]) rfl ⟨_, _, by rw [HE.out], by rw [HE.out]; exact own_zeroH _ _ BB.size, BB⟩
          · have HE := Lib.hid (HD.out.bad3 hrs (.inr ⟨_, hd1, by rw [hdl]; omega⟩))
            have hl1 : (decide ((0 : Int) ≤ y) && decide (y ≤ 3)) = false := by
              rw [Bool.and_eq_false_iff, decide_eq_false_iff_not, decide_eq_false_iff_not]
              omega
            have q1 := q0.keep S.low hq0
            have r2 : wr.frozen? ⟨w.heap.size, 0, none⟩ = false := q1.frozen 0
            have r3 : wr.frozen? ⟨w.heap.size, 1, none⟩ = false := q1.frozen 1
            have r4 : wr.cell? ⟨w.heap.size, 0, none⟩ = some (.slice none 0 0) := q1.cell 0
            have r5 : wr.cell? ⟨w.heap.size, 1, none⟩ = some (.slice none 0 0) := q1.cell 1
            have r6 : ((wr.setCell ⟨w.heap.size, 0, none⟩ (.slice none 0 0)).setCell ⟨w.heap.size, 1, none⟩ (.slice none 0 0)).cell? ⟨w.heap.size, 0, none⟩ = some (.slice none 0 0) := ((q1.put 0 (.slice none 0 0)).put 1 (.slice none 0 0)).cell 0
            have r7 : ((wr.setCell ⟨w.heap.size, 0, none⟩ (.slice none 0 0)).setCell ⟨w.heap.size, 1, none⟩ (.slice none 0 0)).cell? ⟨w.heap.size, 1, none⟩ = some (.slice none 0 0) := ((q1.put 0 (.slice none 0 0)).put 1 (.slice none 0 0)).cell 1
            have BB := ((bW.trans (S.low.mono bW.size)).setCell (p := ⟨w.heap.size, 0, none⟩) (Nat.le_refl _) (.slice none 0 0)).setCell (p := ⟨w.heap.size, 1, none⟩) (Nat.le_refl _) (.slice none 0 0)
            clear S q1
            clear hd0 hd1 hdl hx0 hx1 hrs HD hin
            go_wp2_with fail
            refine (l1In_any _ _ _ _).mono ?_
            rw [hl1]
            rintro e w6 ⟨rfl, rfl⟩
            clear hl1
            go_wp2_with fail
            exact bodyPost_ret (v := .tuple #[.agg #[.slice none 0 0, .slice none 0 0], .bool false]) (by simp [results, Try.results30, go_sem, *]) rfl ⟨_, _, by rw [HE.out], by rw [HE.out]; exact own_zeroH _ _ BB.size, BB⟩
        · have hge1 : decide ((k : Int) + 1 ≥ n) = true := decide_eq_true (by omega)
          have HE := Lib.hid (HD.out.bad3 hrs (.inl (by rw [List.length_drop, HLN.out]; omega)))
          have q1 := q0.keep S.low hq0
          have r2 : wr.frozen? ⟨w.heap.size, 0, none⟩ = false := q1.frozen 0
          have r3 : wr.frozen? ⟨w.heap.size, 1, none⟩ = false := q1.frozen 1
          have r4 : wr.cell? ⟨w.heap.size, 0, none⟩ = some (.slice none 0 0) := q1.cell 0
          have r5 : wr.cell? ⟨w.heap.size, 1, none⟩ = some (.slice none 0 0) := q1.cell 1
          have r6 : ((wr.setCell ⟨w.heap.size, 0, none⟩ (.slice none 0 0)).setCell ⟨w.heap.size, 1, none⟩ (.slice none 0 0)).cell? ⟨w.heap.size, 0, none⟩ = some (.slice none 0 0) := ((q1.put 0 (.slice none 0 0)).put 1 (.slice none 0 0)).cell 0
          have r7 : ((wr.setCell ⟨w.heap.size, 0, none⟩ (.slice none 0 0)).setCell ⟨w.heap.size, 1, none⟩ (.slice none 0 0)).cell? ⟨w.heap.size, 1, none⟩ = some (.slice none 0 0) := ((q1.put 0 (.slice none 0 0)).put 1 (.slice none 0 0)).cell 1
          have BB := ((bW.trans (S.low.mono bW.size)).setCell (p := ⟨w.heap.size, 0, none⟩) (Nat.le_refl _) (.slice none 0 0)).setCell (p := ⟨w.heap.size, 1, none⟩) (Nat.le_refl _) (.slice none 0 0)
          clear S q1
          clear hrs HD
          go_wp2_with fail
          exact bodyPost_ret (v := .tuple #[.agg #[.slice none 0 0, .slice none 0 0], .bool false]) (by simp [results, Try.results30, go_sem, *]) rfl ⟨_, _, by rw [HE.out], by rw [HE.out]; exact own_zeroH _ _ BB.size, BB⟩
      · obtain rfl : k = n := by omega
        have HD3 := Lib.hid (show Hps.heapOfV xs = if Hps.viewH ⟨cs, xs.take 4⟩ = xs then (⟨cs, xs.take 4⟩, true) else (Hps.zeroH, false) by
          refine Hps.Dec.fin3 ?_
          have := HD.out
          rwa [List.drop_of_length_le (by rw [HLN.out]; exact Nat.le_refl _)] at this)
        have hs := S.own.reads
        have x0 : wr.cell? ⟨b, 0, none⟩ = some (.slice Ac q cc) := S.box.cell 0
        have x1 : wr.cell? ⟨b, 1, none⟩ = some (.slice A1 4 c1) := S.box.cell 1
        go_wp2_with fail
        refine (mViewOf_any _ _ _ _ _ _ ⟨cs, xs.take 4⟩ _ hs (by omega) (by omega)).mono ?_
        rintro e w3 ⟨v3, rfl, o3, b3⟩
        obtain ⟨A3, c3, rfl, -⟩ := o3.form
        have R3 := o3.reads
        have S3 := S.up b3
        have bw3 := bW.trans (S3.low.mono bW.size)
        obtain ⟨ys, hys⟩ : ∃ ys, Hps.viewH ⟨cs, xs.take 4⟩ = ys := ⟨_, rfl⟩
        rw [hys] at R3 HD3 ⊢
        obtain ⟨p, hp⟩ : ∃ p, ys.length = p := ⟨_, rfl⟩
        rw [hp] at R3 ⊢
        have HP := Lib.hid hp
        clear hp hys o3 b3 x0 x1 hs bw
        by_cases hpn : p = k
        · subst hpn
          go_wp2_with fail
          go_loopw [7] (fun i wr => ∃ j : Nat, j ≤ p ∧ i = .int .i64 j ∧ Hid (ys.take j = xs.take j) ∧ Below w3.heap.size w3 wr) (fun i _ => p - (intOf i).toNat)
          case atStart => exact ⟨0, Nat.zero_le _, rfl, by simp [Hid], Below.refl _ _⟩
          case round =>
            obtain ⟨j, hj, rfl, hpre, hb⟩ := hrel
            have S := S3.up hb
            by_cases hlt : j < p
            · obtain ⟨g', o', y, rfl, hg', hy, c1'⟩ := (R3.below hb).at_ hlt
              obtain ⟨g2, o2, x, e0, -, hx, c2'⟩ := ((h.below bw3).below (hb.mono bw3.size)).at_ hlt
              have e0 := Option.some.inj e0
              injection e0 with e1 e2
              subst e1 e2
              have HX := Lib.hid hx
              have HY := Lib.hid hy
              have hlt' : (j : Int) < p := by omega
              clear hx hy
              by_cases hxy : y = x
              · subst hxy
                clear S
                go_wp2_with fail
                go_big_quiet (fail)
                go_wp2
                go_roundw
                case rel => exact ⟨j + 1, by omega, by go_num, Lib.hid (take_eq_succI hpre.out HY.out HX.out), below_drewN hb _⟩
                case measure => simp [intOf]; omega
              · have hne : (y == x) = false := by rw [beq_eq_false_iff_ne]; exact hxy
                have hne2 : (y != x) = true := by rw [bne_iff_ne]; exact hxy
                have HE := Lib.hid (show Hps.heapOfV xs = (Hps.zeroH, false) by rw [HD3.out, if_neg (Hps.take_ne HY.out HX.out hxy)])
                clear hxy
                go_wp2_with fail
                go_big_quiet (fail)
                go_upto_region 18 with fail
                generalize hwd : World.drewN _ _ = w6
                have S : BoxSt W0 w6 b (.slice Ac q cc) (.slice A1 4 c1) rvs ⟨cs, xs.take 4⟩ := by rw [← hwd]; exact S.up (below_drewN (Below.refl _ _) _)
                clear hwd
                have q1 := q0.keep S.low hq0
                have r2 : w6.frozen? ⟨w.heap.size, 0, none⟩ = false := q1.frozen 0
                have r3 : w6.frozen? ⟨w.heap.size, 1, none⟩ = false := q1.frozen 1
                have r4 : w6.cell? ⟨w.heap.size, 0, none⟩ = some (.slice none 0 0) := q1.cell 0
                have r5 : w6.cell? ⟨w.heap.size, 1, none⟩ = some (.slice none 0 0) := q1.cell 1
                have r6 : ((w6.setCell ⟨w.heap.size, 0, none⟩ (.slice none 0 0)).setCell ⟨w.heap.size, 1, none⟩ (.slice none 0 0)).cell? ⟨w.heap.size, 0, none⟩ = some (.slice none 0 0) := ((q1.put 0 (.slice none 0 0)).put 1 (.slice none 0 0)).cell 0
                have r7 : ((w6.setCell ⟨w.heap.size, 0, none⟩ (.slice none 0 0)).setCell ⟨w.heap.size, 1, none⟩ (.slice none 0 0)).cell? ⟨w.heap.size, 1, none⟩ = some (.slice none 0 0) := ((q1.put 0 (.slice none 0 0)).put 1 (.slice none 0 0)).cell 1
                have BB := ((bW.trans (S.low.mono bW.size)).setCell (p := ⟨w.heap.size, 0, none⟩) (Nat.le_refl _) (.slice none 0 0)).setCell (p := ⟨w.heap.size, 1, none⟩) (Nat.le_refl _) (.slice none 0 0)
                clear S q1
                go_wp2_with fail
                exact bodyPost_ret (v := .tuple #[.agg #[.slice none 0 0, .slice none 0 0], .bool false]) (by simp [results, Try.results30, go_sem, *]) rfl ⟨_, _, by rw [HE.out], by rw [HE.out]; exact own_zeroH _ _ BB.size, BB⟩
            · obtain rfl : j = p := by omega
              have HE := Lib.hid (show Hps.heapOfV xs = (⟨cs, xs.take 4⟩, true) by
                rw [HD3.out, if_pos]
                have := hpre.out
                rwa [List.take_of_length_le (by rw [HP.out]; exact Nat.le_refl _), List.take_of_length_le (by rw [HLN.out]; exact Nat.le_refl _)] at this)
              have q1 := q0.keep S.low hq0
              have x0 : wr.cell? ⟨b, 0, none⟩ = some (.slice Ac q cc) := S.box.cell 0
              have x1 : wr.cell? ⟨b, 1, none⟩ = some (.slice A1 4 c1) := S.box.cell 1
              have r2 : wr.frozen? ⟨w.heap.size, 0, none⟩ = false := q1.frozen 0
              have r3 : wr.frozen? ⟨w.heap.size, 1, none⟩ = false := q1.frozen 1
              have r4 : wr.cell? ⟨w.heap.size, 0, none⟩ = some (.slice none 0 0) := q1.cell 0
              have r5 : wr.cell? ⟨w.heap.size, 1, none⟩ = some (.slice none 0 0) := q1.cell 1
              have r6 : ((wr.setCell ⟨w.heap.size, 0, none⟩ (.slice Ac q cc)).setCell ⟨w.heap.size, 1, none⟩ (.slice A1 4 c1)).cell? ⟨w.heap.size, 0, none⟩ = some (.slice Ac q cc) := ((q1.put 0 (.slice Ac q cc)).put 1 (.slice A1 4 c1)).cell 0
              have r7 : ((wr.setCell ⟨w.heap.size, 0, none⟩ (.slice Ac q cc)).setCell ⟨w.heap.size, 1, none⟩ (.slice A1 4 c1)).cell? ⟨w.heap.size, 1, none⟩ = some (.slice A1 4 c1) := ((q1.put 0 (.slice Ac q cc)).put 1 (.slice A1 4 c1)).cell 1
              have D := Lib.hid (OwnH.out (w := w) (g := w.heap.size) ⟨rvs, S.own⟩ hq0 (bW.trans (S.low.mono bW.size)) (Nat.le_refl _))
              clear S S3 q1 q0 R3
              go_wp2_with fail
              exact bodyPost_ret (v := .tuple #[.agg #[.slice Ac q cc, .slice A1 4 c1], .bool true]) (by simp [results, Try.results30, go_sem, *]) rfl ⟨_, _, by rw [HE.out], by rw [HE.out]; exact D.out.1, D.out.2⟩
        · have HE := Lib.hid (show Hps.heapOfV xs = (Hps.zeroH, false) by
            rw [HD3.out, if_neg]
            rintro rfl
            exact hpn (HP.out.symm.trans HLN.out))
          have hne : ((p : Int) != k) = true := by rw [bne_iff_ne]; omega
          have S := S3
          have q1 := q0.keep S3.low hq0
          have r2 : w3.frozen? ⟨w.heap.size, 0, none⟩ = false := q1.frozen 0
          have r3 : w3.frozen? ⟨w.heap.size, 1, none⟩ = false := q1.frozen 1
          have r4 : w3.cell? ⟨w.heap.size, 0, none⟩ = some (.slice none 0 0) := q1.cell 0
          have r5 : w3.cell? ⟨w.heap.size, 1, none⟩ = some (.slice none 0 0) := q1.cell 1
          have r6 : ((w3.setCell ⟨w.heap.size, 0, none⟩ (.slice none 0 0)).setCell ⟨w.heap.size, 1, none⟩ (.slice none 0 0)).cell? ⟨w.heap.size, 0, none⟩ = some (.slice none 0 0) := ((q1.put 0 (.slice none 0 0)).put 1 (.slice none 0 0)).cell 0
          have r7 : ((w3.setCell ⟨w.heap.size, 0, none⟩ (.slice none 0 0)).setCell ⟨w.heap.size, 1, none⟩ (.slice none 0 0)).cell? ⟨w.heap.size, 1, none⟩ = some (.slice none 0 0) := ((q1.put 0 (.slice none 0 0)).put 1 (.slice none 0 0)).cell 1
          have BB := ((bW.trans (S3.low.mono bW.size)).setCell (p := ⟨w.heap.size, 0, none⟩) (Nat.le_refl _) (.slice none 0 0)).setCell (p := ⟨w.heap.size, 1, none⟩) (Nat.le_refl _) (.slice none 0 0)
          clear S q1
          go_wp2_with fail
          exact bodyPost_ret (v := .tuple #[.agg #[.slice none 0 0, .slice none 0 0], .bool false]) (by simp [results, Try.results30, go_sem, *]) rfl ⟨_, _, by rw [HE.out], by rw [HE.out]; exact own_zeroH _ _ BB.size, BB⟩
end Go.Proofs.Ytmjejcfifkbkoaa
