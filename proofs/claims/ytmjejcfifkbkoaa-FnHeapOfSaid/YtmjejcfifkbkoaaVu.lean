/- What the program's decoded returns: for every list of numbers. No conditions. -/
import Derived.Test.YtmjejcfifkbkoaaVt
import Derived.Test.YtmjejcfifkbkoaaGv
import Derived.Test.YtmjejcfifkbkoaaKd
import Derived.Test.YtmjejcfifkbkoaaKz
import Derived.Test.YtmjejcfifkbkoaaKf
import Derived.Deep.Cut
namespace Go.Proofs.Ytmjejcfifkbkoaa
open Go.RowKit
set_option maxRecDepth 100000

namespace Hps
theorem parse_raw (c : Cl) (hu : c.u = true) (rest : List Int) : parseV (rawV c ++ rest) = if c.r.length ≤ 3 then (parseV rest).map (fun cs => c :: cs) else none := by
  rw [rawV, List.cons_append, List.cons_append, parseV_cons]
  have e1 : ((c.r.length : Int)).toNat = c.r.length := by omega
  by_cases h3 : c.r.length ≤ 3
  · rw [if_pos h3, if_pos ⟨by omega, by omega, by rw [e1]; simp⟩, e1, List.drop_left, List.take_left, ← hu]
  · rw [if_neg h3, if_neg (fun e => by omega)]
theorem parse_raws (rest : List Int) : ∀ cs : List Cl, (∀ c ∈ cs, c.u = true) → parseV ((cs.map rawV).flatten ++ rest) = if ∀ c ∈ cs, c.r.length ≤ 3 then (parseV rest).map (fun ds => cs ++ ds) else none
  | [], _ => by simp
  | c :: cs, hu => by
    rw [List.map_cons, List.flatten_cons, List.append_assoc, parse_raw c (hu c (by simp)), parse_raws rest cs (fun d hd => hu d (by simp [hd]))]
    by_cases h3 : c.r.length ≤ 3
    · rw [if_pos h3]
      by_cases h4 : ∀ d ∈ cs, d.r.length ≤ 3
      · rw [if_pos h4, if_pos (fun d hd => by
          rcases List.mem_cons.1 hd with rfl | hd
          · exact h3
          · exact h4 d hd)]
        cases parseV rest <;> simp
      · rw [if_neg h4, if_neg (fun e => h4 fun d hd => e d (by simp [hd]))]
        rfl
    · rw [if_neg h3, if_neg (fun e => h3 (e c (by simp)))]
/-- read so far: the cells, and what is left -/
structure Dec (xs : List Int) (cs : List Cl) (rs : List Int) : Prop where
  four : 4 ≤ xs.length
  flat : xs.drop 4 = (cs.map rawV).flatten ++ rs
  used : ∀ c ∈ cs, c.u = true
theorem Dec.start {xs : List Int} (h : 4 ≤ xs.length) : Dec xs [] (xs.drop 4) := ⟨h, by simp, fun c hc => by simp at hc⟩
theorem Dec.next {xs : List Int} {cs : List Cl} {rs : List Int} (D : Dec xs cs rs) {d : Int} {r : Nat} (h0 : rs[0]? = some d) (h1 : rs[1]? = some (r : Int)) (hr : 2 + r ≤ rs.length) : Dec xs (cs ++ [⟨true, d, (rs.drop 2).take r⟩]) (rs.drop (2 + r)) := by
  refine ⟨D.four, ?_, fun c hc => ?_⟩
  · rw [D.flat, List.map_append, List.flatten_append, List.append_assoc]
    congr 1
    match rs, h0, h1, hr with
    | a :: b :: l, h0, h1, hr =>
      simp at h0 h1 hr
      subst h0 h1
      have hl : (List.take r l).length = r := by rw [List.length_take]; omega
      simp [rawV, hl, Nat.add_comm 2 r]
  · rw [List.mem_append, List.mem_singleton] at hc
    rcases hc with hc | rfl
    · exact D.used c hc
    · rfl
theorem Dec.bad {xs : List Int} {cs : List Cl} {rs : List Int} (D : Dec xs cs rs) (hn : rs ≠ []) (h : rs.length < 2 ∨ ∃ x : Int, rs[1]? = some x ∧ ¬ (0 ≤ x ∧ x ≤ (rs.length : Int) - 2)) : heapOfV xs = (zeroH, false) := by
  have hp : parseV rs = none := by
    match rs, hn, h with
    | [a], _, _ => exact parseV_one a
    | a :: b :: l, _, h =>
      rw [parseV_cons, if_neg]
      rintro ⟨h1, h2, h3⟩
      rcases h with h | ⟨x, hx, hxo⟩
      · rw [List.length_cons, List.length_cons] at h
        omega
      · simp at hx hxo
        subst hx
        have := hxo h1
        omega
  refine heapOf_none (by have := D.four; omega) ?_
  rw [D.flat, parse_raws _ _ D.used, hp]
  split <;> rfl
theorem Dec.fin {xs : List Int} {cs : List Cl} (D : Dec xs cs []) : heapOfV xs = if validH ⟨cs, xs.take 4⟩ = true ∧ viewH ⟨cs, xs.take 4⟩ = xs then (⟨cs, xs.take 4⟩, true) else (zeroH, false) := by
  have h4 := D.four
  have hp := parse_raws [] cs D.used
  rw [← D.flat] at hp
  by_cases hv : validH ⟨cs, xs.take 4⟩ = true
  · have h3 : ∀ c ∈ cs, c.r.length ≤ 3 := (valid_small hv).2.2
    rw [if_pos h3, parseV_nil, Option.map_some, List.append_nil] at hp
    rw [heapOf_some (by omega) hp]
    by_cases he : viewH ⟨cs, xs.take 4⟩ = xs
    · rw [if_pos he, if_pos ⟨hv, he⟩]
    · rw [if_neg he, if_neg (fun e => he e.2)]
  · rw [if_neg (fun e => hv e.1)]
    by_cases h3 : ∀ c ∈ cs, c.r.length ≤ 3
    · rw [if_pos h3, parseV_nil, Option.map_some, List.append_nil] at hp
      rw [heapOf_some (by omega) hp, view_not (by simpa using hv), if_neg]
      rintro rfl
      simp at h4
    · rw [if_neg h3] at hp
      exact heapOf_none (by omega) hp
theorem Dec.short {xs : List Int} {cs : List Cl} {rs : List Int} (D : Dec xs cs rs) : cs.length + rs.length ≤ xs.length := by
  have e : ∀ l : List Cl, l.length ≤ ((l.map rawV).flatten).length := fun l => by
    induction l with
    | nil => simp
    | cons c l ih => simp [rawV] at ih ⊢; omega
  have := congrArg List.length D.flat
  rw [List.length_append, List.length_drop] at this
  have := e cs
  omega
end Hps
def lenS : Value → Nat
  | .slice _ n _ => n
  | _ => 0

/-- what decoded returns -/
def Decoded (w : World) (xs : List Int) (e : Ending) (w' : World) : Prop :=
  (e = .returned (.tuple #[.agg #[.slice none 0 0, .slice none 0 0], .bool false]) ∧ Hps.heapOfV xs = (Hps.zeroH, false) ∧ Below w.heap.size w w') ∨
  ∃ cs vc vr, e = .returned (.tuple #[.agg #[vc, vr], .bool true]) ∧ OwnH w' w.heap.size vc vr ⟨cs, xs.take 4⟩ ∧ Below w.heap.size w w' ∧ Hps.Dec xs cs []

set_option maxHeartbeats 4000000 in
theorem decoded_any (A : Option Addr) (n c : Nat) (xs : List Int) (w : World) (h : IS w w.heap.size A n xs) (hn : n ≤ 1099511627776) (hc : n ≤ c) :
    Calls Try.prog 83 #[.slice A n c] w (Decoded w xs) := by
  have hln := h.1
  have b0 : Below w.heap.size w (w.alloc (.cells #[.slice none 0 0, .slice none 0 0] 28)) := (Below.refl _ _).alloc (Nat.le_refl _) _
  have q0 := Rw.new w 28 #[.slice none 0 0, .slice none 0 0]
  have r0 := h.below b0
  by_cases h4 : n < 4
  · have h4' : (n : Int) < 4 := by omega
    have HZ := Lib.hid (Hps.heapOf_short (v := xs) (by omega))
    have z0 := q0.cell 0
    have z1 := q0.cell 1
    simp only [List.getElem?_toArray, List.getElem?_cons_zero, List.getElem?_cons_succ] at z0 z1
    clear q0 r0
    go_enter Try.func83, Try.ntmps83
    go_wp2_with fail
    exact bodyPost_ret (v := .tuple #[.agg #[.slice none 0 0, .slice none 0 0], .bool false]) (by simp [results, Try.results83, go_sem, *]) rfl (.inl ⟨rfl, HZ.out, b0⟩)
  · have h4' : ¬ (n : Int) < 4 := by omega
    obtain ⟨g, o, x, rfl, hg, -, -⟩ := r0.at_ (k := 0) (by omega)
    have k1 : (4 : Int) ≤ c := by omega
    have k2 : (4 : Int) ≤ n := by omega
    have rf := r0.front (r := 4) (by omega)
    have HD := Lib.hid (Hps.Dec.start (xs := xs) (by omega))
    obtain ⟨A5, hA5⟩ : ∃ A5, (if c = 4 then some (⟨g, o, none⟩ : Addr) else some ⟨g, o + 4, none⟩) = A5 := ⟨_, rfl⟩
    have R5 : IS (w.alloc (.cells #[.slice none 0 0, .slice none 0 0] 28)) w.heap.size A5 (n - 4) (xs.drop 4) := by
      by_cases e : c = 4
      · have e1 : n - 4 = 0 := by omega
        rw [e1, List.drop_eq_nil_of_le (by omega)]
        exact IS.none_ _ _ _
      · rw [if_neg e] at hA5
        rw [← hA5]
        have := r0.part (i := 4) (r := n - 4) (by omega)
        rwa [List.take_of_length_le (by rw [List.length_drop]; omega)] at this
    have hc5 : n - 4 ≤ c - 4 := by omega
    have hl5 : (xs.drop 4).length = n - 4 := by rw [List.length_drop]; omega
    have hw0 : (w.alloc (.cells #[.slice none 0 0, .slice none 0 0] 28)).heap.size = w.heap.size + 1 := by simp
    clear h r0
    go_enter Try.func83, Try.ntmps83
    go_upto_region 3 with fail
    generalize w.alloc (.cells #[.slice none 0 0, .slice none 0 0] 28) = w0 at b0 q0 rf R5 hw0 ⊢
    have HW := Lib.hid hw0
    have rf' := rf.more (B' := w0.heap.size) (by omega)
    clear hw0 rf
    go_wp2_with fail
    refine (cloneI_any _ 4 _ _ _ rf' (by omega)).mono ?_
    rintro e w1 ⟨v1, rfl, o1, b1⟩
    have hl4 : (xs.take 4).length = 4 := by rw [List.length_take]; omega
    have ow : OwnH w1 w0.heap.size (.slice none 0 0) v1 ⟨[], xs.take 4⟩ := by
      refine ⟨[], rfl, World.ownsRow_nil _ _ _ _, fun k c v hc => by simp at hc, o1, ?_⟩
      simp [Sep, Value.ownBlock]
    obtain ⟨rvs, S0⟩ := BoxSt.of ow b1
    obtain ⟨A1, c1, e1, -⟩ := o1.form
    rw [hl4] at e1
    subst e1
    clear ow o1
    go_upto_region 4 with fail
    generalize w1.alloc (.cells #[.slice none 0 0, .slice A1 4 c1] 28) = w2 at S0 ⊢
    generalize w1.heap.size = b at S0 ⊢
    have R2 := R5.below (S0.low.mono (by rw [HW.out]; omega))
    clear b1 R5
    go_wp2_with fail
    go_loopw [5] (fun rv wr => ∃ (cs : List Cl) (rs : List Int) (p : Nat) (Ar : Option Addr) (cr : Nat) (vc : Value) (rvs : List Value), rv = .slice Ar p cr ∧ p ≤ cr ∧ IS wr w.heap.size Ar p rs ∧ BoxSt w0 wr b vc (.slice A1 4 c1) rvs ⟨cs, xs.take 4⟩ ∧ Hid (Hps.Dec xs cs rs)) (fun rv _ => lenS rv)
    case atStart => exact ⟨[], _, _, _, _, _, _, rfl, hc5, R2, S0, HD⟩
    case round =>
      clear S0 R2 HD
      obtain ⟨cs, rs, p, Ar, cr, vc, rvs', rfl, hpc, R, S, HD⟩ := hrel
      have hlp := R.1
      have hsh := HD.out.short
      rw [hlp] at hsh
      rcases Nat.eq_zero_or_pos p with rfl | hp0
      · obtain rfl : rs = [] := List.eq_nil_of_length_eq_zero hlp
        obtain ⟨Ac, cc, gr, d, rfl, e2, -⟩ := S.own.form
        obtain ⟨k, hk⟩ : ∃ k, cs.length = k := ⟨_, rfl⟩
        have HK := Lib.hid hk
        rw [hk] at S
        have x0 : wr.cell? ⟨b, 0, none⟩ = some (.slice Ac k cc) := S.box.cell 0
        have x1 : wr.cell? ⟨b, 1, none⟩ = some (.slice A1 4 c1) := S.box.cell 1
        have q3 := q0.keep S.low q0.lt
        have z0 : wr.cell? ⟨w.heap.size, 0, none⟩ = some (.slice none 0 0) := q3.cell 0
        have z1 : wr.cell? ⟨w.heap.size, 1, none⟩ = some (.slice none 0 0) := q3.cell 1
        have f0 : wr.frozen? ⟨w.heap.size, 0, none⟩ = false := q3.frozen 0
        have f1 : wr.frozen? ⟨w.heap.size, 1, none⟩ = false := q3.frozen 1
        have D := Lib.hid (OwnH.out (w := w) (g := w.heap.size) S.ownH (by rw [HW.out]; omega) (b0.trans (S.low.mono (by rw [HW.out]; omega))) (Nat.le_refl _))
        have q4 := (q3.put 0 (.slice Ac k cc)).put 1 (.slice A1 4 c1)
        clear S q3 e2 hk
        go_wp2_with fail
        have y0 := q4.cell 0
        have y1 := q4.cell 1
        simp only [List.setIfInBounds_toArray, List.set_cons_zero, List.set_cons_succ, List.getElem?_toArray, List.getElem?_cons_zero, List.getElem?_cons_succ] at y0 y1
        exact bodyPost_ret (v := .tuple #[.agg #[.slice Ac k cc, .slice A1 4 c1], .bool true]) (by simp [results, Try.results83, go_sem, *]) rfl (.inr ⟨cs, _, _, rfl, D.out.1, D.out.2, HD.out⟩)
      · have hp0' : (p : Int) > 0 := by omega
        by_cases hbad : rs.length < 2 ∨ ∃ x : Int, rs[1]? = some x ∧ ¬ (0 ≤ x ∧ x ≤ (rs.length : Int) - 2)
        · have HZ := Lib.hid (HD.out.bad (fun e => by rw [e] at hlp; simp at hlp; omega) hbad)
          rw [hlp] at hbad
          go_wp2_with fail
          with_reducible refine (firstCell_no Ar p cr w.heap.size rs _ R (by have := S.low.size; rw [HW.out] at this; omega) (by omega) hbad).mono ?_
          rintro e w5 ⟨rfl, b5⟩
          have S5 := S.up b5
          have q5 := (q0.keep S5.low q0.lt).alloc (.cells #[.bool false, .int .i64 0, .slice none 0 0] 61)
          have z0 : (w5.alloc (.cells #[.bool false, .int .i64 0, .slice none 0 0] 61)).cell? ⟨w.heap.size, 0, none⟩ = some (.slice none 0 0) := q5.cell 0
          have z1 : (w5.alloc (.cells #[.bool false, .int .i64 0, .slice none 0 0] 61)).cell? ⟨w.heap.size, 1, none⟩ = some (.slice none 0 0) := q5.cell 1
          have f0 : (w5.alloc (.cells #[.bool false, .int .i64 0, .slice none 0 0] 61)).frozen? ⟨w.heap.size, 0, none⟩ = false := q5.frozen 0
          have f1 : (w5.alloc (.cells #[.bool false, .int .i64 0, .slice none 0 0] 61)).frozen? ⟨w.heap.size, 1, none⟩ = false := q5.frozen 1
          have B5 := (((b0.trans (S5.low.mono (by rw [HW.out]; omega))).alloc (by have := S5.low.size; rw [HW.out] at this; omega) (.cells #[.bool false, .int .i64 0, .slice none 0 0] 61)).setCell (p := ⟨w.heap.size, 0, none⟩) (Nat.le_refl _) (.slice none 0 0)).setCell (p := ⟨w.heap.size, 1, none⟩) (Nat.le_refl _) (.slice none 0 0)
          have q6 := (q5.put 0 (.slice none 0 0)).put 1 (.slice none 0 0)
          clear S S5 q5 b5
          go_wp2_with fail
          have y0 := q6.cell 0
          have y1 := q6.cell 1
          simp only [List.setIfInBounds_toArray, List.set_cons_zero, List.set_cons_succ, List.getElem?_toArray, List.getElem?_cons_zero, List.getElem?_cons_succ] at y0 y1
          exact bodyPost_ret (v := .tuple #[.agg #[.slice none 0 0, .slice none 0 0], .bool false]) (by simp [results, Try.results83, go_sem, *]) rfl (.inl ⟨rfl, HZ.out, B5⟩)
        · rw [not_or, not_exists] at hbad
          obtain ⟨hp2, hgood⟩ := hbad
          rw [hlp] at hp2 hgood
          obtain ⟨ga, oa, x, rfl, _, hx0, -⟩ := R.at_ (k := 0) (by omega)
          obtain ⟨_, _, y, -, -, hx1, -⟩ := R.at_ (k := 1) (by omega)
          obtain ⟨r, rfl, hr⟩ : ∃ r : Nat, y = r ∧ 2 + r ≤ p := by
            have := hgood y
            simp only [hx1, true_and] at this
            exact ⟨y.toNat, by omega, by omega⟩
          have HN := Lib.hid (HD.out.next hx0 hx1 (by rw [hlp]; exact hr))
          clear hgood
          go_wp2_with fail
          with_reducible refine (firstCell_ok ga oa p cr w.heap.size r x rs _ R (by have := S.low.size; rw [HW.out] at this; omega) (by omega) hpc hx0 hx1 hr).mono ?_
          rintro e w5 ⟨A6, c6, A2, c2, rfl, o6, R6, hc6, b5⟩
          have ap6 : ∀ v ∈ vc :: (.slice A1 4 c1) :: rvs', (Value.slice A6 r c6).ownBlock = none ∨ (Value.slice A6 r c6).ownBlock ≠ v.ownBlock := fun v hv => by
            cases e : (Value.slice A6 r c6).ownBlock with
            | none => exact .inl rfl
            | some k =>
              right
              intro e'
              have a1 := (World.ownsRow.lt o6 k e).1
              have a2 := (S.own.blocks hv e'.symm).2
              omega
          have hbn : (Value.slice A6 r c6).ownBlock ≠ some b := fun e => by
            have a1 := (World.ownsRow.lt o6 b e).1
            have a2 := S.box.lt
            omega
          have o6b := o6.base S.low.size
          have S5 := S.up b5
          obtain ⟨Ac, cc, _, _, rfl, e2, -⟩ := S5.own.form
          obtain ⟨k, hk⟩ : ∃ k, cs.length = k := ⟨_, rfl⟩
          have HK := Lib.hid hk
          rw [hk] at hsh
          try rw [show (⟨cs, xs.take 4⟩ : Hp).cs.length = k from hk] at S5
          try rw [show (⟨cs, xs.take 4⟩ : Hp).cs.length = k from hk] at ap6
          have b6 := (Below.refl w5.heap.size w5).alloc (Nat.le_refl _) (.cells #[.bool true, .int .i64 x, .slice A6 r c6] 61)
          have S6 := S5.up b6
          have q6 := Rw.new w5 61 #[.bool true, .int .i64 x, .slice A6 r c6]
          have o6c := o6b.below b6 (Nat.le_refl _)
          have R6b := R6.below (b6.mono (by have := b5.size; have := S.low.size; rw [HW.out] at this; omega))
          clear S S5 o6 o6b R6 R e2 hk
          go_upto_region 7 with fail
          generalize w5.alloc (.cells #[.bool true, .int .i64 x, .slice A6 r c6] 61) = w6 at S6 q6 o6c R6b ⊢
          generalize w5.heap.size = q at q6 ⊢
          have x0 : w6.cell? ⟨b, 0, none⟩ = some (.slice Ac k cc) := S6.box.cell 0
          have z0 : w6.cell? ⟨q, 0, none⟩ = some (.bool true) := q6.cell 0
          have z1 : w6.cell? ⟨q, 1, none⟩ = some (.int .i64 x) := q6.cell 1
          have z2 : w6.cell? ⟨q, 2, none⟩ = some (.slice A6 r c6) := q6.cell 2
          have b7 := (Below.refl w6.heap.size w6).alloc (Nat.le_refl _) (.cells #[.bool true, .int .i64 x, .slice A6 r c6] 61)
          have S7 := S6.up b7
          have q7 := Rw.new w6 61 #[.bool true, .int .i64 x, .slice A6 r c6]
          have o7 := o6c.below b7 (Nat.le_refl _)
          have R7 := R6b.below (b7.mono (by have := S6.low.size; rw [HW.out] at this; omega))
          have row7 := S7.own.row
          rw [show (⟨cs, xs.take 4⟩ : Hp).cs.length = k from HK.out] at row7
          have hz7 := S7.low.size
          have hz7' := S6.low.size
          rw [HW.out] at hz7'
          clear S6 o6c R6b
          go_upto_region 10 with (at_builtin; refine wpList_appendC rfl (.tmp 32) (.tmp 34) rfl w0.heap.size _ k (flatC cs rvs') rfl row7 w6.heap.size true x A6 r c6 rfl q7 (by omega) hz7 ?_; intro v9 w9 A9 c9 e9 o9 g9 s9; subst e9; have S9 := S7.snoc (cl := ⟨true, x, (rs.drop 2).take r⟩) g9 (by rw [show (⟨cs, xs.take 4⟩ : Hp).cs.length = k from HK.out]; exact o9) s9 o7 ap6 hbn; have R9 := (R7.below (((Below.refl w.heap.size _).grown g9 (by simp; omega) (fun kk hk => by have := (World.ownsRow.lt row7 kk hk).1; rw [HW.out] at this; omega)).setCell (p := ⟨b, 0, none⟩) (by have := S7.lo; rw [HW.out] at this; show w.heap.size ≤ b; omega) (.slice A9 (k + 1) c9))); have hb9 := Rw.far S7.box g9 (row_type row7 S7.box (by decide)); have y0 : w9.cell? ⟨b, 0, none⟩ = some (.slice Ac k cc) := hb9.cell 0; have yf := hb9.frozen 0; clear hb9 S7)
          clear x0 z0 z1 z2 y0 yf
          go_wp2_with fail
          go_roundw
          case rel => exact ⟨_, _, _, _, _, _, _, rfl, hc6, R9, S9, HN⟩
          case measure => simp [lenS]; omega
end Go.Proofs.Ytmjejcfifkbkoaa
