/- A queue of numbers of a call's own: a slice that begins somewhere in its block, and to which is appended. No conditions. -/
import Derived.Test.YthmddmddcdofaaaGb
import Derived.Test.YthmddmddcdofaaaKz
namespace Go.Proofs.Ythmddmddcdofaaa
open Go.RowKit
set_option maxRecDepth 100000

/-- an append to a slice that begins at cell o of its block, where there is room -/
theorem run_append_room_off {P : Program} (w : World) (t ty e : TypeId) (i : TypeInfo) (ht : P.underlying t = some (.slice e)) (hi : P.info? e = some i)
    (g o sLen sCap : Nat) (cur : Array Value) (hg : w.heap[g]? = some (.cells cur e (0, 0)))
    (a : Addr) (m c : Nat) (news : List Value) (hl : news.length = m * i.size) (hnews : ∀ j u, news[j]? = some u → w.cell? (a.add j) = some u) (h1 : ∀ u ∈ news, u.oneCell' = true)
    (hroom : sLen + m ≤ sCap) (hfit : o + sLen * i.size + news.length ≤ cur.size) :
    (Builtin.append_ #[t, t] ty #[.slice (some ⟨g, o, none⟩) sLen sCap, .slice (some a) m c]).run P w =
      .ok (.slice (some ⟨g, o, none⟩) (sLen + m) sCap) (w.setRow g (cur.toList.take (o + sLen * i.size) ++ news ++ cur.toList.drop (o + sLen * i.size + news.length)).toArray) := by
  have hf := run_firstCells_some (P := P) w i.size m a m c news hl hnews
  have hst := run_storeCells_at P g (o + sLen * i.size) e news 0 cur w hg (by simpa using hfit) h1
  simp only [Nat.add_zero] at hst
  simp [Builtin.append_, run_underlying ht, sizeOf, typeInfo, hi, Builtin.lenOf, hroom, hf, add_lit, hst]

/-- the value v owns the numbers xs: a row that begins somewhere in a block, from block 'base' on -/
def OwnQ (w : World) (base : Nat) (v : Value) (xs : List Int) : Prop :=
  (v = .slice none 0 0 ∧ xs = []) ∨ ∃ g o cap cur, v = .slice (some ⟨g, o, none⟩) xs.length cap ∧ base ≤ g ∧ w.heap[g]? = some (.cells cur 3 (0, 0)) ∧ xs.length ≤ cap ∧ o + cap ≤ cur.size ∧ cap ≤ 9223372036854775807 ∧ ∀ (k : Nat) (u : Int), xs[k]? = some u → cur[o + k]? = some (.int .i64 u)
section
variable {w w' : World} {bs bs' B : Nat} {v : Value} {xs ys : List Int}
theorem OwnI.queue (h : OwnI w bs v xs) : OwnQ w bs v xs := by
  rcases h.2 with ⟨rfl, h0⟩ | ⟨g, cap, cur, rfl, hb, hh, hnc, hcap, hsz, hx⟩
  · exact .inl ⟨rfl, List.eq_nil_of_length_eq_zero h0⟩
  · refine .inr ⟨g, 0, cap, cur, rfl, hb, hh, hnc, by omega, by unfold maxLen at hcap; omega, fun k u hk => ?_⟩
    have h1 : (xs.map (Value.int .i64))[k]? = some (.int .i64 u) := by rw [List.getElem?_map, hk]; rfl
    rw [← hx, List.getElem?_take] at h1
    split at h1
    · rw [Nat.zero_add]; simpa using h1
    · cases h1
theorem OwnQ.lt (h : OwnQ w bs v xs) : ∀ k, v.ownBlock = some k → bs ≤ k ∧ k < w.heap.size := by
  intro k hk
  rcases h with ⟨rfl, _⟩ | ⟨g, o, cap, cur, rfl, hb, hh, _⟩
  · cases hk
  · obtain rfl : g = k := Option.some.inj hk
    exact ⟨hb, (Array.getElem?_eq_some_iff.1 hh).1⟩
theorem OwnQ.kept {row : Option Nat} (h : OwnQ w bs v xs) (hg : w.grownBy w' row) (hne : v.ownBlock = none ∨ v.ownBlock ≠ row) : OwnQ w' bs v xs := by
  rcases h with h0 | ⟨g, o, cap, cur, rfl, hb, hh, hr⟩
  · exact .inl h0
  · refine .inr ⟨g, o, cap, cur, rfl, hb, (hg.block g (Array.getElem?_eq_some_iff.1 hh).1 fun e => ?_).trans hh, hr⟩
    rcases hne with h1 | h1
    · cases h1
    · exact h1 e
theorem OwnQ.below (h : OwnQ w bs v xs) (hb : Below B w w') (hB : w.heap.size ≤ B) : OwnQ w' bs v xs := by
  rcases h with h0 | ⟨g, o, cap, cur, e, hb', hh, hr⟩
  · exact .inl h0
  · exact .inr ⟨g, o, cap, cur, e, hb', (hb.block g (Nat.lt_of_lt_of_le (Array.getElem?_eq_some_iff.1 hh).1 hB)).trans hh, hr⟩
theorem OwnQ.base (h : OwnQ w bs v xs) (hb : bs' ≤ bs) : OwnQ w bs' v xs := by
  rcases h with h0 | ⟨g, o, cap, cur, e, hb', hr⟩
  · exact .inl h0
  · exact .inr ⟨g, o, cap, cur, e, by omega, hr⟩
theorem OwnQ.form (h : OwnQ w bs v xs) : ∃ A c, v = .slice A xs.length c := by
  rcases h with ⟨rfl, rfl⟩ | ⟨g, o, cap, cur, rfl, _⟩
  · exact ⟨none, 0, rfl⟩
  · exact ⟨_, _, rfl⟩
/-- the first number, and what is left without it -/
theorem OwnQ.head {x : Int} (h : OwnQ w bs v (x :: xs)) : ∃ g o c, v = .slice (some ⟨g, o, none⟩) (xs.length + 1) c ∧ g < w.heap.size ∧ w.cell? ⟨g, o, none⟩ = some (.int .i64 x) ∧ xs.length + 1 ≤ c ∧ c ≤ 9223372036854775807 ∧ OwnQ w bs (if c = 1 then .slice (some ⟨g, o, none⟩) 0 0 else .slice (some ⟨g, o + 1, none⟩) xs.length (c - 1)) xs := by
  rcases h with ⟨_, h0⟩ | ⟨g, o, cap, cur, e, hb, hh, hnc, hsz, hcap, hc⟩
  · cases h0
  · refine ⟨g, o, cap, e, (Array.getElem?_eq_some_iff.1 hh).1, ?_, hnc, hcap, ?_⟩
    · have := hc 0 x rfl
      rw [Nat.add_zero] at this
      exact (cell_of_row w g o cur 3 (0, 0) hh).trans this
    · have hnc' : xs.length + 1 ≤ cap := hnc
      by_cases h1 : cap = 1
      · rw [if_pos h1]
        obtain rfl : xs = [] := List.eq_nil_of_length_eq_zero (by omega)
        exact .inr ⟨g, o, 0, cur, rfl, hb, hh, Nat.le_refl _, by omega, by omega, fun k u hk => by simp at hk⟩
      · rw [if_neg h1]
        refine .inr ⟨g, o + 1, cap - 1, cur, rfl, hb, hh, by omega, by omega, by omega, fun k u hk => ?_⟩
        have := hc (k + 1) u (by simpa using hk)
        rw [show o + 1 + k = o + (k + 1) by omega]
        exact this
end

theorem run_appendQ (w : World) (base : Nat) (v : Value) (xs : List Int) (hown : OwnQ w base v xs) (ag c : Nat) (y : Int) (hr : w.cell? ⟨ag, 0, none⟩ = some (.int .i64 y)) (hn : xs.length + 1 ≤ 1099511627776) (hbase : base ≤ w.heap.size) (ty : TypeId) :
    ∃ v' w', (Builtin.append_ #[24, 24] ty #[v, .slice (some ⟨ag, 0, none⟩) 1 c]).run Try.prog w = .ok v' w' ∧ OwnQ w' base v' (xs ++ [y]) ∧ w.grownBy w' v.ownBlock ∧ (v'.ownBlock = v.ownBlock ∨ v'.ownBlock = some w.heap.size) := by
  rcases hown with ⟨rfl, rfl⟩ | ⟨g, o, cap, cur, rfl, hbg, hg, hnc, hsz, hcap, hx⟩
  · obtain ⟨v', w', h1, h2, h3, h4⟩ := run_appendI w base (.slice none 0 0) [] (World.ownsRow_nil _ _ _ _) (some ⟨ag, 0, none⟩) 1 c (ag + 1) [y] ⟨rfl, fun _ => ⟨ag, 0, rfl, by omega, fun k b hk => by
      obtain rfl : k = 0 := by have := (List.getElem?_eq_some_iff.1 hk).1; simpa using this
      obtain rfl : y = b := by simpa using hk
      exact hr⟩⟩ hn hbase ty
    exact ⟨v', w', h1, h2.queue, h3, h4⟩
  · obtain ⟨i0, hi0, hz0, hz1, hz2⟩ := info_parts info_int
    have hnews : ∀ (j : Nat) (u : Value), [Value.int .i64 y][j]? = some u → w.cell? ((⟨ag, 0, none⟩ : Addr).add j) = some u := by
      intro j u hj
      cases j with
      | zero =>
        obtain rfl : Value.int .i64 y = u := by simpa using hj
        rw [Addr.add_zero']
        exact hr
      | succ j => simp at hj
    have hgt : g < w.heap.size := (Array.getElem?_eq_some_iff.1 hg).1
    by_cases hroom : xs.length + 1 ≤ cap
    · have hrun := run_append_room_off (P := Try.prog) w 24 ty 3 i0 Try.underlying24 hi0 g o xs.length cap cur hg ⟨ag, 0, none⟩ 1 c [.int .i64 y] (by simp [hz1]) hnews (by simp [Value.oneCell']) hroom (by rw [hz1]; simp; omega)
      rw [hz1, Nat.mul_one] at hrun
      refine ⟨_, _, hrun, .inr ⟨g, o, cap, _, by simp, hbg, setRow_heap w g cur _ 3 _ hg, by simpa using hroom, ?_, hcap, ?_⟩, ⟨rfl, rfl, rfl, by simp, fun k _ hk => setRow_other w g k _ (fun e => hk (by simp [Value.ownBlock, e]))⟩, .inl rfl⟩
      · simp only [List.size_toArray, List.length_append, List.length_take, List.length_drop, Array.length_toList, List.length_singleton]
        omega
      · intro k u hk
        simp only [List.getElem?_toArray]
        rcases Nat.lt_or_ge k xs.length with hlt | hge
        · rw [List.getElem?_append_left (by simp; omega), List.getElem?_append_left (by simp; omega), List.getElem?_take, if_pos (by omega)]
          rw [List.getElem?_append_left hlt] at hk
          simpa using hx k u hk
        · have hk1 : k = xs.length := by
            have := (List.getElem?_eq_some_iff.1 hk).1
            simp at this
            omega
          subst hk1
          rw [List.getElem?_append_right (Nat.le_refl _), Nat.sub_self] at hk
          obtain rfl : y = u := by simpa using hk
          rw [List.getElem?_append_left (by simp; omega), List.getElem?_append_right (by simp; omega), List.length_take, Nat.min_eq_left (by simp; omega), Nat.sub_self]
          rfl
    · have holds : ∀ (j : Nat) (u : Value), (xs.map (Value.int .i64))[j]? = some u → w.cell? ((⟨g, o, none⟩ : Addr).add j) = some u := by
        intro j u hj
        rw [add_lit, cell_of_row w g (o + j) cur 3 (0, 0) hg]
        rw [List.getElem?_map] at hj
        cases hq : xs[j]? with
        | none => rw [hq] at hj; cases hj
        | some b =>
          rw [hq] at hj
          rw [← Option.some.inj hj]
          exact hx j b hq
      have hrun := run_append_grow (P := Try.prog) w 24 ty 3 i0 _ Try.underlying24 hi0 hz0 ⟨g, o, none⟩ xs.length cap (xs.map (.int .i64)) (by simp [hz1]) holds ⟨ag, 0, none⟩ 1 c [.int .i64 y] (by simp [hz1]) hnews (by omega) (by omega) (growslice_fits (by omega) (by rw [hz2]; omega))
      refine ⟨_, _, hrun, ?_, ⟨rfl, rfl, rfl, by simp, fun k hk _ => heap_alloc_old w.drew _ hk⟩, .inr rfl⟩
      have hge := grownCap_ge w (xs.length + 1) cap 3
      refine .inr ⟨w.heap.size, 0, grownCap w (xs.length + 1) cap 3, _, by simp, hbase, heap_alloc_new w.drew _, by simpa using hge, ?_, ?_, ?_⟩
      · simp [size_zeroCells, Value.cells]
        omega
      · have := grownCap_le_maxLen w (xs.length + 1) cap 3 (by unfold maxLen; omega)
        unfold maxLen at this
        omega
      · intro k u hk
        rw [Nat.zero_add, Array.getElem?_append_left (by simp; have := (List.getElem?_eq_some_iff.1 hk).1; simpa using this)]
        rw [show (xs.map (Value.int .i64)).toArray ++ #[Value.int .i64 y] = (xs.map (Value.int .i64) ++ [Value.int .i64 y]).toArray by simp, List.getElem?_toArray, show xs.map (Value.int .i64) ++ [Value.int .i64 y] = (xs ++ [y]).map (Value.int .i64) by simp, List.getElem?_map, hk]
        rfl

theorem wpList_appendQ {w : World} {ops : Array Oper} {rest : List Oper} {o : Oper} {a : Act} {Q : Exit → Act → World → Prop} (hgd : o.guard = none) (s x : Operand)
    (ho : o.op = .call { callee := .builtin .append, args := #[s, x], argTypes := #[24, 24] })
    (base : Nat) (v : Value) (xs : List Int) (hs : a.eval s = v) (hown : OwnQ w base v xs) (ag c : Nat) (y : Int) (hx : a.eval x = .slice (some ⟨ag, 0, none⟩) 1 c) (hr : w.cell? ⟨ag, 0, none⟩ = some (.int .i64 y))
    (hn : xs.length + 1 ≤ 1099511627776) (hbase : base ≤ w.heap.size)
    (h : ∀ v' w', OwnQ w' base v' (xs ++ [y]) → w.grownBy w' v.ownBlock → (v'.ownBlock = v.ownBlock ∨ v'.ownBlock = some w.heap.size) → wpList Try.prog ops Q rest (a.put o.dst v') w') : wpList Try.prog ops Q (o :: rest) a w :=
  wpList_plain hgd fun _ hK => by
    obtain ⟨v', w', hrun, h2, h3, h4⟩ := run_appendQ w base v xs hown ag c y hr hn hbase o.type
    unfold Oper.wp execOp
    simp only [ho, resolve, invoke, builtin, Sem.run_bind, Sem.run_pure, Result.andThen_ok, List.map_toArray, List.map_cons, List.map_nil, hs, hx, hrun]
    exact hK _ _ (h v' w' h2 h3 h4)
end Go.Proofs.Ythmddmddcdofaaa
