/- Slices of numbers: how they lie in memory, owned rows, appending, making and storing; sameInts. No conditions. -/
import Derived.Test.YtkdoolilggkjpaaAppend
import Derived.Test.YtkdoolilggkjpaaWg
import Derived.Maps.AppendAt
namespace Go.Proofs.Ytkdoolilggkjpaa
open Go.RowKit

/-- the slice value '.slice A n _' reads as the numbers xs, and lies below block B -/
def IS (w : World) (B : Nat) (A : Option Addr) (n : Nat) (xs : List Int) : Prop :=
  xs.length = n ∧ (0 < n → ∃ g o, A = some ⟨g, o, none⟩ ∧ g < B ∧ ∀ (k : Nat) (b : Int), xs[k]? = some b → w.cell? ⟨g, o + k, none⟩ = some (.int .i64 b))
section
variable {w w' : World} {B B' n : Nat} {A : Option Addr} {xs : List Int}
theorem IS.keep (h : IS w B A n xs) (hk : ∀ p : Addr, p.block < B → w'.cell? p = w.cell? p) : IS w' B A n xs :=
  ⟨h.1, fun hn => by
    obtain ⟨g, o, e, hb, hc⟩ := h.2 hn
    exact ⟨g, o, e, hb, fun k x hx => (hk _ hb).trans (hc k x hx)⟩⟩
theorem IS.more (h : IS w B A n xs) (hB : B ≤ B') : IS w B' A n xs :=
  ⟨h.1, fun hn => by
    obtain ⟨g, o, e, hb, hc⟩ := h.2 hn
    exact ⟨g, o, e, by omega, hc⟩⟩
theorem IS.below (h : IS w B A n xs) (hb : Below B w w') : IS w' B A n xs := h.keep fun _ hp => hb.cell hp
theorem IS.up {w w' : World} {n : Nat} {A : Option Addr} {xs : List Int} (h : IS w w.heap.size A n xs) (hb : Below w.heap.size w w') : IS w' w'.heap.size A n xs := (h.below hb).more hb.size
theorem IS.at_ {k : Nat} (h : IS w B A n xs) (hk : k < n) : ∃ g o b, A = some ⟨g, o, none⟩ ∧ g < B ∧ xs[k]? = some b ∧ w.cell? ⟨g, o + k, none⟩ = some (.int .i64 b) := by
  obtain ⟨g, o, e, hb, hc⟩ := h.2 (by omega)
  have hl : k < xs.length := by have := h.1; omega
  have hx := List.getElem?_eq_getElem hl
  exact ⟨g, o, _, e, hb, hx, hc k _ hx⟩
theorem IS.none_ (w : World) (B : Nat) (A : Option Addr) : IS w B A 0 [] := ⟨rfl, fun h => by omega⟩
end

/-- the value v owns the numbers xs, in a row from block 'base' on -/
def OwnI (w : World) (base : Nat) (v : Value) (xs : List Int) : Prop := w.ownsRow base 3 1 v xs.length (xs.map (.int .i64))
theorem OwnI.form {w : World} {base : Nat} {v : Value} {xs : List Int} (h : OwnI w base v xs) : ∃ A c, v = .slice A xs.length c ∧ (0 < xs.length → ∃ g, A = some ⟨g, 0, none⟩ ∧ base ≤ g ∧ g < w.heap.size) := by
  rcases h.2 with ⟨rfl, h0⟩ | ⟨g, cap, cur, rfl, hb, hh, _⟩
  · exact ⟨none, 0, by rw [h0], fun h => by omega⟩
  · exact ⟨some ⟨g, 0, none⟩, cap, rfl, fun _ => ⟨g, rfl, hb, (Array.getElem?_eq_some_iff.1 hh).1⟩⟩
theorem OwnI.reads {w : World} {base n c : Nat} {A : Option Addr} {xs : List Int} (h : OwnI w base (.slice A n c) xs) : IS w w.heap.size A n xs := by
  rcases h.2 with ⟨e, h0⟩ | ⟨g, cap, cur, e, hb, hh, _⟩
  · injection e with e1 e2 e3
    subst e2
    have : xs = [] := List.eq_nil_of_length_eq_zero h0
    subst this
    exact ⟨rfl, fun h => by omega⟩
  · injection e with e1 e2 e3
    subst e1 e2 e3
    refine ⟨rfl, fun hn => ⟨g, 0, rfl, (Array.getElem?_eq_some_iff.1 hh).1, fun k x hx => ?_⟩⟩
    have hk : k < xs.length := (List.getElem?_eq_some_iff.1 hx).1
    have c1 := World.ownsRow.cellAt h k (by omega)
    rw [Nat.zero_add]
    refine c1.trans ?_
    rw [List.getElem?_map, hx]
    rfl
theorem OwnI.below {w w' : World} {base B : Nat} {v : Value} {xs : List Int} (h : OwnI w base v xs) (hb : Below B w w') (hB : w.heap.size ≤ B) : OwnI w' base v xs := by
  refine ⟨h.1, ?_⟩
  rcases h.2 with h0 | ⟨g, cap, cur, e, hb', hh, hr⟩
  · exact .inl h0
  · exact .inr ⟨g, cap, cur, e, hb', (hb.block g (Nat.lt_of_lt_of_le (Array.getElem?_eq_some_iff.1 hh).1 hB)).trans hh, hr⟩
theorem OwnI.base {w : World} {base base' : Nat} {v : Value} {xs : List Int} (h : OwnI w base v xs) (hb : base' ≤ base) : OwnI w base' v xs := by
  refine ⟨h.1, ?_⟩
  rcases h.2 with h0 | ⟨g, cap, cur, e, hb', hh, hr⟩
  · exact .inl h0
  · exact .inr ⟨g, cap, cur, e, by omega, hh, hr⟩
theorem OwnI.far {w w' : World} {base : Nat} {v : Value} {xs : List Int} {row : Option Nat} (h : OwnI w base v xs) (hg : w.grownBy w' row) (hne : v.ownBlock = none ∨ v.ownBlock ≠ row) : OwnI w' base v xs := World.ownsRow.kept h hg hne
theorem OwnI.cast {w : World} {base : Nat} {v : Value} {xs ys : List Int} (e : xs = ys) (h : OwnI w base v xs) : OwnI w base v ys := e ▸ h
theorem OwnI.cap {w : World} {base n c : Nat} {A : Option Addr} {xs : List Int} (h : OwnI w base (.slice A n c) xs) : n = xs.length ∧ n ≤ c := by
  rcases h.2 with ⟨e, h0⟩ | ⟨g, cap, cur, e, _, _, hc, _⟩
  · injection e with e1 e2 e3
    omega
  · injection e with e1 e2 e3
    omega
theorem sep_ofI {w1 w2 : World} {b1 b2 : Nat} {v0 v1 : Value} {xs ys : List Int} (h0 : OwnI w1 b1 v0 xs) (h1 : OwnI w2 b2 v1 ys) (hb : w1.heap.size ≤ b2) : v0.ownBlock = none ∨ v0.ownBlock ≠ v1.ownBlock := by
  cases e0 : v0.ownBlock with
  | none => exact .inl rfl
  | some k =>
    right
    intro e
    have a := (World.ownsRow.lt h0 k e0).2
    have b := (World.ownsRow.lt h1 k e.symm).1
    omega
theorem own_noneI (w : World) (base : Nat) (hb : base ≤ w.heap.size) : OwnI (w.alloc (.cells #[] 3)) base (.slice (some ⟨w.heap.size, 0, none⟩) 0 0) [] :=
  World.ownsRow_lit (base := base) (e := 3) (size := 1) w #[] 0 hb (by unfold maxLen; omega) rfl
theorem own_oneI (w : World) (b : Int) (base : Nat) (hb : base ≤ w.heap.size) : OwnI (w.alloc (.cells #[.int .i64 b] 3)) base (.slice (some ⟨w.heap.size, 0, none⟩) 1 1) [b] :=
  World.ownsRow_lit (base := base) (e := 3) (size := 1) w #[.int .i64 b] 1 hb (by unfold maxLen; omega) rfl
/-- all numbers fit -/
def AllN (xs : List Int) : Prop := ∀ (k : Nat) (v : Int), xs[k]? = some v → I64 v
theorem AllN.append {xs ys : List Int} (h : AllN xs) (h2 : AllN ys) : AllN (xs ++ ys) := by
  intro k v hv
  rcases Nat.lt_or_ge k xs.length with h1 | h1
  · rw [List.getElem?_append_left h1] at hv
    exact h k v hv
  · rw [List.getElem?_append_right h1] at hv
    exact h2 _ v hv
/-- one word of an owned row is written -/
theorem OwnI.put {w : World} {base g c j : Nat} {xs : List Int} (h : OwnI w base (.slice (some ⟨g, 0, none⟩) xs.length c) xs) (b : Int) :
    OwnI (w.setCell ⟨g, j, none⟩ (.int .i64 b)) base (.slice (some ⟨g, 0, none⟩) xs.length c) (xs.set j b) := by
  have := (World.ownsRow.stored h j (.int .i64 b)).1
  unfold OwnI
  rw [List.length_set, List.map_set]
  exact this

theorem info_int : (Try.prog.info? 3).map (fun i => (i.zero, i.size, i.bytes)) = some (some (.int .i64 0), 1, 8) := by kernel_rfl

theorem run_appendI (w : World) (base : Nat) (v : Value) (xs : List Int) (hown : OwnI w base v xs) (A : Option Addr) (m c B : Nat) (ys : List Int) (hr : IS w B A m ys) (hn : xs.length + m ≤ 1099511627776) (hbase : base ≤ w.heap.size) (ty : TypeId) :
    ∃ v' w', (Builtin.append_ #[24, 24] ty #[v, .slice A m c]).run Try.prog w = .ok v' w' ∧ OwnI w' base v' (xs ++ ys) ∧ w.grownBy w' v.ownBlock ∧ (v'.ownBlock = v.ownBlock ∨ v'.ownBlock = some w.heap.size) := by
  obtain ⟨i0, hi0, hz0, hz1, hz2⟩ := info_parts info_int
  have hm := hr.1
  rcases A with _ | ad
  · have h0 : m = 0 := by
      rcases Nat.eq_zero_or_pos m with h0 | h0
      · exact h0
      · obtain ⟨g, o, e, _⟩ := hr.2 h0
        cases e
    subst h0
    have : ys = [] := List.eq_nil_of_length_eq_zero hm
    subst this
    refine ⟨v, w, ?_, by simpa using hown, World.grownBy.refl _ _, .inl rfl⟩
    rcases hown.2 with ⟨rfl, _⟩ | ⟨g, cap, cur, rfl, _, _, hnc, _⟩
    · simp [Builtin.append_, run_underlying Try.underlying24, sizeOf, typeInfo, hi0, Builtin.lenOf, Builtin.firstCells]
    · simp [Builtin.append_, run_underlying Try.underlying24, sizeOf, typeInfo, hi0, Builtin.lenOf, Builtin.firstCells, hnc, storeCells]
  · have hcells : ∀ j u, (ys.map (Value.int .i64))[j]? = some u → w.cell? (ad.add j) = some u := by
      intro j u hj
      rcases Nat.eq_zero_or_pos m with h0 | h0
      · subst h0
        have : ys = [] := List.eq_nil_of_length_eq_zero hm
        subst this
        simp at hj
      · obtain ⟨g, o, e, _, hc⟩ := hr.2 h0
        replace e := Option.some.inj e
        subst e
        rw [add_lit]
        rw [List.getElem?_map] at hj
        cases hy : ys[j]? with
        | none => rw [hy] at hj; cases hj
        | some b =>
          rw [hy] at hj
          replace hj := Option.some.inj hj
          subst hj
          exact hc j b hy
    obtain ⟨v', w', hrun, h2, h3, _, h5⟩ := run_append_own_at (P := Try.prog) w base 24 ty 3 i0 _ 1 8 Try.underlying24 hi0 hz0 hz1 hz2 rfl (by omega) v xs.length (xs.map (.int .i64)) hown ad m c (ys.map (.int .i64))
      (by rw [List.length_map, hm]; omega) hcells (by intro u hu; obtain ⟨b, _, rfl⟩ := List.mem_map.1 hu; rfl) (by unfold maxLen; omega) (by omega) hbase
    refine ⟨v', w', hrun, ?_, h3, h5⟩
    unfold OwnI
    rw [List.map_append, List.length_append, hm]
    exact h2

theorem wpList_appendI {w : World} {ops : Array Oper} {rest : List Oper} {o : Oper} {a : Act} {Q : Exit → Act → World → Prop} (hgd : o.guard = none) (s x : Operand)
    (ho : o.op = .call { callee := .builtin .append, args := #[s, x], argTypes := #[24, 24] })
    (base : Nat) (v : Value) (xs : List Int) (hs : a.eval s = v) (hown : OwnI w base v xs) (A : Option Addr) (m c B : Nat) (ys : List Int) (hx : a.eval x = .slice A m c) (hr : IS w B A m ys)
    (hn : xs.length + m ≤ 1099511627776) (hbase : base ≤ w.heap.size)
    (h : ∀ v' w', OwnI w' base v' (xs ++ ys) → w.grownBy w' v.ownBlock → (v'.ownBlock = v.ownBlock ∨ v'.ownBlock = some w.heap.size) → wpList Try.prog ops Q rest (a.put o.dst v') w') : wpList Try.prog ops Q (o :: rest) a w :=
  wpList_plain hgd fun _ hK => by
    obtain ⟨v', w', hrun, h2, h3, h4⟩ := run_appendI w base v xs hown A m c B ys hr hn hbase o.type
    unfold Oper.wp execOp
    simp only [ho, resolve, invoke, builtin, Sem.run_bind, Sem.run_pure, Result.andThen_ok, List.map_toArray, List.map_cons, List.map_nil, hs, hx, hrun]
    exact hK _ _ (h v' w' h2 h3 h4)

/-- numbers of the call's own -/
def GaveI (w : World) (xs : List Int) (e : Ending) (w' : World) : Prop := ∃ v, e = .returned v ∧ OwnI w' w.heap.size v xs ∧ Below w.heap.size w w'
/-- numbers of the call's own, and a bool -/
def GaveI2 (w : World) (xs : List Int) (ok : Bool) (e : Ending) (w' : World) : Prop := ∃ v, e = .returned (.tuple #[v, .bool ok]) ∧ OwnI w' w.heap.size v xs ∧ Below w.heap.size w w'

theorem take_eq_succI {xs ys : List Int} {k : Nat} {a : Int} (h : xs.take k = ys.take k) (hx : xs[k]? = some a) (hy : ys[k]? = some a) : xs.take (k + 1) = ys.take (k + 1) := by
  rw [List.take_add_one, List.take_add_one, h, hx, hy]

theorem sameInts_any (A B : Option Addr) (n m c d : Nat) (xs ys : List Int) (w : World) (h : IS w w.heap.size A n xs) (h' : IS w w.heap.size B m ys) (hn : n ≤ 1099511627776) (hm : m ≤ 1099511627776) :
    Calls Try.prog 26 #[.slice A n c, .slice B m d] w fun e w' => e = .returned (.bool (decide (xs = ys))) ∧ Below w.heap.size w w' := by
  have HL := Lib.hid h.1
  have HL' := Lib.hid h'.1
  by_cases hnm : n = m
  · subst hnm
    go_enter Try.func26, Try.ntmps26
    go_wp2
    go_loopw [5] (fun i wr => ∃ (k : Nat), k ≤ n ∧ i = .int .i64 k ∧ Hid (xs.take k = ys.take k) ∧ Below w.heap.size w wr) (fun i _ => n - (intOf i).toNat)
    case atStart => exact ⟨0, Nat.zero_le _, rfl, by simp [Hid], Below.refl _ _⟩
    case round =>
      obtain ⟨k, hk, rfl, hpre, hb⟩ := hrel
      by_cases hlt : k < n
      · obtain ⟨g, o, x, rfl, hg, hx, c1⟩ := (h.below hb).at_ hlt
        obtain ⟨g', o', y, rfl, hg', hx', c1'⟩ := (h'.below hb).at_ hlt
        have HX := Lib.hid hx
        have HX' := Lib.hid hx'
        have hlt' : (k : Int) < n := by omega
        clear hx hx'
        by_cases hxy : x = y
        · subst hxy
          go_wp2_with fail
          go_quiet (fail)
          go_wp2
          go_roundw
          case rel => exact ⟨k + 1, by omega, by go_num, Lib.hid (take_eq_succI hpre.out HX.out HX'.out), below_drewN hb _⟩
          case measure => simp [intOf]; omega
        · have hne : (x == y) = false := by rw [beq_eq_false_iff_ne]; exact hxy
          have hne2 : (x != y) = true := by rw [bne_iff_ne]; exact hxy
          have HNE := Lib.hid (show xs ≠ ys from fun e => hxy (by
            have a := HX.out
            have b := HX'.out
            rw [e, b] at a
            exact (Option.some.inj a).symm))
          clear hxy
          go_wp2_with fail
          go_quiet (fail)
          go_wp2
          go_ret
          exact ⟨ret_bool (decide_eq_false HNE.out).symm, below_drewN hb _⟩
      · have hkn : k = n := by omega
        have HK := Lib.hid hkn
        clear hkn
        go_wp2
        go_ret
        refine ⟨ret_bool ?_, hb⟩
        have hp := hpre.out
        rw [HK.out, List.take_of_length_le (by rw [HL.out]; omega), List.take_of_length_le (by rw [HL'.out]; omega)] at hp
        simp [hp]
  · have hne : ((n : Int) != m) = true := by rw [bne_iff_ne]; omega
    have HN := Lib.hid hnm
    clear hnm
    go_enter Try.func26, Try.ntmps26
    go_wp2
    go_ret
    refine ⟨ret_bool ?_, Below.refl _ _⟩
    simp
    rintro rfl
    exact HN.out (HL.out.symm.trans HL'.out)

theorem OwnI.put' {w : World} {base g c j n : Nat} {xs : List Int} (h : OwnI w base (.slice (some ⟨g, 0, none⟩) n c) xs) (hn : xs.length = n) (b : Int) :
    OwnI (w.setCell ⟨g, j, none⟩ (.int .i64 b)) base (.slice (some ⟨g, 0, none⟩) n c) (xs.set j b) := by
  subst hn
  exact h.put b

theorem OwnI.frozen {w : World} {base g c n : Nat} {xs : List Int} (h : OwnI w base (.slice (some ⟨g, 0, none⟩) n c) xs) (hn : xs.length = n) (i : Nat) : w.frozen? ⟨g, i, none⟩ = false := by
  subst hn
  exact World.ownsRow.frozenAt h i

theorem madeI_eq (n : Nat) : madeCells (Value.int .i64 0).cells n = Array.replicate n (.int .i64 0) := by
  apply Array.ext
  · simp [madeCells, Value.cells]
  · intro i h1 h2
    simp [madeCells, Value.cells, Nat.mod_one]
theorem makeI (W : World) (n : Nat) (hn : n ≤ 1099511627776) : (Instr.makeSlice 24 (.int .i64 n) (.int .i64 n)).run Try.prog W = .ok (.slice (some ⟨W.heap.size, 0, none⟩) n n) (W.alloc (.cells (Array.replicate n (.int .i64 0)) 3)) := by
  obtain ⟨i0, hi0, hz0, hz1, hz2⟩ := info_parts info_int
  have := run_make (P := Try.prog) W 24 3 i0 _ Try.underlying24 hi0 hz0 .i64 .i64 n n (by omega) (by omega) (by rw [hz2]; omega) (by omega)
  rw [hz1] at this
  rw [← madeI_eq]
  simpa using this
theorem own_madeI (w : World) (n : Nat) (hn : n ≤ 1099511627776) : OwnI (w.alloc (.cells (Array.replicate n (.int .i64 0)) 3)) w.heap.size (.slice (some ⟨w.heap.size, 0, none⟩) n n) (List.replicate n (0 : Int)) := by
  have := World.ownsRow_lit (base := w.heap.size) (e := 3) (size := 1) w (Array.replicate n (.int .i64 0)) n (Nat.le_refl _) (by unfold maxLen; omega) (by simp)
  unfold OwnI
  simpa using this

end Go.Proofs.Ytkdoolilggkjpaa
