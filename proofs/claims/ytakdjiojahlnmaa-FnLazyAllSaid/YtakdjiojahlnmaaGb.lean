/- Slices of numbers: how they lie in memory, owned rows, appending, making and storing; sameInts. No conditions. Heaps in plain mathematics: cells, validity, what can be reached, counts of references. No program, no conditions. Blocks known whole, readers and bytes while memory grows. No conditions. Heaps in memory: how cells and roots lie there, heaps of a call's own. No conditions. A work list that marks what can be reached, in plain mathematics. No program, no conditions. Bitmaps in plain mathematics: runs, taking, giving, finding, the longest run; what the laws of chapter 5 ask. No program, no conditions. Slices of bools: how they lie in memory, owned rows, appending and storing; sameFlags. No conditions. -/
import Derived.Test.YtakdjiojahlnmaaGa
import Derived.Maps.AppendAt
import Derived.Below
namespace Go.Proofs.Ytakdjiojahlnmaa
open Go.RowKit

/-- the slice value '.slice A n _' reads as the numbers xs, and lies below block B -/
def IS (w : World) (B : Nat) (A : Option Addr) (n : Nat) (xs : List Int) : Prop :=
  xs.length = n ∧ (0 < n → ∃ g o, A = some ⟨g, o, none⟩ ∧ g < B ∧ ∀ (k : Nat) (b : Int), xs[k]? = some b → w.cell? ⟨g, o + k, none⟩ = some (.int .i64 b))
section
variable {w w' : World} {B B' n : Nat} {A : Option Addr} {xs : List Int}
theorem IS.keep (h : IS w B A n xs) (hk : ∀ p : Addr, p.block < B → w'.cell? p = w.cell? p) : IS w' B A n xs :=
  ⟨h.1, fun hn => by
    obtain ⟨g, o, e, hb, hc⟩ := h.2 hn
    exact ⟨g, o, e, hb, fun k x hx => (hk _ hb).trans (hc k x hx)⟩⟩
theorem IS.more (h : IS w B A n xs) (hB : B ≤ B') : IS w B' A n xs :=
  ⟨h.1, fun hn => by
    obtain ⟨g, o, e, hb, hc⟩ := h.2 hn
    exact ⟨g, o, e, by omega, hc⟩⟩
theorem IS.below (h : IS w B A n xs) (hb : Below B w w') : IS w' B A n xs := h.keep fun _ hp => hb.cell hp
theorem IS.up {w w' : World} {n : Nat} {A : Option Addr} {xs : List Int} (h : IS w w.heap.size A n xs) (hb : Below w.heap.size w w') : IS w' w'.heap.size A n xs := (h.below hb).more hb.size
theorem IS.at_ {k : Nat} (h : IS w B A n xs) (hk : k < n) : ∃ g o b, A = some ⟨g, o, none⟩ ∧ g < B ∧ xs[k]? = some b ∧ w.cell? ⟨g, o + k, none⟩ = some (.int .i64 b) := by
  obtain ⟨g, o, e, hb, hc⟩ := h.2 (by omega)
  have hl : k < xs.length := by have := h.1; omega
  have hx := List.getElem?_eq_getElem hl
  exact ⟨g, o, _, e, hb, hx, hc k _ hx⟩
theorem IS.none_ (w : World) (B : Nat) (A : Option Addr) : IS w B A 0 [] := ⟨rfl, fun h => by omega⟩
end

/-- the value v owns the numbers xs, in a row from block 'base' on -/
def OwnI (w : World) (base : Nat) (v : Value) (xs : List Int) : Prop := w.ownsRow base 3 1 v xs.length (xs.map (.int .i64))
theorem OwnI.form {w : World} {base : Nat} {v : Value} {xs : List Int} (h : OwnI w base v xs) : ∃ A c, v = .slice A xs.length c ∧ (0 < xs.length → ∃ g, A = some ⟨g, 0, none⟩ ∧ base ≤ g ∧ g < w.heap.size) := by
  rcases h.2 with ⟨rfl, h0⟩ | ⟨g, cap, cur, rfl, hb, hh, _⟩
  · exact ⟨none, 0, by rw [h0], fun h => by omega⟩
  · exact ⟨some ⟨g, 0, none⟩, cap, rfl, fun _ => ⟨g, rfl, hb, (Array.getElem?_eq_some_iff.1 hh).1⟩⟩
theorem OwnI.reads {w : World} {base n c : Nat} {A : Option Addr} {xs : List Int} (h : OwnI w base (.slice A n c) xs) : IS w w.heap.size A n xs := by
  rcases h.2 with ⟨e, h0⟩ | ⟨g, cap, cur, e, hb, hh, _⟩
  · injection e with e1 e2 e3
    subst e2
    have : xs = [] := List.eq_nil_of_length_eq_zero h0
    subst this
    exact ⟨rfl, fun h => by omega⟩
  · injection e with e1 e2 e3
    subst e1 e2 e3
    refine ⟨rfl, fun hn => ⟨g, 0, rfl, (Array.getElem?_eq_some_iff.1 hh).1, fun k x hx => ?_⟩⟩
    have hk : k < xs.length := (List.getElem?_eq_some_iff.1 hx).1
    have c1 := World.ownsRow.cellAt h k (by omega)
    rw [Nat.zero_add]
    refine c1.trans ?_
    rw [List.getElem?_map, hx]
    rfl
theorem OwnI.below {w w' : World} {base B : Nat} {v : Value} {xs : List Int} (h : OwnI w base v xs) (hb : Below B w w') (hB : w.heap.size ≤ B) : OwnI w' base v xs := by
  refine ⟨h.1, ?_⟩
  rcases h.2 with h0 | ⟨g, cap, cur, e, hb', hh, hr⟩
  · exact .inl h0
  · exact .inr ⟨g, cap, cur, e, hb', (hb.block g (Nat.lt_of_lt_of_le (Array.getElem?_eq_some_iff.1 hh).1 hB)).trans hh, hr⟩
theorem OwnI.base {w : World} {base base' : Nat} {v : Value} {xs : List Int} (h : OwnI w base v xs) (hb : base' ≤ base) : OwnI w base' v xs := by
  refine ⟨h.1, ?_⟩
  rcases h.2 with h0 | ⟨g, cap, cur, e, hb', hh, hr⟩
  · exact .inl h0
  · exact .inr ⟨g, cap, cur, e, by omega, hh, hr⟩
theorem OwnI.far {w w' : World} {base : Nat} {v : Value} {xs : List Int} {row : Option Nat} (h : OwnI w base v xs) (hg : w.grownBy w' row) (hne : v.ownBlock = none ∨ v.ownBlock ≠ row) : OwnI w' base v xs := World.ownsRow.kept h hg hne
theorem OwnI.cast {w : World} {base : Nat} {v : Value} {xs ys : List Int} (e : xs = ys) (h : OwnI w base v xs) : OwnI w base v ys := e ▸ h
theorem OwnI.cap {w : World} {base n c : Nat} {A : Option Addr} {xs : List Int} (h : OwnI w base (.slice A n c) xs) : n = xs.length ∧ n ≤ c := by
  rcases h.2 with ⟨e, h0⟩ | ⟨g, cap, cur, e, _, _, hc, _⟩
  · injection e with e1 e2 e3
    omega
  · injection e with e1 e2 e3
    omega
theorem sep_ofI {w1 w2 : World} {b1 b2 : Nat} {v0 v1 : Value} {xs ys : List Int} (h0 : OwnI w1 b1 v0 xs) (h1 : OwnI w2 b2 v1 ys) (hb : w1.heap.size ≤ b2) : v0.ownBlock = none ∨ v0.ownBlock ≠ v1.ownBlock := by
  cases e0 : v0.ownBlock with
  | none => exact .inl rfl
  | some k =>
    right
    intro e
    have a := (World.ownsRow.lt h0 k e0).2
    have b := (World.ownsRow.lt h1 k e.symm).1
    omega
theorem own_noneI (w : World) (base : Nat) (hb : base ≤ w.heap.size) : OwnI (w.alloc (.cells #[] 3)) base (.slice (some ⟨w.heap.size, 0, none⟩) 0 0) [] :=
  World.ownsRow_lit (base := base) (e := 3) (size := 1) w #[] 0 hb (by unfold maxLen; omega) rfl
theorem own_oneI (w : World) (b : Int) (base : Nat) (hb : base ≤ w.heap.size) : OwnI (w.alloc (.cells #[.int .i64 b] 3)) base (.slice (some ⟨w.heap.size, 0, none⟩) 1 1) [b] :=
  World.ownsRow_lit (base := base) (e := 3) (size := 1) w #[.int .i64 b] 1 hb (by unfold maxLen; omega) rfl
/-- all numbers fit -/
def AllN (xs : List Int) : Prop := ∀ (k : Nat) (v : Int), xs[k]? = some v → I64 v
theorem AllN.append {xs ys : List Int} (h : AllN xs) (h2 : AllN ys) : AllN (xs ++ ys) := by
  intro k v hv
  rcases Nat.lt_or_ge k xs.length with h1 | h1
  · rw [List.getElem?_append_left h1] at hv
    exact h k v hv
  · rw [List.getElem?_append_right h1] at hv
    exact h2 _ v hv
/-- one word of an owned row is written -/
theorem OwnI.put {w : World} {base g c j : Nat} {xs : List Int} (h : OwnI w base (.slice (some ⟨g, 0, none⟩) xs.length c) xs) (b : Int) :
    OwnI (w.setCell ⟨g, j, none⟩ (.int .i64 b)) base (.slice (some ⟨g, 0, none⟩) xs.length c) (xs.set j b) := by
  have := (World.ownsRow.stored h j (.int .i64 b)).1
  unfold OwnI
  rw [List.length_set, List.map_set]
  exact this

theorem info_int : (Try.prog.info? 3).map (fun i => (i.zero, i.size, i.bytes)) = some (some (.int .i64 0), 1, 8) := by kernel_rfl

theorem run_appendI (w : World) (base : Nat) (v : Value) (xs : List Int) (hown : OwnI w base v xs) (A : Option Addr) (m c B : Nat) (ys : List Int) (hr : IS w B A m ys) (hn : xs.length + m ≤ 1099511627776) (hbase : base ≤ w.heap.size) (ty : TypeId) :
    ∃ v' w', (Builtin.append_ #[24, 24] ty #[v, .slice A m c]).run Try.prog w = .ok v' w' ∧ OwnI w' base v' (xs ++ ys) ∧ w.grownBy w' v.ownBlock ∧ (v'.ownBlock = v.ownBlock ∨ v'.ownBlock = some w.heap.size) := by
  obtain ⟨i0, hi0, hz0, hz1, hz2⟩ := info_parts info_int
  have hm := hr.1
  rcases A with _ | ad
  · have h0 : m = 0 := by
      rcases Nat.eq_zero_or_pos m with h0 | h0
      · exact h0
      · obtain ⟨g, o, e, _⟩ := hr.2 h0
        cases e
    subst h0
    have : ys = [] := List.eq_nil_of_length_eq_zero hm
    subst this
    refine ⟨v, w, ?_, by simpa using hown, World.grownBy.refl _ _, .inl rfl⟩
    rcases hown.2 with ⟨rfl, _⟩ | ⟨g, cap, cur, rfl, _, _, hnc, _⟩
    · simp [Builtin.append_, run_underlying Try.underlying24, sizeOf, typeInfo, hi0, Builtin.lenOf, Builtin.firstCells]
    · simp [Builtin.append_, run_underlying Try.underlying24, sizeOf, typeInfo, hi0, Builtin.lenOf, Builtin.firstCells, hnc, storeCells]
  · have hcells : ∀ j u, (ys.map (Value.int .i64))[j]? = some u → w.cell? (ad.add j) = some u := by
      intro j u hj
      rcases Nat.eq_zero_or_pos m with h0 | h0
      · subst h0
        have : ys = [] := List.eq_nil_of_length_eq_zero hm
        subst this
        simp at hj
      · obtain ⟨g, o, e, _, hc⟩ := hr.2 h0
        replace e := Option.some.inj e
        subst e
        rw [add_lit]
        rw [List.getElem?_map] at hj
        cases hy : ys[j]? with
        | none => rw [hy] at hj; cases hj
        | some b =>
          rw [hy] at hj
          replace hj := Option.some.inj hj
          subst hj
          exact hc j b hy
    obtain ⟨v', w', hrun, h2, h3, _, h5⟩ := run_append_own_at (P := Try.prog) w base 24 ty 3 i0 _ 1 8 Try.underlying24 hi0 hz0 hz1 hz2 rfl (by omega) v xs.length (xs.map (.int .i64)) hown ad m c (ys.map (.int .i64))
      (by rw [List.length_map, hm]; omega) hcells (by intro u hu; obtain ⟨b, _, rfl⟩ := List.mem_map.1 hu; rfl) (by unfold maxLen; omega) (by omega) hbase
    refine ⟨v', w', hrun, ?_, h3, h5⟩
    unfold OwnI
    rw [List.map_append, List.length_append, hm]
    exact h2

theorem wpList_appendI {w : World} {ops : Array Oper} {rest : List Oper} {o : Oper} {a : Act} {Q : Exit → Act → World → Prop} (hgd : o.guard = none) (s x : Operand)
    (ho : o.op = .call { callee := .builtin .append, args := #[s, x], argTypes := #[24, 24] })
    (base : Nat) (v : Value) (xs : List Int) (hs : a.eval s = v) (hown : OwnI w base v xs) (A : Option Addr) (m c B : Nat) (ys : List Int) (hx : a.eval x = .slice A m c) (hr : IS w B A m ys)
    (hn : xs.length + m ≤ 1099511627776) (hbase : base ≤ w.heap.size)
    (h : ∀ v' w', OwnI w' base v' (xs ++ ys) → w.grownBy w' v.ownBlock → (v'.ownBlock = v.ownBlock ∨ v'.ownBlock = some w.heap.size) → wpList Try.prog ops Q rest (a.put o.dst v') w') : wpList Try.prog ops Q (o :: rest) a w :=
  wpList_plain hgd fun _ hK => by
    obtain ⟨v', w', hrun, h2, h3, h4⟩ := run_appendI w base v xs hown A m c B ys hr hn hbase o.type
    unfold Oper.wp execOp
    simp only [ho, resolve, invoke, builtin, Sem.run_bind, Sem.run_pure, Result.andThen_ok, List.map_toArray, List.map_cons, List.map_nil, hs, hx, hrun]
    exact hK _ _ (h v' w' h2 h3 h4)

/-- numbers of the call's own -/
def GaveI (w : World) (xs : List Int) (e : Ending) (w' : World) : Prop := ∃ v, e = .returned v ∧ OwnI w' w.heap.size v xs ∧ Below w.heap.size w w'
/-- numbers of the call's own, and a bool -/
def GaveI2 (w : World) (xs : List Int) (ok : Bool) (e : Ending) (w' : World) : Prop := ∃ v, e = .returned (.tuple #[v, .bool ok]) ∧ OwnI w' w.heap.size v xs ∧ Below w.heap.size w w'

theorem take_eq_succI {xs ys : List Int} {k : Nat} {a : Int} (h : xs.take k = ys.take k) (hx : xs[k]? = some a) (hy : ys[k]? = some a) : xs.take (k + 1) = ys.take (k + 1) := by
  rw [List.take_add_one, List.take_add_one, h, hx, hy]

theorem sameInts_any (A B : Option Addr) (n m c d : Nat) (xs ys : List Int) (w : World) (h : IS w w.heap.size A n xs) (h' : IS w w.heap.size B m ys) (hn : n ≤ 1099511627776) (hm : m ≤ 1099511627776) :
    Calls Try.prog 48 #[.slice A n c, .slice B m d] w fun e w' => e = .returned (.bool (decide (xs = ys))) ∧ Below w.heap.size w w' := by
  have HL := Lib.hid h.1
  have HL' := Lib.hid h'.1
  by_cases hnm : n = m
  · subst hnm
    go_enter Try.func48, Try.ntmps48
    go_wp2
    go_loopw [5] (fun i wr => ∃ (k : Nat), k ≤ n ∧ i = .int .i64 k ∧ Hid (xs.take k = ys.take k) ∧ Below w.heap.size w wr) (fun i _ => n - (intOf i).toNat)
    case atStart => exact ⟨0, Nat.zero_le _, rfl, by simp [Hid], Below.refl _ _⟩
    case round =>
      obtain ⟨k, hk, rfl, hpre, hb⟩ := hrel
      by_cases hlt : k < n
      · obtain ⟨g, o, x, rfl, hg, hx, c1⟩ := (h.below hb).at_ hlt
        obtain ⟨g', o', y, rfl, hg', hx', c1'⟩ := (h'.below hb).at_ hlt
        have HX := Lib.hid hx
        have HX' := Lib.hid hx'
        have hlt' : (k : Int) < n := by omega
        clear hx hx'
        by_cases hxy : x = y
        · subst hxy
          go_wp2_with fail
          go_quiet (fail)
          go_wp2
          go_roundw
          case rel => exact ⟨k + 1, by omega, by go_num, Lib.hid (take_eq_succI hpre.out HX.out HX'.out), below_drewN hb _⟩
          case measure => simp [intOf]; omega
        · have hne : (x == y) = false := by rw [beq_eq_false_iff_ne]; exact hxy
          have hne2 : (x != y) = true := by rw [bne_iff_ne]; exact hxy
          have HNE := Lib.hid (show xs ≠ ys from fun e => hxy (by
            have a := HX.out
            have b := HX'.out
            rw [e, b] at a
            exact (Option.some.inj a).symm))
          clear hxy
          go_wp2_with fail
          go_quiet (fail)
          go_wp2
          go_ret
          exact ⟨ret_bool (decide_eq_false HNE.out).symm, below_drewN hb _⟩
      · have hkn : k = n := by omega
        have HK := Lib.hid hkn
        clear hkn
        go_wp2
        go_ret
        refine ⟨ret_bool ?_, hb⟩
        have hp := hpre.out
        rw [HK.out, List.take_of_length_le (by rw [HL.out]; omega), List.take_of_length_le (by rw [HL'.out]; omega)] at hp
        simp [hp]
  · have hne : ((n : Int) != m) = true := by rw [bne_iff_ne]; omega
    have HN := Lib.hid hnm
    clear hnm
    go_enter Try.func48, Try.ntmps48
    go_wp2
    go_ret
    refine ⟨ret_bool ?_, Below.refl _ _⟩
    simp
    rintro rfl
    exact HN.out (HL.out.symm.trans HL'.out)

theorem OwnI.put' {w : World} {base g c j n : Nat} {xs : List Int} (h : OwnI w base (.slice (some ⟨g, 0, none⟩) n c) xs) (hn : xs.length = n) (b : Int) :
    OwnI (w.setCell ⟨g, j, none⟩ (.int .i64 b)) base (.slice (some ⟨g, 0, none⟩) n c) (xs.set j b) := by
  subst hn
  exact h.put b

theorem OwnI.frozen {w : World} {base g c n : Nat} {xs : List Int} (h : OwnI w base (.slice (some ⟨g, 0, none⟩) n c) xs) (hn : xs.length = n) (i : Nat) : w.frozen? ⟨g, i, none⟩ = false := by
  subst hn
  exact World.ownsRow.frozenAt h i

theorem madeI_eq (n : Nat) : madeCells (Value.int .i64 0).cells n = Array.replicate n (.int .i64 0) := by
  apply Array.ext
  · simp [madeCells, Value.cells]
  · intro i h1 h2
    simp [madeCells, Value.cells, Nat.mod_one]
theorem makeI (W : World) (n : Nat) (hn : n ≤ 1099511627776) : (Instr.makeSlice 24 (.int .i64 n) (.int .i64 n)).run Try.prog W = .ok (.slice (some ⟨W.heap.size, 0, none⟩) n n) (W.alloc (.cells (Array.replicate n (.int .i64 0)) 3)) := by
  obtain ⟨i0, hi0, hz0, hz1, hz2⟩ := info_parts info_int
  have := run_make (P := Try.prog) W 24 3 i0 _ Try.underlying24 hi0 hz0 .i64 .i64 n n (by omega) (by omega) (by rw [hz2]; omega) (by omega)
  rw [hz1] at this
  rw [← madeI_eq]
  simpa using this
theorem own_madeI (w : World) (n : Nat) (hn : n ≤ 1099511627776) : OwnI (w.alloc (.cells (Array.replicate n (.int .i64 0)) 3)) w.heap.size (.slice (some ⟨w.heap.size, 0, none⟩) n n) (List.replicate n (0 : Int)) := by
  have := World.ownsRow_lit (base := w.heap.size) (e := 3) (size := 1) w (Array.replicate n (.int .i64 0)) n (Nat.le_refl _) (by unfold maxLen; omega) (by simp)
  unfold OwnI
  simpa using this

end Go.Proofs.Ytakdjiojahlnmaa

namespace Go.Proofs.Ytakdjiojahlnmaa
/-- a cell: whether it is used, its number, its references -/
structure Cl where
  u : Bool
  d : Int
  r : List Int
  deriving DecidableEq, Inhabited
/-- a heap: its cells and its roots -/
structure Hp where
  cs : List Cl
  rt : List Int
  deriving DecidableEq, Inhabited

namespace Hps
/-- the cell is there and is used -/
def usedAt (cs : List Cl) (n : Nat) : Bool := match cs[n]? with
  | some c => c.u
  | none => false
theorem usedAt_iff {cs : List Cl} {n : Nat} : usedAt cs n = true ↔ ∃ c, cs[n]? = some c ∧ c.u = true := by
  unfold usedAt
  cases h : cs[n]? with
  | none => simp
  | some c => simp
theorem usedAt_lt {cs : List Cl} {n : Nat} (h : usedAt cs n = true) : n < cs.length := by
  obtain ⟨c, h1, _⟩ := usedAt_iff.1 h
  exact (List.getElem?_eq_some_iff.1 h1).1
/-- -1, or the number of a used cell -/
def okRef (cs : List Cl) (n : Int) : Bool := n == -1 || (decide (0 ≤ n) && usedAt cs n.toNat)
theorem okRef_iff {cs : List Cl} {n : Int} : okRef cs n = true ↔ n = -1 ∨ (0 ≤ n ∧ usedAt cs n.toNat = true) := by simp [okRef]
theorem okRef_nat {cs : List Cl} {n : Int} (h : okRef cs n = true) (h0 : 0 ≤ n) : ∃ k : Nat, n = k ∧ k < cs.length ∧ usedAt cs k = true := by
  rcases okRef_iff.1 h with h1 | ⟨_, h2⟩
  · omega
  · exact ⟨n.toNat, by omega, usedAt_lt h2, h2⟩
theorem okRef_lo {cs : List Cl} {n : Int} (h : okRef cs n = true) : -1 ≤ n ∧ n < cs.length := by
  rcases okRef_iff.1 h with h1 | ⟨h2, h3⟩
  · omega
  · have := usedAt_lt h3
    omega
def okRefs (cs : List Cl) (rs : List Int) : Bool := rs.all (okRef cs)
theorem okRefs_iff {cs : List Cl} {rs : List Int} : okRefs cs rs = true ↔ ∀ n ∈ rs, okRef cs n = true := by simp [okRefs]
theorem okRefs_at {cs : List Cl} {rs : List Int} (h : okRefs cs rs = true) {k : Nat} {n : Int} (hn : rs[k]? = some n) : okRef cs n = true := okRefs_iff.1 h n (List.mem_of_getElem? hn)
def okCell (cs : List Cl) (c : Cl) : Bool := (c.u || (c.d == 0 && decide (c.r.length = 0))) && (decide (0 ≤ c.d) && decide (c.d ≤ 99)) && decide (c.r.length ≤ 3) && okRefs cs c.r
theorem okCell_iff {cs : List Cl} {c : Cl} : okCell cs c = true ↔ (c.u = true ∨ (c.d = 0 ∧ c.r = [])) ∧ (0 ≤ c.d ∧ c.d ≤ 99) ∧ c.r.length ≤ 3 ∧ okRefs cs c.r = true := by
  simp [okCell, and_assoc]
def validH (h : Hp) : Bool := h.cs.all (okCell h.cs) && (decide (h.cs.length ≤ 40) && decide (h.rt.length = 4) && okRefs h.cs h.rt)
theorem valid_iff {h : Hp} : validH h = true ↔ (∀ c ∈ h.cs, okCell h.cs c = true) ∧ h.cs.length ≤ 40 ∧ h.rt.length = 4 ∧ okRefs h.cs h.rt = true := by
  simp [validH, and_assoc]
theorem valid_cell {h : Hp} (hv : validH h = true) {k : Nat} {c : Cl} (hc : h.cs[k]? = some c) : okCell h.cs c = true := (valid_iff.1 hv).1 c (List.mem_of_getElem? hc)
theorem valid_ref {h : Hp} (hv : validH h = true) {k j : Nat} {c : Cl} {n : Int} (hc : h.cs[k]? = some c) (hn : c.r[j]? = some n) : okRef h.cs n = true := okRefs_at (okCell_iff.1 (valid_cell hv hc)).2.2.2 hn
theorem valid_root {h : Hp} (hv : validH h = true) {j : Nat} {n : Int} (hn : h.rt[j]? = some n) : okRef h.cs n = true := okRefs_at (valid_iff.1 hv).2.2.2 hn
/-- the heap without cells -/
def emptyH : Hp := ⟨[], [-1, -1, -1, -1]⟩
theorem empty_valid : validH emptyH = true := by decide

/-- what can be reached from a list of numbers -/
inductive Rch (cs : List Cl) (from_ : List Int) : Nat → Prop
  | root {k : Nat} : ((k : Int) ∈ from_) → Rch cs from_ k
  | step {k m : Nat} {c : Cl} : Rch cs from_ k → cs[k]? = some c → ((m : Int) ∈ c.r) → Rch cs from_ m
theorem Rch.mono {cs : List Cl} {a b : List Int} (h : ∀ k : Nat, (k : Int) ∈ a → Rch cs b k) {k : Nat} (hr : Rch cs a k) : Rch cs b k := by
  induction hr with
  | root hk => exact h _ hk
  | step _ hc hm ih => exact .step ih hc hm
/-- a set that has the roots and leads on holds all that can be reached -/
theorem Rch.inside {cs : List Cl} {a : List Int} {S : Nat → Prop} (h0 : ∀ k : Nat, (k : Int) ∈ a → S k) (h1 : ∀ (k m : Nat) (c : Cl), S k → cs[k]? = some c → (m : Int) ∈ c.r → S m) {k : Nat} (hr : Rch cs a k) : S k := by
  induction hr with
  | root hk => exact h0 _ hk
  | step _ hc hm ih => exact h1 _ _ _ ih hc hm
theorem Rch.used {cs : List Cl} {a : List Int} (ha : okRefs cs a = true) (hc : ∀ c ∈ cs, okRefs cs c.r = true) {k : Nat} (hr : Rch cs a k) : usedAt cs k = true := by
  refine Rch.inside (S := fun k => usedAt cs k = true) (fun k hk => ?_) (fun k m c _ hcc hm => ?_) hr
  · rcases okRef_iff.1 (okRefs_iff.1 ha _ hk) with h | ⟨_, h⟩
    · omega
    · simpa using h
  · rcases okRef_iff.1 (okRefs_iff.1 (hc c (List.mem_of_getElem? hcc)) _ hm) with h | ⟨_, h⟩
    · omega
    · simpa using h
theorem valid_refs {h : Hp} (hv : validH h = true) : ∀ c ∈ h.cs, okRefs h.cs c.r = true := fun c hc => (okCell_iff.1 ((valid_iff.1 hv).1 c hc)).2.2.2
theorem Rch.live {h : Hp} (hv : validH h = true) {k : Nat} (hr : Rch h.cs h.rt k) : usedAt h.cs k = true := hr.used (valid_iff.1 hv).2.2.2 (valid_refs hv)
open Classical in
/-- for every cell whether it can be reached -/
noncomputable def reachL (cs : List Cl) (a : List Int) : List Bool := (List.range cs.length).map fun k => decide (Rch cs a k)
theorem reachL_len (cs : List Cl) (a : List Int) : (reachL cs a).length = cs.length := by simp [reachL]
open Classical in
theorem reachL_at {cs : List Cl} {a : List Int} {k : Nat} (hk : k < cs.length) : (reachL cs a)[k]? = some (decide (Rch cs a k)) := by
  simp [reachL, hk]
theorem reachL_true {cs : List Cl} {a : List Int} {k : Nat} (hk : k < cs.length) : (reachL cs a)[k]? = some true ↔ Rch cs a k := by
  rw [reachL_at hk]
  simp
/-- marks that hold what can be reached and nothing else are the marks -/
theorem reachL_eq {cs : List Cl} {a : List Int} {out : List Bool} (hl : out.length = cs.length) (h : ∀ k, k < cs.length → (out[k]? = some true ↔ Rch cs a k)) : out = reachL cs a := by
  apply List.ext_getElem?
  intro k
  rcases Nat.lt_or_ge k cs.length with hk | hk
  · have h1 := h k hk
    rw [← reachL_true hk] at h1
    rw [List.getElem?_eq_getElem (show k < out.length by omega)] at h1 ⊢
    rw [List.getElem?_eq_getElem (show k < (reachL cs a).length by rw [reachL_len]; omega)] at h1 ⊢
    simp only [Option.some.injEq] at h1
    congr 1
    rw [Bool.eq_iff_iff]
    exact h1
  · rw [List.getElem?_eq_none (by omega), List.getElem?_eq_none (by rw [reachL_len]; omega)]
noncomputable def reachH (h : Hp) : List Bool := if validH h = true then reachL h.cs h.rt else []

/-- all references: the roots', then the cells' -/
def refsOf (h : Hp) : List Int := h.rt ++ (h.cs.map (·.r)).flatten
def countsL (h : Hp) : List Int := (List.range h.cs.length).map fun (k : Nat) => (((refsOf h).count (k : Int) : Nat) : Int)
def countsH (h : Hp) : List Int := if validH h = true then countsL h else []
end Hps
end Go.Proofs.Ytakdjiojahlnmaa

namespace Go.Proofs.Ytakdjiojahlnmaa
open Go.RowKit
theorem Rw.far {w w' : World} {g : Nat} {t : TypeId} {cs : Array Value} {row : Option Nat} (h : Rw w g t cs) (hg : w.grownBy w' row) (hne : some g ≠ row) : Rw w' g t cs := (hg.block g h.lt hne).trans h
theorem grown_below {w a b : World} {row : Option Nat} (h : w.grownBy a row) (hb : Below w.heap.size a b) : w.grownBy b row :=
  ⟨hb.os.trans h.os, hb.tape.trans h.tape, hb.output.trans h.output, Nat.le_trans h.size hb.size, fun i hi hne => (hb.block i hi).trans (h.block i hi hne)⟩
theorem Bytes.more {w : World} {B B' m : Nat} {A : Option Addr} (h : Bytes w B A m) (hB : B ≤ B') : Bytes w B' A m := fun hm => by
  obtain ⟨b, o, e, hb, hc⟩ := h hm
  exact ⟨b, o, e, by omega, hc⟩
theorem Rw.other {w : World} {g g' i : Nat} {t : TypeId} {cs : Array Value} (h : Rw w g t cs) (hne : g ≠ g') (v : Value) : Rw (w.setCell ⟨g', i, none⟩ v) g t cs := (Below.heap_setCell _ _ _ _ hne).trans h
end Go.Proofs.Ytakdjiojahlnmaa

namespace Go.Proofs.Ytakdjiojahlnmaa
open Go.RowKit

/-- the values of cells in a row; vs: the slices of their references -/
def flatC : List Cl → List Value → List Value
  | c :: cs, v :: vs => .bool c.u :: .int .i64 c.d :: v :: flatC cs vs
  | _, _ => []
theorem flatC_length : ∀ (cs : List Cl) (vs : List Value), vs.length = cs.length → (flatC cs vs).length = cs.length * 3
  | [], _, _ => by simp [flatC]
  | c :: cs, [], h => by simp at h
  | c :: cs, v :: vs, h => by
    have := flatC_length cs vs (by simpa using h)
    simp [flatC, this]
    omega
theorem flatC_at : ∀ (cs : List Cl) (vs : List Value) (k : Nat) (c : Cl) (v : Value), cs[k]? = some c → vs[k]? = some v → (flatC cs vs)[k * 3]? = some (.bool c.u) ∧ (flatC cs vs)[k * 3 + 1]? = some (.int .i64 c.d) ∧ (flatC cs vs)[k * 3 + 2]? = some v
  | [], _, k, c, v, h, _ => by simp at h
  | _ :: _, [], k, c, v, _, h => by simp at h
  | c' :: cs, v' :: vs, 0, c, v, h1, h2 => by
    simp at h1 h2
    subst h1 h2
    simp [flatC]
  | c' :: cs, v' :: vs, k + 1, c, v, h1, h2 => by
    have := flatC_at cs vs k c v (by simpa using h1) (by simpa using h2)
    rw [show (k + 1) * 3 = k * 3 + 3 by omega]
    simpa [flatC] using this
theorem flatC_append : ∀ (cs : List Cl) (vs : List Value) (ds : List Cl) (ws : List Value), vs.length = cs.length → flatC (cs ++ ds) (vs ++ ws) = flatC cs vs ++ flatC ds ws
  | [], [], ds, ws, _ => by simp [flatC]
  | [], v :: vs, _, _, h => by simp at h
  | c :: cs, [], _, _, h => by simp at h
  | c :: cs, v :: vs, ds, ws, h => by
    have := flatC_append cs vs ds ws (by simpa using h)
    simp [flatC, this]
theorem flatC_set_u : ∀ (cs : List Cl) (vs : List Value) (k : Nat) (c : Cl) (b : Bool), vs.length = cs.length → cs[k]? = some c → (flatC cs vs).set (k * 3) (.bool b) = flatC (cs.set k ⟨b, c.d, c.r⟩) vs
  | [], _, k, c, b, _, h => by simp at h
  | _ :: _, [], k, c, b, h, _ => by simp at h
  | c' :: cs, v' :: vs, 0, c, b, _, h1 => by
    simp at h1
    subst h1
    simp [flatC]
  | c' :: cs, v' :: vs, k + 1, c, b, h, h1 => by
    have := flatC_set_u cs vs k c b (by simpa using h) (by simpa using h1)
    rw [show (k + 1) * 3 = k * 3 + 3 by omega]
    simp [flatC, this]
theorem flatC_set_d : ∀ (cs : List Cl) (vs : List Value) (k : Nat) (c : Cl) (d : Int), vs.length = cs.length → cs[k]? = some c → (flatC cs vs).set (k * 3 + 1) (.int .i64 d) = flatC (cs.set k ⟨c.u, d, c.r⟩) vs
  | [], _, k, c, b, _, h => by simp at h
  | _ :: _, [], k, c, b, h, _ => by simp at h
  | c' :: cs, v' :: vs, 0, c, b, _, h1 => by
    simp at h1
    subst h1
    simp [flatC]
  | c' :: cs, v' :: vs, k + 1, c, b, h, h1 => by
    have := flatC_set_d cs vs k c b (by simpa using h) (by simpa using h1)
    rw [show (k + 1) * 3 + 1 = (k * 3 + 1) + 3 by omega]
    simp [flatC, this]
theorem flatC_set_r : ∀ (cs : List Cl) (vs : List Value) (k : Nat) (c : Cl) (v : Value) (r : List Int), vs.length = cs.length → cs[k]? = some c → (flatC cs vs).set (k * 3 + 2) v = flatC (cs.set k ⟨c.u, c.d, r⟩) (vs.set k v)
  | [], _, k, c, b, _, _, h => by simp at h
  | _ :: _, [], k, c, b, _, h, _ => by simp at h
  | c' :: cs, v' :: vs, 0, c, b, _, _, h1 => by
    simp at h1
    subst h1
    simp [flatC]
  | c' :: cs, v' :: vs, k + 1, c, b, r, h, h1 => by
    have := flatC_set_r cs vs k c b r (by simpa using h) (by simpa using h1)
    rw [show (k + 1) * 3 + 2 = (k * 3 + 2) + 3 by omega]
    simp [flatC, this]
/-- the references of a cell do not lie in its row -/
theorem flatC_refs : ∀ (cs : List Cl) (vs : List Value) (k : Nat) (c : Cl) (r : List Int), cs[k]? = some c → flatC (cs.set k ⟨c.u, c.d, r⟩) vs = flatC cs vs
  | [], _, k, c, r, h => by simp at h
  | _ :: _, [], k, c, r, _ => by cases k <;> simp [flatC]
  | c' :: cs, v' :: vs, 0, c, r, h1 => by
    simp at h1
    subst h1
    simp [flatC]
  | c' :: cs, v' :: vs, k + 1, c, r, h1 => by
    have := flatC_refs cs vs k c r (by simpa using h1)
    simp [flatC, this]

/-- the slice value '.slice A n _' reads as the cells cs, and lies below block B -/
def CS (w : World) (B : Nat) (A : Option Addr) (n : Nat) (cs : List Cl) : Prop :=
  cs.length = n ∧ (0 < n → ∃ g o, A = some ⟨g, o, none⟩ ∧ g < B ∧ ∀ (k : Nat) (c : Cl), cs[k]? = some c →
    w.cell? ⟨g, o + k * 3, none⟩ = some (.bool c.u) ∧ w.cell? ⟨g, o + k * 3 + 1, none⟩ = some (.int .i64 c.d) ∧ ∃ A' m cc, w.cell? ⟨g, o + k * 3 + 2, none⟩ = some (.slice A' m cc) ∧ m ≤ cc ∧ IS w B A' m c.r)
section
variable {w w' : World} {B B' n : Nat} {A : Option Addr} {cs : List Cl}
theorem CS.keep (h : CS w B A n cs) (hk : ∀ p : Addr, p.block < B → w'.cell? p = w.cell? p) : CS w' B A n cs :=
  ⟨h.1, fun hn => by
    obtain ⟨g, o, e, hb, hc⟩ := h.2 hn
    refine ⟨g, o, e, hb, fun k c hkc => ?_⟩
    obtain ⟨c1, c2, A', m, cc, c3, hm, hi⟩ := hc k c hkc
    exact ⟨(hk _ hb).trans c1, (hk _ hb).trans c2, A', m, cc, (hk _ hb).trans c3, hm, hi.keep hk⟩⟩
theorem CS.more (h : CS w B A n cs) (hB : B ≤ B') : CS w B' A n cs :=
  ⟨h.1, fun hn => by
    obtain ⟨g, o, e, hb, hc⟩ := h.2 hn
    refine ⟨g, o, e, by omega, fun k c hkc => ?_⟩
    obtain ⟨c1, c2, A', m, cc, c3, hm, hi⟩ := hc k c hkc
    exact ⟨c1, c2, A', m, cc, c3, hm, hi.more hB⟩⟩
theorem CS.below (h : CS w B A n cs) (hb : Below B w w') : CS w' B A n cs := h.keep fun _ hp => hb.cell hp
theorem CS.up {w w' : World} {n : Nat} {A : Option Addr} {cs : List Cl} (h : CS w w.heap.size A n cs) (hb : Below w.heap.size w w') : CS w' w'.heap.size A n cs := (h.below hb).more hb.size
theorem CS.at_ {k : Nat} (h : CS w B A n cs) (hk : k < n) : ∃ g o c A' m cc, A = some ⟨g, o, none⟩ ∧ g < B ∧ cs[k]? = some c ∧ w.cell? ⟨g, o + k * 3, none⟩ = some (.bool c.u) ∧ w.cell? ⟨g, o + k * 3 + 1, none⟩ = some (.int .i64 c.d) ∧ w.cell? ⟨g, o + k * 3 + 2, none⟩ = some (.slice A' m cc) ∧ m ≤ cc ∧ IS w B A' m c.r := by
  obtain ⟨g, o, e, hb, hc⟩ := h.2 (by omega)
  have hl : k < cs.length := by have := h.1; omega
  have hx := List.getElem?_eq_getElem hl
  obtain ⟨c1, c2, A', m, cc, c3, hm, hi⟩ := hc k _ hx
  exact ⟨g, o, _, A', m, cc, e, hb, hx, c1, c2, c3, hm, hi⟩
theorem CS.none_ (w : World) (B : Nat) (A : Option Addr) : CS w B A 0 [] := ⟨rfl, fun h => by omega⟩
end

/-- two slices read as a heap -/
structure HS (w : World) (B : Nat) (A : Option Addr) (n : Nat) (R : Option Addr) (m : Nat) (h : Hp) : Prop where
  cells : CS w B A n h.cs
  roots : IS w B R m h.rt
section
variable {w w' : World} {B B' n m : Nat} {A R : Option Addr} {h : Hp}
theorem HS.below (hs : HS w B A n R m h) (hb : Below B w w') : HS w' B A n R m h := ⟨hs.cells.below hb, hs.roots.below hb⟩
theorem HS.more (hs : HS w B A n R m h) (hB : B ≤ B') : HS w B' A n R m h := ⟨hs.cells.more hB, hs.roots.more hB⟩
theorem HS.up {w w' : World} {n m : Nat} {A R : Option Addr} {h : Hp} (hs : HS w w.heap.size A n R m h) (hb : Below w.heap.size w w') : HS w' w'.heap.size A n R m h := (hs.below hb).more hb.size
end

/-- no two of the values lie in one block -/
def Sep (l : List Value) : Prop := l.Pairwise fun a b => a.ownBlock = none ∨ a.ownBlock ≠ b.ownBlock

/-- a heap of the call's own: the slices of cells and of roots, and of every cell's references; rvs: the latter -/
structure OwnHx (w : World) (base : Nat) (vc vr : Value) (rvs : List Value) (h : Hp) : Prop where
  len : rvs.length = h.cs.length
  row : w.ownsRow base 45 3 vc h.cs.length (flatC h.cs rvs)
  refs : ∀ (k : Nat) (c : Cl) (v : Value), h.cs[k]? = some c → rvs[k]? = some v → OwnI w base v c.r
  roots : OwnI w base vr h.rt
  sep : Sep (vc :: vr :: rvs)
def OwnH (w : World) (base : Nat) (vc vr : Value) (h : Hp) : Prop := ∃ rvs, OwnHx w base vc vr rvs h

theorem OwnHx.form {w : World} {base : Nat} {vc vr : Value} {rvs : List Value} {h : Hp} (ho : OwnHx w base vc vr rvs h) : ∃ A c R d, vc = .slice A h.cs.length c ∧ vr = .slice R h.rt.length d ∧ h.cs.length ≤ c ∧ h.rt.length ≤ d ∧ (0 < h.cs.length → ∃ g, A = some ⟨g, 0, none⟩ ∧ base ≤ g ∧ g < w.heap.size) ∧ (0 < h.rt.length → ∃ g, R = some ⟨g, 0, none⟩ ∧ base ≤ g ∧ g < w.heap.size) := by
  obtain ⟨R, d, rfl, hR⟩ := ho.roots.form
  have hd := ho.roots.cap.2
  rcases ho.row.2 with ⟨e, h0⟩ | ⟨g, cap, cur, e, hb, hh, hc, _⟩
  · exact ⟨none, 0, R, d, by rw [e, h0], rfl, by omega, hd, fun h => by omega, hR⟩
  · exact ⟨some ⟨g, 0, none⟩, cap, R, d, e, rfl, hc, hd, fun _ => ⟨g, rfl, hb, (Array.getElem?_eq_some_iff.1 hh).1⟩, hR⟩
theorem OwnHx.ref {w : World} {base : Nat} {vc vr : Value} {rvs : List Value} {h : Hp} (ho : OwnHx w base vc vr rvs h) {k : Nat} {c : Cl} (hc : h.cs[k]? = some c) : ∃ v, rvs[k]? = some v ∧ OwnI w base v c.r := by
  have hk := (List.getElem?_eq_some_iff.1 hc).1
  have hv := List.getElem?_eq_getElem (show k < rvs.length by rw [ho.len]; exact hk)
  exact ⟨_, hv, ho.refs k c _ hc hv⟩
theorem OwnHx.reads {w : World} {base n c m d : Nat} {A R : Option Addr} {rvs : List Value} {h : Hp} (ho : OwnHx w base (.slice A n c) (.slice R m d) rvs h) : HS w w.heap.size A n R m h := by
  refine ⟨?_, ho.roots.reads⟩
  rcases ho.row.2 with ⟨e, h0⟩ | ⟨g, cap, cur, e, hb, hh, _⟩
  · injection e with e1 e2 e3
    subst e2
    exact ⟨h0, fun h => by omega⟩
  · injection e with e1 e2 e3
    subst e1 e2 e3
    refine ⟨rfl, fun hn => ⟨g, 0, rfl, (Array.getElem?_eq_some_iff.1 hh).1, fun k c hc => ?_⟩⟩
    have hk : k < h.cs.length := (List.getElem?_eq_some_iff.1 hc).1
    obtain ⟨v, hv, hi⟩ := ho.ref hc
    obtain ⟨f1, f2, f3⟩ := flatC_at _ _ _ _ _ hc hv
    obtain ⟨A', cc, rfl, _⟩ := hi.form
    have hcap := hi.cap.2
    rw [Nat.zero_add]
    exact ⟨(World.ownsRow.cellAt ho.row _ (by omega)).trans f1, (World.ownsRow.cellAt ho.row _ (by omega)).trans f2, A', _, cc, (World.ownsRow.cellAt ho.row _ (by omega)).trans f3, hcap, hi.reads⟩
theorem OwnHx.below {w w' : World} {base B : Nat} {vc vr : Value} {rvs : List Value} {h : Hp} (ho : OwnHx w base vc vr rvs h) (hb : Below B w w') (hB : w.heap.size ≤ B) : OwnHx w' base vc vr rvs h := by
  refine ⟨ho.len, ⟨ho.row.1, ?_⟩, fun k c v hc hv => (ho.refs k c v hc hv).below hb hB, ho.roots.below hb hB, ho.sep⟩
  rcases ho.row.2 with h0 | ⟨g, cap, cur, e, hb', hh, hr⟩
  · exact .inl h0
  · exact .inr ⟨g, cap, cur, e, hb', (hb.block g (Nat.lt_of_lt_of_le (Array.getElem?_eq_some_iff.1 hh).1 hB)).trans hh, hr⟩
theorem row_base {w : World} {base base' n : Nat} {e : TypeId} {s : Nat} {v : Value} {xs : List Value} (h : w.ownsRow base e s v n xs) (hb : base' ≤ base) : w.ownsRow base' e s v n xs := by
  refine ⟨h.1, ?_⟩
  rcases h.2 with h0 | ⟨g, cap, cur, e, hb', hh, hr⟩
  · exact .inl h0
  · exact .inr ⟨g, cap, cur, e, by omega, hh, hr⟩
theorem OwnHx.base {w : World} {base base' : Nat} {vc vr : Value} {rvs : List Value} {h : Hp} (ho : OwnHx w base vc vr rvs h) (hb : base' ≤ base) : OwnHx w base' vc vr rvs h :=
  ⟨ho.len, row_base ho.row hb, fun k c v hc hv => (ho.refs k c v hc hv).base hb, ho.roots.base hb, ho.sep⟩
/-- nothing that is the heap's is written -/
def Apart (row : Option Nat) (l : List Value) : Prop := ∀ v ∈ l, v.ownBlock = none ∨ v.ownBlock ≠ row
theorem OwnHx.far {w w' : World} {base : Nat} {vc vr : Value} {rvs : List Value} {h : Hp} {row : Option Nat} (ho : OwnHx w base vc vr rvs h) (hg : w.grownBy w' row) (ha : Apart row (vc :: vr :: rvs)) : OwnHx w' base vc vr rvs h :=
  ⟨ho.len, World.ownsRow.kept ho.row hg (ha vc (by simp)), fun k c v hc hv => (ho.refs k c v hc hv).far hg (ha v (by simp [List.mem_of_getElem? hv])), ho.roots.far hg (ha vr (by simp)), ho.sep⟩
/-- every block of the heap is of its own and old enough -/
theorem OwnHx.blocks {w : World} {base : Nat} {vc vr : Value} {rvs : List Value} {h : Hp} (ho : OwnHx w base vc vr rvs h) {v : Value} (hv : v ∈ vc :: vr :: rvs) {k : Nat} (hk : v.ownBlock = some k) : base ≤ k ∧ k < w.heap.size := by
  simp only [List.mem_cons] at hv
  rcases hv with rfl | rfl | hv
  · exact World.ownsRow.lt ho.row k hk
  · exact World.ownsRow.lt ho.roots k hk
  · obtain ⟨i, hi⟩ := List.mem_iff_getElem?.1 hv
    have hlt := (List.getElem?_eq_some_iff.1 hi).1
    have hc := List.getElem?_eq_getElem (show i < h.cs.length by rw [← ho.len]; exact hlt)
    exact World.ownsRow.lt (ho.refs i _ v hc hi) k hk
theorem OwnHx.apart_below {w : World} {base b : Nat} {vc vr : Value} {rvs : List Value} {h : Hp} (ho : OwnHx w base vc vr rvs h) (hb : b < base) : Apart (some b) (vc :: vr :: rvs) := fun v hv => by
  cases e : v.ownBlock with
  | none => exact .inl rfl
  | some k =>
    right
    have := (ho.blocks hv e).1
    intro he
    injection he with he
    omega
theorem OwnHx.apart_new {w : World} {base b : Nat} {vc vr : Value} {rvs : List Value} {h : Hp} (ho : OwnHx w base vc vr rvs h) (hb : w.heap.size ≤ b) : Apart (some b) (vc :: vr :: rvs) := fun v hv => by
  cases e : v.ownBlock with
  | none => exact .inl rfl
  | some k =>
    right
    have := (ho.blocks hv e).2
    intro he
    injection he with he
    omega
end Go.Proofs.Ytakdjiojahlnmaa

namespace Go.Proofs.Ytakdjiojahlnmaa
namespace Hps

/-- marks and a list of the marked ones -/
structure Wk (cs : List Cl) (a : List Int) (out : List Bool) (l : List Int) : Prop where
  len : out.length = cs.length
  mem : ∀ k : Nat, out[k]? = some true ↔ (k : Int) ∈ l
  cnt : l.length = out.count true
  rch : ∀ k : Nat, (k : Int) ∈ l → Rch cs a k
  nat : ∀ n ∈ l, ∃ k : Nat, n = k ∧ k < cs.length
theorem Wk.le {cs : List Cl} {a : List Int} {out : List Bool} {l : List Int} (h : Wk cs a out l) : l.length ≤ cs.length := by
  rw [h.cnt, ← h.len]
  exact List.count_le_length
theorem Wk.start (cs : List Cl) (a : List Int) : Wk cs a (List.replicate cs.length false) [] := by
  refine ⟨by simp, fun k => ?_, by simp [List.count_replicate], fun k hk => by simp at hk, fun n hn => by simp at hn⟩
  simp [List.getElem?_replicate]
theorem Wk.mark {cs : List Cl} {a : List Int} {out : List Bool} {l : List Int} (h : Wk cs a out l) {n : Nat} (hn : out[n]? = some false) (hr : Rch cs a n) : Wk cs a (out.set n true) (l ++ [(n : Int)]) := by
  obtain ⟨hlt, he⟩ := List.getElem?_eq_some_iff.1 hn
  refine ⟨by simp [h.len], fun k => ?_, ?_, fun k hk => ?_, fun m hm => ?_⟩
  · rw [List.getElem?_set, List.mem_append]
    by_cases hk : n = k
    · subst hk
      simp [hlt]
    · rw [if_neg hk, h.mem]
      have : ¬ (k : Int) = n := by omega
      simp [this]
  · rw [List.length_append, List.length_singleton, h.cnt, List.count_set hlt, he]
    simp
  · rw [List.mem_append] at hk
    rcases hk with hk | hk
    · exact h.rch k hk
    · simp at hk
      have : k = n := by omega
      rw [this]
      exact hr
  · rw [List.mem_append] at hm
    rcases hm with hm | hm
    · exact h.nat m hm
    · simp at hm
      exact ⟨n, hm, by rw [← h.len]; exact hlt⟩
/-- what stays marked -/
theorem set_true {out : List Bool} {n k : Nat} (h : out[k]? = some true) : (out.set n true)[k]? = some true := by
  rw [List.getElem?_set]
  by_cases hk : n = k
  · subst hk
    simp [(List.getElem?_eq_some_iff.1 h).1]
  · rw [if_neg hk]
    exact h
/-- the numbers xs that are at least 0 are marked -/
def Marked (out : List Bool) (xs : List Int) : Prop := ∀ k : Nat, (k : Int) ∈ xs → out[k]? = some true
theorem Marked.nil (out : List Bool) : Marked out [] := fun k hk => by simp at hk
theorem Marked.set {out : List Bool} {xs : List Int} (h : Marked out xs) (n : Nat) : Marked (out.set n true) xs := fun k hk => set_true (h k hk)
theorem Marked.snoc {out : List Bool} {xs : List Int} (h : Marked out xs) {n : Int} (hn : 0 ≤ n → out[n.toNat]? = some true) : Marked out (xs ++ [n]) := fun k hk => by
  rw [List.mem_append] at hk
  rcases hk with hk | hk
  · exact h k hk
  · simp at hk
    have := hn (by omega)
    rwa [← hk] at this
/-- the first k of the list have been worked off -/
def Done (cs : List Cl) (out : List Bool) (l : List Int) (k : Nat) : Prop := ∀ (i : Nat) (n : Nat) (c : Cl), i < k → l[i]? = some (n : Int) → cs[n]? = some c → Marked out c.r
theorem Done.zero (cs : List Cl) (out : List Bool) (l : List Int) : Done cs out l 0 := fun i n c h => by omega
theorem Done.more {cs : List Cl} {out : List Bool} {l : List Int} {k n : Nat} {m : Int} (h : Done cs out l k) (hk : k ≤ l.length) : Done cs (out.set n true) (l ++ [m]) k := fun i n' c hi hl hc => by
  rw [List.getElem?_append_left (by omega)] at hl
  exact (h i n' c hi hl hc).set n
theorem Done.succ {cs : List Cl} {out : List Bool} {l : List Int} {k n : Nat} {c : Cl} (h : Done cs out l k) (hl : l[k]? = some (n : Int)) (hc : cs[n]? = some c) (hm : Marked out c.r) : Done cs out l (k + 1) := fun i n' c' hi hl' hc' => by
  rcases Nat.lt_or_ge i k with h1 | h1
  · exact h i n' c' h1 hl' hc'
  · obtain rfl : i = k := by omega
    rw [hl] at hl'
    have : n = n' := by
      injection hl' with hl'
      omega
    subst this
    rw [hc] at hc'
    injection hc' with hc'
    subst hc'
    exact hm
/-- all worked off: the marks are right -/
theorem Wk.fin {cs : List Cl} {a : List Int} {out : List Bool} {l : List Int} (h : Wk cs a out l) (hr : Marked out a) (hd : Done cs out l l.length) : out = reachL cs a := by
  refine reachL_eq h.len fun k hk => ⟨fun hm => h.rch k ((h.mem k).1 hm), fun hr' => ?_⟩
  refine Rch.inside (S := fun k => out[k]? = some true) hr (fun k m c hk hc hm => ?_) hr'
  have hl := (h.mem k).1 hk
  obtain ⟨i, hi⟩ := List.mem_iff_getElem?.1 hl
  exact hd i k c (List.getElem?_eq_some_iff.1 hi).1 hi hc m hm
end Hps
end Go.Proofs.Ytakdjiojahlnmaa

namespace Go.Proofs.Ytakdjiojahlnmaa
namespace Bm

/-- n words from word s on exist and are b -/
def runF (xs : List Bool) (s n : Nat) (b : Bool) : Bool := (List.range n).all fun i => decide (xs[s + i]? = some b)
theorem runF_iff {xs : List Bool} {s n : Nat} {b : Bool} : runF xs s n b = true ↔ ∀ i, i < n → xs[s + i]? = some b := by
  unfold runF
  simp
theorem runF_zero (xs : List Bool) (s : Nat) (b : Bool) : runF xs s 0 b = true := rfl
theorem runF_false {xs : List Bool} {s n : Nat} {b : Bool} (h : runF xs s n b = false) : ∃ i, i < n ∧ xs[s + i]? ≠ some b := by
  rcases Classical.em (∃ i, i < n ∧ xs[s + i]? ≠ some b) with h1 | h1
  · exact h1
  · have : runF xs s n b = true := runF_iff.2 fun i hi => Classical.byContradiction fun h2 => h1 ⟨i, hi, h2⟩
    rw [this] at h
    cases h
theorem runF_len {xs : List Bool} {s n : Nat} {b : Bool} (h : runF xs s n b = true) (hn : 0 < n) : s + n ≤ xs.length := by
  have := runF_iff.1 h (n - 1) (by omega)
  have := (List.getElem?_eq_some_iff.1 this).1
  omega
theorem runF_part {xs : List Bool} {s n t m : Nat} {b : Bool} (h : runF xs s n b = true) (h1 : s ≤ t) (h2 : t + m ≤ s + n) : runF xs t m b = true := by
  rw [runF_iff] at h ⊢
  intro i hi
  have := h (t - s + i) (by omega)
  rwa [show s + (t - s + i) = t + i by omega] at this

/-- n words from word s on become b -/
def setR (xs : List Bool) (s n : Nat) (b : Bool) : List Bool := xs.take s ++ List.replicate n b ++ xs.drop (s + n)
theorem setR_len {xs : List Bool} {s n : Nat} (b : Bool) (h : s + n ≤ xs.length) : (setR xs s n b).length = xs.length := by
  simp [setR]
  omega
theorem setR_at {xs : List Bool} {s n : Nat} (b : Bool) (h : s + n ≤ xs.length) (k : Nat) : (setR xs s n b)[k]? = if s ≤ k ∧ k < s + n then some b else xs[k]? := by
  unfold setR
  rw [List.append_assoc]
  rcases Nat.lt_or_ge k s with h1 | h1
  · rw [if_neg (by omega), List.getElem?_append_left (by rw [List.length_take]; omega), List.getElem?_take_of_lt h1]
  · rw [List.getElem?_append_right (by rw [List.length_take]; omega), List.length_take, Nat.min_eq_left (by omega)]
    rcases Nat.lt_or_ge k (s + n) with h2 | h2
    · rw [if_pos ⟨h1, h2⟩, List.getElem?_append_left (by rw [List.length_replicate]; omega), List.getElem?_replicate, if_pos (by omega)]
    · rw [if_neg (by omega), List.getElem?_append_right (by rw [List.length_replicate]; omega), List.length_replicate, List.getElem?_drop]
      congr 1
      omega
theorem setR_run {xs : List Bool} {s n : Nat} (b : Bool) (h : s + n ≤ xs.length) : runF (setR xs s n b) s n b = true := by
  rw [runF_iff]
  intro i hi
  rw [setR_at b h, if_pos (by omega)]
theorem setR_back {xs : List Bool} {s n : Nat} {b : Bool} (c : Bool) (h : s + n ≤ xs.length) (hr : runF xs s n b = true) : setR (setR xs s n c) s n b = xs := by
  apply List.ext_getElem?
  intro k
  rw [setR_at b (by rw [setR_len c h]; exact h), setR_at c h]
  by_cases hk : s ≤ k ∧ k < s + n
  · rw [if_pos hk]
    have := runF_iff.1 hr (k - s) (by omega)
    rw [show s + (k - s) = k by omega] at this
    exact this.symm
  · rw [if_neg hk, if_neg hk]
theorem setR_two {xs : List Bool} {s n m : Nat} (b : Bool) (h : s + (n + m) ≤ xs.length) : setR (setR xs s n b) (s + n) m b = setR xs s (n + m) b := by
  apply List.ext_getElem?
  intro k
  rw [setR_at b (by rw [setR_len b (by omega)]; omega), setR_at b (by omega), setR_at b h]
  by_cases h1 : s ≤ k ∧ k < s + n
  · rw [if_pos h1, if_pos (show s ≤ k ∧ k < s + (n + m) by omega)]
    simp
  · rw [if_neg h1]
    by_cases h2 : s + n ≤ k ∧ k < s + n + m
    · rw [if_pos h2, if_pos (by omega)]
    · rw [if_neg h2, if_neg (by omega)]
/-- one word more -/
theorem setR_succ {xs : List Bool} {s n : Nat} (b : Bool) (h : s + (n + 1) ≤ xs.length) : (setR xs s n b).set (s + n) b = setR xs s (n + 1) b := by
  apply List.ext_getElem?
  intro k
  rw [List.getElem?_set, setR_len b (by omega), setR_at b (by omega), setR_at b h]
  by_cases h1 : s + n = k
  · rw [if_pos h1, if_pos (by omega), if_pos (by omega)]
  · rw [if_neg h1]
    by_cases h2 : s ≤ k ∧ k < s + n
    · rw [if_pos h2, if_pos (by omega)]
    · rw [if_neg h2, if_neg (by omega)]
theorem setR_zero (xs : List Bool) (s : Nat) (b : Bool) : setR xs s 0 b = xs := by simp [setR]

/-- arguments that chapter 5 takes -/
def okM (xs : List Bool) (m : Int) : Bool := (decide (1 ≤ m) && decide (m ≤ 64)) && decide (xs.length ≤ 64)
theorem okM_iff {xs : List Bool} {m : Int} : okM xs m = true ↔ (1 ≤ m ∧ m ≤ 64) ∧ xs.length ≤ 64 := by simp [okM]

/-- the words from s on, m of them, are there and are b -/
def canW (xs : List Bool) (s m : Int) (b : Bool) : Bool := (decide (0 ≤ s) && decide (s ≤ xs.length - m)) && runF xs s.toNat m.toNat b
def chgW (xs : List Bool) (s m : Int) (b : Bool) : List Bool := if okM xs m = true then (if canW xs s m (!b) = true then setR xs s.toNat m.toNat b else xs) else []
def chgOk (xs : List Bool) (s m : Int) (b : Bool) : Bool := okM xs m && canW xs s m (!b)
theorem canW_iff {xs : List Bool} {s m : Int} {b : Bool} : canW xs s m b = true ↔ (0 ≤ s ∧ s ≤ xs.length - m) ∧ runF xs s.toNat m.toNat b = true := by simp [canW]

/-- what BitsTake (b true) and BitsGive (b false) do -/
theorem chg_cases (xs : List Bool) (s m : Int) (b : Bool) : (chgOk xs s m b = false ∧ (chgW xs s m b = [] ∨ chgW xs s m b = xs)) ∨
    (chgOk xs s m b = true ∧ okM xs m = true ∧ ∃ S M : Nat, s = S ∧ m = M ∧ 1 ≤ M ∧ M ≤ 64 ∧ S + M ≤ xs.length ∧ runF xs S M (!b) = true ∧ chgW xs s m b = setR xs S M b) := by
  cases ho : okM xs m
  · exact .inl ⟨by rw [chgOk, ho]; rfl, .inl (by rw [chgW, ho]; rfl)⟩
  · obtain ⟨⟨m1, m2⟩, hl⟩ := okM_iff.1 ho
    cases hc : canW xs s m (!b)
    · exact .inl ⟨by rw [chgOk, ho, hc]; rfl, .inr (by rw [chgW, ho, hc]; rfl)⟩
    · right
      obtain ⟨⟨s1, s2⟩, hr⟩ := canW_iff.1 hc
      obtain ⟨S, rfl⟩ := Int.eq_ofNat_of_zero_le s1
      obtain ⟨M, rfl⟩ := Int.eq_ofNat_of_zero_le (show 0 ≤ m by omega)
      exact ⟨by rw [chgOk, ho, hc]; rfl, rfl, S, M, rfl, rfl, by omega, by omega, by omega, hr, by rw [chgW, ho, hc]; rfl⟩
theorem chg_yes {xs : List Bool} {S M : Nat} {b : Bool} (hl : xs.length ≤ 64) (h1 : 1 ≤ M) (h2 : S + M ≤ xs.length) (hr : runF xs S M (!b) = true) : chgOk xs S M b = true ∧ chgW xs S M b = setR xs S M b := by
  have ho : okM xs M = true := okM_iff.2 ⟨⟨by omega, by omega⟩, hl⟩
  have hc : canW xs S M (!b) = true := canW_iff.2 ⟨⟨by omega, by omega⟩, hr⟩
  exact ⟨by rw [chgOk, ho, hc]; rfl, by rw [chgW, ho, hc]; rfl⟩
/-- back, and not again -/
theorem chg_law {xs : List Bool} {S M : Nat} {b : Bool} (hl : xs.length ≤ 64) (h1 : 1 ≤ M) (h2 : S + M ≤ xs.length) (hr : runF xs S M (!b) = true) :
    chgOk (setR xs S M b) S M (!b) = true ∧ chgW (setR xs S M b) S M (!b) = xs ∧ chgOk (setR xs S M b) S M b = false ∧ (setR xs S M b).length = xs.length := by
  have hlen := setR_len b h2
  have hy := chg_yes (xs := setR xs S M b) (S := S) (M := M) (b := !b) (by rw [hlen]; exact hl) h1 (by rw [hlen]; exact h2) (by rw [Bool.not_not]; exact setR_run b h2)
  refine ⟨hy.1, by rw [hy.2]; exact setR_back b h2 hr, ?_, hlen⟩
  cases hc : chgOk (setR xs S M b) S M b
  · rfl
  · unfold chgOk at hc
    rw [Bool.and_eq_true] at hc
    have h3 := runF_iff.1 (canW_iff.1 hc.2).2 0 (by simp; omega)
    have h4 := runF_iff.1 (setR_run b h2) 0 (by omega)
    simp only [Int.toNat_natCast] at h3
    rw [h4] at h3
    cases b <;> cases h3
/-- in parts -/
theorem half_law {xs : List Bool} {S N M : Nat} (hl : xs.length ≤ 64) (h1 : 1 ≤ N) (hm : 1 ≤ M) (h2 : S + (N + M) ≤ xs.length) (hr : runF xs S (N + M) false = true) :
    chgOk xs S N true = true ∧ chgW xs S N true = setR xs S N true ∧ chgOk (setR xs S N true) (S + N : Nat) M true = true ∧ chgW (setR xs S N true) (S + N : Nat) M true = setR xs S (N + M) true := by
  have a := chg_yes (b := true) hl h1 (show S + N ≤ xs.length by omega) (runF_part hr (Nat.le_refl _) (by omega))
  have hlen := setR_len true (show S + N ≤ xs.length by omega)
  have hr2 : runF (setR xs S N true) (S + N) M false = true := by
    rw [runF_iff]
    intro i hi
    rw [setR_at true (by omega), if_neg (by omega)]
    have := runF_iff.1 hr (N + i) (by omega)
    rwa [show S + (N + i) = S + N + i by omega] at this
  have c := chg_yes (xs := setR xs S N true) (S := S + N) (M := M) (b := true) (by rw [hlen]; exact hl) hm (by rw [hlen]; omega) hr2
  exact ⟨a.1, a.2, c.1, by rw [c.2]; exact setR_two true h2⟩

/-- the first word from k on (n words are tried) at which m free words follow each other -/
def findF (xs : List Bool) (m : Nat) : Nat → Nat → Option Nat
  | _, 0 => none
  | k, n + 1 => if k + m ≤ xs.length ∧ runF xs k m false = true then some k else findF xs m (k + 1) n
def findN (xs : List Bool) (m : Nat) : Option Nat := findF xs m 0 (xs.length + 1)
def findW (xs : List Bool) (m : Int) : Int := if okM xs m = true then (match findN xs m.toNat with | some k => (k : Int) | none => -1) else -1
theorem findF_spec (xs : List Bool) (m : Nat) : ∀ n k, (findF xs m k n = none → ∀ j, k ≤ j → j < k + n → ¬ (j + m ≤ xs.length ∧ runF xs j m false = true)) ∧ (∀ j, findF xs m k n = some j → k ≤ j ∧ j < k + n ∧ j + m ≤ xs.length ∧ runF xs j m false = true ∧ ∀ i, k ≤ i → i < j → ¬ (i + m ≤ xs.length ∧ runF xs i m false = true))
  | 0, k => ⟨fun _ j h1 h2 => by omega, fun j h => by cases h⟩
  | n + 1, k => by
    unfold findF
    by_cases hc : k + m ≤ xs.length ∧ runF xs k m false = true
    · rw [if_pos hc]
      refine ⟨(fun h => by cases h), fun j h => ?_⟩
      injection h with h
      subst h
      exact ⟨Nat.le_refl _, by omega, hc.1, hc.2, fun i h1 h2 => by omega⟩
    · rw [if_neg hc]
      obtain ⟨a, b⟩ := findF_spec xs m n (k + 1)
      refine ⟨fun h j h1 h2 => ?_, fun j h => ?_⟩
      · rcases Nat.eq_or_lt_of_le h1 with e | e
        · subst e
          exact hc
        · exact a h j e (by omega)
      · obtain ⟨b1, b2, b3, b4, b5⟩ := b j h
        refine ⟨by omega, by omega, b3, b4, fun i h1 h2 => ?_⟩
        rcases Nat.eq_or_lt_of_le h1 with e | e
        · subst e
          exact hc
        · exact b5 i e h2
theorem find_none {xs : List Bool} {m : Nat} (h : findN xs m = none) (j : Nat) : ¬ (j + m ≤ xs.length ∧ runF xs j m false = true) := by
  rintro ⟨h1, h2⟩
  exact (findF_spec xs m (xs.length + 1) 0).1 h j (Nat.zero_le _) (by omega) ⟨h1, h2⟩
theorem find_some {xs : List Bool} {m k : Nat} (h : findN xs m = some k) : k + m ≤ xs.length ∧ runF xs k m false = true ∧ ∀ i, i < k → ¬ (i + m ≤ xs.length ∧ runF xs i m false = true) := by
  obtain ⟨_, _, h3, h4, h5⟩ := (findF_spec xs m (xs.length + 1) 0).2 k h
  exact ⟨h3, h4, fun i hi => h5 i (Nat.zero_le _) hi⟩

/-- the free words directly before word k -/
def runT (xs : List Bool) : Nat → Nat
  | 0 => 0
  | k + 1 => if xs[k]? = some false then runT xs k + 1 else 0
def bestT (xs : List Bool) : Nat → Nat
  | 0 => 0
  | k + 1 => max (bestT xs k) (runT xs (k + 1))
def longN (xs : List Bool) : Nat := bestT xs xs.length
def longW (xs : List Bool) : Int := if xs.length ≤ 64 then (longN xs : Int) else -1
theorem runT_le (xs : List Bool) : ∀ k, runT xs k ≤ k
  | 0 => Nat.le_refl _
  | k + 1 => by
    have := runT_le xs k
    unfold runT
    split <;> omega
theorem bestT_le (xs : List Bool) : ∀ k, bestT xs k ≤ k
  | 0 => Nat.le_refl _
  | k + 1 => by
    have := bestT_le xs k
    have := runT_le xs (k + 1)
    unfold bestT
    omega
theorem runT_iff (xs : List Bool) : ∀ (k n : Nat), n ≤ k → (n ≤ runT xs k ↔ runF xs (k - n) n false = true)
  | 0, n, h => by
    obtain rfl : n = 0 := by omega
    simp [runF_zero]
  | k + 1, 0, _ => by simp [runF_zero]
  | k + 1, n + 1, h => by
    have ih := runT_iff xs k n (by omega)
    unfold runT
    rw [show k + 1 - (n + 1) = k - n by omega]
    by_cases hx : xs[k]? = some false
    · rw [if_pos hx]
      constructor
      · intro h1
        have h2 := ih.1 (by omega)
        rw [runF_iff] at h2 ⊢
        intro i hi
        rcases Nat.lt_or_ge i n with h3 | h3
        · exact h2 i h3
        · rw [show k - n + i = k by omega]
          exact hx
      · intro h1
        have := ih.2 (runF_part h1 (Nat.le_refl _) (by omega))
        omega
    · rw [if_neg hx]
      constructor
      · intro h1; omega
      · intro h1
        have := runF_iff.1 h1 n (by omega)
        rw [show k - n + n = k by omega] at this
        exact absurd this hx
theorem bestT_iff (xs : List Bool) (n : Nat) (hn : 1 ≤ n) : ∀ k, n ≤ bestT xs k ↔ ∃ e, n ≤ e ∧ e ≤ k ∧ runF xs (e - n) n false = true
  | 0 => by
    unfold bestT
    constructor
    · intro h; omega
    · rintro ⟨e, h1, h2, _⟩; omega
  | k + 1 => by
    have ih := bestT_iff xs n hn k
    unfold bestT
    constructor
    · intro h
      rcases Nat.lt_or_ge (bestT xs k) n with h1 | h1
      · have h2 : n ≤ runT xs (k + 1) := by omega
        have := runT_le xs (k + 1)
        exact ⟨k + 1, by omega, Nat.le_refl _, (runT_iff xs (k + 1) n (by omega)).1 h2⟩
      · obtain ⟨e, e1, e2, e3⟩ := ih.1 h1
        exact ⟨e, e1, by omega, e3⟩
    · rintro ⟨e, e1, e2, e3⟩
      rcases Nat.eq_or_lt_of_le e2 with h1 | h1
      · subst h1
        have := (runT_iff xs (k + 1) n e1).2 e3
        omega
      · have := ih.2 ⟨e, e1, by omega, e3⟩
        omega
/-- so many words follow each other exactly if the longest run is at least as long -/
theorem long_iff (xs : List Bool) {n : Nat} (hn : 1 ≤ n) : n ≤ longN xs ↔ ∃ s, s + n ≤ xs.length ∧ runF xs s n false = true := by
  unfold longN
  rw [bestT_iff xs n hn]
  constructor
  · rintro ⟨e, e1, e2, e3⟩
    exact ⟨e - n, by omega, e3⟩
  · rintro ⟨s, h1, h2⟩
    exact ⟨s + n, by omega, h1, by rw [show s + n - n = s by omega]; exact h2⟩
theorem long_le (xs : List Bool) : longN xs ≤ xs.length := bestT_le xs _
theorem long_find (xs : List Bool) {n : Nat} (hn : 1 ≤ n) : n ≤ longN xs ↔ (findN xs n).isSome = true := by
  rw [long_iff xs hn]
  cases h : findN xs n with
  | none =>
    constructor
    · rintro ⟨s, h1⟩
      exact absurd h1 (find_none h s)
    · intro h1; cases h1
  | some k =>
    obtain ⟨h1, h2, _⟩ := find_some h
    exact ⟨fun _ => rfl, fun _ => ⟨k, h1, h2⟩⟩
theorem run_rev {xs : List Bool} {s n : Nat} (h1 : s + n ≤ xs.length) (h2 : runF xs s n false = true) : runF xs.reverse (xs.length - (s + n)) n false = true := by
  rw [runF_iff] at h2 ⊢
  intro i hi
  rw [List.getElem?_reverse (by omega)]
  have := h2 (n - 1 - i) (by omega)
  rw [← this]
  congr 1
  omega
theorem long_rev_le (xs : List Bool) : longN xs ≤ longN xs.reverse := by
  rcases Nat.eq_zero_or_pos (longN xs) with h | h
  · omega
  · obtain ⟨s, h1, h2⟩ := (long_iff xs h).1 (Nat.le_refl _)
    exact (long_iff xs.reverse h).2 ⟨xs.length - (s + longN xs), by rw [List.length_reverse]; omega, run_rev h1 h2⟩
theorem long_rev (xs : List Bool) : longN xs.reverse = longN xs := by
  have h1 := long_rev_le xs
  have h2 := long_rev_le xs.reverse
  rw [List.reverse_reverse] at h2
  omega
end Bm
end Go.Proofs.Ytakdjiojahlnmaa

namespace Go.Proofs.Ytakdjiojahlnmaa
open Go.RowKit

/-- the slice value '.slice A n _' reads as the bools xs, and lies below block B -/
def OS (w : World) (B : Nat) (A : Option Addr) (n : Nat) (xs : List Bool) : Prop :=
  xs.length = n ∧ (0 < n → ∃ g o, A = some ⟨g, o, none⟩ ∧ g < B ∧ ∀ (k : Nat) (b : Bool), xs[k]? = some b → w.cell? ⟨g, o + k, none⟩ = some (.bool b))
section
variable {w w' : World} {B B' n : Nat} {A : Option Addr} {xs : List Bool}
theorem OS.keep (h : OS w B A n xs) (hk : ∀ p : Addr, p.block < B → w'.cell? p = w.cell? p) : OS w' B A n xs :=
  ⟨h.1, fun hn => by
    obtain ⟨g, o, e, hb, hc⟩ := h.2 hn
    exact ⟨g, o, e, hb, fun k x hx => (hk _ hb).trans (hc k x hx)⟩⟩
theorem OS.more (h : OS w B A n xs) (hB : B ≤ B') : OS w B' A n xs :=
  ⟨h.1, fun hn => by
    obtain ⟨g, o, e, hb, hc⟩ := h.2 hn
    exact ⟨g, o, e, by omega, hc⟩⟩
theorem OS.below (h : OS w B A n xs) (hb : Below B w w') : OS w' B A n xs := h.keep fun _ hp => hb.cell hp
theorem OS.up {w w' : World} {n : Nat} {A : Option Addr} {xs : List Bool} (h : OS w w.heap.size A n xs) (hb : Below w.heap.size w w') : OS w' w'.heap.size A n xs := (h.below hb).more hb.size
theorem OS.at_ {k : Nat} (h : OS w B A n xs) (hk : k < n) : ∃ g o b, A = some ⟨g, o, none⟩ ∧ g < B ∧ xs[k]? = some b ∧ w.cell? ⟨g, o + k, none⟩ = some (.bool b) := by
  obtain ⟨g, o, e, hb, hc⟩ := h.2 (by omega)
  have hl : k < xs.length := by have := h.1; omega
  have hx := List.getElem?_eq_getElem hl
  exact ⟨g, o, _, e, hb, hx, hc k _ hx⟩
theorem OS.none_ (w : World) (B : Nat) (A : Option Addr) : OS w B A 0 [] := ⟨rfl, fun h => by omega⟩
end

/-- the value v owns the bools xs, in a row from block 'base' on -/
def OwnO (w : World) (base : Nat) (v : Value) (xs : List Bool) : Prop := w.ownsRow base 4 1 v xs.length (xs.map .bool)
theorem OwnO.form {w : World} {base : Nat} {v : Value} {xs : List Bool} (h : OwnO w base v xs) : ∃ A c, v = .slice A xs.length c ∧ (0 < xs.length → ∃ g, A = some ⟨g, 0, none⟩ ∧ base ≤ g ∧ g < w.heap.size) := by
  rcases h.2 with ⟨rfl, h0⟩ | ⟨g, cap, cur, rfl, hb, hh, _⟩
  · exact ⟨none, 0, by rw [h0], fun h => by omega⟩
  · exact ⟨some ⟨g, 0, none⟩, cap, rfl, fun _ => ⟨g, rfl, hb, (Array.getElem?_eq_some_iff.1 hh).1⟩⟩
theorem OwnO.reads {w : World} {base n c : Nat} {A : Option Addr} {xs : List Bool} (h : OwnO w base (.slice A n c) xs) : OS w w.heap.size A n xs := by
  rcases h.2 with ⟨e, h0⟩ | ⟨g, cap, cur, e, hb, hh, _⟩
  · injection e with e1 e2 e3
    subst e2
    have : xs = [] := List.eq_nil_of_length_eq_zero h0
    subst this
    exact ⟨rfl, fun h => by omega⟩
  · injection e with e1 e2 e3
    subst e1 e2 e3
    refine ⟨rfl, fun hn => ⟨g, 0, rfl, (Array.getElem?_eq_some_iff.1 hh).1, fun k x hx => ?_⟩⟩
    have hk : k < xs.length := (List.getElem?_eq_some_iff.1 hx).1
    have c1 := World.ownsRow.cellAt h k (by omega)
    rw [Nat.zero_add]
    refine c1.trans ?_
    rw [List.getElem?_map, hx]
    rfl
theorem OwnO.below {w w' : World} {base B : Nat} {v : Value} {xs : List Bool} (h : OwnO w base v xs) (hb : Below B w w') (hB : w.heap.size ≤ B) : OwnO w' base v xs := by
  refine ⟨h.1, ?_⟩
  rcases h.2 with h0 | ⟨g, cap, cur, e, hb', hh, hr⟩
  · exact .inl h0
  · exact .inr ⟨g, cap, cur, e, hb', (hb.block g (Nat.lt_of_lt_of_le (Array.getElem?_eq_some_iff.1 hh).1 hB)).trans hh, hr⟩
theorem OwnO.base {w : World} {base base' : Nat} {v : Value} {xs : List Bool} (h : OwnO w base v xs) (hb : base' ≤ base) : OwnO w base' v xs := by
  refine ⟨h.1, ?_⟩
  rcases h.2 with h0 | ⟨g, cap, cur, e, hb', hh, hr⟩
  · exact .inl h0
  · exact .inr ⟨g, cap, cur, e, by omega, hh, hr⟩
theorem OwnO.far {w w' : World} {base : Nat} {v : Value} {xs : List Bool} {row : Option Nat} (h : OwnO w base v xs) (hg : w.grownBy w' row) (hne : v.ownBlock = none ∨ v.ownBlock ≠ row) : OwnO w' base v xs := World.ownsRow.kept h hg hne
theorem OwnO.cast {w : World} {base : Nat} {v : Value} {xs ys : List Bool} (e : xs = ys) (h : OwnO w base v xs) : OwnO w base v ys := e ▸ h
theorem OwnO.cap {w : World} {base n c : Nat} {A : Option Addr} {xs : List Bool} (h : OwnO w base (.slice A n c) xs) : n = xs.length ∧ n ≤ c := by
  rcases h.2 with ⟨e, h0⟩ | ⟨g, cap, cur, e, _, _, hc, _⟩
  · injection e with e1 e2 e3
    omega
  · injection e with e1 e2 e3
    omega
theorem sep_ofO {w1 w2 : World} {b1 b2 : Nat} {v0 v1 : Value} {xs ys : List Bool} (h0 : OwnO w1 b1 v0 xs) (h1 : OwnO w2 b2 v1 ys) (hb : w1.heap.size ≤ b2) : v0.ownBlock = none ∨ v0.ownBlock ≠ v1.ownBlock := by
  cases e0 : v0.ownBlock with
  | none => exact .inl rfl
  | some k =>
    right
    intro e
    have a := (World.ownsRow.lt h0 k e0).2
    have b := (World.ownsRow.lt h1 k e.symm).1
    omega
theorem own_noneO (w : World) (base : Nat) (hb : base ≤ w.heap.size) : OwnO (w.alloc (.cells #[] 4)) base (.slice (some ⟨w.heap.size, 0, none⟩) 0 0) [] :=
  World.ownsRow_lit (base := base) (e := 4) (size := 1) w #[] 0 hb (by unfold maxLen; omega) rfl
theorem own_oneO (w : World) (b : Bool) (base : Nat) (hb : base ≤ w.heap.size) : OwnO (w.alloc (.cells #[.bool b] 4)) base (.slice (some ⟨w.heap.size, 0, none⟩) 1 1) [b] :=
  World.ownsRow_lit (base := base) (e := 4) (size := 1) w #[.bool b] 1 hb (by unfold maxLen; omega) rfl
/-- one word of an owned row is written -/
theorem OwnO.put {w : World} {base g c j : Nat} {xs : List Bool} (h : OwnO w base (.slice (some ⟨g, 0, none⟩) xs.length c) xs) (b : Bool) :
    OwnO (w.setCell ⟨g, j, none⟩ (.bool b)) base (.slice (some ⟨g, 0, none⟩) xs.length c) (xs.set j b) := by
  have := (World.ownsRow.stored h j (.bool b)).1
  unfold OwnO
  rw [List.length_set, List.map_set]
  exact this

theorem info_bool : (Try.prog.info? 4).map (fun i => (i.zero, i.size, i.bytes)) = some (some (.bool false), 1, 1) := by kernel_rfl

theorem run_appendO (w : World) (base : Nat) (v : Value) (xs : List Bool) (hown : OwnO w base v xs) (A : Option Addr) (m c B : Nat) (ys : List Bool) (hr : OS w B A m ys) (hn : xs.length + m ≤ 1099511627776) (hbase : base ≤ w.heap.size) (ty : TypeId) :
    ∃ v' w', (Builtin.append_ #[28, 28] ty #[v, .slice A m c]).run Try.prog w = .ok v' w' ∧ OwnO w' base v' (xs ++ ys) ∧ w.grownBy w' v.ownBlock ∧ (v'.ownBlock = v.ownBlock ∨ v'.ownBlock = some w.heap.size) := by
  obtain ⟨i0, hi0, hz0, hz1, hz2⟩ := info_parts info_bool
  have hm := hr.1
  rcases A with _ | ad
  · have h0 : m = 0 := by
      rcases Nat.eq_zero_or_pos m with h0 | h0
      · exact h0
      · obtain ⟨g, o, e, _⟩ := hr.2 h0
        cases e
    subst h0
    have : ys = [] := List.eq_nil_of_length_eq_zero hm
    subst this
    refine ⟨v, w, ?_, by simpa using hown, World.grownBy.refl _ _, .inl rfl⟩
    rcases hown.2 with ⟨rfl, _⟩ | ⟨g, cap, cur, rfl, _, _, hnc, _⟩
    · simp [Builtin.append_, run_underlying Try.underlying28, sizeOf, typeInfo, hi0, Builtin.lenOf, Builtin.firstCells]
    · simp [Builtin.append_, run_underlying Try.underlying28, sizeOf, typeInfo, hi0, Builtin.lenOf, Builtin.firstCells, hnc, storeCells]
  · have hcells : ∀ j u, (ys.map Value.bool)[j]? = some u → w.cell? (ad.add j) = some u := by
      intro j u hj
      rcases Nat.eq_zero_or_pos m with h0 | h0
      · subst h0
        have : ys = [] := List.eq_nil_of_length_eq_zero hm
        subst this
        simp at hj
      · obtain ⟨g, o, e, _, hc⟩ := hr.2 h0
        replace e := Option.some.inj e
        subst e
        rw [add_lit]
        rw [List.getElem?_map] at hj
        cases hy : ys[j]? with
        | none => rw [hy] at hj; cases hj
        | some b =>
          rw [hy] at hj
          replace hj := Option.some.inj hj
          subst hj
          exact hc j b hy
    obtain ⟨v', w', hrun, h2, h3, _, h5⟩ := run_append_own_at (P := Try.prog) w base 28 ty 4 i0 _ 1 1 Try.underlying28 hi0 hz0 hz1 hz2 rfl (by omega) v xs.length (xs.map .bool) hown ad m c (ys.map .bool)
      (by rw [List.length_map, hm]; omega) hcells (by intro u hu; obtain ⟨b, _, rfl⟩ := List.mem_map.1 hu; rfl) (by unfold maxLen; omega) (by omega) hbase
    refine ⟨v', w', hrun, ?_, h3, h5⟩
    unfold OwnO
    rw [List.map_append, List.length_append, hm]
    exact h2

theorem wpList_appendO {w : World} {ops : Array Oper} {rest : List Oper} {o : Oper} {a : Act} {Q : Exit → Act → World → Prop} (hgd : o.guard = none) (s x : Operand)
    (ho : o.op = .call { callee := .builtin .append, args := #[s, x], argTypes := #[28, 28] })
    (base : Nat) (v : Value) (xs : List Bool) (hs : a.eval s = v) (hown : OwnO w base v xs) (A : Option Addr) (m c B : Nat) (ys : List Bool) (hx : a.eval x = .slice A m c) (hr : OS w B A m ys)
    (hn : xs.length + m ≤ 1099511627776) (hbase : base ≤ w.heap.size)
    (h : ∀ v' w', OwnO w' base v' (xs ++ ys) → w.grownBy w' v.ownBlock → (v'.ownBlock = v.ownBlock ∨ v'.ownBlock = some w.heap.size) → wpList Try.prog ops Q rest (a.put o.dst v') w') : wpList Try.prog ops Q (o :: rest) a w :=
  wpList_plain hgd fun _ hK => by
    obtain ⟨v', w', hrun, h2, h3, h4⟩ := run_appendO w base v xs hown A m c B ys hr hn hbase o.type
    unfold Oper.wp execOp
    simp only [ho, resolve, invoke, builtin, Sem.run_bind, Sem.run_pure, Result.andThen_ok, List.map_toArray, List.map_cons, List.map_nil, hs, hx, hrun]
    exact hK _ _ (h v' w' h2 h3 h4)

/-- bools of the call's own -/
def GaveO (w : World) (xs : List Bool) (e : Ending) (w' : World) : Prop := ∃ v, e = .returned v ∧ OwnO w' w.heap.size v xs ∧ Below w.heap.size w w'
/-- bools of the call's own, and a bool -/
def GaveO2 (w : World) (xs : List Bool) (ok : Bool) (e : Ending) (w' : World) : Prop := ∃ v, e = .returned (.tuple #[v, .bool ok]) ∧ OwnO w' w.heap.size v xs ∧ Below w.heap.size w w'

theorem take_eq_succO {xs ys : List Bool} {k : Nat} {a : Bool} (h : xs.take k = ys.take k) (hx : xs[k]? = some a) (hy : ys[k]? = some a) : xs.take (k + 1) = ys.take (k + 1) := by
  rw [List.take_add_one, List.take_add_one, h, hx, hy]

theorem sameFlags_any (A B : Option Addr) (n m c d : Nat) (xs ys : List Bool) (w : World) (h : OS w w.heap.size A n xs) (h' : OS w w.heap.size B m ys) (hn : n ≤ 1099511627776) (hm : m ≤ 1099511627776) :
    Calls Try.prog 17 #[.slice A n c, .slice B m d] w fun e w' => e = .returned (.bool (decide (xs = ys))) ∧ Below w.heap.size w w' := by
  have HL := Lib.hid h.1
  have HL' := Lib.hid h'.1
  by_cases hnm : n = m
  · subst hnm
    go_enter Try.func17, Try.ntmps17
    go_wp2
    go_loopw [5] (fun i wr => ∃ (k : Nat), k ≤ n ∧ i = .int .i64 k ∧ Hid (xs.take k = ys.take k) ∧ Below w.heap.size w wr) (fun i _ => n - (intOf i).toNat)
    case atStart => exact ⟨0, Nat.zero_le _, rfl, by simp [Hid], Below.refl _ _⟩
    case round =>
      obtain ⟨k, hk, rfl, hpre, hb⟩ := hrel
      by_cases hlt : k < n
      · obtain ⟨g, o, x, rfl, hg, hx, c1⟩ := (h.below hb).at_ hlt
        obtain ⟨g', o', y, rfl, hg', hx', c1'⟩ := (h'.below hb).at_ hlt
        have HX := Lib.hid hx
        have HX' := Lib.hid hx'
        have hlt' : (k : Int) < n := by omega
        clear hx hx'
        by_cases hxy : x = y
        · subst hxy
          go_wp2_with fail
          go_quiet (fail)
          go_wp2
          go_roundw
          case rel => exact ⟨k + 1, by omega, by go_num, Lib.hid (take_eq_succO hpre.out HX.out HX'.out), below_drewN hb _⟩
          case measure => simp [intOf]; omega
        · have hne : (x == y) = false := by rw [beq_eq_false_iff_ne]; exact hxy
          have hne2 : (x != y) = true := by rw [bne_iff_ne]; exact hxy
          have HNE := Lib.hid (show xs ≠ ys from fun e => hxy (by
            have a := HX.out
            have b := HX'.out
            rw [e, b] at a
            exact (Option.some.inj a).symm))
          clear hxy
          go_wp2_with fail
          go_quiet (fail)
          go_wp2
          go_ret
          exact ⟨ret_bool (decide_eq_false HNE.out).symm, below_drewN hb _⟩
      · have hkn : k = n := by omega
        have HK := Lib.hid hkn
        clear hkn
        go_wp2
        go_ret
        refine ⟨ret_bool ?_, hb⟩
        have hp := hpre.out
        rw [HK.out, List.take_of_length_le (by rw [HL.out]; omega), List.take_of_length_le (by rw [HL'.out]; omega)] at hp
        simp [hp]
  · have hne : ((n : Int) != m) = true := by rw [bne_iff_ne]; omega
    have HN := Lib.hid hnm
    clear hnm
    go_enter Try.func17, Try.ntmps17
    go_wp2
    go_ret
    refine ⟨ret_bool ?_, Below.refl _ _⟩
    simp
    rintro rfl
    exact HN.out (HL.out.symm.trans HL'.out)

theorem OwnO.put' {w : World} {base g c j n : Nat} {xs : List Bool} (h : OwnO w base (.slice (some ⟨g, 0, none⟩) n c) xs) (hn : xs.length = n) (b : Bool) :
    OwnO (w.setCell ⟨g, j, none⟩ (.bool b)) base (.slice (some ⟨g, 0, none⟩) n c) (xs.set j b) := by
  subst hn
  exact h.put b

theorem OwnO.frozen {w : World} {base g c n : Nat} {xs : List Bool} (h : OwnO w base (.slice (some ⟨g, 0, none⟩) n c) xs) (hn : xs.length = n) (i : Nat) : w.frozen? ⟨g, i, none⟩ = false := by
  subst hn
  exact World.ownsRow.frozenAt h i

theorem madeO_eq (n : Nat) : madeCells (Value.bool false).cells n = Array.replicate n (.bool false) := by
  apply Array.ext
  · simp [madeCells, Value.cells]
  · intro i h1 h2
    simp [madeCells, Value.cells, Nat.mod_one]
theorem makeO (W : World) (n : Nat) (hn : n ≤ 1099511627776) : (Instr.makeSlice 28 (.int .i64 n) (.int .i64 n)).run Try.prog W = .ok (.slice (some ⟨W.heap.size, 0, none⟩) n n) (W.alloc (.cells (Array.replicate n (.bool false)) 4)) := by
  obtain ⟨i0, hi0, hz0, hz1, hz2⟩ := info_parts info_bool
  have := run_make (P := Try.prog) W 28 4 i0 _ Try.underlying28 hi0 hz0 .i64 .i64 n n (by omega) (by omega) (by rw [hz2]; omega) (by omega)
  rw [hz1] at this
  rw [← madeO_eq]
  simpa using this
theorem own_madeO (w : World) (n : Nat) (hn : n ≤ 1099511627776) : OwnO (w.alloc (.cells (Array.replicate n (.bool false)) 4)) w.heap.size (.slice (some ⟨w.heap.size, 0, none⟩) n n) (List.replicate n false) := by
  have := World.ownsRow_lit (base := w.heap.size) (e := 4) (size := 1) w (Array.replicate n (.bool false)) n (Nat.le_refl _) (by unfold maxLen; omega) (by simp)
  unfold OwnO
  simpa using this

end Go.Proofs.Ytakdjiojahlnmaa
