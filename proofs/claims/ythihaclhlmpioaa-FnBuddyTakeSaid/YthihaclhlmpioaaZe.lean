/- Slices of numbers: how they lie in memory; what slices.BinarySearch returns at ascending numbers. No conditions. -/
import Derived.Test.YthihaclhlmpioaaZd
import Derived.Maps.AppendAt
namespace Go.Proofs.Ythihaclhlmpioaa
open Go.RowKit

/-- the slice value '.slice A n _' reads as the numbers vs, and lies below block B -/
def IS (w : World) (B : Nat) (A : Option Addr) (n : Nat) (vs : List Int) : Prop :=
  vs.length = n ∧ (∀ (k : Nat) (v : Int), vs[k]? = some v → I64 v) ∧
  (0 < n → ∃ g o, A = some ⟨g, o, none⟩ ∧ g < B ∧ ∀ (k : Nat) (v : Int), vs[k]? = some v → w.cell? ⟨g, o + k, none⟩ = some (.int .i64 v))

section
variable {w w' : World} {B B' n : Nat} {A : Option Addr} {vs : List Int}
theorem IS.keep (h : IS w B A n vs) (hk : ∀ p : Addr, p.block < B → w'.cell? p = w.cell? p) : IS w' B A n vs :=
  ⟨h.1, h.2.1, fun hn => by
    obtain ⟨g, o, e, hb, hc⟩ := h.2.2 hn
    exact ⟨g, o, e, hb, fun k x hx => (hk _ hb).trans (hc k x hx)⟩⟩
theorem IS.more (h : IS w B A n vs) (hB : B ≤ B') : IS w B' A n vs :=
  ⟨h.1, h.2.1, fun hn => by
    obtain ⟨g, o, e, hb, hc⟩ := h.2.2 hn
    exact ⟨g, o, e, by omega, hc⟩⟩
theorem IS.below (h : IS w B A n vs) (hb : Below B w w') : IS w' B A n vs := h.keep fun _ hp => hb.cell hp
theorem IS.up {w w' : World} {n : Nat} {A : Option Addr} {vs : List Int} (h : IS w w.heap.size A n vs) (hb : Below w.heap.size w w') : IS w' w'.heap.size A n vs := (h.below hb).more hb.size
theorem IS.at_ {k : Nat} (h : IS w B A n vs) (hk : k < n) : ∃ g o v, A = some ⟨g, o, none⟩ ∧ g < B ∧ vs[k]? = some v ∧ I64 v ∧ w.cell? ⟨g, o + k, none⟩ = some (.int .i64 v) := by
  obtain ⟨g, o, e, hb, hc⟩ := h.2.2 (by omega)
  have hl : k < vs.length := by have := h.1; omega
  have hx := List.getElem?_eq_getElem hl
  exact ⟨g, o, _, e, hb, hx, h.2.1 k _ hx, hc k _ hx⟩
end

/-- the value v owns the numbers vs, in a row from block 'base' on -/
def OwnI (w : World) (base : Nat) (v : Value) (vs : List Int) : Prop := w.ownsRow base 3 1 v vs.length (vs.map (.int .i64))
def AllN (vs : List Int) : Prop := ∀ (k : Nat) (v : Int), vs[k]? = some v → I64 v

theorem OwnI.form {w : World} {base : Nat} {v : Value} {vs : List Int} (h : OwnI w base v vs) : ∃ A c, v = .slice A vs.length c := by
  rcases h.2 with ⟨rfl, h0⟩ | ⟨g, cap, cur, rfl, hb, hh, _⟩
  · exact ⟨none, 0, by rw [h0]⟩
  · exact ⟨some ⟨g, 0, none⟩, cap, rfl⟩

theorem OwnI.reads {w : World} {base n c : Nat} {A : Option Addr} {vs : List Int} (h : OwnI w base (.slice A n c) vs) (hi : AllN vs) : IS w w.heap.size A n vs := by
  rcases h.2 with ⟨e, h0⟩ | ⟨g, cap, cur, e, hb, hh, _⟩
  · injection e with e1 e2 e3
    subst e2
    have : vs = [] := List.eq_nil_of_length_eq_zero h0
    subst this
    exact ⟨rfl, hi, fun h => by omega⟩
  · injection e with e1 e2 e3
    subst e1 e2 e3
    refine ⟨rfl, hi, fun hn => ⟨g, 0, rfl, (Array.getElem?_eq_some_iff.1 hh).1, fun k x hx => ?_⟩⟩
    have hk : k < vs.length := (List.getElem?_eq_some_iff.1 hx).1
    have c1 := World.ownsRow.cellAt h k (by omega)
    rw [Nat.zero_add]
    refine c1.trans ?_
    rw [List.getElem?_map, hx]
    rfl

theorem info_int : (Try.prog.info? 3).map (fun i => (i.zero, i.size, i.bytes)) = some (some (.int .i64 0), 1, 8) := by kernel_rfl

/-- an append of one number onto the call's own numbers, as one step of a region that draws its order -/
theorem step_appendI {w : World} {ops : Array Oper} {o : Oper} {a : Act} {K : Act → World → Prop} {Q : Exit → Act → World → Prop} {E : Prop} (hgd : o.guard = none) (s x : Operand)
    (ho : o.op = .call { callee := .builtin .append, args := #[s, x], argTypes := #[49, 49] })
    (base : Nat) (v : Value) (vs : List Int) (hs : a.eval s = v) (hown : OwnI w base v vs) (g c : Nat) (q : Int) (hx : a.eval x = .slice (some ⟨g, 0, none⟩) 1 c) (hr : w.cell? ⟨g, 0, none⟩ = some (.int .i64 q))
    (hn : vs.length + 1 ≤ 1099511627776) (hbase : base ≤ w.heap.size)
    (h : ∀ v' w', OwnI w' base v' (vs ++ [q]) → w.grownBy w' v.ownBlock → (v'.ownBlock = v.ownBlock ∨ v'.ownBlock = some w.heap.size) → K (a.put o.dst v') w') : if Region.wanted o (yielded ops a.tmps) = true then Oper.wp Try.prog o a w K Q else E := by
  have hw : Region.wanted o (yielded ops a.tmps) = true := by simp [Region.wanted, hgd]
  rw [if_pos hw]
  obtain ⟨i0, hi0, hz0, hz1, hz2⟩ := info_parts info_int
  obtain ⟨v', w', hrun, h2, h3, _, h5⟩ := run_append_own_at (P := Try.prog) w base 49 o.type 3 i0 _ 1 8 Try.underlying49 hi0 hz0 hz1 hz2 rfl (by omega) v vs.length (vs.map (.int .i64)) hown ⟨g, 0, none⟩ 1 c [.int .i64 q]
      (by simp) (fun j u hj => by
        cases j with
        | zero => simp at hj; subst hj; exact hr
        | succ j => simp at hj) (by simp [Value.oneCell']) (by unfold maxLen; omega) (by omega) hbase
  unfold Oper.wp execOp
  simp only [ho, resolve, invoke, builtin, Sem.run_bind, Sem.run_pure, Result.andThen_ok, List.map_toArray, List.map_cons, List.map_nil, hs, hx, hrun]
  refine h v' w' ?_ h3 h5
  unfold OwnI
  simpa using h2

theorem isNaNc_any (x : Int) (w : World) : Calls Try.prog 68 #[.int .i64 x] w fun e w' => e = .returned (.bool false) ∧ w = w' := by
  go_enter Try.func68, Try.ntmps68
  go_wp2
  go_ret
  exact ⟨rfl, rfl⟩
theorem isNaNs_any (x : Int) (w : World) : Calls Try.prog 67 #[.int .i64 x] w fun e w' => e = .returned (.bool false) ∧ w = w' := by
  go_enter Try.func67, Try.ntmps67
  go_wp2
  go_ret
  exact ⟨rfl, rfl⟩
theorem less_any (x y : Int) (w : World) : Calls Try.prog 66 #[.int .i64 x, .int .i64 y] w fun e w' => e = .returned (.bool (decide (x < y))) ∧ w = w' := by
  go_enter Try.func66, Try.ntmps66
  go_wp2_with fail
  refine (isNaNc_any x _).mono ?_
  rintro e w' ⟨rfl, rfl⟩
  go_wp2_with fail
  go_ret
  exact ⟨rfl, rfl⟩

/-- how many numbers are smaller -/
def fromN (vs : List Int) (v : Int) : Nat := (vs.takeWhile fun b => decide (b < v)).length
theorem fromN_le (vs : List Int) (v : Int) : fromN vs v ≤ vs.length := (List.takeWhile_prefix _).length_le
def AscN (vs : List Int) : Prop := ∀ (i j : Nat) (x y : Int), i < j → vs[i]? = some x → vs[j]? = some y → x < y
theorem fromN_iff {vs : List Int} {v : Int} (ha : AscN vs) {k : Nat} {b : Int} (hb : vs[k]? = some b) : b < v ↔ k < fromN vs v := by
  induction vs generalizing k with
  | nil => simp at hb
  | cons x vs ih =>
    have ha' : AscN vs := fun i j x' y' h h1 h2 => ha (i + 1) (j + 1) x' y' (by omega) (by simpa using h1) (by simpa using h2)
    unfold fromN
    rw [List.takeWhile_cons]
    by_cases hx : x < v
    · simp only [hx, decide_true, if_true, List.length_cons]
      cases k with
      | zero =>
        simp at hb
        subst hb
        simp [hx]
      | succ k =>
        have := ih ha' (k := k) (by simpa using hb)
        unfold fromN at this
        rw [this]
        omega
    · simp only [hx, decide_false]
      cases k with
      | zero =>
        simp at hb
        subst hb
        simp [hx]
      | succ k =>
        have := ha 0 (k + 1) x b (by omega) (by simp) hb
        simp
        omega
/-- the number is there exactly if it stands where the smaller ones end -/
theorem mem_iff_from {vs : List Int} {v : Int} (ha : AscN vs) : v ∈ vs ↔ vs[fromN vs v]? = some v := by
  constructor
  · intro hm
    obtain ⟨k, hk⟩ := List.mem_iff_getElem?.1 hm
    have h1 := fromN_iff (v := v) ha hk
    have h2 : fromN vs v ≤ k := by omega
    rcases Nat.lt_or_ge (fromN vs v) k with h3 | h3
    · have hl : fromN vs v < vs.length := by have := (List.getElem?_eq_some_iff.1 hk).1; omega
      have hx := List.getElem?_eq_getElem hl
      have h4 := ha _ _ _ _ h3 hx hk
      have h5 := (fromN_iff ha hx).1 h4
      omega
    · rw [show fromN vs v = k by omega]
      exact hk
  · intro h
    exact List.mem_of_getElem? h

set_option maxHeartbeats 2000000 in
theorem binarySearch_any (A : Option Addr) (n c : Nat) (vs : List Int) (v : Int) (w : World) (h : IS w w.heap.size A n vs) (hn : n ≤ 1099511627776) (ha : AscN vs) :
    Calls Try.prog 65 #[.slice A n c, .int .i64 v] w fun e w' => e = .returned (.tuple #[.int .i64 (fromN vs v : Nat), .bool (decide (v ∈ vs))]) ∧ w = w' := by
  obtain ⟨F, hF⟩ : ∃ F, fromN vs v = F := ⟨_, rfl⟩
  have hFn : F ≤ n := by have := fromN_le vs v; rw [h.1, hF] at this; exact this
  have HLT := Lib.hid (fun (k : Nat) (b : Int) (hb : vs[k]? = some b) => fromN_iff (v := v) ha hb)
  have HME := Lib.hid (mem_iff_from (v := v) ha)
  rw [hF] at HLT HME ⊢
  clear hF ha
  go_enter Try.func65, Try.ntmps65
  go_wp2_with fail
  go_loop [7, 8] (fun i j => ∃ lo hi : Nat, lo ≤ F ∧ F ≤ hi ∧ hi ≤ n ∧ i = .int .i64 lo ∧ j = .int .i64 hi) (fun i j => (intOf j).toNat - (intOf i).toNat)
  case atStart => exact ⟨0, n, Nat.zero_le _, hFn, Nat.le_refl _, rfl, rfl⟩
  case round =>
    obtain ⟨lo, hi, q1, q2, q3, rfl, rfl⟩ := hrel
    by_cases hl : lo < hi
    · have hl' : (lo : Int) < hi := by omega
      obtain ⟨m, hm⟩ : ∃ m : Nat, ((lo : Int) + hi) / 2 = m := ⟨(lo + hi) / 2, by omega⟩
      have hm1 : lo ≤ m := by omega
      have hm2 : m < hi := by omega
      have hmn : (m : Int) < n := by omega
      obtain ⟨g, o, x, rfl, hg, hx, ⟨i1, i2⟩, d1⟩ := h.at_ (k := m) (by omega)
      have hcl := HLT.out m x hx
      clear hx
      by_cases hv : x < v
      · have hmF : m < F := by omega
        have hd : decide (x < v) = true := decide_eq_true hv
        clear hcl
        go_wp2_with fail
        refine (less_any x v _).mono ?_
        rw [hd]
        rintro e w' ⟨rfl, rfl⟩
        clear hd
        go_wp2
        go_round
        case rel => exact ⟨m + 1, hi, by omega, q2, q3, by go_num, rfl⟩
        case measure => simp [intOf]; omega
      · have hmF : F ≤ m := by omega
        have hd : decide (x < v) = false := decide_eq_false hv
        clear hcl
        go_wp2_with fail
        refine (less_any x v _).mono ?_
        rw [hd]
        rintro e w' ⟨rfl, rfl⟩
        clear hd
        go_wp2
        go_round
        case rel => exact ⟨lo, m, q1, hmF, by omega, rfl, rfl⟩
        case measure => simp [intOf]; omega
    · have hlo : lo = F := by omega
      subst hlo
      by_cases hln : lo < n
      · have hln' : (lo : Int) < n := by omega
        obtain ⟨g, o, x, rfl, hg, hx, ⟨i1, i2⟩, d1⟩ := h.at_ hln
        by_cases hxv : x = v
        · have HD := Lib.hid (show decide (v ∈ vs) = true from decide_eq_true (HME.out.2 (by rw [hx, hxv])))
          have hxe : (x == v) = true := by rw [beq_iff_eq]; exact hxv
          clear hx hxv
          go_wp2
          go_ret2
          exact ⟨by rw [HD.out]; rfl, rfl⟩
        · have HD := Lib.hid (show decide (v ∈ vs) = false from decide_eq_false (fun hm => hxv (by have := HME.out.1 hm; rw [hx] at this; injection this)))
          have hxe : (x == v) = false := by rw [beq_eq_false_iff_ne]; exact hxv
          clear hx hxv
          go_wp2_with (first
            | (go_at_call 67; refine (isNaNs_any _ _).mono ?_; rintro e w' ⟨rfl, rfl⟩)
            | fail)
          go_ret2
          exact ⟨by rw [HD.out]; rfl, rfl⟩
      · have HD := Lib.hid (show decide (v ∈ vs) = false from decide_eq_false (fun hm => by
          have := (List.getElem?_eq_some_iff.1 (HME.out.1 hm)).1
          rw [h.1] at this
          exact hln this))
        have hln' : decide ((lo : Int) < n) = false := decide_eq_false (by omega)
        have hln2 : decide (lo < n) = false := decide_eq_false hln
        go_wp2
        go_ret2
        exact ⟨by rw [HD.out]; rfl, rfl⟩
end Go.Proofs.Ythihaclhlmpioaa
