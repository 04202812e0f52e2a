/- Rows of buddies: what is said of rows of blocks, said of them. No conditions. -/
import Derived.Test.YthihaclhlmpioaaWj
import Derived.Test.YthihaclhlmpioaaWu
namespace Go.Proofs.Ythihaclhlmpioaa
open Go.RowKit

theorem toBuddy_any (a b : Int) (u : Bool) (w : World) :
    Calls Try.prog 54 #[.agg #[.int .i64 a, .int .i64 b, .bool u]] w fun e w' => e = .returned (.agg #[.int .i64 a, .int .i64 b, .bool u]) ∧ Below w.heap.size w w' := by
  go_enter Try.func54, Try.ntmps54
  go_wp2
  exact bodyPost_ret (v := .agg #[.int .i64 a, .int .i64 b, .bool u]) (by simp [results, Try.results54, go_sem]) rfl ⟨rfl, ((((Below.refl _ _).alloc (Nat.le_refl _) _).alloc (by simp) _).alloc (by simp; omega) _)⟩

theorem info_buddy : (Try.prog.info? 40).map (fun i => (i.zero, i.size, i.bytes)) = some (some (.agg #[.int .i64 0, .int .i64 0, .bool false]), 3, 24) := by kernel_rfl

/-- the buddies have been copied into a row of their own -/
def MadeYS (w : World) (xs : List Bl) (e : Ending) (w' : World) : Prop :=
  ∃ cs : Array Value, e = .returned (.slice (some ⟨w.heap.size, 0, none⟩) xs.length xs.length) ∧ Rw w' w.heap.size 40 cs ∧ Cs cs xs ∧ cs.size = xs.length * 3 ∧ Below w.heap.size w w'

theorem toBuddyS_any (A : Option Addr) (n c : Nat) (xs : List Bl) (w : World) (h : BS w w.heap.size A n xs) (hn : n ≤ 1099511627776) :
    Calls Try.prog 33 #[.slice A n c] w (MadeYS w xs) := by
  obtain ⟨i0, hi0, hz0, hz1, hz2⟩ := info_parts info_buddy
  obtain ⟨cs0, hs0, hmk⟩ : ∃ cs0 : Array Value, cs0.size = n * 3 ∧ ∀ W : World, (Instr.makeSlice 27 (.int .i64 n) (.int .i64 n)).run Try.prog W = .ok (.slice (some ⟨W.heap.size, 0, none⟩) n n) (W.alloc (.cells cs0 40)) := by
    refine ⟨madeCells (Value.agg #[.int .i64 0, .int .i64 0, .bool false]).cells (n * 3), size_madeCells _ (n * 3), fun W => ?_⟩
    have := run_make (P := Try.prog) W 27 40 i0 _ Try.underlying27 hi0 hz0 .i64 .i64 n n (by omega) (by omega) (by rw [hz2]; omega) (by omega)
    rw [hz1] at this
    simpa using this
  have hlen := h.1
  have HL := Lib.hid hlen
  have HS0 := Lib.hid hs0
  clear hi0 hz0 hz1 hz2 hlen hs0
  go_enter Try.func33, Try.ntmps33
  go_wp2
  clear hmk
  go_loopw [4] (fun i wr => ∃ (k : Nat) (cs : Array Value), k ≤ n ∧ i = .int .i64 k ∧ Rw wr w.heap.size 40 cs ∧ Hid (cs.size = n * 3) ∧ Cs cs (xs.take k) ∧ Below w.heap.size w wr) (fun i _ => n - (intOf i).toNat)
  case atStart => exact ⟨0, cs0, Nat.zero_le _, rfl, Rw.new _ _ _, HS0, fun k x hx => by simp at hx, (Below.refl _ _).alloc (Nat.le_refl _) _⟩
  case round =>
    obtain ⟨k, cs, hk, rfl, hrow, hsz, hcs, hb⟩ := hrel
    by_cases hlt : k < n
    · obtain ⟨g, o, x, rfl, hg, hx, ⟨i1, i2⟩, ⟨i3, i4⟩, c1, c2, c3⟩ := (h.below hb).at_ hlt
      have HX := Lib.hid hx
      clear hx
      have hwl := hrow.lt
      obtain ⟨v0, q0⟩ := hrow.some_ (i := k * 3) (by have := hsz.out; omega)
      obtain ⟨v1, q1⟩ := hrow.some_ (i := k * 3 + 1) (by have := hsz.out; omega)
      obtain ⟨v2, q2⟩ := hrow.some_ (i := k * 3 + 2) (by have := hsz.out; omega)
      go_wp2_with (go_at_call 54; refine (toBuddy_any _ _ _ _).mono ?_; rintro e w1 ⟨rfl, hb1⟩; have p0 := (hb1.cell (p := ⟨w.heap.size, k * 3, none⟩) hwl).trans q0; have p1 := (hb1.cell (p := ⟨w.heap.size, k * 3 + 1, none⟩) hwl).trans q1; have p2 := (hb1.cell (p := ⟨w.heap.size, k * 3 + 2, none⟩) hwl).trans q2; have f0 := (hrow.keep hb1 hwl).frozen (k * 3); have f1 := (hrow.keep hb1 hwl).frozen (k * 3 + 1); have f2 := (hrow.keep hb1 hwl).frozen (k * 3 + 2))
      go_roundw
      case rel => exact ⟨k + 1, _, by omega, by go_num, (((hrow.keep hb1 hwl).put _ _).put _ _).put _ _, by have := hsz.out; exact Lib.hid (by simpa using this), Cs.take_succ hcs HX.out (by have := hsz.out; omega),
        (((hb.trans (hb1.mono hb.size)).setCell (Nat.le_refl _) _).setCell (Nat.le_refl _) _).setCell (Nat.le_refl _) _⟩
      case measure => simp [intOf]; omega
    · have hkn : k = n := by omega
      have HK := Lib.hid hkn
      clear hkn
      go_wp2
      go_ret
      have e := HK.out
      have e2 := HL.out
      refine ⟨cs, by rw [e2]; rfl, hrow, ?_, by rw [e2]; exact hsz.out, hb⟩
      rw [e, ← e2, List.take_length] at hcs
      exact hcs

theorem szBuddyS_any (A : Option Addr) (n c : Nat) (l : Int) (w : World) (h0 : 0 ≤ l) (h1 : l ≤ 1099511627776) (hn : n ≤ 9223372036854775807) :
    Calls Try.prog 32 #[.slice A n c, .int .i64 l] w fun e w' => e = .returned (.int .i64 (if l - n < 0 then -1 else l - n)) ∧ w = w' := by
  go_enter Try.func32, Try.ntmps32
  go_wp2
  all_goals
    go_ret
    refine ⟨ret_int ?_, rfl⟩
    first | rfl | (split <;> omega)

theorem szBuddyS_in (A : Option Addr) (n c : Nat) (l : Int) (w : World) (h0 : 0 ≤ l) (h1 : l ≤ 1099511627776) (hn : n ≤ 9223372036854775807) (h : n ≤ l) :
    Calls Try.prog 32 #[.slice A n c, .int .i64 l] w fun e w' => e = .returned (.int .i64 (l - n)) ∧ w = w' :=
  (szBuddyS_any A n c l w h0 h1 hn).mono fun e w' ⟨he, hw⟩ => ⟨by rw [he, if_neg (by omega)], hw⟩
theorem szBuddyS_out (A : Option Addr) (n c : Nat) (l : Int) (w : World) (h0 : 0 ≤ l) (h1 : l ≤ 1099511627776) (hn : n ≤ 9223372036854775807) (h : l < n) :
    Calls Try.prog 32 #[.slice A n c, .int .i64 l] w fun e w' => e = .returned (.int .i64 (-1)) ∧ w = w' :=
  (szBuddyS_any A n c l w h0 h1 hn).mono fun e w' ⟨he, hw⟩ => ⟨by rw [he, if_pos (by omega)], hw⟩

theorem eqBuddy_any (x y : Bl) (w : World) :
    Calls Try.prog 55 #[.agg #[.int .i64 x.s, .int .i64 x.z, .bool x.u], .agg #[.int .i64 y.s, .int .i64 y.z, .bool y.u]] w fun e w' => e = .returned (.bool (eqB x y)) ∧ Below w.heap.size w w' := by
  have HE := Lib.hid (eqB_eq x y)
  go_enter Try.func55, Try.ntmps55
  go_wp2
  · have h1 : (x.s != y.s) = true := by assumption
    go_ret
    exact ⟨ret_bool (by rw [HE.out]; rw [bne_iff_ne] at h1; simp [h1]), ((Below.refl _ _).alloc (Nat.le_refl _) _).alloc (by simp) _⟩
  · have h2 : (x.z != y.z) = true := by assumption
    go_ret
    exact ⟨ret_bool (by rw [HE.out]; rw [bne_iff_ne] at h2; simp [h2]), ((Below.refl _ _).alloc (Nat.le_refl _) _).alloc (by simp) _⟩
  · have h3 : (!x.u == y.u) = true := by assumption
    go_ret
    exact ⟨ret_bool (by rw [HE.out]; simp at h3; simp [h3]), ((Below.refl _ _).alloc (Nat.le_refl _) _).alloc (by simp) _⟩
  · have h1 : (x.s != y.s) = false := by assumption
    have h2 : (x.z != y.z) = false := by assumption
    have h3 : (!x.u == y.u) = false := by assumption
    go_ret
    exact ⟨ret_bool (by rw [HE.out]; simp at h1 h2 h3; simp [h1, h2, h3]), ((Below.refl _ _).alloc (Nat.le_refl _) _).alloc (by simp) _⟩

theorem eqBuddyS_any (A B : Option Addr) (n m c d : Nat) (xs ys : List Bl) (w : World) (h : BS w w.heap.size A n xs) (h' : BS w w.heap.size B m ys) (hn : n ≤ 1099511627776) (hm : m ≤ 1099511627776) :
    Calls Try.prog 34 #[.slice A n c, .slice B m d] w fun e w' => e = .returned (.bool (decide (xs = ys))) ∧ Below w.heap.size w w' := by
  have HL := Lib.hid h.1
  have HL' := Lib.hid h'.1
  by_cases hnm : n = m
  · subst hnm
    go_enter Try.func34, Try.ntmps34
    go_wp2
    go_loopw [5] (fun i wr => ∃ (k : Nat), k ≤ n ∧ i = .int .i64 k ∧ Hid (xs.take k = ys.take k) ∧ Below w.heap.size w wr) (fun i _ => n - (intOf i).toNat)
    case atStart => exact ⟨0, Nat.zero_le _, rfl, by simp [Hid], Below.refl _ _⟩
    case round =>
      obtain ⟨k, hk, rfl, hpre, hb⟩ := hrel
      by_cases hlt : k < n
      · obtain ⟨g, o, x, rfl, hg, hx, ⟨i1, i2⟩, ⟨i3, i4⟩, c1, c2, c3⟩ := (h.below hb).at_ hlt
        obtain ⟨g', o', y, rfl, hg', hx', ⟨i1', i2'⟩, ⟨i3', i4'⟩, c1', c2', c3'⟩ := (h'.below hb).at_ hlt
        have HX := Lib.hid hx
        have HX' := Lib.hid hx'
        clear hx hx'
        go_wp2
        go_still_tail 8, (by kernel_rfl)
        change wpList _ _ _ _ _ wr.drew
        have hbd : Below w.heap.size w wr.drew := hb.drew
        generalize wr.drew = w2 at hbd
        cases he : eqB x y
        all_goals
          have HE := Lib.hid he
          clear he
          go_wp2_with (go_at_call 55; refine (eqBuddy_any x y _).mono ?_; rw [HE.out]; rintro e w1 ⟨rfl, hb1⟩)
        · go_ret
          exact ⟨ret_bool (ne_of_at HX.out HX'.out HE.out).symm, hbd.trans (hb1.mono hbd.size)⟩
        · go_roundw
          case rel => exact ⟨k + 1, by omega, by go_num, Lib.hid (take_eq_succ hpre.out HX.out HX'.out HE.out), hbd.trans (hb1.mono hbd.size)⟩
          case measure => simp [intOf]; omega
      · have hkn : k = n := by omega
        have HK := Lib.hid hkn
        clear hkn
        go_wp2
        go_ret
        refine ⟨ret_bool ?_, hb⟩
        have hp := hpre.out
        rw [HK.out, List.take_of_length_le (by rw [HL.out]; omega), List.take_of_length_le (by rw [HL'.out]; omega)] at hp
        simp [hp]
  · have hne : ((n : Int) != m) = true := by rw [bne_iff_ne]; omega
    have HN := Lib.hid hnm
    clear hnm
    go_enter Try.func34, Try.ntmps34
    go_wp2
    go_ret
    refine ⟨ret_bool ?_, Below.refl _ _⟩
    simp
    rintro rfl
    exact HN.out (HL.out.symm.trans HL'.out)
theorem MadeYS.reads {w w' : World} {xs : List Bl} {e : Ending} (h : MadeYS w xs e w') (hi : ∀ (k : Nat) (x : Bl), xs[k]? = some x → I64 x.s ∧ I64 x.z) :
    e = .returned (.slice (some ⟨w.heap.size, 0, none⟩) xs.length xs.length) ∧ BS w' w'.heap.size (some ⟨w.heap.size, 0, none⟩) xs.length xs ∧ Below w.heap.size w w' := by
  obtain ⟨cs, he, hr, hc, hs, hb⟩ := h
  exact ⟨he, BS.of_row hr hc hr.lt hi, hb⟩

/-- the value v owns the buddies xs, in a row of buddies from 'base' on -/
def OwnY (w : World) (base : Nat) (v : Value) (xs : List Bl) : Prop := w.ownsRow base 40 3 v xs.length (flat xs)

theorem OwnY.form {w : World} {base : Nat} {v : Value} {xs : List Bl} (h : OwnY w base v xs) : ∃ A c, v = .slice A xs.length c ∧ (0 < xs.length → ∃ g, A = some ⟨g, 0, none⟩ ∧ base ≤ g ∧ g < w.heap.size) := by
  rcases h.2 with ⟨rfl, h0⟩ | ⟨g, cap, cur, rfl, hb, hh, _⟩
  · exact ⟨none, 0, by rw [h0], fun h => by omega⟩
  · exact ⟨some ⟨g, 0, none⟩, cap, rfl, fun _ => ⟨g, rfl, hb, (Array.getElem?_eq_some_iff.1 hh).1⟩⟩

theorem OwnY.reads {w : World} {base n c : Nat} {A : Option Addr} {xs : List Bl} (h : OwnY w base (.slice A n c) xs) (hi : AllI xs) : BS w w.heap.size A n xs := by
  rcases h.2 with ⟨e, h0⟩ | ⟨g, cap, cur, e, hb, hh, _⟩
  · injection e with e1 e2 e3
    subst e2
    have : xs = [] := List.eq_nil_of_length_eq_zero h0
    subst this
    exact ⟨rfl, hi, fun h => by omega⟩
  · injection e with e1 e2 e3
    subst e1 e2 e3
    refine ⟨rfl, hi, fun hn => ⟨g, 0, rfl, (Array.getElem?_eq_some_iff.1 hh).1, fun k x hx => ?_⟩⟩
    have hk : k < xs.length := (List.getElem?_eq_some_iff.1 hx).1
    obtain ⟨f1, f2, f3⟩ := flat_at xs k x hx
    have c1 := World.ownsRow.cellAt h (k * 3) (by omega)
    have c2 := World.ownsRow.cellAt h (k * 3 + 1) (by omega)
    have c3 := World.ownsRow.cellAt h (k * 3 + 2) (by omega)
    simp only [Nat.zero_add]
    exact ⟨c1.trans f1, c2.trans f2, c3.trans f3⟩

theorem OwnY.below {w w' : World} {base B : Nat} {v : Value} {xs : List Bl} (h : OwnY w base v xs) (hb : Below B w w') (hB : w.heap.size ≤ B) : OwnY w' base v xs := by
  refine ⟨h.1, ?_⟩
  rcases h.2 with h0 | ⟨g, cap, cur, e, hb', hh, hr⟩
  · exact .inl h0
  · exact .inr ⟨g, cap, cur, e, hb', (hb.block g (Nat.lt_of_lt_of_le (Array.getElem?_eq_some_iff.1 hh).1 hB)).trans hh, hr⟩

theorem OwnY.base {w : World} {base base' : Nat} {v : Value} {xs : List Bl} (h : OwnY w base v xs) (hb : base' ≤ base) : OwnY w base' v xs := by
  refine ⟨h.1, ?_⟩
  rcases h.2 with h0 | ⟨g, cap, cur, e, hb', hh, hr⟩
  · exact .inl h0
  · exact .inr ⟨g, cap, cur, e, by omega, hh, hr⟩

theorem OwnY.far {w w' : World} {base : Nat} {v : Value} {xs : List Bl} {row : Option Nat} (h : OwnY w base v xs) (hg : w.grownBy w' row) (hne : v.ownBlock = none ∨ v.ownBlock ≠ row) : OwnY w' base v xs := World.ownsRow.kept h hg hne

/-- two rows, the one made before the other, lie apart -/
theorem sep_ofY {w1 w2 : World} {b1 b2 : Nat} {v0 v1 : Value} {xs ys : List Bl} (h0 : OwnY w1 b1 v0 xs) (h1 : OwnY w2 b2 v1 ys) (hb : w1.heap.size ≤ b2) : v0.ownBlock = none ∨ v0.ownBlock ≠ v1.ownBlock := by
  cases e0 : v0.ownBlock with
  | none => exact .inl rfl
  | some k =>
    right
    intro e
    have a := (World.ownsRow.lt h0 k e0).2
    have b := (World.ownsRow.lt h1 k e.symm).1
    omega

theorem own_markedY {wr : World} {base g c i : Nat} {k : Int} {xs : List Bl} (hl : (marks k i ++ xs.drop i).length = xs.length)
    (ho : wr.ownsRow base 40 3 (.slice (some ⟨g, 0, none⟩) xs.length c) xs.length (flat (marks k i ++ xs.drop i))) (hi : i < xs.length) :
    OwnY (((wr.setCell ⟨g, i * 3, none⟩ (.int .i64 (k + 3 * i))).setCell ⟨g, i * 3 + 1, none⟩ (.int .i64 (k + 3 * i + 1))).setCell ⟨g, i * 3 + 2, none⟩ (.bool ((k + 3 * i + 1 + 1) % 3 == 0))) base
      (.slice (some ⟨g, 0, none⟩) xs.length c) (marks k (i + 1) ++ xs.drop (i + 1)) := by
  have q := (((ho.stored (i * 3) (.int .i64 (k + 3 * i))).1.stored (i * 3 + 1) (.int .i64 (k + 3 * i + 1))).1.stored (i * 3 + 2) (.bool ((k + 3 * i + 1 + 1) % 3 == 0))).1
  have e := flat_set (marks k i ++ xs.drop i) i (markB k i) (by omega)
  rw [set_marks k xs i hi] at e
  have e2 : (marks k (i + 1) ++ xs.drop (i + 1)).length = xs.length := by simp [marks]; omega
  unfold OwnY
  rw [e2, ← e]
  exact q

set_option maxHeartbeats 1000000 in
theorem markBuddyS_any (v : Value) (xs : List Bl) (k : Int) (base : Nat) (w : World) (h : OwnY w base v xs) (hk : 0 ≤ k) (hk2 : k ≤ 1099511627776) (hn : xs.length ≤ 1099511627776) :
    Calls Try.prog 35 #[v, .int .i64 k] w fun e w' => e = .returned (.int .i64 (k + 3 * xs.length)) ∧ OwnY w' base v (marks k xs.length) ∧ w.grownBy w' v.ownBlock := by
  obtain ⟨A, c, rfl, hA⟩ := h.form
  go_enter Try.func35, Try.ntmps35
  go_wp2
  go_loopw [1, 5] (fun q a wr => ∃ i : Nat, i ≤ xs.length ∧ a = .int .i64 i ∧ q = .int .i64 (k + 3 * i) ∧ OwnY wr base (.slice A xs.length c) (marks k i ++ xs.drop i) ∧ w.grownBy wr (Value.slice A xs.length c).ownBlock) (fun _ a _ => xs.length - (intOf a).toNat)
  case atStart => exact ⟨0, Nat.zero_le _, rfl, by simp, by simpa [marks] using h, World.grownBy.refl _ _⟩
  case round =>
    obtain ⟨i, hi, rfl, rfl, hown, hg⟩ := hrel
    have hl : (marks k i ++ xs.drop i).length = xs.length := by simp [marks]; omega
    by_cases hlt : i < xs.length
    · obtain ⟨g, rfl, hbg, hgl⟩ := hA (by omega)
      have hown' := hown
      unfold OwnY at hown'
      rw [hl] at hown'
      have f := hown'.frozenAt
      have f0 := f (i * 3)
      have f1 := f (i * 3 + 1)
      have f2 := f (i * 3 + 2)
      obtain ⟨y, hy⟩ : ∃ y, (marks k i ++ xs.drop i)[i]? = some y := ⟨_, List.getElem?_eq_getElem (by omega)⟩
      obtain ⟨y0, y1, y2⟩ := flat_at _ _ _ hy
      have c0 := (hown'.cellAt (i * 3) (by omega)).trans y0
      have c1 := (hown'.cellAt (i * 3 + 1) (by omega)).trans y1
      have c2 := (hown'.cellAt (i * 3 + 2) (by omega)).trans y2
      have HL := Lib.hid hl
      have HO := Lib.hid hown'
      clear f hy y0 y1 y2 hown hown' hl
      go_wp2
      go_roundw
      case rel => exact ⟨i + 1, by omega, by go_num, int_eq (by omega), own_markedY HL.out HO.out hlt, only_put (only_put (only_put hg _ _) _ _) _ _⟩
      case measure => simp [intOf]; omega
    · have hin : i = xs.length := by omega
      have HI := Lib.hid hin
      clear hin
      go_wp2
      go_ret
      have e := HI.out
      subst e
      rw [List.drop_length, List.append_nil] at hown
      exact ⟨rfl, hown, hg⟩

theorem heldBuddyS_any (A : Option Addr) (n c : Nat) (k : Int) (w : World) (h : BS w w.heap.size A n (marks k n)) (hk : 0 ≤ k) (hk2 : k ≤ 1099511627776) (hn : n ≤ 1099511627776) :
    Calls Try.prog 36 #[.slice A n c, .int .i64 k] w fun e w' => e = .returned (.int .i64 (k + 3 * n)) ∧ w = w' := by
  go_enter Try.func36, Try.ntmps36
  go_wp2
  go_loop [1, 5] (fun q a => ∃ i : Nat, i ≤ n ∧ a = .int .i64 i ∧ q = .int .i64 (k + 3 * i)) (fun _ a => n - (intOf a).toNat)
  case atStart => exact ⟨0, Nat.zero_le _, rfl, by simp⟩
  case round =>
    obtain ⟨i, hi, rfl, rfl⟩ := hrel
    by_cases hlt : i < n
    · obtain ⟨g, o, x, rfl, hg, hx, ⟨i1, i2⟩, ⟨i3, i4⟩, c1, c2, c3⟩ := h.at_ hlt
      rw [marks_at k n i hlt] at hx
      injection hx with hx
      subst hx
      simp only [markB] at c1 c2 c3
      clear i1 i2 i3 i4
      go_wp2
      go_round
      case rel => exact ⟨i + 1, by omega, by go_num, int_eq (by omega)⟩
      case measure => simp [intOf]; omega
    · have hin : i = n := by omega
      have HI := Lib.hid hin
      clear hin
      go_wp2
      go_ret
      exact ⟨by rw [← HI.out]; rfl, rfl⟩

/-- the call has made a slice of its own that holds the buddies xs -/
def GaveY (w : World) (xs : List Bl) (e : Ending) (w' : World) : Prop := ∃ v, e = .returned v ∧ OwnY w' w.heap.size v xs ∧ Below w.heap.size w w'

theorem own_oneY (w : World) (a b : Int) (u : Bool) (base : Nat) (hb : base ≤ w.heap.size) : OwnY (w.alloc (.cells #[.int .i64 a, .int .i64 b, .bool u] 40)) base (.slice (some ⟨w.heap.size, 0, none⟩) 1 1) [⟨a, b, u⟩] := by
  have := World.ownsRow_lit (base := base) (e := 40) (size := 3) w #[.int .i64 a, .int .i64 b, .bool u] 1 hb (by unfold maxLen; omega) rfl
  exact this

theorem run_appendY (w : World) (base : Nat) (v : Value) (xs : List Bl) (hown : OwnY w base v xs) (A : Option Addr) (m c B : Nat) (ys : List Bl) (hr : BS w B A m ys) (hn : xs.length + m ≤ 1099511627776) (hbase : base ≤ w.heap.size) (ty : TypeId) :
    ∃ v' w', (Builtin.append_ #[27, 27] ty #[v, .slice A m c]).run Try.prog w = .ok v' w' ∧ OwnY w' base v' (xs ++ ys) ∧ w.grownBy w' v.ownBlock ∧ (v'.ownBlock = v.ownBlock ∨ v'.ownBlock = some w.heap.size) := by
  obtain ⟨i0, hi0, hz0, hz1, hz2⟩ := info_parts info_buddy
  have hm := hr.1
  rcases A with _ | ad
  · have h0 : m = 0 := by
      rcases Nat.eq_zero_or_pos m with h0 | h0
      · exact h0
      · obtain ⟨g, o, e, _⟩ := hr.2.2 h0
        cases e
    subst h0
    have : ys = [] := List.eq_nil_of_length_eq_zero hm
    subst this
    refine ⟨v, w, ?_, by simpa using hown, World.grownBy.refl _ _, .inl rfl⟩
    rcases hown.2 with ⟨rfl, _⟩ | ⟨g, cap, cur, rfl, _, _, hnc, _⟩
    · simp [Builtin.append_, run_underlying Try.underlying27, sizeOf, typeInfo, hi0, Builtin.lenOf, Builtin.firstCells]
    · simp [Builtin.append_, run_underlying Try.underlying27, sizeOf, typeInfo, hi0, Builtin.lenOf, Builtin.firstCells, hnc, storeCells]
  · have hcells : ∀ j u, (flat ys)[j]? = some u → w.cell? (ad.add j) = some u := by
      intro j u hj
      rcases Nat.eq_zero_or_pos m with h0 | h0
      · subst h0
        have : ys = [] := List.eq_nil_of_length_eq_zero hm
        subst this
        simp [flat] at hj
      · obtain ⟨g, o, e, _⟩ := hr.2.2 h0
        injection e with e
        subst e
        rw [add_lit]
        exact hr.cells j u hj
    obtain ⟨v', w', hrun, h2, h3, _, h5⟩ := run_append_own_at (P := Try.prog) w base 27 ty 40 i0 _ 3 24 Try.underlying27 hi0 hz0 hz1 hz2 rfl (by omega) v xs.length (flat xs) hown ad m c (flat ys)
      (by rw [flat_length, hm]) hcells (flat_oneCell ys) (by unfold maxLen; omega) (by omega) hbase
    refine ⟨v', w', hrun, ?_, h3, h5⟩
    unfold OwnY
    rw [flat_append, List.length_append, hm]
    exact h2

theorem wpList_appendY {w : World} {ops : Array Oper} {rest : List Oper} {o : Oper} {a : Act} {Q : Exit → Act → World → Prop} (hgd : o.guard = none) (s x : Operand)
    (ho : o.op = .call { callee := .builtin .append, args := #[s, x], argTypes := #[27, 27] })
    (base : Nat) (v : Value) (xs : List Bl) (hs : a.eval s = v) (hown : OwnY w base v xs) (A : Option Addr) (m c B : Nat) (ys : List Bl) (hx : a.eval x = .slice A m c) (hr : BS w B A m ys)
    (hn : xs.length + m ≤ 1099511627776) (hbase : base ≤ w.heap.size)
    (h : ∀ v' w', OwnY w' base v' (xs ++ ys) → w.grownBy w' v.ownBlock → (v'.ownBlock = v.ownBlock ∨ v'.ownBlock = some w.heap.size) → wpList Try.prog ops Q rest (a.put o.dst v') w') : wpList Try.prog ops Q (o :: rest) a w :=
  wpList_plain hgd fun _ hK => by
    obtain ⟨v', w', hrun, h2, h3, h4⟩ := run_appendY w base v xs hown A m c B ys hr hn hbase o.type
    unfold Oper.wp execOp
    simp only [ho, resolve, invoke, builtin, Sem.run_bind, Sem.run_pure, Result.andThen_ok, List.map_toArray, List.map_cons, List.map_nil, hs, hx, hrun]
    exact hK _ _ (h v' w' h2 h3 h4)

theorem OwnY.cap {w : World} {base n c : Nat} {A : Option Addr} {xs : List Bl} (h : OwnY w base (.slice A n c) xs) : n = xs.length ∧ n ≤ c := by
  rcases h.2 with ⟨e, h0⟩ | ⟨g, cap, cur, e, _, _, hc, _⟩
  · injection e with e1 e2 e3
    omega
  · injection e with e1 e2 e3
    omega
/-- buddies of the call's own, and a bool -/
def GaveY2 (w : World) (xs : List Bl) (ok : Bool) (e : Ending) (w' : World) : Prop := ∃ v, e = .returned (.tuple #[v, .bool ok]) ∧ OwnY w' w.heap.size v xs ∧ Below w.heap.size w w'

theorem own_noneY (w : World) (base : Nat) (hb : base ≤ w.heap.size) : OwnY (w.alloc (.cells #[] 40)) base (.slice (some ⟨w.heap.size, 0, none⟩) 0 0) [] :=
  World.ownsRow_lit (base := base) (e := 40) (size := 3) w #[] 0 hb (by unfold maxLen; omega) rfl

/-- a local block x in block b of the world WA, behind which only the call's own rows lie -/
def LocalBY (WA : World) (b : Nat) (x : Bl) : Prop := WA.cell? ⟨b, 0, none⟩ = some (.int .i64 x.s) ∧ WA.cell? ⟨b, 1, none⟩ = some (.int .i64 x.z) ∧ WA.heap.size = b + 1

/-- the call has come from WA to w, and owns the buddies xs -/
structure TakeStY (WA : World) (b : Nat) (x : Bl) (w : World) (v : Value) (xs : List Bl) : Prop where
  loc : LocalBY WA b x
  own : OwnY w (b + 1) v xs
  below : Below (b + 1) WA w

theorem TakeStY.cells {WA w : World} {b : Nat} {x : Bl} {v : Value} {xs : List Bl} (h : TakeStY WA b x w v xs) : w.cell? ⟨b, 0, none⟩ = some (.int .i64 x.s) ∧ w.cell? ⟨b, 1, none⟩ = some (.int .i64 x.z) ∧ b + 1 ≤ w.heap.size :=
  ⟨(h.below.cell (p := ⟨b, 0, none⟩) (Nat.lt_succ_self _)).trans h.loc.1, (h.below.cell (p := ⟨b, 1, none⟩) (Nat.lt_succ_self _)).trans h.loc.2.1, by have := h.below.size; have := h.loc.2.2; omega⟩

theorem LocalBY.next {WA W w : World} {b : Nat} {x : Bl} {v v' : Value} {xs ys : List Bl} (h : LocalBY WA b x) (hb : Below (b + 1) WA W) (ho : OwnY W (b + 1) v xs) (hg : W.grownBy w v.ownBlock) (ho' : OwnY w (b + 1) v' ys) : TakeStY WA b x w v' ys :=
  ⟨h, ho', hb.grown hg (by have := hb.size; have := h.2.2; omega) (fun k hk => (World.ownsRow.lt ho k hk).1)⟩

theorem TakeStY.more {WA W w : World} {b : Nat} {x : Bl} {v v' : Value} {xs ys : List Bl} {o : Obj} (h : TakeStY WA b x W v xs) (hg : (W.alloc o).grownBy w v.ownBlock) (ho' : OwnY w (b + 1) v' ys) : TakeStY WA b x w v' ys :=
  ⟨h.loc, ho', (h.below.alloc (by have := h.below.size; have := h.loc.2.2; omega) o).grown hg (by have := h.below.size; have := h.loc.2.2; simp; omega) (fun k hk => (World.ownsRow.lt h.own k hk).1)⟩

theorem TakeStY.again {WA W w : World} {b : Nat} {x : Bl} {v v' : Value} {xs ys : List Bl} (h : TakeStY WA b x W v xs) (hg : W.grownBy w v.ownBlock) (ho' : OwnY w (b + 1) v' ys) : TakeStY WA b x w v' ys :=
  ⟨h.loc, ho', h.below.grown hg (by have := h.below.size; have := h.loc.2.2; omega) (fun k hk => (World.ownsRow.lt h.own k hk).1)⟩

theorem OwnY.cast {w : World} {base : Nat} {v : Value} {xs ys : List Bl} (e : xs = ys) (h : OwnY w base v xs) : OwnY w base v ys := e ▸ h

/-- the last of the call's own buddies lies where it should -/
theorem OwnY.last {w : World} {base c m : Nat} {A : Option Addr} {ys : List Bl} {y : Bl} (h : OwnY w base (.slice A m c) ys) (hy : ys.getLast? = some y) :
    ∃ g, A = some ⟨g, 0, none⟩ ∧ base ≤ g ∧ g < w.heap.size ∧ 0 < m ∧ w.cell? ⟨g, (m - 1) * 3 + 1, none⟩ = some (.int .i64 y.z) ∧ w.cell? ⟨g, (m - 1) * 3 + 2, none⟩ = some (.bool y.u) ∧ w.frozen? ⟨g, (m - 1) * 3 + 1, none⟩ = false := by
  obtain ⟨e, _⟩ := h.cap
  subst e
  have hm : 0 < ys.length := by
    rcases Nat.eq_zero_or_pos ys.length with h0 | h0
    · rw [List.eq_nil_of_length_eq_zero h0] at hy
      cases hy
    · exact h0
  obtain ⟨A', c', e, hf⟩ := h.form
  injection e with e1 e2 e3
  subst e1 e3
  obtain ⟨g, rfl, hb, hl⟩ := hf hm
  have hget : ys[ys.length - 1]? = some y := by rw [← List.getLast?_eq_getElem?]; exact hy
  obtain ⟨_, f2, f3⟩ := flat_at ys _ y hget
  exact ⟨g, rfl, hb, hl, hm, (World.ownsRow.cellAt h _ (by omega)).trans f2, (World.ownsRow.cellAt h _ (by omega)).trans f3, World.ownsRow.frozenAt h _⟩

/-- the last block made larger -/
theorem OwnY.grow {w : World} {base g c m : Nat} {ys : List Bl} {y : Bl} {z : Int} (h : OwnY w base (.slice (some ⟨g, 0, none⟩) m c) ys) (hy : ys.getLast? = some y) :
    OwnY (w.setCell ⟨g, (m - 1) * 3 + 1, none⟩ (.int .i64 z)) base (.slice (some ⟨g, 0, none⟩) m c) (ys.dropLast ++ [⟨y.s, z, y.u⟩]) := by
  obtain ⟨e, _⟩ := h.cap
  subst e
  have hsp := Bks.getLast_split hy
  have hst := (World.ownsRow.stored h ((ys.length - 1) * 3 + 1) (.int .i64 z)).1
  have hl : (ys.dropLast ++ [⟨y.s, z, y.u⟩] : List Bl).length = ys.length := by
    rw [hsp]
    simp
  unfold OwnY
  rw [hl]
  have e : (flat ys).set ((ys.length - 1) * 3 + 1) (.int .i64 z) = flat (ys.dropLast ++ [⟨y.s, z, y.u⟩]) := by
    have hlen : ys.length - 1 = ys.dropLast.length := by simp
    rw [hlen]
    generalize ys.dropLast = p at *
    subst hsp
    rw [flat_append, flat_append, List.set_append_right _ _ (by rw [flat_length]; omega)]
    rw [flat_length]
    simp [flat]
  rw [← e]
  exact hst

/-- '!=' on two buddies -/
theorem run_neq_buddy (x y : Bl) (w : World) : (binOp .neq 40 (.agg #[.int .i64 x.s, .int .i64 x.z, .bool x.u]) (.agg #[.int .i64 y.s, .int .i64 y.z, .bool y.u])).run Try.prog w = .ok (.bool (!eqB x y)) w := by
  have u3 := Try.underlying3
  have a3 := Try.isAgg3
  have z3 := Try.sizeOf3
  have u4 := Try.underlying4
  have a4 := Try.isAgg4
  have z4 := Try.sizeOf4
  have hS : Try.prog.underlying 40 = some (.struct (Try.prog.fieldsOf 40)) := by kernel_rfl
  have hp : Try.prog.stoodInHeld 40 = false := by kernel_rfl
  rw [run_neq_struct, show (10000 : Nat) = 9999 + 1 from rfl, run_equalIn_agg w 9999 40 _ _ hS hp, eqB_eq]
  simp only [Program.fieldsOf, Try.underlying40]
  go_simp
  by_cases h1 : x.s = y.s <;> by_cases h2 : x.z = y.z <;> by_cases h3 : x.u = y.u <;> simp [h1, h2, h3]

theorem sameBuddies_any (A B : Option Addr) (n m c d : Nat) (xs ys : List Bl) (w : World) (h : BS w w.heap.size A n xs) (h' : BS w w.heap.size B m ys) (hn : n ≤ 1099511627776) (hm : m ≤ 1099511627776) :
    Calls Try.prog 25 #[.slice A n c, .slice B m d] w fun e w' => e = .returned (.bool (decide (xs = ys))) ∧ Below w.heap.size w w' := by
  have HL := Lib.hid h.1
  have HL' := Lib.hid h'.1
  by_cases hnm : n = m
  · subst hnm
    go_enter Try.func25, Try.ntmps25
    go_wp2
    go_loopw [5] (fun i wr => ∃ (k : Nat), k ≤ n ∧ i = .int .i64 k ∧ Hid (xs.take k = ys.take k) ∧ Below w.heap.size w wr) (fun i _ => n - (intOf i).toNat)
    case atStart => exact ⟨0, Nat.zero_le _, rfl, by simp [Hid], Below.refl _ _⟩
    case round =>
      obtain ⟨k, hk, rfl, hpre, hb⟩ := hrel
      by_cases hlt : k < n
      · obtain ⟨g, o, x, rfl, hg, hx, ⟨i1, i2⟩, ⟨i3, i4⟩, c1, c2, c3⟩ := (h.below hb).at_ hlt
        obtain ⟨g', o', y, rfl, hg', hx', ⟨i1', i2'⟩, ⟨i3', i4'⟩, c1', c2', c3'⟩ := (h'.below hb).at_ hlt
        have HX := Lib.hid hx
        have HX' := Lib.hid hx'
        have hlt' : (k : Int) < n := by omega
        clear hx hx'
        have hneq := fun W => run_neq_buddy x y W
        cases he : eqB x y
        all_goals
          rw [he] at hneq
          have HE := Lib.hid he
          clear he
          go_wp2_with fail
          go_quiet (fail)
          clear hneq
          go_wp2
        · go_ret
          exact ⟨ret_bool (ne_of_at HX.out HX'.out HE.out).symm, below_drewN hb _⟩
        · go_roundw
          case rel => exact ⟨k + 1, by omega, by go_num, Lib.hid (take_eq_succ hpre.out HX.out HX'.out HE.out), below_drewN hb _⟩
          case measure => simp [intOf]; omega
      · have hkn : k = n := by omega
        have HK := Lib.hid hkn
        clear hkn
        go_wp2
        go_ret
        refine ⟨ret_bool ?_, hb⟩
        have hp := hpre.out
        rw [HK.out, List.take_of_length_le (by rw [HL.out]; omega), List.take_of_length_le (by rw [HL'.out]; omega)] at hp
        simp [hp]
  · have hne : ((n : Int) != m) = true := by rw [bne_iff_ne]; omega
    have HN := Lib.hid hnm
    clear hnm
    go_enter Try.func25, Try.ntmps25
    go_wp2
    go_ret
    refine ⟨ret_bool ?_, Below.refl _ _⟩
    simp
    rintro rfl
    exact HN.out (HL.out.symm.trans HL'.out)

theorem OwnY.put_s {w : World} {base g c j : Nat} {xs : List Bl} {x : Bl} {s : Int} (h : OwnY w base (.slice (some ⟨g, 0, none⟩) xs.length c) xs) (hx : xs[j]? = some x) :
    OwnY (w.setCell ⟨g, j * 3, none⟩ (.int .i64 s)) base (.slice (some ⟨g, 0, none⟩) xs.length c) (xs.set j ⟨s, x.z, x.u⟩) := by
  have := (World.ownsRow.stored h (j * 3) (.int .i64 s)).1
  unfold OwnY
  rw [List.length_set, ← flat_set_s xs j x s hx]
  exact this
theorem OwnY.put_z {w : World} {base g c j : Nat} {xs : List Bl} {x : Bl} {s : Int} (h : OwnY w base (.slice (some ⟨g, 0, none⟩) xs.length c) xs) (hx : xs[j]? = some x) :
    OwnY (w.setCell ⟨g, j * 3 + 1, none⟩ (.int .i64 s)) base (.slice (some ⟨g, 0, none⟩) xs.length c) (xs.set j ⟨x.s, s, x.u⟩) := by
  have := (World.ownsRow.stored h (j * 3 + 1) (.int .i64 s)).1
  unfold OwnY
  rw [List.length_set, ← flat_set_z xs j x s hx]
  exact this

/-- copied buddies are a row of the call's own -/
theorem MadeYS.own {w w' : World} {xs : List Bl} {e : Ending} (h : MadeYS w xs e w') (hn : xs.length ≤ 1099511627776) :
    e = .returned (.slice (some ⟨w.heap.size, 0, none⟩) xs.length xs.length) ∧ OwnY w' w.heap.size (.slice (some ⟨w.heap.size, 0, none⟩) xs.length xs.length) xs ∧ Below w.heap.size w w' := by
  obtain ⟨cs, he, hr, hc, hs, hb⟩ := h
  refine ⟨he, ⟨flat_length xs, .inr ⟨w.heap.size, xs.length, cs, rfl, Nat.le_refl _, hr, Nat.le_refl _, by unfold maxLen; omega, hs, ?_⟩⟩, hb⟩
  rw [cs_flat hc hs, List.take_of_length_le (by rw [flat_length]; omega)]
end Go.Proofs.Ythihaclhlmpioaa
