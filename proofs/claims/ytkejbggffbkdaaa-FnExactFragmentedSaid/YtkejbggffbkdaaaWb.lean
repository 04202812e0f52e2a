/- What the helpers of the exact laws return: toBlock, toBlockS, szBlockS, eqBlock, eqBlockS; for every slice of blocks. -/
import Derived.Test.YtkejbggffbkdaaaWa
import Derived.StillTailTactics
namespace Go.Proofs.Ytkejbggffbkdaaa
open Go.RowKit

theorem ret_int {k : IntKind} {a b : Int} (h : a = b) : Ending.returned (.int k a) = .returned (.int k b) := by rw [h]

theorem toBlock_any (a b : Int) (u : Bool) (w : World) :
    Calls Try.prog 43 #[.agg #[.int .i64 a, .int .i64 b, .bool u]] w fun e w' => e = .returned (.agg #[.int .i64 a, .int .i64 b, .bool u]) ∧ Below w.heap.size w w' := by
  go_enter Try.func43, Try.ntmps43
  go_wp2
  exact bodyPost_ret (v := .agg #[.int .i64 a, .int .i64 b, .bool u]) (by simp [results, Try.results43, go_sem]) rfl ⟨rfl, ((((Below.refl _ _).alloc (Nat.le_refl _) _).alloc (by simp) _).alloc (by simp; omega) _)⟩

theorem info_block : (Try.prog.info? 32).map (fun i => (i.zero, i.size, i.bytes)) = some (some (.agg #[.int .i64 0, .int .i64 0, .bool false]), 3, 24) := by kernel_rfl

/-- the blocks have been copied into a row of their own -/
def MadeBS (w : World) (xs : List Bl) (e : Ending) (w' : World) : Prop :=
  ∃ cs : Array Value, e = .returned (.slice (some ⟨w.heap.size, 0, none⟩) xs.length xs.length) ∧ Rw w' w.heap.size 32 cs ∧ Cs cs xs ∧ cs.size = xs.length * 3 ∧ Below w.heap.size w w'

theorem toBlockS_any (A : Option Addr) (n c : Nat) (xs : List Bl) (w : World) (h : BS w w.heap.size A n xs) (hn : n ≤ 1099511627776) :
    Calls Try.prog 27 #[.slice A n c] w (MadeBS w xs) := by
  obtain ⟨i0, hi0, hz0, hz1, hz2⟩ := info_parts info_block
  obtain ⟨cs0, hs0, hmk⟩ : ∃ cs0 : Array Value, cs0.size = n * 3 ∧ ∀ W : World, (Instr.makeSlice 23 (.int .i64 n) (.int .i64 n)).run Try.prog W = .ok (.slice (some ⟨W.heap.size, 0, none⟩) n n) (W.alloc (.cells cs0 32)) := by
    refine ⟨madeCells (Value.agg #[.int .i64 0, .int .i64 0, .bool false]).cells (n * 3), size_madeCells _ (n * 3), fun W => ?_⟩
    have := run_make (P := Try.prog) W 23 32 i0 _ Try.underlying23 hi0 hz0 .i64 .i64 n n (by omega) (by omega) (by rw [hz2]; omega) (by omega)
    rw [hz1] at this
    simpa using this
  have hlen := h.1
  have HL := Lib.hid hlen
  have HS0 := Lib.hid hs0
  clear hi0 hz0 hz1 hz2 hlen hs0
  go_enter Try.func27, Try.ntmps27
  go_wp2
  clear hmk
  go_loopw [4] (fun i wr => ∃ (k : Nat) (cs : Array Value), k ≤ n ∧ i = .int .i64 k ∧ Rw wr w.heap.size 32 cs ∧ Hid (cs.size = n * 3) ∧ Cs cs (xs.take k) ∧ Below w.heap.size w wr) (fun i _ => n - (intOf i).toNat)
  case atStart => exact ⟨0, cs0, Nat.zero_le _, rfl, Rw.new _ _ _, HS0, fun k x hx => by simp at hx, (Below.refl _ _).alloc (Nat.le_refl _) _⟩
  case round =>
    obtain ⟨k, cs, hk, rfl, hrow, hsz, hcs, hb⟩ := hrel
    by_cases hlt : k < n
    · obtain ⟨g, o, x, rfl, hg, hx, ⟨i1, i2⟩, ⟨i3, i4⟩, c1, c2, c3⟩ := (h.below hb).at_ hlt
      have HX := Lib.hid hx
      clear hx
      have hwl := hrow.lt
      obtain ⟨v0, q0⟩ := hrow.some_ (i := k * 3) (by have := hsz.out; omega)
      obtain ⟨v1, q1⟩ := hrow.some_ (i := k * 3 + 1) (by have := hsz.out; omega)
      obtain ⟨v2, q2⟩ := hrow.some_ (i := k * 3 + 2) (by have := hsz.out; omega)
      go_wp2_with (go_at_call 43; refine (toBlock_any _ _ _ _).mono ?_; rintro e w1 ⟨rfl, hb1⟩; have p0 := (hb1.cell (p := ⟨w.heap.size, k * 3, none⟩) hwl).trans q0; have p1 := (hb1.cell (p := ⟨w.heap.size, k * 3 + 1, none⟩) hwl).trans q1; have p2 := (hb1.cell (p := ⟨w.heap.size, k * 3 + 2, none⟩) hwl).trans q2; have f0 := (hrow.keep hb1 hwl).frozen (k * 3); have f1 := (hrow.keep hb1 hwl).frozen (k * 3 + 1); have f2 := (hrow.keep hb1 hwl).frozen (k * 3 + 2))
      go_roundw
      case rel => exact ⟨k + 1, _, by omega, by go_num, (((hrow.keep hb1 hwl).put _ _).put _ _).put _ _, by have := hsz.out; exact Lib.hid (by simpa using this), Cs.take_succ hcs HX.out (by have := hsz.out; omega),
        (((hb.trans (hb1.mono hb.size)).setCell (Nat.le_refl _) _).setCell (Nat.le_refl _) _).setCell (Nat.le_refl _) _⟩
      case measure => simp [intOf]; omega
    · have hkn : k = n := by omega
      have HK := Lib.hid hkn
      clear hkn
      go_wp2
      go_ret
      have e := HK.out
      have e2 := HL.out
      refine ⟨cs, by rw [e2]; rfl, hrow, ?_, by rw [e2]; exact hsz.out, hb⟩
      rw [e, ← e2, List.take_length] at hcs
      exact hcs

theorem szBlockS_any (A : Option Addr) (n c : Nat) (l : Int) (w : World) (h0 : 0 ≤ l) (h1 : l ≤ 1099511627776) (hn : n ≤ 9223372036854775807) :
    Calls Try.prog 26 #[.slice A n c, .int .i64 l] w fun e w' => e = .returned (.int .i64 (if l - n < 0 then -1 else l - n)) ∧ w = w' := by
  go_enter Try.func26, Try.ntmps26
  go_wp2
  all_goals
    go_ret
    refine ⟨ret_int ?_, rfl⟩
    first | rfl | (split <;> omega)

theorem szBlockS_in (A : Option Addr) (n c : Nat) (l : Int) (w : World) (h0 : 0 ≤ l) (h1 : l ≤ 1099511627776) (hn : n ≤ 9223372036854775807) (h : n ≤ l) :
    Calls Try.prog 26 #[.slice A n c, .int .i64 l] w fun e w' => e = .returned (.int .i64 (l - n)) ∧ w = w' :=
  (szBlockS_any A n c l w h0 h1 hn).mono fun e w' ⟨he, hw⟩ => ⟨by rw [he, if_neg (by omega)], hw⟩
theorem szBlockS_out (A : Option Addr) (n c : Nat) (l : Int) (w : World) (h0 : 0 ≤ l) (h1 : l ≤ 1099511627776) (hn : n ≤ 9223372036854775807) (h : l < n) :
    Calls Try.prog 26 #[.slice A n c, .int .i64 l] w fun e w' => e = .returned (.int .i64 (-1)) ∧ w = w' :=
  (szBlockS_any A n c l w h0 h1 hn).mono fun e w' ⟨he, hw⟩ => ⟨by rw [he, if_pos (by omega)], hw⟩

def eqB (x y : Bl) : Bool := decide (x = y)

theorem eqB_eq (x y : Bl) : eqB x y = (x.s == y.s && x.z == y.z && x.u == y.u) := by
  obtain ⟨a, b, c⟩ := x
  obtain ⟨a', b', c'⟩ := y
  rw [Bool.eq_iff_iff]
  simp [eqB, and_assoc]

theorem eqBlock_any (x y : Bl) (w : World) :
    Calls Try.prog 44 #[.agg #[.int .i64 x.s, .int .i64 x.z, .bool x.u], .agg #[.int .i64 y.s, .int .i64 y.z, .bool y.u]] w fun e w' => e = .returned (.bool (eqB x y)) ∧ Below w.heap.size w w' := by
  have HE := Lib.hid (eqB_eq x y)
  go_enter Try.func44, Try.ntmps44
  go_wp2
  · have h1 : (x.s != y.s) = true := by assumption
    go_ret
    exact ⟨ret_bool (by rw [HE.out]; rw [bne_iff_ne] at h1; simp [h1]), ((Below.refl _ _).alloc (Nat.le_refl _) _).alloc (by simp) _⟩
  · have h2 : (x.z != y.z) = true := by assumption
    go_ret
    exact ⟨ret_bool (by rw [HE.out]; rw [bne_iff_ne] at h2; simp [h2]), ((Below.refl _ _).alloc (Nat.le_refl _) _).alloc (by simp) _⟩
  · have h3 : (!x.u == y.u) = true := by assumption
    go_ret
    exact ⟨ret_bool (by rw [HE.out]; simp at h3; simp [h3]), ((Below.refl _ _).alloc (Nat.le_refl _) _).alloc (by simp) _⟩
  · have h1 : (x.s != y.s) = false := by assumption
    have h2 : (x.z != y.z) = false := by assumption
    have h3 : (!x.u == y.u) = false := by assumption
    go_ret
    exact ⟨ret_bool (by rw [HE.out]; simp at h1 h2 h3; simp [h1, h2, h3]), ((Below.refl _ _).alloc (Nat.le_refl _) _).alloc (by simp) _⟩

theorem take_eq_succ {xs ys : List Bl} {k : Nat} {x y : Bl} (h : xs.take k = ys.take k) (hx : xs[k]? = some x) (hy : ys[k]? = some y) (he : eqB x y = true) : xs.take (k + 1) = ys.take (k + 1) := by
  rw [List.take_add_one, List.take_add_one, h, hx, hy]
  have : x = y := by simpa [eqB] using he
  rw [this]
theorem ne_of_at {xs ys : List Bl} {k : Nat} {x y : Bl} (hx : xs[k]? = some x) (hy : ys[k]? = some y) (he : eqB x y = false) : decide (xs = ys) = false := by
  have hne : x ≠ y := by simpa [eqB] using he
  simp
  rintro rfl
  rw [hx] at hy
  injection hy with hy
  exact hne hy

theorem eqBlockS_any (A B : Option Addr) (n m c d : Nat) (xs ys : List Bl) (w : World) (h : BS w w.heap.size A n xs) (h' : BS w w.heap.size B m ys) (hn : n ≤ 1099511627776) (hm : m ≤ 1099511627776) :
    Calls Try.prog 28 #[.slice A n c, .slice B m d] w fun e w' => e = .returned (.bool (decide (xs = ys))) ∧ Below w.heap.size w w' := by
  have HL := Lib.hid h.1
  have HL' := Lib.hid h'.1
  by_cases hnm : n = m
  · subst hnm
    go_enter Try.func28, Try.ntmps28
    go_wp2
    go_loopw [5] (fun i wr => ∃ (k : Nat), k ≤ n ∧ i = .int .i64 k ∧ Hid (xs.take k = ys.take k) ∧ Below w.heap.size w wr) (fun i _ => n - (intOf i).toNat)
    case atStart => exact ⟨0, Nat.zero_le _, rfl, by simp [Hid], Below.refl _ _⟩
    case round =>
      obtain ⟨k, hk, rfl, hpre, hb⟩ := hrel
      by_cases hlt : k < n
      · obtain ⟨g, o, x, rfl, hg, hx, ⟨i1, i2⟩, ⟨i3, i4⟩, c1, c2, c3⟩ := (h.below hb).at_ hlt
        obtain ⟨g', o', y, rfl, hg', hx', ⟨i1', i2'⟩, ⟨i3', i4'⟩, c1', c2', c3'⟩ := (h'.below hb).at_ hlt
        have HX := Lib.hid hx
        have HX' := Lib.hid hx'
        clear hx hx'
        go_wp2
        go_still_tail 8, (by kernel_rfl)
        change wpList _ _ _ _ _ wr.drew
        have hbd : Below w.heap.size w wr.drew := hb.drew
        generalize wr.drew = w2 at hbd
        cases he : eqB x y
        all_goals
          have HE := Lib.hid he
          clear he
          go_wp2_with (go_at_call 44; refine (eqBlock_any x y _).mono ?_; rw [HE.out]; rintro e w1 ⟨rfl, hb1⟩)
        · go_ret
          exact ⟨ret_bool (ne_of_at HX.out HX'.out HE.out).symm, hbd.trans (hb1.mono hbd.size)⟩
        · go_roundw
          case rel => exact ⟨k + 1, by omega, by go_num, Lib.hid (take_eq_succ hpre.out HX.out HX'.out HE.out), hbd.trans (hb1.mono hbd.size)⟩
          case measure => simp [intOf]; omega
      · have hkn : k = n := by omega
        have HK := Lib.hid hkn
        clear hkn
        go_wp2
        go_ret
        refine ⟨ret_bool ?_, hb⟩
        have hp := hpre.out
        rw [HK.out, List.take_of_length_le (by rw [HL.out]; omega), List.take_of_length_le (by rw [HL'.out]; omega)] at hp
        simp [hp]
  · have hne : ((n : Int) != m) = true := by rw [bne_iff_ne]; omega
    have HN := Lib.hid hnm
    clear hnm
    go_enter Try.func28, Try.ntmps28
    go_wp2
    go_ret
    refine ⟨ret_bool ?_, Below.refl _ _⟩
    simp
    rintro rfl
    exact HN.out (HL.out.symm.trans HL'.out)
end Go.Proofs.Ytkejbggffbkdaaa
