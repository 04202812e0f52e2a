/- What buddyFrom of the program returns: for all valid buddies. -/
import Derived.Test.YthihaclhlmpioaaZb
namespace Go.Proofs.Ythihaclhlmpioaa
open Go.RowKit

namespace Bud
/-- how many begin before word v -/
def fromY (xs : List Bl) (v : Int) : Nat := (xs.takeWhile fun b => decide (b.s < v)).length
theorem fromY_le (xs : List Bl) (v : Int) : fromY xs v ≤ xs.length := (List.takeWhile_prefix _).length_le

/-- beginnings ascend -/
def Asc (xs : List Bl) : Prop := ∀ (i j : Nat) (x y : Bl), i < j → xs[i]? = some x → xs[j]? = some y → x.s < y.s

theorem fromY_iff {xs : List Bl} {v : Int} (ha : Asc xs) {k : Nat} {b : Bl} (hb : xs[k]? = some b) : b.s < v ↔ k < fromY xs v := by
  induction xs generalizing k with
  | nil => simp at hb
  | cons x xs ih =>
    have ha' : Asc xs := fun i j x' y' h h1 h2 => ha (i + 1) (j + 1) x' y' (by omega) (by simpa using h1) (by simpa using h2)
    unfold fromY
    rw [List.takeWhile_cons]
    by_cases hx : x.s < v
    · simp only [hx, decide_true, if_true, List.length_cons]
      cases k with
      | zero =>
        simp at hb
        subst hb
        simp [hx]
      | succ k =>
        have := ih ha' (k := k) (by simpa using hb)
        unfold fromY at this
        rw [this]
        omega
    · simp only [hx, decide_false]
      cases k with
      | zero =>
        simp at hb
        subst hb
        simp [hx]
      | succ k =>
        have := ha 0 (k + 1) x b (by omega) (by simp) hb
        simp
        omega

theorem atY_mono (xs : List Bl) {i : Nat} : ∀ {j : Nat}, i ≤ j → j ≤ xs.length → atY xs i ≤ atY xs j
  | 0, h, _ => by have : i = 0 := by omega
                  subst this; exact Nat.le_refl _
  | j + 1, h, hj => by
    rcases Nat.lt_or_ge i (j + 1) with h1 | h1
    · have hx : xs[j]? = some xs[j] := List.getElem?_eq_getElem (by omega)
      have := atY_mono xs (i := i) (j := j) (by omega) (by omega)
      rw [atY_succ hx]
      exact Nat.le_trans this (Nat.le_add_right _ _)
    · have : i = j + 1 := by omega
      subst this
      exact Nat.le_refl _

theorem asc_of_valid {xs : List Bl} {p : Int} (hv : validY xs p = true) : Asc xs := by
  intro i j x y hij hx hy
  obtain ⟨a, _, _, _, e1, _, e2, _⟩ := validY_at hv hx
  obtain ⟨b, _, _, _, e3, _, _, _⟩ := validY_at hv hy
  have hj : j < xs.length := (List.getElem?_eq_some_iff.1 hy).1
  have := atY_mono xs (i := i + 1) (j := j) (by omega) (by omega)
  have := Nat.two_pow_pos a
  omega
end Bud

set_option maxHeartbeats 2000000 in
theorem closure_any (g1 g2 : Nat) (A : Option Addr) (n c k : Nat) (x : Bl) (g o : Nat) (v : Int) (w : World) (hk : k < n) (hA : A = some ⟨g, o, none⟩) (c0 : w.cell? ⟨g, o + k * 3, none⟩ = some (.int .i64 x.s))
    (c1 : w.cell? ⟨g1, 0, none⟩ = some (.slice A n c)) (c2 : w.cell? ⟨g2, 0, none⟩ = some (.int .i64 v)) :
    Calls Try.prog 62 #[.int .i64 k, .pointer (some ⟨g1, 0, none⟩), .pointer (some ⟨g2, 0, none⟩)] w fun e w' => e = .returned (.bool (decide (v ≤ x.s))) ∧ Below w.heap.size w w' := by
  subst hA
  have hk' : (k : Int) < n := by omega
  go_enter Try.func62, Try.ntmps62
  go_wp2_with fail
  go_quiet (fail)
  go_wp2
  go_ret
  exact ⟨rfl, below_drewN (Below.refl _ _) _⟩

set_option maxHeartbeats 2000000 in
theorem search_any (g1 g2 : Nat) (A : Option Addr) (n c : Nat) (xs : List Bl) (v : Int) (F : Nat) (w : World) (h : BS w w.heap.size A n xs) (hn : n ≤ 256) (h1 : g1 < w.heap.size) (h2 : g2 < w.heap.size)
    (c1 : w.cell? ⟨g1, 0, none⟩ = some (.slice A n c)) (c2 : w.cell? ⟨g2, 0, none⟩ = some (.int .i64 v)) (hF : F ≤ n) (hlt : ∀ k b, xs[k]? = some b → (b.s < v ↔ k < F)) :
    Calls Try.prog 61 #[.int .i64 n, .func (.func 62) #[] #[.pointer (some ⟨g1, 0, none⟩), .pointer (some ⟨g2, 0, none⟩)]] w fun e w' => e = .returned (.int .i64 F) ∧ Below w.heap.size w w' := by
  have HLT := Lib.hid hlt
  clear hlt
  go_enter Try.func61, Try.ntmps61
  go_wp2_with fail
  go_loopw [5, 6] (fun i j wr => ∃ lo hi : Nat, lo ≤ F ∧ F ≤ hi ∧ hi ≤ n ∧ i = .int .i64 lo ∧ j = .int .i64 hi ∧ Below w.heap.size w wr) (fun i j _ => (intOf j).toNat - (intOf i).toNat)
  case atStart => exact ⟨0, n, Nat.zero_le _, hF, Nat.le_refl _, rfl, rfl, Below.refl _ _⟩
  case round =>
    obtain ⟨lo, hi, q1, q2, q3, rfl, rfl, hb⟩ := hrel
    by_cases hl : lo < hi
    · have hl' : (lo : Int) < hi := by omega
      obtain ⟨m, hm⟩ : ∃ m : Nat, ((lo : Int) + hi) / 2 = m := ⟨(lo + hi) / 2, by omega⟩
      have hm1 : lo ≤ m := by omega
      have hm2 : m < hi := by omega
      obtain ⟨g, o, x, rfl, hg, hx, _, _, d1, d2, d3⟩ := (h.below hb).at_ (k := m) (by omega)
      have hcl := HLT.out m x hx
      go_wp2_with fail
      refine (closure_any g1 g2 _ n c m x g o v wr (by omega) rfl d1 ((hb.cell h1).trans c1) ((hb.cell h2).trans c2)).mono ?_
      rintro e w1 ⟨rfl, b1⟩
      have bb1 := hb.trans (b1.mono hb.size)
      clear d1 d2 d3 hx hm
      by_cases hv : v ≤ x.s
      · have hmF : F ≤ m := by omega
        have hd : decide (v ≤ x.s) = true := decide_eq_true hv
        rw [hd]
        clear hd
        go_wp2
        go_roundw
        case rel => exact ⟨lo, m, q1, hmF, by omega, rfl, rfl, bb1⟩
        case measure => simp [intOf]; omega
      · have hmF : m < F := by omega
        have hd : decide (v ≤ x.s) = false := decide_eq_false hv
        rw [hd]
        clear hd
        go_wp2
        go_roundw
        case rel => exact ⟨m + 1, hi, by omega, q2, q3, by go_num, rfl, bb1⟩
        case measure => simp [intOf]; omega
    · have HE := Lib.hid (show lo = F by omega)
      go_wp2
      go_ret
      exact ⟨by rw [← HE.out]; rfl, hb⟩

theorem buddyFrom_any (A : Option Addr) (n c : Nat) (xs : List Bl) (v : Int) (w : World) (h : BS w w.heap.size A n xs) (hn : n ≤ 256) (ha : Bud.Asc xs) :
    Calls Try.prog 50 #[.slice A n c, .int .i64 v] w fun e w' => e = .returned (.int .i64 (Bud.fromY xs v : Nat)) ∧ Below w.heap.size w w' := by
  have hF : Bud.fromY xs v ≤ n := by have := Bud.fromY_le xs v; rw [h.1] at this; exact this
  go_enter Try.func50, Try.ntmps50
  go_wp2_with fail
  have hb : Below w.heap.size w ((w.alloc (.cells #[.slice A n c] 27)).alloc (.cells #[.int .i64 v] 3)) := ((Below.refl _ _).alloc (Nat.le_refl _) _).alloc (by simp) _
  refine (search_any w.heap.size (w.heap.size + 1) A n c xs v (Bud.fromY xs v) _ (h.up hb) hn (by simp; omega) (by simp) (by simp) (by simp) hF (fun k b hb => Bud.fromY_iff ha hb)).mono ?_
  rintro e w1 ⟨rfl, b1⟩
  go_wp2_with fail
  go_ret
  exact ⟨rfl, hb.trans (b1.mono (by simp; omega))⟩
end Go.Proofs.Ythihaclhlmpioaa
