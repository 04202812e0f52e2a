/- What the model's BuddyFree returns: for every slice of buddies and every power. -/
import Derived.Test.YthihaclhlmpioaaYc
namespace Go.Proofs.Ythihaclhlmpioaa
open Go.RowKit
namespace Bud
/-- the free words of the first k buddies -/
def freeTo (xs : List Bl) (k : Nat) : Nat := ((xs.take k).map fun b => if b.u = true then 0 else 2 ^ b.z.toNat).sum
theorem freeTo_zero (xs : List Bl) : freeTo xs 0 = 0 := by simp [freeTo]
theorem freeTo_succ {xs : List Bl} {k : Nat} {b : Bl} (h : xs[k]? = some b) : freeTo xs (k + 1) = freeTo xs k + if b.u = true then 0 else 2 ^ b.z.toNat := by
  unfold freeTo
  rw [List.take_add_one, h]
  simp
theorem freeTo_le (xs : List Bl) : ∀ k, k ≤ xs.length → freeTo xs k ≤ atY xs k
  | 0, _ => by simp [freeTo, atY]
  | k + 1, hk => by
    have hb : xs[k]? = some xs[k] := List.getElem?_eq_getElem (by omega)
    have := freeTo_le xs k (by omega)
    have hp := Nat.two_pow_pos (xs[k]).z.toNat
    rw [freeTo_succ hb, atY_succ hb]
    split <;> omega
def freeYW (xs : List Bl) (p : Int) : Int := if validY xs p = true then (freeTo xs xs.length : Nat) else -1

/-- what is known of each one of valid buddies -/
theorem validY_at {xs : List Bl} {p : Int} (hv : validY xs p = true) {k : Nat} {b : Bl} (hb : xs[k]? = some b) :
    ∃ j : Nat, b.z = j ∧ (j : Int) ≤ p ∧ j ≤ 8 ∧ b.s = (atY xs k : Nat) ∧ atY xs k + 2 ^ j ≤ 256 ∧ atY xs (k + 1) = atY xs k + 2 ^ j ∧ k < 256 := by
  obtain ⟨h0, h8, hs, he⟩ := (validY_iff xs p).1 hv
  have hk : k < xs.length := (List.getElem?_eq_some_iff.1 hb).1
  have hst := hs k hk
  rw [stepY_at hb] at hst
  obtain ⟨j, e1, e2, e3, e4, _⟩ := okB_iff.1 hst
  have hz : b.z.toNat = j := by omega
  have hp : p.toNat ≤ 8 := by omega
  have hsucc := atY_succ hb
  rw [hz] at hsucc
  have mono : ∀ m, k + 1 ≤ m → m ≤ xs.length → atY xs (k + 1) ≤ atY xs m := by
    intro m
    induction m with
    | zero => intro h _; omega
    | succ m ih =>
      intro h1 h2
      rcases Nat.lt_or_ge k m with h3 | h3
      · have hm : xs[m]? = some xs[m] := List.getElem?_eq_getElem (by omega)
        have := ih (by omega) (by omega)
        have hp := Nat.two_pow_pos (xs[m]).z.toNat
        rw [atY_succ hm]
        omega
      · obtain rfl : m = k := by omega
        exact Nat.le_refl _
  have h1 := mono xs.length (by omega) (Nat.le_refl _)
  have h2 := (two_pow_le hp).2
  have h3 := (atY_range hp (fun i hi => hs i (by omega)) (show k ≤ xs.length by omega)).1
  have h4 := Nat.two_pow_pos j
  exact ⟨j, e2, by omega, by omega, e1, by omega, hsucc, by omega⟩
theorem validY_len {xs : List Bl} {p : Int} (hv : validY xs p = true) : 1 ≤ xs.length ∧ xs.length ≤ 256 ∧ 0 ≤ p ∧ p ≤ 8 ∧ atY xs xs.length = 2 ^ p.toNat ∧ atY xs xs.length ≤ 256 := by
  obtain ⟨h0, h8, hs, he⟩ := (validY_iff xs p).1 hv
  have hp : p.toNat ≤ 8 := by omega
  have h2 := two_pow_le hp
  have h3 := (atY_range hp (fun i hi => hs i hi) (Nat.le_refl xs.length)).1
  refine ⟨?_, by omega, h0, h8, he, by omega⟩
  rcases Nat.eq_zero_or_pos xs.length with e | e
  · rw [e, atY_zero] at he
    omega
  · exact e
end Bud

set_option maxHeartbeats 1000000 in
theorem mBuddyFree_any (A : Option Addr) (n c : Nat) (xs : List Bl) (p : Int) (w : World) (h : BS w w.heap.size A n xs) (hn : n ≤ 1099511627776) :
    Calls Try.prog 31 #[.slice A n c, .int .i64 p] w fun e w' => e = .returned (.int .i64 (Bud.freeYW xs p)) ∧ Below w.heap.size w w' := by
  cases hv : Bud.validY xs p
  · have HR := Lib.hid (show Bud.freeYW xs p = -1 by simp [Bud.freeYW, hv])
    have HV := Lib.hid hv
    clear hv
    go_enter Try.func31, Try.ntmps31
    go_wp2_with fail
    refine (mBuddiesValid_any _ _ _ xs _ _ h hn).mono ?_
    rw [HV.out]
    rintro e w1 ⟨rfl, b1⟩
    go_wp2_with fail
    go_ret
    exact ⟨by rw [HR.out]; rfl, b1⟩
  · have HR := Lib.hid (show Bud.freeYW xs p = (Bud.freeTo xs xs.length : Nat) by simp [Bud.freeYW, hv])
    have HV := Lib.hid hv
    have hlen := h.1
    have hl := Bud.validY_len hv
    clear hv
    subst hlen
    go_enter Try.func31, Try.ntmps31
    go_wp2_with fail
    refine (mBuddiesValid_any _ _ _ xs _ _ h hn).mono ?_
    rw [HV.out]
    rintro e w1 ⟨rfl, b1⟩
    go_wp2_with fail
    have HH := Lib.hid (h.below b1)
    have HLL := Lib.hid hl
    clear hl
    go_loop [5, 6] (fun a i => ∃ k : Nat, k ≤ xs.length ∧ i = .int .i64 k ∧ a = .int .i64 (Bud.freeTo xs k : Nat)) (fun _ i => xs.length - (intOf i).toNat)
    case atStart => exact ⟨0, Nat.zero_le _, rfl, rfl⟩
    case round =>
      obtain ⟨k, hk, rfl, rfl⟩ := hrel
      by_cases hlt : k < xs.length
      · obtain ⟨g, o, x, rfl, hg, hx, _, _, c1, c2, c3⟩ := HH.out.at_ hlt
        obtain ⟨j, z1, z2, z3, z4, z5, z6, z7⟩ := Bud.validY_at HV.out hx
        have hfl := Bud.freeTo_le xs k hk
        have HS := Lib.hid (Bud.freeTo_succ hx)
        have HZ := Lib.hid z1
        rw [z1] at c2
        obtain ⟨w1', w2'⟩ := wrap_pow z3
        have hpw := Bud.two_pow_le z3
        have tb : (2 : Int) ^ j ≤ 256 := by rw [pow_int]; omega
        have tc : 1 ≤ (2 : Int) ^ j := by rw [pow_int]; omega
        have hfl2 : Bud.freeTo xs k ≤ 256 := by omega
        clear hx z1 z4 z6 c1 hpw z5 hfl
        generalize Bud.freeTo xs k = f at HS hfl2
        have hj8 : (j : Int) ≤ 8 := by omega
        cases hu : x.u
        all_goals
          rw [hu] at c3
          have HU := Lib.hid hu
          clear hu
          go_wp2
          go_round
          case rel => exact ⟨k + 1, by omega, by go_num, by rw [HS.out, HU.out, HZ.out]; simp⟩
          case measure => simp [intOf]; omega
      · obtain rfl : k = xs.length := by omega
        go_wp2
        go_ret
        exact ⟨by rw [HR.out]; rfl, b1⟩
end Go.Proofs.Ythihaclhlmpioaa
