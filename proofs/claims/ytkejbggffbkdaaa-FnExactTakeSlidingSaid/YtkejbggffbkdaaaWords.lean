/- Plain mathematics: the free words, counted word by word, are those of the free blocks. No program, no conditions. -/
import Derived.Test.YtkejbggffbkdaaaMath
namespace Go.Proofs.Ytkejbggffbkdaaa
namespace Bks
theorem exists_block {xs : List Bl} {q : Int} (h0 : 0 ≤ q) : ∀ n, n ≤ xs.length → q < offs xs n → ∃ k, k < n ∧ offs xs k ≤ q ∧ q < offs xs (k + 1)
  | 0, _, h => by rw [offs_zero] at h; omega
  | n + 1, hn, h => by
    rcases Int.lt_or_le q (offs xs n) with h1 | h1
    · obtain ⟨k, hk, a, b⟩ := exists_block h0 n (by omega) h1
      exact ⟨k, by omega, a, b⟩
    · exact ⟨n, by omega, h1, h⟩

/-- the block of a word of valid blocks -/
theorem block_of {xs : List Bl} {t q : Int} (hv : validB xs t = true) (h0 : 0 ≤ q) (h1 : q < t) : ∃ (k : Nat) (x : Bl), xs[k]? = some x ∧ atW xs t q = k ∧ cnt xs q = k + 1 ∧ offs xs k ≤ q ∧ q < offs xs (k + 1) ∧ k < xs.length := by
  have hl := valid_len hv
  obtain ⟨k, hk, a, b⟩ := exists_block h0 xs.length (Nat.le_refl _) (by rw [hl.2.2.2.2]; exact h1)
  have hc := cnt_at hv hk a b
  refine ⟨k, xs[k], List.getElem?_eq_getElem hk, ?_, hc, a, b, hk⟩
  rw [atW, if_pos ⟨hv, h0, h1⟩, hc]
  omega

def freeAt (xs : List Bl) (q : Nat) : Bool := match xs[cnt xs q - 1]? with | some x => !x.u | none => false
/-- the free ones of the first q words -/
def freeWords (xs : List Bl) : Nat → Int
  | 0 => 0
  | q + 1 => freeWords xs q + if freeAt xs q = true then 1 else 0

theorem freeAt_eq {xs : List Bl} {q k : Nat} {x : Bl} (hc : cnt xs q = k + 1) (hx : xs[k]? = some x) : freeAt xs q = !x.u := by
  unfold freeAt
  rw [hc, Nat.add_sub_cancel, hx]

theorem freeWords_in {xs : List Bl} {t : Int} (hv : validB xs t = true) {k : Nat} {x : Bl} (hx : xs[k]? = some x) (o : Nat) (ho : offs xs k = o) (hb : freeWords xs o = freeTo xs k) :
    ∀ d : Nat, (d : Int) ≤ x.z → freeWords xs (o + d) = freeTo xs k + if x.u = true then 0 else (d : Int)
  | 0, _ => by simp [hb]
  | d + 1, hd => by
    have ih := freeWords_in hv hx o ho hb d (by omega)
    have ha := valid_at hv hx
    have hk : k < xs.length := (List.getElem?_eq_some_iff.1 hx).1
    have hc := cnt_at (q := ((o + d : Nat) : Int)) hv hk (by omega) (by omega)
    have hf := freeAt_eq hc hx
    show freeWords xs (o + d) + (if freeAt xs (o + d) = true then 1 else 0) = _
    rw [ih, hf]
    cases hu : x.u <;> simp
    omega

theorem freeWords_to {xs : List Bl} {t : Int} (hv : validB xs t = true) : ∀ k, k ≤ xs.length → freeWords xs (offs xs k).toNat = freeTo xs k
  | 0, _ => by simp [offs_zero, freeTo_zero, freeWords]
  | k + 1, hk => by
    have ih := freeWords_to hv k (by omega)
    have hx : xs[k]? = some xs[k] := List.getElem?_eq_getElem (by omega)
    have ha := valid_at hv hx
    have h0 : 0 ≤ offs xs k := by omega
    have := freeWords_in hv hx (offs xs k).toNat (by omega) ih xs[k].z.toNat (by omega)
    rw [show (offs xs (k + 1)).toNat = (offs xs k).toNat + xs[k].z.toNat by omega, this, freeTo_succ xs k _ hx]
    split <;> omega

theorem freeWords_all {xs : List Bl} {t : Int} (hv : validB xs t = true) : freeWords xs t.toNat = freeTo xs xs.length := by
  have := freeWords_to hv xs.length (Nat.le_refl _)
  rw [(valid_len hv).2.2.2.2] at this
  exact this

theorem freeWords_bd (xs : List Bl) : ∀ q, 0 ≤ freeWords xs q ∧ freeWords xs q ≤ q
  | 0 => by simp [freeWords]
  | q + 1 => by
    have := freeWords_bd xs q
    simp only [freeWords]
    split <;> omega
end Bks
end Go.Proofs.Ytkejbggffbkdaaa
