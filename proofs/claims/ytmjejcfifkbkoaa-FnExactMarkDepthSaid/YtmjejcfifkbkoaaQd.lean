/- Chapter 12, the deep walk with a stack that the program keeps, and marks as words of bits, in plain mathematics. No program, no conditions. -/
import Derived.Test.YtmjejcfifkbkoaaQa
import Derived.Test.YtmjejcfifkbkoaaQc
import Derived.Test.YtmjejcfifkbkoaaGg
namespace Go.Proofs.Ytmjejcfifkbkoaa
namespace Hps

theorem Dfs.skips {cs : List Cl} {b l r : List Int} (h : Dfs cs b l r) : ∀ a : List Int, (∀ m ∈ a, m < 0 ∨ m ∈ l) → Dfs cs (a ++ b) l r
  | [], _ => h
  | x :: a, ha => .skip (ha x (by simp)) (h.skips a fun m hm => ha m (by simp [hm]))
theorem Dfs.unskip {cs : List Cl} {b l r : List Int} : ∀ a : List Int, (∀ m ∈ a, m < 0 ∨ m ∈ l) → Dfs cs (a ++ b) l r → Dfs cs b l r
  | [], _, h => h
  | x :: a, ha, h => by
    cases h with
    | skip _ h1 => exact Dfs.unskip a (fun m hm => ha m (by simp [hm])) h1
    | go h0 hn _ =>
      rcases ha x (by simp) with h2 | h2
      · omega
      · exact absurd h2 hn
/-- what was met is nothing to walk from -/
theorem Dfs.less {cs : List Cl} {u q v l r : List Int} (hq : ∀ m ∈ q, m < 0 ∨ m ∈ l) (h : Dfs cs (u ++ (q ++ v)) l r) : Dfs cs (u ++ v) l r := by
  obtain ⟨m, h1, h2⟩ := h.split u (q ++ v) rfl
  exact h1.append (h2.unskip q fun x hx => (hq x hx).imp id fun h => h1.pre.subset h)
/-- what is left: the top of the stack is last -/
def todo (cs : List Cl) (st : List Int) : List Int := (st.reverse.map (refsAt cs)).flatten
theorem todo_snoc (cs : List Cl) (st : List Int) (n : Int) : todo cs (st ++ [n]) = refsAt cs n ++ todo cs st := by simp [todo]
theorem todo_nil (cs : List Cl) : todo cs [] = [] := rfl
/-- a walk that began with l0 has met l, and its stack is st: what is left of it is as what was there at the beginning -/
structure Deep (cs : List Cl) (p l0 : List Int) (st l : List Int) : Prop where
  left : ∀ r, Dfs cs (todo cs st) l r → Dfs cs p l0 r
  nodup : l.Nodup
  inb : InB cs l
  sub : ∀ n ∈ st, n ∈ l
  dist : st.Nodup
theorem Deep.start {cs : List Cl} {n : Int} {l0 : List Int} (hd : l0.Nodup) (hi : InB cs l0) (hn : okRef cs n = true) (h0 : 0 ≤ n) (hx : n ∉ l0) : Deep cs [n] l0 [n] (l0 ++ [n]) :=
  ⟨fun r hr => .go h0 hx (by rw [← List.nil_append [n], todo_snoc, todo_nil] at hr; exact hr), nodup_snoc hd hx, hi.snoc hn h0, fun m hm => by simp at hm; simp [hm], by simp⟩
theorem Deep.pop {cs : List Cl} {p l0 st l : List Int} {n : Int} (h : Deep cs p l0 (st ++ [n]) l) (hn : ∀ m ∈ refsAt cs n, m < 0 ∨ m ∈ l) : Deep cs p l0 st l :=
  ⟨fun r hr => h.left r (by rw [todo_snoc]; exact hr.skips _ hn), h.nodup, h.inb, fun m hm => h.sub m (by simp [hm]), (List.nodup_append.1 h.dist).1⟩
theorem Deep.push {cs : List Cl} {p l0 st l a b : List Int} {n x : Int} (h : Deep cs p l0 (st ++ [n]) l) (e : refsAt cs n = a ++ x :: b) (ha : ∀ m ∈ a, m < 0 ∨ m ∈ l) (h0 : 0 ≤ x) (hx : x ∉ l) (hok : okRef cs x = true) : Deep cs p l0 ((st ++ [n]) ++ [x]) (l ++ [x]) := by
  refine ⟨fun r hr => h.left r ?_, nodup_snoc h.nodup hx, h.inb.snoc hok h0, fun m hm => ?_, ?_⟩
  · rw [todo_snoc, todo_snoc, e] at hr
    rw [todo_snoc, e]
    have h1 : Dfs cs (refsAt cs x ++ (b ++ todo cs st)) (l ++ [x]) r := by
      refine Dfs.less (q := a ++ [x]) (fun m hm => ?_) ?_
      · rcases List.mem_append.1 hm with hm | hm
        · exact (ha m hm).imp id fun h => by simp [h]
        · simp at hm
          subst hm
          right
          simp
      · simpa using hr
    have h2 : Dfs cs (x :: (b ++ todo cs st)) l r := .go h0 hx h1
    have h3 := h2.skips a ha
    simpa using h3
  · rcases List.mem_append.1 hm with hm | hm
    · simp [h.sub m hm]
    · simp at hm
      simp [hm]
  · refine nodup_snoc h.dist fun hm => hx (h.sub x hm)
theorem Deep.fin {cs : List Cl} {p l0 l : List Int} (h : Deep cs p l0 [] l) : Dfs cs p l0 l := h.left l .nil
theorem Deep.len {cs : List Cl} {p l0 st l : List Int} (h : Deep cs p l0 st l) : l.length ≤ cs.length := h.inb.le h.nodup
theorem Deep.st_len {cs : List Cl} {p l0 st l : List Int} (h : Deep cs p l0 st l) : st.length ≤ cs.length := InB.le (l := st) (fun n hn => h.inb n (h.sub n hn)) h.dist
theorem Deep.st_inb {cs : List Cl} {p l0 st l : List Int} (h : Deep cs p l0 st l) {n : Int} (hn : n ∈ st) : ∃ k : Nat, n = k ∧ k < cs.length := h.inb n (h.sub n hn)

/-- a word of bits has the numbers of a list -/
def WordOf (V : Nat) (l : List Int) : Prop := V < 2 ^ 40 ∧ ∀ k : Nat, V.testBit k = true ↔ (k : Int) ∈ l
theorem WordOf.nil : WordOf 0 [] := ⟨by decide, fun k => by simp⟩
theorem WordOf.lt {V : Nat} {l : List Int} (h : WordOf V l) : V < 18446744073709551616 := Nat.lt_trans h.1 (by decide)
theorem WordOf.snoc {V k : Nat} {l : List Int} (h : WordOf V l) (hk : k < 40) : WordOf (V ||| 2 ^ k) (l ++ [(k : Int)]) := by
  refine ⟨Nat.or_lt_two_pow h.1 (Nat.pow_lt_pow_right (by omega) hk), fun j => ?_⟩
  rw [Nat.testBit_or, Nat.testBit_two_pow, Bool.or_eq_true, decide_eq_true_eq, List.mem_append, List.mem_singleton, h.2]
  constructor
  · rintro (h1 | h1)
    · exact .inl h1
    · exact .inr (by omega)
  · rintro (h1 | h1)
    · exact .inl h1
    · exact .inr (by omega)
/-- the marks as a word -/
theorem word_mark {mk : List Bool} {k : Nat} (hk : k < mk.length) : Bm.wordN mk true ||| 2 ^ k = Bm.wordN (mk.set k true) true := by
  apply Nat.eq_of_testBit_eq
  intro i
  rw [Nat.testBit_or, Nat.testBit_two_pow, Bm.wordN_bit, Bm.wordN_bit, List.getElem?_set]
  by_cases e : k = i
  · subst e
    simp [hk]
  · simp [e]
theorem word_zero (n : Nat) : Bm.wordN (List.replicate n false) true = 0 := by
  apply Nat.eq_of_testBit_eq
  intro i
  rw [Bm.wordN_bit, List.getElem?_replicate]
  by_cases e : i < n <;> simp [e]
theorem word_flags {mk : List Bool} {n : Nat} (h : mk.length = n) : (List.range n).map (Bm.wordN mk true).testBit = mk := Bm.word_list _ h _ fun i _ => by rw [Bm.wordN_bit]
end Hps
end Go.Proofs.Ytmjejcfifkbkoaa
