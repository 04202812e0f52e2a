/- The law of BlocksValid (P15) returns true: for every list of bytes. -/
import Derived.Test.YtafnhapaaiokaaaWj
namespace Go.Proofs.Ytafnhapaaiokaaa
open Go.RowKit

theorem wpList_appendG {w : World} {ops : Array Oper} {rest : List Oper} {o : Oper} {a : Act} {Q : Exit → Act → World → Prop} (hgd : Region.wanted o (yielded ops a.tmps) = true) (s x : Operand)
    (ho : o.op = .call { callee := .builtin .append, args := #[s, x], argTypes := #[23, 23] })
    (base : Nat) (v : Value) (xs : List Bl) (hs : a.eval s = v) (hown : OwnB w base v xs) (A : Option Addr) (m c B : Nat) (ys : List Bl) (hx : a.eval x = .slice A m c) (hr : BS w B A m ys)
    (hn : xs.length + m ≤ 1099511627776) (hbase : base ≤ w.heap.size)
    (h : ∀ v' w', OwnB w' base v' (xs ++ ys) → w.grownBy w' v.ownBlock → (v'.ownBlock = v.ownBlock ∨ v'.ownBlock = some w.heap.size) → wpList Try.prog ops Q rest (a.put o.dst v') w') : wpList Try.prog ops Q (o :: rest) a w := by
  rw [wpList, if_pos hgd]
  left
  obtain ⟨v', w', hrun, h2, h3, h4⟩ := run_appendB w base v xs hown A m c B ys hr hn hbase o.type
  unfold Oper.wp execOp
  simp only [ho, resolve, invoke, builtin, Sem.run_bind, Sem.run_pure, Result.andThen_ok, List.map_toArray, List.map_cons, List.map_nil, hs, hx, hrun]
  exact h v' w' h2 h3 h4

/-- blocks have been drawn for a law -/
def Drawn (w : World) (e : Ending) (w' : World) : Prop :=
  ∃ (v : Value) (xs : List Bl) (T : Int), e = .returned (.tuple #[v, .int .i64 T]) ∧ OwnB w' w.heap.size v xs ∧ AllI xs ∧ 1 ≤ xs.length ∧ xs.length ≤ 300 ∧ 1 ≤ T ∧ T ≤ 65 ∧ Below w.heap.size w w'

theorem drawn_of {w w1 w2 : World} {e : Ending} (b1 : Below w.heap.size w w1) (h : DrewB w1 w.heap.size 0 e w2) : Drawn w e w2 := by
  obtain ⟨v, xs, T, he, ho, ha, h1, h2, h3, h4, _, hg⟩ := h
  exact ⟨v, xs, T, he, ho.base b1.size, ha, h1, h2, h3, h4, b1.grown hg b1.size (fun k hk => by injection hk; omega)⟩

theorem drawBlocksValid_any (A : Option Addr) (n c : Nat) (w : World) (h : Bytes w w.heap.size A n) (hc : n ≤ c) (hn : n ≤ 9223372036854775807) :
    Calls Try.prog 12 #[.slice A n c] w (Drawn w) := by
  go_enter Try.func12, Try.ntmps12
  go_wp2_with fail
  refine (open_any _ _ _ _ h hc hn).mono ?_
  rintro e w1 ⟨rfl, hr1, b1⟩
  go_wp2_with fail
  refine (l20Blocks_any _ _ _ _ hr1 (by omega) (by omega) (by omega)).mono ?_
  intro e w2 hd
  obtain ⟨v, xs, T, rfl, rest⟩ := drawn_of b1 hd
  have HR := Lib.hid rest
  clear rest hd
  go_wp2_with fail
  go_ret2
  exact ⟨v, xs, T, rfl, HR.out⟩

theorem drawFreeWords_any (A : Option Addr) (n c : Nat) (w : World) (h : Bytes w w.heap.size A n) (hc : n ≤ c) (hn : n ≤ 9223372036854775807) :
    Calls Try.prog 22 #[.slice A n c] w (Drawn w) := by
  go_enter Try.func22, Try.ntmps22
  go_wp2_with fail
  refine (open_any _ _ _ _ h hc hn).mono ?_
  rintro e w1 ⟨rfl, hr1, b1⟩
  go_wp2_with fail
  refine (l20Blocks_any _ _ _ _ hr1 (by omega) (by omega) (by omega)).mono ?_
  intro e w2 hd
  obtain ⟨v, xs, T, rfl, rest⟩ := drawn_of b1 hd
  have HR := Lib.hid rest
  clear rest hd
  go_wp2_with fail
  go_ret2
  exact ⟨v, xs, T, rfl, HR.out⟩

theorem not_more {xs : List Bl} {t : Int} (h : Bks.validB xs t = true) : Bks.validB xs (t + 1) = false := by
  cases hv : Bks.validB xs (t + 1)
  · rfl
  · have a := (Bks.valid_len h).2.2.2.2
    have b := (Bks.valid_len hv).2.2.2.2
    omega
theorem not_further {xs : List Bl} {t : Int} (h : Bks.validB xs t = true) : Bks.validB (xs ++ [⟨t, 1, false⟩]) t = false := by
  cases hv : Bks.validB (xs ++ [⟨t, 1, false⟩]) t
  · rfl
  · have a := ((Bks.valid_chain _ _).1 h).2.1
    have b := ((Bks.valid_chain _ _).1 hv).2.1
    rw [Bks.total_append] at b
    simp [Bks.total] at b
    omega

theorem below_first {w w4 w5 : World} {o : Obj} {v : Value} {xs : List Bl} (b : Below w.heap.size w w4) (ho : OwnB (w4.alloc o) w.heap.size v xs) (g : (w4.alloc o).grownBy w5 v.ownBlock) : Below w.heap.size w w5 :=
  (b.alloc b.size o).grown g (by have := b.size; simp; omega) (fun k hk => (World.ownsRow.lt ho k hk).1)
theorem below_next {w w4 w5 : World} {o : Obj} {v : Value} {xs : List Bl} (b : Below w.heap.size w w4) (ho : OwnB w4 w.heap.size v xs) (g : (w4.alloc o).grownBy w5 v.ownBlock) : Below w.heap.size w w5 :=
  (b.alloc b.size o).grown g (by have := b.size; simp; omega) (fun k hk => (World.ownsRow.lt ho k hk).1)

set_option maxHeartbeats 2000000 in
theorem blocksValidLaw_walk (A : Option Addr) (n c : Nat) (w : World) (h : Bytes w w.heap.size A n) (hc : n ≤ c) (hn : n ≤ 9223372036854775807) :
    Calls Try.prog 3 #[.slice A n c] w fun e w' => e = .returned (.bool true) ∧ Below w.heap.size w w' := by
  by_cases hs : n ≤ 1048576
  · go_enter Try.func3, Try.ntmps3
    go_wp2_with fail
    refine (drawBlocksValid_any _ _ _ _ h hc hn).mono ?_
    rintro e w1 ⟨v, xs, T, rfl, o1, ha, l1, l2, t1, t2, b1⟩
    obtain ⟨A1, c1, rfl, f1⟩ := o1.form
    clear f1
    go_wp2_with fail
    refine (blocksValid_any _ _ _ xs _ _ (o1.reads ha) (by omega)).mono ?_
    rintro e w2 ⟨rfl, b2⟩
    have bb2 := b1.trans (b2.mono b1.size)
    have o2 := o1.below b2 (Nat.le_refl _)
    go_wp2_with fail
    refine (mBlocksValid_any _ _ _ xs _ _ (o2.reads ha) (by omega)).mono ?_
    rintro e w3 ⟨rfl, b3⟩
    have bb3 := bb2.trans (b3.mono bb2.size)
    have o3 := o2.below b3 (Nat.le_refl _)
    clear o1 o2 b1 b2 b3 bb2
    cases hv : Bks.validB xs T
    · go_wp2_with fail
      refine (alive_any _).mono ?_
      rintro e w4 ⟨rfl, b4⟩
      go_wp2_with fail
      go_ret
      exact ⟨rfl, bb3.trans (b4.mono bb3.size)⟩
    · have HV := Lib.hid hv
      clear hv
      go_wp2_with fail
      refine (blocksValid_any _ _ _ xs _ _ (o3.reads ha) (by omega)).mono ?_
      rw [not_more HV.out]
      rintro e w4 ⟨rfl, b4⟩
      have bb4 := bb3.trans (b4.mono bb3.size)
      have o4 := o3.below b4 (Nat.le_refl _)
      clear o3 bb3 b4
      have on := own_none w4 w.heap.size bb4.size
      have r4 := OwnB.reads (World.ownsRow.alloc o4 (.cells #[] 29)) ha
      have hs4 := bb4.size
      go_wp2_with (first
        | (at_builtin; refine wpList_appendG rfl (.tmp 31) (.tmp 32) rfl w.heap.size _ [] rfl on A1 xs.length c1 _ xs rfl r4 (by simp <;> omega) (by simp <;> omega) ?_; intro v5 w5 o5 g5 s5; go_must (have bb5 := below_first bb4 on g5; have hs5 := bb5.size; clear g5 s5))
        | (at_builtin; refine wpList_appendG rfl (.tmp 33) (.tmp 36) rfl w.heap.size v5 _ rfl (World.ownsRow.alloc o5 _) (some ⟨w5.heap.size, 0, none⟩) 1 1 _ [⟨T, 1, false⟩] rfl ((own_one w5 T 1 false 0 (Nat.zero_le _)).reads (allI_one (by omega) (by omega) (by omega) (by omega))) (by simp <;> omega) (by simp <;> omega) ?_; intro v6 w6 o6 g6 s6; go_must (have bb6 := below_next bb5 o5 g6; clear g6 s6))
        | fail)
      obtain ⟨A6, c6, rfl, f6⟩ := o6.form
      clear f6
      refine (blocksValid_any _ _ _ _ _ _ (o6.reads (AllI.append (AllI.append (fun k x hx => by simp at hx) ha) (allI_one (by omega) (by omega) (by omega) (by omega)))) (by simp; omega)).mono ?_
      rw [List.nil_append, not_further HV.out]
      rintro e w7 ⟨rfl, b7⟩
      go_wp2_with fail
      go_ret
      exact ⟨rfl, bb6.trans (b7.mono bb6.size)⟩
  · go_enter Try.func3, Try.ntmps3
    go_wp2
    go_ret
    exact ⟨rfl, Below.refl _ _⟩
end Go.Proofs.Ytafnhapaaiokaaa
