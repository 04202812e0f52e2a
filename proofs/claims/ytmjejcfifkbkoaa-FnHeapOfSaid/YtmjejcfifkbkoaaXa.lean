/- What the draw of HeapOf returns: a list of numbers that a call can read, and that is not long. No conditions. -/
import Derived.Test.YtmjejcfifkbkoaaKn
import Derived.Test.YtmjejcfifkbkoaaGv
import Derived.Test.YtmjejcfifkbkoaaGw
namespace Go.Proofs.Ytmjejcfifkbkoaa
open Go.RowKit
set_option maxRecDepth 100000

/-- numbers have been drawn -/
def DrawnI (w : World) (e : Ending) (w' : World) : Prop :=
  ∃ (A : Option Addr) (n c : Nat) (xs : List Int), e = .returned (.slice A n c) ∧ n ≤ c ∧ n ≤ 1002 ∧ IS w' w'.heap.size A n xs ∧ Below w.heap.size w w'

set_option maxHeartbeats 4000000 in
theorem drawHeapOf_any (A : Option Addr) (n c : Nat) (w : World) (h : Bytes w w.heap.size A n) (hc : n ≤ c) (hn : n ≤ 9223372036854775807) :
    Calls Try.prog 28 #[.slice A n c] w (DrawnI w) := by
  go_enter Try.func28, Try.ntmps28
  go_wp2_with fail
  refine (open_any _ _ _ _ h hc hn).mono ?_
  rintro e w1 ⟨rfl, hr1, b1⟩
  have hg1 := hr1.lt
  obtain ⟨gr, hgr⟩ : ∃ gr, w.heap.size = gr := ⟨_, rfl⟩
  have HG := Lib.hid hgr
  rw [hgr] at hr1 hg1 ⊢
  clear hgr
  go_wp2_with fail
  refine (l20Heap_any _ _ 0 _ hr1 (by omega) (by omega) (by omega)).mono ?_
  rintro e w2 ⟨A2, nn, c2, R2, m, d2, hh, rfl, -, -, HFx, -, hsm, hr2, g2⟩
  have bb2 : Below w.heap.size w w2 := b1.grown g2 b1.size (fun k hk => by have := HG.out; injection hk; omega)
  have hs2 := HFx.reads
  have hn41 : nn ≤ 41 := by rw [← hs2.cells.1]; exact hsm.1
  have hm4 : m ≤ 4 := by rw [← hs2.roots.1]; exact hsm.2.1
  have hg2 := hr2.lt
  clear HFx hsm g2 b1 hg1 hr1
  go_wp2_with fail
  refine (mViewOf_any _ _ _ _ _ _ hh _ hs2 (by omega) (by omega)).mono ?_
  rintro e w3 ⟨v, rfl, o3, b3⟩
  have hle := Hps.view_small hh
  obtain ⟨xs, hxs⟩ : ∃ xs, Hps.viewH hh = xs := ⟨_, rfl⟩
  rw [hxs] at o3 hle
  obtain ⟨A3, c3, rfl, ha3⟩ := o3.form
  obtain ⟨-, hc3⟩ := o3.cap
  obtain ⟨p, hp⟩ : ∃ p, xs.length = p := ⟨_, rfl⟩
  rw [hp] at o3 hle ha3 hc3 ⊢
  have HP := Lib.hid hp
  have hr3 := hr2.below b3 hg2
  have bb3 := bb2.trans (b3.mono bb2.size)
  have hap : (Value.slice A3 p c3).ownBlock = none ∨ (Value.slice A3 p c3).ownBlock ≠ some gr := by
    cases e : (Value.slice A3 p c3).ownBlock with
    | none => exact .inl rfl
    | some k =>
      right
      intro e'
      have e' := Option.some.inj e'
      have := (World.ownsRow.lt o3 k e).1
      omega
  have hz3 := b3.size
  clear hxs hp hs2 hr2 b3 bb2
  go_wp2_with fail
  refine (odd_any _ _ 3 _ hr3 (by omega) (by omega) (by omega)).mono ?_
  rintro e w4 ⟨bo, rfl, hr4, g4⟩
  have o4 := o3.far g4 hap
  have bb4 := bb3.grown g4 bb3.size (fun k hk => by have := HG.out; injection hk; omega)
  have hz4 := g4.size
  clear o3 hr3 g4 bb3
  cases bo
  · go_wp2_with fail
    go_ret
    exact ⟨_, _, _, xs, rfl, hc3, by omega, o4.reads, bb4⟩
  rcases Nat.eq_zero_or_pos p with rfl | hp0
  · go_wp2_with fail
    go_ret
    exact ⟨_, _, _, xs, rfl, hc3, by omega, o4.reads, bb4⟩
  have hp0' : (p : Int) > 0 := by omega
  obtain ⟨g3, rfl, hb3, hl3⟩ := ha3 hp0
  go_wp2_with fail
  all_goals
    refine (pick_any _ _ _ _ hr4 (by omega) (by omega)).mono ?_
    rintro e w5 ⟨k, rfl, hk0, hk1, hr5, g5⟩
    have o5 := o4.far g5 hap
    have bb5 := bb4.grown g5 bb4.size (fun k hk => by have := HG.out; injection hk; omega)
    have hz5 := g5.size
    obtain ⟨k, rfl⟩ : ∃ q : Nat, k = q := ⟨k.toNat, by omega⟩
    have hk : k < p := by omega
    clear o4 hr4 g5 bb4 hk1
    go_wp2_with fail
    refine (pick_any _ _ 4 _ hr5 (by omega) (by omega)).mono ?_
    rintro e w6 ⟨s, rfl, hs0, hs1, hr6, g6⟩
    have o6 := o5.far g6 hap
    have bb6 := bb5.grown g6 bb5.size (fun k hk => by have := HG.out; injection hk; omega)
    have hz6 := g6.size
    have hlt := (World.ownsRow.lt o6 g3 rfl).2
    clear o5 hr5 g6 bb5 hr6 hap
    obtain rfl | rfl | rfl | rfl : s = 0 ∨ s = 1 ∨ s = 2 ∨ s = 3 := by omega
    · obtain ⟨x, hx, cx⟩ := o6.cell_at (j := k) hk
      have fz : w6.frozen? ⟨g3, k, none⟩ = false := o6.frozen HP.out k
      have hki : (k : Int) < p := by omega
      have on := (o6.put' (j := k) HP.out (wrap64 (x + 1))).reads
      have bn := bb6.setCell (p := ⟨g3, k, none⟩) (by have := bb6.size; have := HG.out; show w.heap.size ≤ g3; omega) (.int .i64 (wrap64 (x + 1)))
      clear o6 hx bb6
      go_wp2_with fail
      go_ret
      exact ⟨_, _, _, _, rfl, hc3, by omega, on, bn⟩
    · have on := (o6.reads).front (r := k) (by omega)
      have hki : (k : Int) ≤ c3 := by omega
      clear o6
      go_wp2_with fail
      go_ret
      exact ⟨_, _, _, _, rfl, by omega, by omega, on, bb6⟩
    · have ow := World.ownsRow.alloc o6 (.cells #[.int .i64 0] 3)
      have bn := (Below.refl w6.heap.size w6).alloc (Nat.le_refl _) (.cells #[.int .i64 0] 3)
      have rr : IS (w6.alloc (.cells #[.int .i64 0] 3)) (w6.alloc (.cells #[.int .i64 0] 3)).heap.size (some ⟨w6.heap.size, 0, none⟩) 1 [0] := (own_oneI w6 0 0 (Nat.zero_le _)).reads
      go_wp2_with (at_builtin; refine wpList_appendI rfl (.tmp 45) (.tmp 46) rfl w2.heap.size _ xs rfl ow (some ⟨w6.heap.size, 0, none⟩) 1 1 _ [0] rfl rr (by rw [HP.out]; omega) (by simp; omega) ?_; intro v7 w7 o7 g7 s7)
      go_ret
      obtain ⟨A7, c7, rfl, -⟩ := o7.form
      obtain ⟨-, hc7⟩ := o7.cap
      exact ⟨_, _, _, _, rfl, hc7, by rw [List.length_append, HP.out]; simp; omega, o7.reads, (bb6.trans (bn.mono bb6.size)).grown g7 (by simp; have := bb6.size; omega) (fun kk hk => by have := (World.ownsRow.lt ow kk hk).1; have := HG.out; omega)⟩
    · have ow := World.ownsRow.alloc o6 (.cells #[.int .i64 5, .int .i64 0] 3)
      have bn := (Below.refl w6.heap.size w6).alloc (Nat.le_refl _) (.cells #[.int .i64 5, .int .i64 0] 3)
      have rr : IS (w6.alloc (.cells #[.int .i64 5, .int .i64 0] 3)) (w6.alloc (.cells #[.int .i64 5, .int .i64 0] 3)).heap.size (some ⟨w6.heap.size, 0, none⟩) 2 [5, 0] := (own_twoI w6 5 0 0 (Nat.zero_le _)).reads
      go_wp2_with (at_builtin; refine wpList_appendI rfl (.tmp 25) (.tmp 26) rfl w2.heap.size _ xs rfl ow (some ⟨w6.heap.size, 0, none⟩) 2 2 _ [5, 0] rfl rr (by rw [HP.out]; omega) (by simp; omega) ?_; intro v7 w7 o7 g7 s7)
      go_ret
      obtain ⟨A7, c7, rfl, -⟩ := o7.form
      obtain ⟨-, hc7⟩ := o7.cap
      exact ⟨_, _, _, _, rfl, hc7, by rw [List.length_append, HP.out]; simp; omega, o7.reads, (bb6.trans (bn.mono bb6.size)).grown g7 (by simp; have := bb6.size; omega) (fun kk hk => by have := (World.ownsRow.lt ow kk hk).1; have := HG.out; omega)⟩
end Go.Proofs.Ytmjejcfifkbkoaa
