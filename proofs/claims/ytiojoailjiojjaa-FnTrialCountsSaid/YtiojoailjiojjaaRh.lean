/- What DrawTrialCounts returns: for every slice of bytes. No conditions. -/
import Derived.Test.YtiojoailjiojjaaRi
import Derived.Test.YtiojoailjiojjaaGb
namespace Go.Proofs.Ytiojoailjiojjaa
open Go.RowKit
set_option maxRecDepth 100000

/-- while a set is drawn: it lies behind the heap, the reader in gr, the result's box first -/
structure TcSt (w w1 w3 wr : World) (gr N : Nat) (s : Value) (L : List Bool) : Prop where
  own : OwnO wr w3.heap.size s L
  rd : Rd wr gr N
  same : SameB w1.heap.size w3 wr
  res : Rw wr w.heap.size 26 #[.slice none 0 0, .slice none 0 0]
  low : Below w.heap.size w wr
  g1 : w.heap.size < gr
  g2 : gr < w1.heap.size
  g3 : w1.heap.size ≤ w3.heap.size
section
variable {w w1 w3 wr w' : World} {gr N N' : Nat} {s s' : Value} {L L' : List Bool}
theorem TcSt.pick (S : TcSt w w1 w3 wr gr N s L) (hg : wr.grownBy w' (some gr)) (hr : Rd w' gr N') : TcSt w w1 w3 w' gr N' s L := by
  have h1 := S.g1
  have h2 := S.g2
  have h3 := S.g3
  refine ⟨S.own.far hg ?_, hr, S.same.grown hg h2, S.res.far hg (fun e => by have := Option.some.inj e; omega), S.low.grown hg S.low.size (fun k hk => by have := Option.some.inj hk; omega), h1, h2, h3⟩
  cases e : s.ownBlock with
  | none => exact .inl rfl
  | some k =>
    right
    intro e'
    have := (World.ownsRow.lt S.own k e).1
    have := Option.some.inj e'
    omega
theorem TcSt.lit (S : TcSt w w1 w3 wr gr N s L) (o : Obj) : TcSt w w1 w3 (wr.alloc o) gr N s L := by
  have h1 := S.g1
  have hb : Below wr.heap.size wr (wr.alloc o) := (Below.refl _ _).alloc (Nat.le_refl _) _
  have hz : wr.heap.size ≤ (wr.alloc o).heap.size := by simp
  exact ⟨S.own.below hb (Nat.le_refl _), S.rd.below hb S.rd.lt, ⟨Nat.le_trans S.same.1 hz, fun j h5 h6 => (hb.block j (Nat.lt_of_lt_of_le h6 S.same.1)).trans (S.same.2 j h5 h6)⟩, S.res.keep hb S.res.lt, S.low.trans (hb.mono S.low.size), h1, S.g2, S.g3⟩
theorem TcSt.app (S : TcSt w w1 w3 wr gr N s L) (ho : OwnO w' w3.heap.size s' L') (hg : wr.grownBy w' s.ownBlock) : TcSt w w1 w3 w' gr N s' L' := by
  have h1 := S.g1
  have h2 := S.g2
  have h3 := S.g3
  have hlo : ∀ k, s.ownBlock = some k → w3.heap.size ≤ k := fun k hk => (World.ownsRow.lt S.own k hk).1
  have hne : ∀ j, j < w3.heap.size → some j ≠ s.ownBlock := fun j hj e => by have := hlo j e.symm; omega
  obtain ⟨A, m, c, p, hrw, hm, hp, hby⟩ := S.rd
  refine ⟨ho, ⟨A, m, c, p, hrw.far hg (hne _ (by omega)), hm, hp, hby.keep fun q hq => ?_⟩, ⟨Nat.le_trans S.same.1 hg.size, fun j h5 h6 => (hg.block j (Nat.lt_of_lt_of_le h6 S.same.1) (hne j h6)).trans (S.same.2 j h5 h6)⟩, S.res.far hg (hne _ (by omega)), S.low.grown hg S.low.size (fun k hk => by have := hlo k hk; omega), h1, h2, h3⟩
  have hrl := hrw.lt
  exact World.cell?_of_block (w := wr) (hg.block q.block (by omega) (hne _ (by omega)))
theorem TcSt.put {g n c i : Nat} (S : TcSt w w1 w3 wr gr N (.slice (some ⟨g, 0, none⟩) n c) L) (hn : L.length = n) (b : Bool) : TcSt w w1 w3 (wr.setCell ⟨g, i, none⟩ (.bool b)) gr N (.slice (some ⟨g, 0, none⟩) n c) (L.set i b) :=
  S.app (S.own.put' hn b) (put_any wr g i (.bool b))
end
/-- a heap and a set have been drawn -/
def DrawnT (w : World) (e : Ending) (w' : World) : Prop :=
  ∃ (A : Option Addr) (nn c : Nat) (R : Option Addr) (m d : Nat) (F : Option Addr) (q e' : Nat) (h : Hp) (bs : List Bool), e = .returned (.tuple #[heapV A nn c R m d, .slice F q e']) ∧ nn ≤ c ∧ m ≤ d ∧ q ≤ 1000 ∧ HS w' w'.heap.size A nn R m h ∧ OS w' w'.heap.size F q bs ∧ SmallH h ∧ Below w.heap.size w w'
theorem own_far_ne {w : World} {base g : Nat} {v : Value} {xs : List Bool} (h : OwnO w base v xs) (hg : g < base) : v.ownBlock = none ∨ v.ownBlock ≠ some g := by
  cases e : v.ownBlock with
  | none => exact .inl rfl
  | some k =>
    right
    intro e'
    have := (World.ownsRow.lt h k e).1
    have := Option.some.inj e'
    omega

set_option maxHeartbeats 8000000 in
theorem drawTrialCounts_any (A : Option Addr) (n c : Nat) (w : World) (h : Bytes w w.heap.size A n) (hc : n ≤ c) (hn : n ≤ 9223372036854775807) :
    Calls Try.prog 7 #[.slice A n c] w (DrawnT w) := by
  have b0 : Below w.heap.size w (w.alloc (.cells #[.slice none 0 0, .slice none 0 0] 26)) := (Below.refl _ _).alloc (Nat.le_refl _) _
  have h0 := (h.keep fun p hp => b0.cell hp).more b0.size
  have r0 := Rw.new w 26 #[.slice none 0 0, .slice none 0 0]
  have hz0 : (w.alloc (.cells #[.slice none 0 0, .slice none 0 0] 26)).heap.size = w.heap.size + 1 := by simp
  go_enter Try.func7, Try.ntmps7
  go_wp2_with fail
  refine (open_any _ _ _ _ h0 hc hn).mono ?_
  rintro e w1 ⟨rfl, hr1, b1⟩
  have r1 := r0.keep b1 r0.lt
  have bb1 := b0.trans (b1.mono b0.size)
  have hgl := hr1.lt
  generalize w.alloc (.cells #[.slice none 0 0, .slice none 0 0] 26) = w0 at b0 h0 r0 hr1 b1 r1 bb1 hz0 hgl ⊢
  obtain ⟨gr, hgr⟩ : ∃ gr, w0.heap.size = gr := ⟨_, rfl⟩
  rw [hgr] at hr1 hgl hz0 ⊢
  have HZ0 := Lib.hid hz0
  clear hz0
  go_wp2_with fail
  refine (l20Heap_any gr 0 14 _ hr1 (by omega) (by omega) (by omega)).mono ?_
  rintro e w2 ⟨A1, nn, c1, R1, m, d1, hh, rfl, hc1, hd1, HFx, -, hsm, hr2, g2⟩
  have r2 := r1.far g2 (fun e => by injection e with e; have := HZ0.out; omega)
  have bb2 : Below w.heap.size w w2 := bb1.grown g2 bb1.size (fun k hk => by injection hk; have := HZ0.out; omega)
  have bA : Below w2.heap.size w2 (w2.alloc (.cells #[.slice A1 nn c1, .slice R1 m d1] 26)) := (Below.refl _ _).alloc (Nat.le_refl _) _
  have bx := Rw.new w2 26 #[.slice A1 nn c1, .slice R1 m d1]
  have hs2 := g2.size
  have HFy := HFx.sameB (w1 := w2.alloc (.cells #[.slice A1 nn c1, .slice R1 m d1] 26)) ⟨bA.size, fun j _ h2 => bA.block j h2⟩
  have hnn : nn ≤ 41 := by
    have h1 := (HFy _ (Nat.le_refl _) (fun _ _ _ => rfl)).cells.1
    have h2 := hsm.1
    omega
  have r3 := r2.alloc (.cells #[.slice A1 nn c1, .slice R1 m d1] 26)
  have hr3 := hr2.below bA hr2.lt
  have bb3 := bb2.trans (bA.mono bb2.size)
  have hz3 : (w2.alloc (.cells #[.slice A1 nn c1, .slice R1 m d1] 26)).heap.size = w2.heap.size + 1 := by simp
  clear r0 r1 r2 hr1 hr2 HFx b0 b1 h0 bb1 bb2 bA g2
  go_upto_region 3 with fail
  generalize w2.alloc (.cells #[.slice A1 nn c1, .slice R1 m d1] 26) = w3 at bx HFy r3 hr3 bb3 hz3 ⊢
  obtain ⟨b, hb⟩ : ∃ b, w2.heap.size = b := ⟨_, rfl⟩
  rw [hb] at bx hz3 hs2 ⊢
  have hbl : w1.heap.size ≤ b := hs2
  have hz0 := HZ0.out
  have o4 := own_noneO w3 w3.heap.size (Nat.le_refl _)
  have b4 : Below w3.heap.size w3 (w3.alloc (.cells #[] 4)) := (Below.refl _ _).alloc (Nat.le_refl _) _
  have S0 : TcSt w w1 w3 (w3.alloc (.cells #[] 4)) gr 700 (.slice (some ⟨w3.heap.size, 0, none⟩) 0 0) [] :=
    ⟨o4, (hr3.more (by omega)).below b4 hr3.lt, ⟨b4.size, fun j _ h2 => b4.block j h2⟩, r3.keep b4 r3.lt, bb3.trans (b4.mono bb3.size), by omega, by omega, by omega⟩
  clear o4 b4 r3 hr3 bb3 hgr hb hgl hz0 hz3
  go_wp2_with fail
  go_loopw [6, 7] (fun sv i wr => ∃ (k : Nat) (L : List Bool) (As : Option Addr) (cs : Nat), k ≤ nn ∧ i = .int .i64 k ∧ L.length = k ∧ sv = .slice As k cs ∧ TcSt w w1 w3 wr gr (700 + k) sv L) (fun _ i _ => nn - (intOf i).toNat)
  case atStart => exact ⟨0, [], _, _, Nat.zero_le _, rfl, rfl, rfl, S0⟩
  case round =>
    clear S0
    obtain ⟨k, L, As, cs, hk, rfl, hLk, rfl, S⟩ := hrel
    have HLK := Lib.hid hLk
    clear hLk
    have qx := S.same.rw bx hbl
    have x0 : wr.cell? ⟨b, 0, none⟩ = some (.slice A1 nn c1) := qx.cell 0
    have x1 : wr.cell? ⟨b, 1, none⟩ = some (.slice R1 m d1) := qx.cell 1
    by_cases hlt : k < nn
    · have hcs := (HFy.sameB S.same wr (Nat.le_refl _) (fun _ _ _ => rfl)).cells
      obtain ⟨gc, oc, cl, A', m', cc, rfl, hgc, hcl, d1', d2, d3, hmc, hi⟩ := hcs.at_ hlt
      have hlt' : (k : Int) < nn := by omega
      cases hu : cl.u
      · rw [hu] at d1'
        clear hcl hu qx
        have SL := S.lit (.cells #[.bool false] 4)
        have rr : OS (wr.alloc (.cells #[.bool false] 4)) (wr.alloc (.cells #[.bool false] 4)).heap.size (some ⟨wr.heap.size, 0, none⟩) 1 [false] := (own_oneO wr false 0 (Nat.zero_le _)).reads
        have hsz : w3.heap.size ≤ (wr.alloc (.cells #[.bool false] 4)).heap.size := by have := S.same.1; simp; omega
        go_wp2_with (at_builtin; refine wpList_appendO rfl (.tmp 20) (.tmp 32) rfl w3.heap.size _ L rfl SL.own (some ⟨wr.heap.size, 0, none⟩) 1 1 _ [false] rfl rr (by have := HLK.out; omega) hsz ?_; intro v6 w6 o6 g6 _s6)
        have S6 := SL.app o6 g6
        obtain ⟨A6, c6, e6, _⟩ := o6.form
        have hl6 : (L ++ [false]).length = L.length + 1 := (by simp)
        generalize hlen6 : (L ++ [false]).length = l6 at e6 hl6
        have HLEN := Lib.hid hlen6
        have hl7 : l6 = k + 1 := (by have := HLK.out; omega)
        subst e6
        clear SL rr hsz o6 g6 hlen6 hl6
        have S7 : TcSt w w1 w3 w6 gr (700 + (k + 1)) (.slice A6 l6 c6) (L ++ [false]) := ⟨S6.own, S6.rd.more (by omega), S6.same, S6.res, S6.low, S6.g1, S6.g2, S6.g3⟩
        subst hl7
        clear S S6 hcs hi
        go_roundw
        case rel => exact ⟨k + 1, L ++ [false], A6, c6, by omega, by go_num, HLEN.out, rfl, S7⟩
        case measure => simp [intOf]; omega
      · rw [hu] at d1'
        have hrd := S.rd
        clear hcl hu qx
        go_wp2_with fail
        refine (pick_any gr _ 2 wr hrd (by omega) (by omega)).mono ?_
        rintro e w5 ⟨r, rfl, hr0, hr1, hr5, g5⟩
        replace S := S.pick g5 hr5
        obtain ⟨bv, hbv⟩ : ∃ bv, (r == 0) = bv := ⟨_, rfl⟩
        clear x0 x1 hcs hi hrd d1' d2 d3
        obtain ⟨wr, hwr⟩ : ∃ wr, wr = w5 := ⟨_, rfl⟩
        subst hwr
        have SL := S.lit (.cells #[.bool bv] 4)
        have rr : OS (wr.alloc (.cells #[.bool bv] 4)) (wr.alloc (.cells #[.bool bv] 4)).heap.size (some ⟨wr.heap.size, 0, none⟩) 1 [bv] := (own_oneO wr bv 0 (Nat.zero_le _)).reads
        have hsz : w3.heap.size ≤ (wr.alloc (.cells #[.bool bv] 4)).heap.size := by have := S.same.1; simp; omega
        go_wp2_with (at_builtin; refine wpList_appendO rfl (.tmp 20) (.tmp 32) rfl w3.heap.size _ L rfl SL.own (some ⟨wr.heap.size, 0, none⟩) 1 1 _ [bv] rfl rr (by have := HLK.out; omega) hsz ?_; intro v6 w6 o6 g6 _s6)
        have S6 := SL.app o6 g6
        obtain ⟨A6, c6, e6, _⟩ := o6.form
        have hl6 : (L ++ [bv]).length = L.length + 1 := (by simp)
        generalize hlen6 : (L ++ [bv]).length = l6 at e6 hl6
        have HLEN := Lib.hid hlen6
        have hl7 : l6 = k + 1 := (by have := HLK.out; omega)
        subst e6
        clear SL rr hsz o6 g6 hlen6 hl6
        have S7 : TcSt w w1 w3 w6 gr (700 + (k + 1)) (.slice A6 l6 c6) (L ++ [bv]) := ⟨S6.own, S6.rd.more (by omega), S6.same, S6.res, S6.low, S6.g1, S6.g2, S6.g3⟩
        subst hl7
        clear S S6
        go_roundw
        case rel => exact ⟨k + 1, L ++ [bv], A6, c6, by omega, by go_num, HLEN.out, rfl, S7⟩
        case measure => simp [intOf]; omega
    · obtain rfl : k = nn := by omega
      have hrd := S.rd
      clear qx
      go_wp2_with fail
      refine (odd_any gr _ 9 wr hrd (by omega) (by omega) (by omega)).mono ?_
      rintro e w5 ⟨bo, rfl, hr5, g5⟩
      replace S := S.pick g5 hr5
      clear x0 x1 hrd g5 hr5
      cases bo
      · by_cases hn0 : k = 0
        · have hn0' : ¬ (k : Int) > 0 := by omega
          clear hn0
          have qx := S.same.rw bx hbl
          have x0 : w5.cell? ⟨b, 0, none⟩ = some (.slice A1 k c1) := qx.cell 0
          have x1 : w5.cell? ⟨b, 1, none⟩ = some (.slice R1 m d1) := qx.cell 1
          have r2 := S.res
          have z0 : w5.cell? ⟨w.heap.size, 0, none⟩ = some (.slice none 0 0) := r2.cell 0
          have z1 : w5.cell? ⟨w.heap.size, 1, none⟩ = some (.slice none 0 0) := r2.cell 1
          have z2 : w5.frozen? ⟨w.heap.size, 0, none⟩ = false := r2.frozen 0
          have z3 : w5.frozen? ⟨w.heap.size, 1, none⟩ = false := r2.frozen 1
          have y0 : ((w5.setCell ⟨w.heap.size, 0, none⟩ (.slice A1 k c1)).setCell ⟨w.heap.size, 1, none⟩ (.slice R1 m d1)).cell? ⟨w.heap.size, 0, none⟩ = some (.slice A1 k c1) := ((r2.put 0 (.slice A1 k c1)).put 1 (.slice R1 m d1)).cell 0
          have y1 : ((w5.setCell ⟨w.heap.size, 0, none⟩ (.slice A1 k c1)).setCell ⟨w.heap.size, 1, none⟩ (.slice R1 m d1)).cell? ⟨w.heap.size, 1, none⟩ = some (.slice R1 m d1) := ((r2.put 0 (.slice A1 k c1)).put 1 (.slice R1 m d1)).cell 1
          have HSx := Lib.hid (HFy.sameB S.same ((w5.setCell ⟨w.heap.size, 0, none⟩ (.slice A1 k c1)).setCell ⟨w.heap.size, 1, none⟩ (.slice R1 m d1)) (by simp) (fun j hj hk => by
            have := S.g1
            have := S.g2
            rw [Below.heap_setCell _ ⟨w.heap.size, 1, none⟩ _ j (by show j ≠ w.heap.size; omega), Below.heap_setCell _ ⟨w.heap.size, 0, none⟩ _ j (by show j ≠ w.heap.size; omega)]))
          have BF := Lib.hid ((S.low.setCell (p := ⟨w.heap.size, 0, none⟩) (Nat.le_refl _) (.slice A1 k c1)).setCell (p := ⟨w.heap.size, 1, none⟩) (Nat.le_refl _) (.slice R1 m d1))
          have OX := Lib.hid (((S.own.far (put_any w5 w.heap.size 0 (.slice A1 k c1)) (own_far_ne S.own (by have := S.g1; have := S.g2; have := S.g3; omega))).far (put_any _ w.heap.size 1 (.slice R1 m d1)) (own_far_ne S.own (by have := S.g1; have := S.g2; have := S.g3; omega))).reads)
          have HL := Lib.hid (show k ≤ 1000 by omega)
          clear qx r2 S
          go_wp2_with fail
          exact bodyPost_ret (v := .tuple #[.agg #[.slice A1 k c1, .slice R1 m d1], .slice As k cs]) (by simp [results, Try.results7, go_sem, *]) rfl ⟨A1, k, c1, R1, m, d1, _, _, _, hh, _, rfl, hc1, hd1, HL.out, HSx.out, OX.out, hsm, BF.out⟩
        · have hn0' : (k : Int) > 0 := by omega
          clear hn0
          have hrd := S.rd
          go_wp2_with fail
          refine (odd_any gr _ 9 w5 hrd (by omega) (by omega) (by omega)).mono ?_
          rintro e w8 ⟨bo, rfl, hr8, g8⟩
          have S8 := S.pick g8 hr8
          clear hrd g8 hr8 S
          cases bo
          · have qx := S8.same.rw bx hbl
            have x0 : w8.cell? ⟨b, 0, none⟩ = some (.slice A1 k c1) := qx.cell 0
            have x1 : w8.cell? ⟨b, 1, none⟩ = some (.slice R1 m d1) := qx.cell 1
            have r2 := S8.res
            have z0 : w8.cell? ⟨w.heap.size, 0, none⟩ = some (.slice none 0 0) := r2.cell 0
            have z1 : w8.cell? ⟨w.heap.size, 1, none⟩ = some (.slice none 0 0) := r2.cell 1
            have z2 : w8.frozen? ⟨w.heap.size, 0, none⟩ = false := r2.frozen 0
            have z3 : w8.frozen? ⟨w.heap.size, 1, none⟩ = false := r2.frozen 1
            have y0 : ((w8.setCell ⟨w.heap.size, 0, none⟩ (.slice A1 k c1)).setCell ⟨w.heap.size, 1, none⟩ (.slice R1 m d1)).cell? ⟨w.heap.size, 0, none⟩ = some (.slice A1 k c1) := ((r2.put 0 (.slice A1 k c1)).put 1 (.slice R1 m d1)).cell 0
            have y1 : ((w8.setCell ⟨w.heap.size, 0, none⟩ (.slice A1 k c1)).setCell ⟨w.heap.size, 1, none⟩ (.slice R1 m d1)).cell? ⟨w.heap.size, 1, none⟩ = some (.slice R1 m d1) := ((r2.put 0 (.slice A1 k c1)).put 1 (.slice R1 m d1)).cell 1
            have HSx := Lib.hid (HFy.sameB S8.same ((w8.setCell ⟨w.heap.size, 0, none⟩ (.slice A1 k c1)).setCell ⟨w.heap.size, 1, none⟩ (.slice R1 m d1)) (by simp) (fun j hj hk => by
              have := S8.g1
              have := S8.g2
              rw [Below.heap_setCell _ ⟨w.heap.size, 1, none⟩ _ j (by show j ≠ w.heap.size; omega), Below.heap_setCell _ ⟨w.heap.size, 0, none⟩ _ j (by show j ≠ w.heap.size; omega)]))
            have BF := Lib.hid ((S8.low.setCell (p := ⟨w.heap.size, 0, none⟩) (Nat.le_refl _) (.slice A1 k c1)).setCell (p := ⟨w.heap.size, 1, none⟩) (Nat.le_refl _) (.slice R1 m d1))
            have OX := Lib.hid (((S8.own.far (put_any w8 w.heap.size 0 (.slice A1 k c1)) (own_far_ne S8.own (by have := S8.g1; have := S8.g2; have := S8.g3; omega))).far (put_any _ w.heap.size 1 (.slice R1 m d1)) (own_far_ne S8.own (by have := S8.g1; have := S8.g2; have := S8.g3; omega))).reads)
            have HL := Lib.hid (show k ≤ 1000 by omega)
            clear qx r2 S8
            go_wp2_with fail
            exact bodyPost_ret (v := .tuple #[.agg #[.slice A1 k c1, .slice R1 m d1], .slice As k cs]) (by simp [results, Try.results7, go_sem, *]) rfl ⟨A1, k, c1, R1, m, d1, _, _, _, hh, _, rfl, hc1, hd1, HL.out, HSx.out, OX.out, hsm, BF.out⟩
          · have hrd := S8.rd
            go_wp2_with fail
            refine (pick_any gr _ k w8 hrd (by omega) (by omega)).mono ?_
            rintro e w9 ⟨r, rfl, hr0, hr1, hr9, g9⟩
            have S9 := S8.pick g9 hr9
            clear hrd g9 hr9 S8
            obtain ⟨r', rfl⟩ := Int.eq_ofNat_of_zero_le hr0
            have hrn : r' < k := by omega
            have hrn' : (r' : Int) < k := by omega
            obtain ⟨A9, c9, e9, hA9⟩ := S9.own.form
            rw [HLK.out] at hA9
            injection e9 with e9 e9b e9c
            subst e9
            clear e9b e9c
            obtain ⟨g9, rfl, _, _⟩ := hA9 (by omega)
            obtain ⟨g', o', bv, e1, _, _, c9'⟩ := S9.own.reads.at_ hrn
            injection e1 with e1
            injection e1 with e2 e3
            subst e2 e3
            rw [Nat.zero_add] at c9'
            have fz : w9.frozen? ⟨g9, r', none⟩ = false := S9.own.frozen HLK.out r'
            have SA := S9.put (i := r') HLK.out true
            clear S9 hA9 hr0 hr1
            obtain ⟨wA, hwA⟩ : ∃ wA, w9.setCell ⟨g9, r', none⟩ (.bool true) = wA := ⟨_, rfl⟩
            rw [hwA] at SA
            go_upto_region 12 with fail
            have qx := SA.same.rw bx hbl
            have x0 : wA.cell? ⟨b, 0, none⟩ = some (.slice A1 k c1) := qx.cell 0
            have x1 : wA.cell? ⟨b, 1, none⟩ = some (.slice R1 m d1) := qx.cell 1
            have r2 := SA.res
            have z0 : wA.cell? ⟨w.heap.size, 0, none⟩ = some (.slice none 0 0) := r2.cell 0
            have z1 : wA.cell? ⟨w.heap.size, 1, none⟩ = some (.slice none 0 0) := r2.cell 1
            have z2 : wA.frozen? ⟨w.heap.size, 0, none⟩ = false := r2.frozen 0
            have z3 : wA.frozen? ⟨w.heap.size, 1, none⟩ = false := r2.frozen 1
            have y0 : ((wA.setCell ⟨w.heap.size, 0, none⟩ (.slice A1 k c1)).setCell ⟨w.heap.size, 1, none⟩ (.slice R1 m d1)).cell? ⟨w.heap.size, 0, none⟩ = some (.slice A1 k c1) := ((r2.put 0 (.slice A1 k c1)).put 1 (.slice R1 m d1)).cell 0
            have y1 : ((wA.setCell ⟨w.heap.size, 0, none⟩ (.slice A1 k c1)).setCell ⟨w.heap.size, 1, none⟩ (.slice R1 m d1)).cell? ⟨w.heap.size, 1, none⟩ = some (.slice R1 m d1) := ((r2.put 0 (.slice A1 k c1)).put 1 (.slice R1 m d1)).cell 1
            have HSx := Lib.hid (HFy.sameB SA.same ((wA.setCell ⟨w.heap.size, 0, none⟩ (.slice A1 k c1)).setCell ⟨w.heap.size, 1, none⟩ (.slice R1 m d1)) (by simp) (fun j hj hk => by
              have := SA.g1
              have := SA.g2
              rw [Below.heap_setCell _ ⟨w.heap.size, 1, none⟩ _ j (by show j ≠ w.heap.size; omega), Below.heap_setCell _ ⟨w.heap.size, 0, none⟩ _ j (by show j ≠ w.heap.size; omega)]))
            have BF := Lib.hid ((SA.low.setCell (p := ⟨w.heap.size, 0, none⟩) (Nat.le_refl _) (.slice A1 k c1)).setCell (p := ⟨w.heap.size, 1, none⟩) (Nat.le_refl _) (.slice R1 m d1))
            have OX := Lib.hid (((SA.own.far (put_any wA w.heap.size 0 (.slice A1 k c1)) (own_far_ne SA.own (by have := SA.g1; have := SA.g2; have := SA.g3; omega))).far (put_any _ w.heap.size 1 (.slice R1 m d1)) (own_far_ne SA.own (by have := SA.g1; have := SA.g2; have := SA.g3; omega))).reads)
            have HL := Lib.hid (show k ≤ 1000 by omega)
            clear qx r2 SA
            go_wp2_with fail
            exact bodyPost_ret (v := .tuple #[.agg #[.slice A1 k c1, .slice R1 m d1], .slice (some ⟨g9, 0, none⟩) k cs]) (by simp [results, Try.results7, go_sem, *]) rfl ⟨A1, k, c1, R1, m, d1, _, _, _, hh, _, rfl, hc1, hd1, HL.out, HSx.out, OX.out, hsm, BF.out⟩
      · obtain ⟨wr, hwr⟩ : ∃ wr, wr = w5 := ⟨_, rfl⟩
        subst hwr
        have SL := S.lit (.cells #[.bool true] 4)
        have rr : OS (wr.alloc (.cells #[.bool true] 4)) (wr.alloc (.cells #[.bool true] 4)).heap.size (some ⟨wr.heap.size, 0, none⟩) 1 [true] := (own_oneO wr true 0 (Nat.zero_le _)).reads
        have hsz : w3.heap.size ≤ (wr.alloc (.cells #[.bool true] 4)).heap.size := by have := S.same.1; simp; omega
        go_wp2_with (at_builtin; refine wpList_appendO rfl (.tmp 36) (.tmp 37) rfl w3.heap.size _ L rfl SL.own (some ⟨wr.heap.size, 0, none⟩) 1 1 _ [true] rfl rr (by have := HLK.out; omega) hsz ?_; intro v6 w6 o6 g6 _s6; have S6 := SL.app o6 g6; obtain ⟨A6, c6, e6, _⟩ := o6.form; have hl6 : (L ++ [true]).length = L.length + 1 := (by simp); generalize hlen6 : (L ++ [true]).length = l6 at e6 hl6; have HLEN := Lib.hid hlen6; have hl7 : l6 = k + 1 := (by have := HLK.out; omega); subst e6; clear SL rr hsz o6 g6 hlen6 hl6; have hn0' : (l6 : Int) > 0 := (by omega); have hl41 : l6 ≤ 42 := (by omega); clear hl7)
        clear S
        have hrd := S6.rd
        refine (odd_any gr _ 9 w6 hrd (by omega) (by omega) (by omega)).mono ?_
        rintro e w8 ⟨bo, rfl, hr8, g8⟩
        have S8 := S6.pick g8 hr8
        clear hrd g8 hr8 S6
        cases bo
        · have qx := S8.same.rw bx hbl
          have x0 : w8.cell? ⟨b, 0, none⟩ = some (.slice A1 k c1) := qx.cell 0
          have x1 : w8.cell? ⟨b, 1, none⟩ = some (.slice R1 m d1) := qx.cell 1
          have r2 := S8.res
          have z0 : w8.cell? ⟨w.heap.size, 0, none⟩ = some (.slice none 0 0) := r2.cell 0
          have z1 : w8.cell? ⟨w.heap.size, 1, none⟩ = some (.slice none 0 0) := r2.cell 1
          have z2 : w8.frozen? ⟨w.heap.size, 0, none⟩ = false := r2.frozen 0
          have z3 : w8.frozen? ⟨w.heap.size, 1, none⟩ = false := r2.frozen 1
          have y0 : ((w8.setCell ⟨w.heap.size, 0, none⟩ (.slice A1 k c1)).setCell ⟨w.heap.size, 1, none⟩ (.slice R1 m d1)).cell? ⟨w.heap.size, 0, none⟩ = some (.slice A1 k c1) := ((r2.put 0 (.slice A1 k c1)).put 1 (.slice R1 m d1)).cell 0
          have y1 : ((w8.setCell ⟨w.heap.size, 0, none⟩ (.slice A1 k c1)).setCell ⟨w.heap.size, 1, none⟩ (.slice R1 m d1)).cell? ⟨w.heap.size, 1, none⟩ = some (.slice R1 m d1) := ((r2.put 0 (.slice A1 k c1)).put 1 (.slice R1 m d1)).cell 1
          have HSx := Lib.hid (HFy.sameB S8.same ((w8.setCell ⟨w.heap.size, 0, none⟩ (.slice A1 k c1)).setCell ⟨w.heap.size, 1, none⟩ (.slice R1 m d1)) (by simp) (fun j hj hk => by
            have := S8.g1
            have := S8.g2
            rw [Below.heap_setCell _ ⟨w.heap.size, 1, none⟩ _ j (by show j ≠ w.heap.size; omega), Below.heap_setCell _ ⟨w.heap.size, 0, none⟩ _ j (by show j ≠ w.heap.size; omega)]))
          have BF := Lib.hid ((S8.low.setCell (p := ⟨w.heap.size, 0, none⟩) (Nat.le_refl _) (.slice A1 k c1)).setCell (p := ⟨w.heap.size, 1, none⟩) (Nat.le_refl _) (.slice R1 m d1))
          have OX := Lib.hid (((S8.own.far (put_any w8 w.heap.size 0 (.slice A1 k c1)) (own_far_ne S8.own (by have := S8.g1; have := S8.g2; have := S8.g3; omega))).far (put_any _ w.heap.size 1 (.slice R1 m d1)) (own_far_ne S8.own (by have := S8.g1; have := S8.g2; have := S8.g3; omega))).reads)
          have HL := Lib.hid (show l6 ≤ 1000 by omega)
          clear qx r2 S8
          go_wp2_with fail
          exact bodyPost_ret (v := .tuple #[.agg #[.slice A1 k c1, .slice R1 m d1], .slice A6 l6 c6]) (by simp [results, Try.results7, go_sem, *]) rfl ⟨A1, k, c1, R1, m, d1, _, _, _, hh, _, rfl, hc1, hd1, HL.out, HSx.out, OX.out, hsm, BF.out⟩
        · have hrd := S8.rd
          go_wp2_with fail
          refine (pick_any gr _ l6 w8 hrd (by omega) (by omega)).mono ?_
          rintro e w9 ⟨r, rfl, hr0, hr1, hr9, g9⟩
          have S9 := S8.pick g9 hr9
          clear hrd g9 hr9 S8
          obtain ⟨r', rfl⟩ := Int.eq_ofNat_of_zero_le hr0
          have hrn : r' < l6 := by omega
          have hrn' : (r' : Int) < l6 := by omega
          obtain ⟨A9, c9, e9, hA9⟩ := S9.own.form
          rw [HLEN.out] at hA9
          injection e9 with e9 e9b e9c
          subst e9
          clear e9b e9c
          obtain ⟨g9, rfl, _, _⟩ := hA9 (by omega)
          obtain ⟨g', o', bv, e1, _, _, c9'⟩ := S9.own.reads.at_ hrn
          injection e1 with e1
          injection e1 with e2 e3
          subst e2 e3
          rw [Nat.zero_add] at c9'
          have fz : w9.frozen? ⟨g9, r', none⟩ = false := S9.own.frozen HLEN.out r'
          have SA := S9.put (i := r') HLEN.out true
          clear S9 hA9 hr0 hr1
          obtain ⟨wA, hwA⟩ : ∃ wA, w9.setCell ⟨g9, r', none⟩ (.bool true) = wA := ⟨_, rfl⟩
          rw [hwA] at SA
          go_upto_region 12 with fail
          have qx := SA.same.rw bx hbl
          have x0 : wA.cell? ⟨b, 0, none⟩ = some (.slice A1 k c1) := qx.cell 0
          have x1 : wA.cell? ⟨b, 1, none⟩ = some (.slice R1 m d1) := qx.cell 1
          have r2 := SA.res
          have z0 : wA.cell? ⟨w.heap.size, 0, none⟩ = some (.slice none 0 0) := r2.cell 0
          have z1 : wA.cell? ⟨w.heap.size, 1, none⟩ = some (.slice none 0 0) := r2.cell 1
          have z2 : wA.frozen? ⟨w.heap.size, 0, none⟩ = false := r2.frozen 0
          have z3 : wA.frozen? ⟨w.heap.size, 1, none⟩ = false := r2.frozen 1
          have y0 : ((wA.setCell ⟨w.heap.size, 0, none⟩ (.slice A1 k c1)).setCell ⟨w.heap.size, 1, none⟩ (.slice R1 m d1)).cell? ⟨w.heap.size, 0, none⟩ = some (.slice A1 k c1) := ((r2.put 0 (.slice A1 k c1)).put 1 (.slice R1 m d1)).cell 0
          have y1 : ((wA.setCell ⟨w.heap.size, 0, none⟩ (.slice A1 k c1)).setCell ⟨w.heap.size, 1, none⟩ (.slice R1 m d1)).cell? ⟨w.heap.size, 1, none⟩ = some (.slice R1 m d1) := ((r2.put 0 (.slice A1 k c1)).put 1 (.slice R1 m d1)).cell 1
          have HSx := Lib.hid (HFy.sameB SA.same ((wA.setCell ⟨w.heap.size, 0, none⟩ (.slice A1 k c1)).setCell ⟨w.heap.size, 1, none⟩ (.slice R1 m d1)) (by simp) (fun j hj hk => by
            have := SA.g1
            have := SA.g2
            rw [Below.heap_setCell _ ⟨w.heap.size, 1, none⟩ _ j (by show j ≠ w.heap.size; omega), Below.heap_setCell _ ⟨w.heap.size, 0, none⟩ _ j (by show j ≠ w.heap.size; omega)]))
          have BF := Lib.hid ((SA.low.setCell (p := ⟨w.heap.size, 0, none⟩) (Nat.le_refl _) (.slice A1 k c1)).setCell (p := ⟨w.heap.size, 1, none⟩) (Nat.le_refl _) (.slice R1 m d1))
          have OX := Lib.hid (((SA.own.far (put_any wA w.heap.size 0 (.slice A1 k c1)) (own_far_ne SA.own (by have := SA.g1; have := SA.g2; have := SA.g3; omega))).far (put_any _ w.heap.size 1 (.slice R1 m d1)) (own_far_ne SA.own (by have := SA.g1; have := SA.g2; have := SA.g3; omega))).reads)
          have HL := Lib.hid (show l6 ≤ 1000 by omega)
          clear qx r2 SA
          go_wp2_with fail
          exact bodyPost_ret (v := .tuple #[.agg #[.slice A1 k c1, .slice R1 m d1], .slice (some ⟨g9, 0, none⟩) l6 c6]) (by simp [results, Try.results7, go_sem, *]) rfl ⟨A1, k, c1, R1, m, d1, _, _, _, hh, _, rfl, hc1, hd1, HL.out, HSx.out, OX.out, hsm, BF.out⟩
end Go.Proofs.Ytiojoailjiojjaa
