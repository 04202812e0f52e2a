/- The program's stack of cells and its marker, as they lie in memory, and what their methods do. No conditions. -/
import Derived.Test.YtmjejcfifkbkoaaQd
import Derived.Test.YtmjejcfifkbkoaaHx
import Derived.Test.YtmjejcfifkbkoaaKz
import Derived.BigRegion
namespace Go.Proofs.Ytmjejcfifkbkoaa
open Go.RowKit
set_option maxRecDepth 100000

/-- a marker in the box b, its stack in a block of its own from block B on -/
structure MkSt (w : World) (B b : Nat) (vc : Value) (V pl : Nat) (sv : Value) (st : List Int) : Prop where
  box : Rw w b 116 #[vc, .int .u64 V, .int .i64 pl, sv]
  s : OwnI w B sv st
  lo : B ≤ b
section
variable {w w' : World} {B b V pl : Nat} {vc sv : Value} {st : List Int}
theorem MkSt.ne (W : MkSt w B b vc V pl sv st) : some b ≠ sv.ownBlock := row_type W.s W.box (by decide)
theorem MkSt.up (W : MkSt w B b vc V pl sv st) (h : Below w.heap.size w w') : MkSt w' B b vc V pl sv st :=
  ⟨W.box.keep h W.box.lt, W.s.below h (Nat.le_refl _), W.lo⟩
theorem MkSt.mark (W : MkSt w B b vc V pl sv st) (V' : Nat) : MkSt (w.setCell ⟨b, 1, none⟩ (.int .u64 V')) B b vc V' pl sv st :=
  ⟨W.box.put 1 _, W.s.far (put_any w b 1 (.int .u64 V')) (.inr W.ne.symm), W.lo⟩
theorem MkSt.cut (W : MkSt w B b vc V pl sv st) {sv' : Value} {st' : List Int} (h : OwnI w B sv' st') : MkSt (w.setCell ⟨b, 3, none⟩ sv') B b vc V pl sv' st' :=
  ⟨W.box.put 3 _, h.far (put_any w b 3 sv') (.inr (row_type h W.box (by decide)).symm), W.lo⟩
theorem MkSt.grow (W : MkSt w B b vc V pl sv st) {sv' : Value} {st' : List Int} (h : OwnI w' B sv' st') (hg : w.grownBy w' sv.ownBlock) : MkSt (w'.setCell ⟨b, 3, none⟩ sv') B b vc V pl sv' st' ∧ w'.frozen? ⟨b, 3, none⟩ = false ∧ w'.cell? ⟨b, 3, none⟩ = some sv := by
  have bx := W.box.far hg W.ne
  exact ⟨⟨bx.put 3 _, h.far (put_any w' b 3 sv') (.inr (row_type h bx (by decide)).symm), W.lo⟩, bx.frozen 3, bx.cell 3⟩
end
theorem MkSt.alloc {w : World} {B b V pl : Nat} {vc sv : Value} {st : List Int} (W : MkSt w B b vc V pl sv st) (o : Obj) : MkSt (w.alloc o) B b vc V pl sv st := W.up ((Below.refl w.heap.size w).alloc (Nat.le_refl _) o)
theorem MkSt.far {w w' : World} {B b V pl : Nat} {vc sv : Value} {st : List Int} {row : Option Nat} (W : MkSt w B b vc V pl sv st) (hg : w.grownBy w' row) (h1 : some b ≠ row) (h2 : sv.ownBlock = none ∨ sv.ownBlock ≠ row) : MkSt w' B b vc V pl sv st := ⟨W.box.far hg h1, W.s.far hg h2, W.lo⟩
theorem apart_back {a b : Option Nat} (h : a = none ∨ a ≠ b) : b = none ∨ b ≠ a := by
  cases hb : b with
  | none => exact .inl rfl
  | some g =>
    right
    rintro rfl
    rcases h with h | h
    · cases h
    · exact h hb.symm
/-- a slice's length as its value says it -/
def lenV : Value → Nat
  | .slice _ n _ => n
  | _ => 0
theorem lenV_eq {w : World} {B : Nat} {v : Value} {xs : List Int} (h : OwnI w B v xs) : lenV v = xs.length := by
  obtain ⟨A, c, rfl, _⟩ := h.form
  rfl
/-- of what was there only the box b and the stack have been written; the stack is where it was, or is new -/
structure OnlyS (w w' : World) (b : Nat) (sv sv' : Value) : Prop where
  size : w.heap.size ≤ w'.heap.size
  block : ∀ g, g < w.heap.size → g ≠ b → sv.ownBlock ≠ some g → w'.heap[g]? = w.heap[g]?
  own : sv'.ownBlock = sv.ownBlock ∨ sv'.ownBlock = none ∨ ∃ g, sv'.ownBlock = some g ∧ w.heap.size ≤ g
theorem OnlyS.below {w w' : World} {b : Nat} {sv : Value} (h : Below w.heap.size w w') : OnlyS w w' b sv sv := ⟨h.size, fun g hg _ _ => h.block g hg, .inl rfl⟩
theorem OnlyS.put (w : World) (b i : Nat) (u sv : Value) : OnlyS w (w.setCell ⟨b, i, none⟩ u) b sv sv := ⟨by simp, fun g _ hne _ => Below.heap_setCell w _ u g hne, .inl rfl⟩
theorem OnlyS.same {w w' : World} {b : Nat} {sv sv1 sv2 : Value} (h : OnlyS w w' b sv sv1) (e : sv2.ownBlock = sv1.ownBlock) : OnlyS w w' b sv sv2 := ⟨h.size, h.block, by rw [e]; exact h.own⟩
theorem OnlyS.trans {w w1 w2 : World} {b : Nat} {sv sv1 sv2 : Value} (h : OnlyS w w1 b sv sv1) (h' : OnlyS w1 w2 b sv1 sv2) : OnlyS w w2 b sv sv2 := by
  refine ⟨Nat.le_trans h.size h'.size, fun g hg hb hs => ?_, ?_⟩
  · rw [h'.block g (Nat.lt_of_lt_of_le hg h.size) hb (fun e => ?_), h.block g hg hb hs]
    rcases h.own with h1 | h1 | ⟨g', h1, h2⟩
    · exact hs (by rw [← h1, e])
    · rw [h1] at e; cases e
    · rw [h1] at e
      have := Option.some.inj e
      omega
  · rcases h'.own with h1 | h1 | ⟨g', h1, h2⟩
    · rw [h1]; exact h.own
    · exact .inr (.inl h1)
    · exact .inr (.inr ⟨g', h1, Nat.le_trans h.size h2⟩)
theorem OnlyS.append {w w1 w5 : World} {sv v5 : Value} (hb : Below w.heap.size w w1) (o : Obj) (hg : (w1.alloc o).grownBy w5 sv.ownBlock) (hs : v5.ownBlock = sv.ownBlock ∨ v5.ownBlock = some (w1.alloc o).heap.size) (b i : Nat) : OnlyS w (w5.setCell ⟨b, i, none⟩ v5) b sv v5 := by
  have h1 := hb.size
  have h2 := hg.size
  rw [World.size_alloc] at h2
  refine ⟨by simp; omega, fun g hl hne hn => ?_, ?_⟩
  · rw [Below.heap_setCell w5 _ v5 g hne, hg.block g (by simp; omega) (fun e => hn e.symm), Below.heap_alloc w1 o g (by omega), hb.block g hl]
  · rcases hs with e | e
    · exact .inl e
    · exact .inr (.inr ⟨_, e, by simp; omega⟩)
theorem OnlyS.far {w w6 w5 : World} {b : Nat} {sv sv6 : Value} {row : Option Nat} {o : Obj} (h : OnlyS w w6 b sv sv6) (hg : (w6.alloc o).grownBy w5 row) (hr : ∀ g, row = some g → w.heap.size ≤ g) : OnlyS w w5 b sv sv6 := by
  have h1 := h.size
  have h2 := hg.size
  rw [World.size_alloc] at h2
  refine ⟨by omega, fun g hl hne hn => ?_, h.own⟩
  rw [hg.block g (by simp; omega) (fun e => by have := hr g e.symm; omega), Below.heap_alloc w6 o g (by omega), h.block g hl hne hn]
/-- a slice of numbers elsewhere stays, and stays elsewhere -/
theorem OnlyS.row {w w' : World} {b B : Nat} {sv sv' lv : Value} {xs : List Int} (h : OnlyS w w' b sv sv') (ho : OwnI w B lv xs) (hb : some b ≠ lv.ownBlock) (hs : lv.ownBlock = none ∨ lv.ownBlock ≠ sv.ownBlock) : OwnI w' B lv xs ∧ (lv.ownBlock = none ∨ lv.ownBlock ≠ sv'.ownBlock) := by
  refine ⟨⟨ho.1, ?_⟩, ?_⟩
  · rcases ho.2 with h0 | ⟨g, cap, cur, e, hb', hh, hr⟩
    · exact .inl h0
    · have ev : lv.ownBlock = some g := by rw [e]; rfl
      refine .inr ⟨g, cap, cur, e, hb', (h.block g (Array.getElem?_eq_some_iff.1 hh).1 (fun eu => hb (by rw [ev, eu])) (fun eu => ?_)).trans hh, hr⟩
      rcases hs with h1 | h1
      · rw [ev] at h1; cases h1
      · exact h1 (by rw [ev, eu])
  · cases e : lv.ownBlock with
    | none => exact .inl rfl
    | some g =>
      right
      have hl := (World.ownsRow.lt ho g e).2
      rcases h.own with h1 | h1 | ⟨g', h1, h2⟩
      · rw [h1, ← e]
        rcases hs with h3 | h3
        · rw [e] at h3; cases h3
        · exact h3
      · rw [h1]; intro h3; cases h3
      · rw [h1]
        intro h3
        have := Option.some.inj h3
        omega
/-- what a put leaves of a stack -/
def putS (pl : Nat) (st : List Int) (x : Int) : List Int := if st.length < pl then st ++ [x] else st

set_option maxHeartbeats 1000000 in
theorem putStack_any (B b V pl : Nat) (vc sv : Value) (st : List Int) (x : Int) (w : World) (W : MkSt w B b vc V pl sv st) (hB : B ≤ w.heap.size) (_hp : pl ≤ 1000) (hl : st.length ≤ 1000) :
    Calls Try.prog 134 #[.pointer (some ⟨b, 2, none⟩), .int .i64 x] w fun e w' => e = .returned (.tuple #[]) ∧ ∃ sv', MkSt w' B b vc V pl sv' (putS pl st x) ∧ Below B w w' ∧ OnlyS w w' b sv sv' := by
  obtain ⟨A, c, rfl, hA⟩ := W.s.form
  have x2 : w.cell? ⟨b, 2, none⟩ = some (.int .i64 pl) := W.box.cell 2
  obtain ⟨l, hle⟩ : ∃ l, st.length = l := ⟨_, rfl⟩
  have HL := Lib.hid hle
  rw [hle] at W hl ⊢
  have HW := Lib.hid W
  have x3 : w.cell? ⟨b, 3, none⟩ = some (.slice A l c) := W.box.cell 3
  by_cases hlt : l < pl
  · have hlt' : (l : Int) < pl := by omega
    have HP := Lib.hid (show putS pl st x = st ++ [x] by rw [putS, if_pos (by rw [hle]; exact hlt)])
    clear hA hlt W hle
    go_enter Try.func134, Try.ntmps134
    go_wp2_with fail
    go_quiet (fail)
    have WD := Lib.hid (HW.out.up (below_drewN (Below.refl w.heap.size w) nq))
    have bd := below_drewN (Below.refl B w) nq
    have bu := below_drewN (Below.refl w.heap.size w) nq
    generalize w.drewN nq = w1 at WD bd bu ⊢
    have y3 : w1.cell? ⟨b, 3, none⟩ = some (.slice A l c) := WD.out.box.cell 3
    have bs := bd.size
    have ow : OwnI (w1.alloc (.cells #[.int .i64 x] 3)) B (.slice A l c) st := World.ownsRow.alloc WD.out.s _
    have rr : IS (w1.alloc (.cells #[.int .i64 x] 3)) (w1.alloc (.cells #[.int .i64 x] 3)).heap.size (some ⟨w1.heap.size, 0, none⟩) 1 [x] := (own_oneI w1 x 0 (Nat.zero_le _)).reads
    have hl1 : st.length + 1 ≤ 1099511627776 := by have := HL.out; omega
    have hsz : B ≤ (w1.alloc (.cells #[.int .i64 x] 3)).heap.size := by simp; omega
    clear x2 x3
    go_wp2_with (at_builtin; refine wpList_appendI rfl (.tmp 18) (.tmp 20) rfl B _ st rfl ow (some ⟨w1.heap.size, 0, none⟩) 1 1 _ [x] rfl rr hl1 hsz ?_; intro v5 w5 o5 g5 s5; obtain ⟨S5, f5, z5⟩ := (WD.out.alloc _).grow o5 g5; have b5 := ((bd.alloc (by omega) (.cells #[.int .i64 x] 3)).grown g5 hsz (fun k hk => (World.ownsRow.lt ow k hk).1)).setCell (p := ⟨b, 3, none⟩) S5.lo v5; have y5 := OnlyS.append bu (.cells #[.int .i64 x] 3) g5 s5 b 3; obtain ⟨A5, c5, e5, _⟩ := o5.form; generalize (st ++ [x]).length = l5 at e5; clear o5 g5 s5; subst e5)
    exact bodyPost_end (results_none rfl _ _ _) rfl ⟨rfl, _, by rw [HP.out]; exact S5, b5, y5⟩
  · have hlt' : ¬ (l : Int) < pl := by omega
    have HP := Lib.hid (show putS pl st x = st by rw [putS, if_neg (by rw [hle]; exact hlt)])
    clear hA hlt W hle
    go_enter Try.func134, Try.ntmps134
    go_wp2_with fail
    go_quiet (fail)
    go_wp2
    exact bodyPost_end (results_none rfl _ _ _) rfl ⟨rfl, _, by rw [HP.out]; exact HW.out.up (below_drewN (Below.refl w.heap.size w) nq), below_drewN (Below.refl B w) nq, OnlyS.below (below_drewN (Below.refl w.heap.size w) nq)⟩

theorem isEmpty_any (B b V pl : Nat) (vc sv : Value) (st : List Int) (w : World) (W : MkSt w B b vc V pl sv st) :
    Calls Try.prog 128 #[.pointer (some ⟨b, 2, none⟩)] w fun e w' => e = .returned (.bool st.isEmpty) ∧ w = w' := by
  obtain ⟨A, c, rfl, hA⟩ := W.s.form
  have x3 : w.cell? ⟨b, 3, none⟩ = some (.slice A st.length c) := W.box.cell 3
  cases st with
  | nil =>
    clear hA W
    rw [List.length_nil] at x3
    go_enter Try.func128, Try.ntmps128
    go_wp2_with fail
    go_ret
    exact ⟨rfl, rfl⟩
  | cons y st =>
    obtain ⟨l, hl⟩ : ∃ l, (y :: st).length = l := ⟨_, rfl⟩
    have hl1 : ((l : Int) == 0) = false := by rw [beq_eq_false_iff_ne, ← hl, List.length_cons]; omega
    rw [hl] at x3
    clear hA W hl
    go_enter Try.func128, Try.ntmps128
    go_wp2_with fail
    go_ret
    exact ⟨rfl, rfl⟩

theorem top_any (B b V pl : Nat) (vc sv : Value) (st : List Int) (x : Int) (w : World) (W : MkSt w B b vc V pl sv (st ++ [x])) (hl : st.length ≤ 1000) :
    Calls Try.prog 129 #[.pointer (some ⟨b, 2, none⟩)] w fun e w' => e = .returned (.int .i64 x) ∧ ∃ k, w' = w.drewN k := by
  obtain ⟨A, c, rfl, hA⟩ := W.s.form
  obtain ⟨l, hle⟩ : ∃ l, st.length = l := ⟨_, rfl⟩
  have hlen : (st ++ [x]).length = l + 1 := by rw [List.length_append, List.length_singleton, hle]
  rw [hlen] at W
  obtain ⟨g, o, y, e1, hg, hy, c1⟩ := W.s.reads.at_ (k := l) (by omega)
  subst e1
  rw [List.getElem?_append_right (by omega), hle, Nat.sub_self] at hy
  obtain rfl := Option.some.inj hy
  have x3 : w.cell? ⟨b, 3, none⟩ = some (.slice (some ⟨g, o, none⟩) (l + 1) c) := W.box.cell 3
  have h2 : IntKind.i64.wrap (l : Int) = l := IntWalk.i64_in _ (by omega)
  have h3 : (l : Int) < (l : Int) + 1 := by omega
  clear hA W hy hlen hle
  go_enter Try.func129, Try.ntmps129
  go_wp2_with fail
  go_quiet (fail)
  go_wp2
  go_ret
  exact ⟨rfl, _, rfl⟩
/-- a stack without its top -/
theorem take_cut (st : List Int) (x : Int) : (st ++ [x]).take st.length = st := by simp
theorem takeTop_any (B b V pl : Nat) (vc sv : Value) (st : List Int) (x : Int) (w : World) (W : MkSt w B b vc V pl sv (st ++ [x])) (hl : st.length ≤ 1000) :
    Calls Try.prog 131 #[.pointer (some ⟨b, 2, none⟩)] w fun e w' => e = .returned (.int .i64 x) ∧ ∃ sv', MkSt w' B b vc V pl sv' st ∧ Below B w w' ∧ OnlyS w w' b sv sv' := by
  have HT := Lib.hid (top_any B b V pl vc sv st x w W hl)
  have HLE := Lib.hid hl
  have HTC := Lib.hid (take_cut st x)
  obtain ⟨A, c, rfl, hA⟩ := W.s.form
  obtain ⟨l, hle⟩ : ∃ l, st.length = l := ⟨_, rfl⟩
  have hlen : (st ++ [x]).length = l + 1 := by rw [List.length_append, List.length_singleton, hle]
  rw [hlen] at W ⊢
  have HLL := Lib.hid hle
  clear hA hle hl
  go_enter Try.func131, Try.ntmps131
  go_wp2_with fail
  refine HT.out.mono ?_
  rintro e w1 ⟨rfl, k1, rfl⟩
  have bd := below_drewN (Below.refl B w) k1
  have W1 := W.up (below_drewN (Below.refl w.heap.size w) k1)
  have Y0 : OnlyS w (w.drewN k1) b (.slice A (l + 1) c) (.slice A (l + 1) c) := OnlyS.below (below_drewN (Below.refl w.heap.size w) k1)
  generalize w.drewN k1 = w1 at bd W1 Y0 ⊢
  clear W HT
  have Y5 := Lib.hid ((Y0.trans (OnlyS.put w1 b 3 (.slice A l c) _)).same (sv2 := .slice A l c) (by cases A <;> rfl))
  have hlc := W1.s.cap.2
  have OC := Lib.hid (W1.s.cut (k := l) (by omega))
  rw [← HLL.out, HTC.out, HLL.out] at OC
  have x3 : w1.cell? ⟨b, 3, none⟩ = some (.slice A (l + 1) c) := W1.box.cell 3
  have f3 : w1.frozen? ⟨b, 3, none⟩ = false := W1.box.frozen 3
  have h2 : IntKind.i64.wrap (l : Int) = l := IntWalk.i64_in _ (by have := HLE.out; have := HLL.out; omega)
  have h3 : (l : Int) ≤ (l : Int) + 1 := by omega
  have h4 : (l : Int) ≤ c := by omega
  have S5 := Lib.hid (W1.cut OC.out)
  have B5 := Lib.hid (bd.setCell (p := ⟨b, 3, none⟩) W1.lo (.slice A l c))
  clear W1 OC hlen HTC Y0
  go_wp2_with fail
  go_region
  go_wp2
  go_ret
  exact ⟨rfl, _, S5.out.up (Below.refl _ _).drew, B5.out.drew, Y5.out.trans (OnlyS.below (Below.refl _ _).drew)⟩

theorem isUnmarked_any (B b V pl : Nat) (vc sv : Value) (st : List Int) (x : Int) (w : World) (W : MkSt w B b vc V pl sv st) (hV : V < 18446744073709551616) :
    Calls Try.prog 86 #[.pointer (some ⟨b, 0, none⟩), .int .i64 x] w fun e w' => e = .returned (.bool (x != -1 && !Hps.hasB V x)) ∧ w = w' := by
  have x1 : w.cell? ⟨b, 1, none⟩ = some (.int .u64 V) := W.box.cell 1
  by_cases hx : x = -1
  · subst hx
    go_enter Try.func86, Try.ntmps86
    go_wp2_with fail
    go_ret
    exact ⟨rfl, rfl⟩
  · have hne : (x != -1) = true := by rw [bne_iff_ne]; exact hx
    have HH := Lib.hid (has_any V x w hV)
    rw [hne, Bool.true_and]
    clear W hx
    go_enter Try.func86, Try.ntmps86
    go_wp2_with fail
    refine HH.out.mono ?_
    rintro e w1 ⟨rfl, rfl⟩
    go_wp2_with fail
    go_ret
    exact ⟨rfl, rfl⟩

theorem mark_any (B b V pl k : Nat) (vc sv : Value) (st : List Int) (w : World) (W : MkSt w B b vc V pl sv st) (hV : V < 18446744073709551616) (hk : k < 64) (hp : pl ≤ 1000) (hl : st.length ≤ 1000) (hB : B ≤ w.heap.size) :
    Calls Try.prog 127 #[.pointer (some ⟨b, 0, none⟩), .int .i64 k] w fun e w' => e = .returned (.tuple #[]) ∧ ∃ sv', MkSt w' B b vc (V ||| 2 ^ k) pl sv' (putS pl st (k : Int)) ∧ Below B w w' ∧ OnlyS w w' b sv sv' := by
  have x1 : w.cell? ⟨b, 1, none⟩ = some (.int .u64 V) := W.box.cell 1
  have f1 : w.frozen? ⟨b, 1, none⟩ = false := W.box.frozen 1
  obtain ⟨p1, p2, p3⟩ := Hps.pow_in hk
  have hor := Hps.or_in hV hk
  have hkneg : ¬ ((k : Int) < 0) := by omega
  have hk64 : (k : Int) < 64 := by omega
  have W1 := W.mark (V ||| 2 ^ k)
  have b1 := (Below.refl B w).setCell (p := ⟨b, 1, none⟩) W.lo (.int .u64 ((V ||| 2 ^ k : Nat) : Int))
  clear W
  go_enter Try.func127, Try.ntmps127
  go_wp2_with fail
  go_region
  have W2 := W1.up (Below.refl _ _).drew
  have b2 := b1.drew
  have Y2 : OnlyS w (w.setCell ⟨b, 1, none⟩ (.int .u64 ((V ||| 2 ^ k : Nat) : Int))).drew b sv sv := (OnlyS.put w b 1 _ sv).trans (OnlyS.below (Below.refl _ _).drew)
  generalize (w.setCell ⟨b, 1, none⟩ (.int .u64 ((V ||| 2 ^ k : Nat) : Int))).drew = w2 at W2 b2 Y2 ⊢
  have HP := Lib.hid (putStack_any B b (V ||| 2 ^ k) pl vc sv st (k : Int) w2 W2 (by have := b2.size; omega) hp hl)
  clear W1 W2 b1 p1 p2 p3 hor x1 f1
  go_wp2_with fail
  refine HP.out.mono ?_
  rintro e w3 ⟨rfl, sv3, W3, b3, Y3⟩
  go_wp2
  exact bodyPost_end (results_none rfl _ _ _) rfl ⟨rfl, _, W3, b2.trans b3, Y2.trans Y3⟩
end Go.Proofs.Ytmjejcfifkbkoaa
