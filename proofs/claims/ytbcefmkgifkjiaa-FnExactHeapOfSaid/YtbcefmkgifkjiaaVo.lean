/- The encoder in memory, and what the program's number does to it. No conditions. -/
import Derived.Test.YtbcefmkgifkjiaaVn
import Derived.StillTailTactics
namespace Go.Proofs.Ytbcefmkgifkjiaa
open Go.RowKit
set_option maxRecDepth 100000

/-- an encoder in a box: the order, the numbers and the view, each a row of its own -/
structure EncX (w0 wr : World) (b : Nat) (ov nv vv : Value) (l ns vs : List Int) : Prop where
  ord : OwnI wr w0.heap.size ov l
  num : OwnI wr w0.heap.size nv ns
  view : OwnI wr w0.heap.size vv vs
  on : ov.ownBlock = none ∨ ov.ownBlock ≠ nv.ownBlock
  ow : ov.ownBlock = none ∨ ov.ownBlock ≠ vv.ownBlock
  nw : nv.ownBlock = none ∨ nv.ownBlock ≠ vv.ownBlock
  box : Rw wr b 67 #[ov, nv, vv]
  low : Below w0.heap.size w0 wr
  lo : w0.heap.size ≤ b
section
variable {w0 wr w1 : World} {b n : Nat} {ov nv vv v9 : Value} {l ns vs xs : List Int}
theorem EncX.up (S : EncX w0 wr b ov nv vv l ns vs) (hb : Below wr.heap.size wr w1) : EncX w0 w1 b ov nv vv l ns vs :=
  ⟨S.ord.below hb (Nat.le_refl _), S.num.below hb (Nat.le_refl _), S.view.below hb (Nat.le_refl _), S.on, S.ow, S.nw, S.box.keep hb S.box.lt, S.low.trans (hb.mono S.low.size), S.lo⟩
theorem EncX.drew (S : EncX w0 wr b ov nv vv l ns vs) : EncX w0 wr.drew b ov nv vv l ns vs := S.up (Below.refl _ _).drew
theorem EncX.cast {l' ns' vs' : List Int} (S : EncX w0 wr b ov nv vv l ns vs) (e1 : l = l') (e2 : ns = ns') (e3 : vs = vs') : EncX w0 wr b ov nv vv l' ns' vs' := by subst e1 e2 e3; exact S
theorem own_box {v : Value} {xs : List Int} {cs : Array Value} {B : Nat} (h : OwnI wr B v xs) (hr : Rw wr b 67 cs) : some b ≠ v.ownBlock := row_type h hr (by decide)
/-- a number is written -/
theorem EncX.set {g c : Nat} (S : EncX w0 wr b ov (.slice (some ⟨g, 0, none⟩) n c) vv l ns vs) (hn : ns.length = n) (k : Nat) (x : Int) : EncX w0 (wr.setCell ⟨g, k, none⟩ (.int .i64 x)) b ov (.slice (some ⟨g, 0, none⟩) n c) vv l (ns.set k x) vs := by
  have hg : wr.grownBy (wr.setCell ⟨g, k, none⟩ (.int .i64 x)) (Value.slice (some ⟨g, 0, none⟩) n c).ownBlock := only_put (World.grownBy.refl _ _) k (.int .i64 x)
  have hlo := (World.ownsRow.lt S.num g rfl).1
  exact ⟨S.ord.far hg S.on, S.num.put' hn x, S.view.far hg (sep_back S.nw), S.on, S.ow, S.nw, Rw.far S.box hg (own_box S.num S.box), S.low.setCell (p := ⟨g, k, none⟩) hlo _, S.lo⟩
/-- the order is appended to, and the box holds the new slice -/
theorem EncX.ordNew (S : EncX w0 wr b ov nv vv l ns vs) (hg : wr.grownBy w1 ov.ownBlock) (o9 : OwnI w1 w0.heap.size v9 (l ++ xs)) (q : v9.ownBlock = ov.ownBlock ∨ v9.ownBlock = some wr.heap.size) :
    EncX w0 (w1.setCell ⟨b, 0, none⟩ v9) b v9 nv vv (l ++ xs) ns vs := by
  have hb := Rw.far S.box hg (own_box S.ord S.box)
  have hp := put_any w1 b 0 v9
  have n1 : OwnI w1 w0.heap.size nv ns := S.num.far hg (sep_back S.on)
  have v1 : OwnI w1 w0.heap.size vv vs := S.view.far hg (sep_back S.ow)
  have sep : ∀ u : Value, (∀ k, u.ownBlock = some k → k < wr.heap.size) → (ov.ownBlock = none ∨ ov.ownBlock ≠ u.ownBlock) → v9.ownBlock = none ∨ v9.ownBlock ≠ u.ownBlock := fun u hu hs => by
    rcases q with e | e
    · rw [e]; exact hs
    · right
      rw [e]
      intro e'
      have := hu _ e'.symm
      omega
  refine ⟨o9.far hp (.inr fun e => own_box o9 hb e.symm), n1.far hp (.inr fun e => own_box n1 hb e.symm), v1.far hp (.inr fun e => own_box v1 hb e.symm), sep nv (fun k hk => (World.ownsRow.lt S.num k hk).2) S.on, sep vv (fun k hk => (World.ownsRow.lt S.view k hk).2) S.ow, S.nw, hb.put 0 v9, ?_, S.lo⟩
  exact (S.low.grown hg S.low.size (fun kk hk => (World.ownsRow.lt S.ord kk hk).1)).setCell (p := ⟨b, 0, none⟩) S.lo _
/-- the view is appended to, and the box holds the new slice -/
theorem EncX.viewNew (S : EncX w0 wr b ov nv vv l ns vs) (hg : wr.grownBy w1 vv.ownBlock) (o9 : OwnI w1 w0.heap.size v9 (vs ++ xs)) (q : v9.ownBlock = vv.ownBlock ∨ v9.ownBlock = some wr.heap.size) :
    EncX w0 (w1.setCell ⟨b, 2, none⟩ v9) b ov nv v9 l ns (vs ++ xs) := by
  have hb := Rw.far S.box hg (own_box S.view S.box)
  have hp := put_any w1 b 2 v9
  have n1 : OwnI w1 w0.heap.size nv ns := S.num.far hg S.nw
  have v1 : OwnI w1 w0.heap.size ov l := S.ord.far hg S.ow
  have sep : ∀ u : Value, (∀ k, u.ownBlock = some k → k < wr.heap.size) → (u.ownBlock = none ∨ u.ownBlock ≠ vv.ownBlock) → u.ownBlock = none ∨ u.ownBlock ≠ v9.ownBlock := fun u hu hs => by
    rcases q with e | e
    · rw [e]; exact hs
    · right
      rw [e]
      intro e'
      have := hu _ e'
      omega
  refine ⟨v1.far hp (.inr fun e => own_box v1 hb e.symm), n1.far hp (.inr fun e => own_box n1 hb e.symm), o9.far hp (.inr fun e => own_box o9 hb e.symm), S.on, sep ov (fun k hk => (World.ownsRow.lt S.ord k hk).2) S.ow, sep nv (fun k hk => (World.ownsRow.lt S.num k hk).2) S.nw, hb.put 2 v9, ?_, S.lo⟩
  exact (S.low.grown hg S.low.size (fun kk hk => (World.ownsRow.lt S.view kk hk).1)).setCell (p := ⟨b, 2, none⟩) S.lo _
end

set_option maxHeartbeats 1000000 in
theorem number_any {w0 wr : World} {b n : Nat} {ov nv vv : Value} {l vs : List Int} {cs : List Cl} (S : EncX w0 wr b ov nv vv l (Hps.numsL l n) vs) (hn : n ≤ 1000) (hc : cs.length = n) (hi : Hps.InB cs l) (hd : l.Nodup) (t : Int) (ht : Hps.okRef cs t = true) :
    Calls Try.prog 99 #[.pointer (some ⟨b, 0, none⟩), .int .i64 t] wr fun e w' => e = .returned (.int .i64 (Hps.nameL (Hps.meet1 l t) t)) ∧ ∃ ov', EncX w0 w' b ov' nv vv (Hps.meet1 l t) (Hps.numsL (Hps.meet1 l t) n) vs := by
  rcases Hps.okRef_iff.1 ht with rfl | ⟨h0, hu⟩
  · have HE := Lib.hid (show Hps.nameL (Hps.meet1 l (-1)) (-1) = -1 by rw [Hps.meet1_none, Hps.nameL_none hi.neg])
    have HM := Lib.hid (Hps.meet1_none l)
    have h11 : ((-1 : Int) == -1) = true := rfl
    clear ht hi hd
    go_enter Try.func99, Try.ntmps99
    go_wp2_with fail
    go_ret
    refine ⟨by rw [HE.out]; rfl, ov, ?_⟩
    rw [HM.out]
    exact S
  · obtain ⟨k, rfl, hk, _⟩ := Hps.okRef_nat ht h0
    rw [hc] at hk
    have hne : ((k : Int) == -1) = false := by rw [beq_eq_false_iff_ne]; omega
    have hlen := Hps.numsL_len l n
    have hkn : (k : Int) < n := by omega
    have hk0 : ¬ ((k : Int) < 0) := by omega
    obtain ⟨gn, dn, rfl, hgn⟩ : ∃ g d, nv = .slice (some ⟨g, 0, none⟩) n d ∧ g < wr.heap.size := by
      obtain ⟨A, d, rfl, hA⟩ := S.num.form
      rw [hlen] at hA ⊢
      obtain ⟨g, rfl, _, h2⟩ := hA (by omega)
      exact ⟨g, d, rfl, h2⟩
    obtain ⟨g', o', x, e', _, hx, c1⟩ := S.num.reads.at_ (k := k) (by omega)
    have e' := Option.some.inj e'
    injection e' with e1 e2
    subst e1 e2
    rw [Nat.zero_add] at c1
    rw [Hps.numsL_at hk] at hx
    obtain rfl := Option.some.inj hx
    have z1 : wr.cell? ⟨b, 1, none⟩ = some (.slice (some ⟨gn, 0, none⟩) n dn) := S.box.cell 1
    by_cases hm : (k : Int) ∈ l
    · have hx1 : (Hps.nameL l (k : Int) == -1) = false := by
        rw [beq_eq_false_iff_ne]
        exact fun e => Hps.nameL_neg e hm
      have HM := Lib.hid (Hps.meet1_old hm)
      obtain ⟨x, hX⟩ : ∃ x, Hps.nameL l (k : Int) = x := ⟨_, rfl⟩
      have HX := Lib.hid hX
      rw [hX] at c1 hx1
      have SS := Lib.hid S
      clear ht hi hd hu h0 hx hm S hX
      go_enter Try.func99, Try.ntmps99
      go_wp2_with fail
      go_ret
      refine ⟨by rw [HM.out, HX.out]; rfl, ov, by rw [HM.out]; exact SS.out⟩
    · rw [Hps.nameL_none hm] at c1
      have h11 : ((-1 : Int) == -1) = true := rfl
      have HM := Lib.hid (Hps.meet1_new hm)
      obtain ⟨q, hq⟩ : ∃ q, l.length = q := ⟨_, rfl⟩
      have hqn : q ≤ n := by rw [← hq, ← hc]; exact hi.le hd
      have HS := Lib.hid (show (Hps.numsL l n).set k (q : Int) = Hps.numsL (l ++ [(k : Int)]) n by rw [← hq]; exact Hps.numsL_met hm)
      have HNA := Lib.hid (show Hps.nameL (l ++ [(k : Int)]) (k : Int) = q by rw [← hq]; exact Hps.nameL_last hm)
      have HQ := Lib.hid hq
      have HLN := Lib.hid hlen
      obtain ⟨A, d, rfl, -⟩ := S.ord.form
      rw [hq] at S
      have z0 : wr.cell? ⟨b, 0, none⟩ = some (.slice A q d) := S.box.cell 0
      have SS := Lib.hid S
      clear ht hi hd hu h0 hx hm S hq hlen
      go_enter Try.func99, Try.ntmps99
      go_upto_region 4 with fail
      go_still_tail 10, (by kernel_rfl)
      change wpList _ _ _ _ _ wr.drew
      have S4 := SS.out.drew
      generalize wr.drew = w4 at S4 ⊢
      have fz : w4.frozen? ⟨gn, k, none⟩ = false := S4.num.frozen HLN.out k
      obtain ⟨xo, cr⟩ : ∃ v, w4.cell? ⟨gn, k, none⟩ = some v := by
        obtain ⟨g', o', x, e', _, _, c1⟩ := S4.num.reads.at_ (k := k) hk
        have e' := Option.some.inj e'
        injection e' with e1 e2
        subst e1 e2
        rw [Nat.zero_add] at c1
        exact ⟨_, c1⟩
      have S5 := (S4.set HLN.out k (q : Int)).cast rfl HS.out rfl
      clear S4 SS z0 z1 c1
      go_upto_region 5 with fail
      generalize w4.setCell ⟨gn, k, none⟩ (.int .i64 (q : Int)) = w5 at S5 ⊢
      have z0 : w5.cell? ⟨b, 0, none⟩ = some (.slice A q d) := S5.box.cell 0
      have hz5 := S5.low.size
      have S6 := S5.up ((Below.refl w5.heap.size w5).alloc (Nat.le_refl _) (.cells #[.int .i64 (k : Int)] 3))
      have o1 := (own_oneI w5 (k : Int) w0.heap.size hz5).reads
      have HQ' := HQ.out
      have hz6 := S6.low.size
      have SS := Lib.hid S5
      clear S5
      have HL9 := Lib.hid (show (l ++ [(k : Int)]).length = q + 1 by rw [List.length_append, HQ']; rfl)
      clear HQ'
      go_upto_region 6 with (at_builtin; refine wpList_appendI rfl (.tmp 30) (.tmp 32) rfl w0.heap.size _ l rfl S6.ord (some ⟨w5.heap.size, 0, none⟩) 1 1 _ [(k : Int)] rfl o1 (by rw [HQ.out]; omega) hz6 ?_; intro v9 w9 o9 g9 s9; have S9 := S6.ordNew g9 o9 s9; have hb9 := Rw.far S6.box g9 (own_box S6.ord S6.box); have y0 : w9.cell? ⟨b, 0, none⟩ = some (.slice A q d) := hb9.cell 0; have yf := hb9.frozen 0; clear hb9; obtain ⟨A9, c9, e9, -⟩ := o9.form; rw [HL9.out] at e9; subst e9)
      generalize w9.setCell ⟨b, 0, none⟩ _ = wx at S9 ⊢
      have x1 : wx.cell? ⟨b, 1, none⟩ = some (.slice (some ⟨gn, 0, none⟩) n dn) := S9.box.cell 1
      obtain ⟨g', o', x, e', _, hx, c1⟩ := S9.num.reads.at_ (k := k) hk
      have e' := Option.some.inj e'
      injection e' with e1 e2
      subst e1 e2
      rw [Nat.zero_add] at c1
      rw [Hps.numsL_at hk, HNA.out] at hx
      obtain rfl := Option.some.inj hx
      have SN := Lib.hid S9
      clear S9 S6 o9 g9 s9 y0 yf o1 hx
      go_wp2_with fail
      go_ret
      refine ⟨by rw [HM.out, HNA.out]; rfl, _, by rw [HM.out]; exact SN.out⟩
end Go.Proofs.Ytbcefmkgifkjiaa
