/- What the model's l12Walk and MarkDepth do: for every heap. No conditions. -/
import Derived.Test.YtmjejcfifkbkoaaQa
import Derived.Test.YtmjejcfifkbkoaaHc
import Derived.Test.YtmjejcfifkbkoaaHf
import Derived.Test.YtmjejcfifkbkoaaHg
import Derived.Test.YtmjejcfifkbkoaaKz
import Derived.BigRegion
import Derived.StillTailTactics
namespace Go.Proofs.Ytmjejcfifkbkoaa
open Go.RowKit
set_option maxRecDepth 100000

/-- boxes with heaps stay as they are -/
def BoxKept (w w' : World) : Prop := ∀ (g : Nat) (cs : Array Value), Rw w g 28 cs → Rw w' g 28 cs
theorem BoxKept.refl (w : World) : BoxKept w w := fun _ _ h => h
theorem BoxKept.trans {w w1 w2 : World} (h : BoxKept w w1) (h' : BoxKept w1 w2) : BoxKept w w2 := fun g cs hg => h' g cs (h g cs hg)
theorem BoxKept.alloc (w : World) (o : Obj) : BoxKept w (w.alloc o) := fun _ _ h => h.alloc o
theorem BoxKept.drew (w : World) : BoxKept w w.drew := fun _ _ h => h.keep (Below.refl w.heap.size w).drew h.lt
/-- slices of flags and of numbers are two blocks -/
theorem rows_two {w : World} {b1 b2 s1 s2 n1 n2 : Nat} {e1 e2 : TypeId} {v1 v2 : Value} {xs ys : List Value} (h : w.ownsRow b1 e1 s1 v1 n1 xs) (h' : w.ownsRow b2 e2 s2 v2 n2 ys) (hne : e1 ≠ e2) : v1.ownBlock = none ∨ v1.ownBlock ≠ v2.ownBlock := by
  rcases h.2 with ⟨rfl, _⟩ | ⟨g, cap, cur, rfl, _, hh, _⟩
  · exact .inl rfl
  · right
    intro e
    rcases h'.2 with ⟨rfl, _⟩ | ⟨g', cap', cur', rfl, _, hh', _⟩
    · cases e
    · obtain rfl : g = g' := Option.some.inj e
      rw [hh] at hh'
      injection hh' with hh'
      injection hh' with _ h2
      exact hne h2

/-- the list of the cells that were met in the box o, the marks in block gm -/
structure WalkSt (w : World) (B o gm n : Nat) (lv : Value) (cs : List Cl) (outs : List Bool) (l : List Int) : Prop where
  out : Rw w o 26 #[lv]
  lst : OwnI w B lv l
  own : OwnO w B (.slice (some ⟨gm, 0, none⟩) n n) outs
  lo : B ≤ o
  len : outs.length = n
  mem : ∀ k : Nat, outs[k]? = some true ↔ (k : Int) ∈ l
  nodup : l.Nodup
  inb : Hps.InB cs l
  cells : cs.length = n
section
variable {w w' : World} {B o gm n y : Nat} {lv : Value} {cs : List Cl} {outs : List Bool} {l : List Int}
theorem WalkSt.le (W : WalkSt w B o gm n lv cs outs l) : l.length ≤ n := by
  rw [← W.cells]
  exact W.inb.le W.nodup
theorem WalkSt.up (W : WalkSt w B o gm n lv cs outs l) (h : Below w.heap.size w w') : WalkSt w' B o gm n lv cs outs l :=
  ⟨W.out.keep h W.out.lt, W.lst.below h (Nat.le_refl _), W.own.below h (Nat.le_refl _), W.lo, W.len, W.mem, W.nodup, W.inb, W.cells⟩
theorem WalkSt.ne (W : WalkSt w B o gm n lv cs outs l) : o ≠ gm ∧ some o ≠ lv.ownBlock := by
  refine ⟨fun e => ?_, row_type W.lst W.out (by decide)⟩
  have h1 : some o ≠ some gm := row_type W.own W.out (by decide)
  exact h1 (by rw [e])
theorem WalkSt.at_ (W : WalkSt w B o gm n lv cs outs l) {k : Nat} (hk : k < n) : ∃ b, outs[k]? = some b ∧ w.cell? ⟨gm, k, none⟩ = some (.bool b) := by
  obtain ⟨g', o', b, e1, _, hb, c1⟩ := W.own.reads.at_ hk
  injection e1 with e1
  injection e1 with e2 e3
  subst e2 e3
  rw [Nat.zero_add] at c1
  exact ⟨b, hb, c1⟩
/-- one more is marked, and stands at the end of the list: an append in the world w1 -/
theorem WalkSt.mark (W : WalkSt w B o gm n lv cs outs l) (hy : outs[y]? = some false) {w5 : World} {v5 : Value} {vs : Array Value} {t : TypeId} (ho : OwnI w5 B v5 (l ++ [(y : Int)]))
    (hg : ((w.setCell ⟨gm, y, none⟩ (.bool true)).alloc (.cells vs t)).grownBy w5 lv.ownBlock) :
    WalkSt (w5.setCell ⟨o, 0, none⟩ v5) B o gm n v5 cs (outs.set y true) (l ++ [(y : Int)]) ∧ w5.frozen? ⟨o, 0, none⟩ = false ∧ w5.cell? ⟨o, 0, none⟩ = some lv ∧ BoxKept w (w5.setCell ⟨o, 0, none⟩ v5) := by
  obtain ⟨n1, n2⟩ := W.ne
  obtain ⟨hyl, hye⟩ := List.getElem?_eq_some_iff.1 hy
  have hyn : (y : Int) ∉ l := fun hm => by
    have := (W.mem y).2 hm
    rw [hy] at this
    cases this
  have q1 : Rw ((w.setCell ⟨gm, y, none⟩ (.bool true)).alloc (.cells vs t)) o 26 #[lv] := (W.out.other n1 (.bool true)).alloc _
  have q2 := q1.far hg n2
  have hp := put_any w5 o 0 v5
  have m1 := World.ownsRow.alloc (W.own.put' (j := y) W.len true) (.cells vs t)
  have m2 : OwnO w5 B (.slice (some ⟨gm, 0, none⟩) n n) (outs.set y true) := World.ownsRow.kept m1 hg (rows_two W.own W.lst (by decide))
  have nv : some o ≠ v5.ownBlock := row_type ho q2 (by decide)
  refine ⟨⟨q2.put 0 _, ho.far hp (.inr nv.symm), m2.far hp (.inr fun e => n1 (Option.some.inj e).symm), W.lo, by simp [W.len], fun k => ?_, Hps.nodup_snoc W.nodup hyn, fun x hx => ?_, W.cells⟩, q2.frozen 0, q2.cell 0, fun g cs' hr => ?_⟩
  · rw [List.mem_append, List.mem_singleton, ← W.mem, List.getElem?_set]
    by_cases e : y = k
    · subst e
      simp [hyl]
    · rw [if_neg e]
      constructor
      · exact .inl
      · rintro (h1 | h1)
        · exact h1
        · omega
  · rcases List.mem_append.1 hx with h1 | h1
    · exact W.inb x h1
    · rw [List.mem_singleton] at h1
      exact ⟨y, h1, by rw [W.cells, ← W.len]; exact hyl⟩
  · have e1 : g ≠ gm := fun e => (row_type W.own hr (by decide) : some g ≠ some gm) (by rw [e]; rfl)
    have e2 : g ≠ o := rw_type hr W.out (by decide)
    exact (((hr.other e1 (.bool true)).alloc _).far hg (row_type W.lst hr (by decide))).other e2 _
end
/-- a walk from x -/
def Walked (B o gm n : Nat) (cs : List Cl) (x : Int) (l : List Int) (w : World) (e : Ending) (w' : World) : Prop :=
  e = .returned (.tuple #[]) ∧ ∃ lv' outs' l', WalkSt w' B o gm n lv' cs outs' l' ∧ Hps.Dfs cs [x] l l' ∧ Below B w w' ∧ BoxKept w w'

set_option maxHeartbeats 4000000 in
theorem l12Walk_any (B o gm n c m d : Nat) (A R : Option Addr) (h : Hp) (w0 : World) (hs : HS w0 B A n R m h) (hrf : ∀ cl ∈ h.cs, Hps.okRefs h.cs cl.r = true) (h3 : ∀ cl ∈ h.cs, cl.r.length ≤ 3) (hn : n ≤ 40) (hB : B ≤ w0.heap.size) (fuel : Nat) :
    ∀ (x : Int) (w : World) (lv : Value) (outs : List Bool) (l : List Int), n ≤ fuel + l.length → Hps.okRef h.cs x = true → WalkSt w B o gm n lv h.cs outs l → Below B w0 w →
    Calls Try.prog 88 #[heapV A n c R m d, .int .i64 x, .slice (some ⟨gm, 0, none⟩) n n, .pointer (some ⟨o, 0, none⟩)] w (Walked B o gm n h.cs x l w) := by
  have hlc := hs.cells.1
  have HRF := Lib.hid hrf
  have HC3 := Lib.hid h3
  clear hrf h3
  induction fuel with
  | zero =>
    intro x w lv outs l hf hx W bb
    have W1 := W.up ((Below.refl w.heap.size w).alloc (Nat.le_refl _) (.cells #[.slice A n c, .slice R m d] 28))
    have bn : Below B w (w.alloc (.cells #[.slice A n c, .slice R m d] 28)) := (Below.refl B w).alloc (by have := bb.size; omega) _
    have kn := BoxKept.alloc w (.cells #[.slice A n c, .slice R m d] 28)
    have hin : x < 0 ∨ x ∈ l := by
      by_cases hx0 : 0 ≤ x
      · refine .inr (Classical.not_not.1 fun hxl => ?_)
        have := (W.inb.snoc hx hx0).le (Hps.nodup_snoc W.nodup hxl)
        rw [List.length_append, List.length_singleton, hlc] at this
        omega
      · exact .inl (by omega)
    have HS1 := Lib.hid (Hps.Dfs.skip (cs := h.cs) (n := x) (l := l) (r := l) hin .nil)
    rcases hin with hx1 | hxl
    · clear hx
      go_enter Try.func88, Try.ntmps88
      go_wp2_with fail
      exact bodyPost_ret (results_none rfl _ _ _) rfl ⟨rfl, _, _, _, W1, HS1.out, bn, kn⟩
    · obtain ⟨y, rfl, hy⟩ := W.inb x hxl
      rw [hlc] at hy
      obtain ⟨b, hby, c1⟩ := W1.at_ hy
      rw [(W.mem y).2 hxl] at hby
      obtain rfl := Option.some.inj hby
      have hy' : (y : Int) < n := by omega
      have hyn0 : ¬ (y : Int) < 0 := by omega
      clear hx hby hxl
      go_enter Try.func88, Try.ntmps88
      go_wp2_with fail
      exact bodyPost_ret (results_none rfl _ _ _) rfl ⟨rfl, _, _, _, W1, HS1.out, bn, kn⟩
  | succ fuel ih =>
    intro x w lv outs l hf hx W bb
    have W1 := W.up ((Below.refl w.heap.size w).alloc (Nat.le_refl _) (.cells #[.slice A n c, .slice R m d] 28))
    have q1 := Rw.new w 28 #[.slice A n c, .slice R m d]
    have bn : Below B w (w.alloc (.cells #[.slice A n c, .slice R m d] 28)) := (Below.refl B w).alloc (by have := bb.size; omega) _
    have kn := BoxKept.alloc w (.cells #[.slice A n c, .slice R m d] 28)
    by_cases hx0 : 0 ≤ x
    · obtain ⟨y, rfl, hy, _⟩ := Hps.okRef_nat hx hx0
      rw [hlc] at hy
      obtain ⟨b, hby, c1⟩ := W1.at_ hy
      have hy' : (y : Int) < n := by omega
      have hyn0 : ¬ (y : Int) < 0 := by omega
      cases b
      · have HBY := Lib.hid hby
        have HYN := Lib.hid (show (y : Int) ∉ l from fun hm => by
          have := (W1.mem y).2 hm
          rw [hby] at this
          cases this)
        have hws := bb.size
        obtain ⟨g, oo, cl, A', q', cc, e1, hg, hcl, d1, d2, d3, hmc, hi⟩ := hs.cells.at_ (k := y) hy
        subst e1
        have HRA := Lib.hid (show Hps.refsAt h.cs (y : Int) = cl.r by rw [Hps.refsAt, Int.toNat_natCast, hcl])
        have HRL := Lib.hid hi.1
        have hq3 : q' ≤ 3 := by have := HC3.out cl (List.mem_of_getElem? hcl); have := hi.1; omega
        have HCK := Lib.hid (HRF.out cl (List.mem_of_getElem? hcl))
        clear hby hx c1 hcl d1 d2
        go_enter Try.func88, Try.ntmps88
        go_upto_region 1 with fail
        generalize w.alloc (.cells #[.slice (some ⟨g, oo, none⟩) n c, .slice R m d] 28) = w1 at W1 q1 bn kn ⊢
        generalize w.heap.size = q at q1 ⊢
        obtain ⟨b, hb2, c1⟩ := W1.at_ hy
        rw [HBY.out] at hb2
        obtain rfl := Option.some.inj hb2
        have f1 : w1.frozen? ⟨gm, y, none⟩ = false := W1.own.frozen W1.len y
        have x0 : (w1.setCell ⟨gm, y, none⟩ (.bool true)).cell? ⟨o, 0, none⟩ = some lv := (W1.out.other W1.ne.1 (.bool true)).cell 0
        have ow : OwnI ((w1.setCell ⟨gm, y, none⟩ (.bool true)).alloc (.cells #[.int .i64 y] 3)) B lv l := World.ownsRow.alloc (W1.lst.far (put_any w1 gm y (.bool true)) (rows_two W1.lst W1.own (by decide))) _
        have rr : IS ((w1.setCell ⟨gm, y, none⟩ (.bool true)).alloc (.cells #[.int .i64 y] 3)) ((w1.setCell ⟨gm, y, none⟩ (.bool true)).alloc (.cells #[.int .i64 y] 3)).heap.size (some ⟨w1.heap.size, 0, none⟩) 1 [(y : Int)] := by
          have := (own_oneI (w1.setCell ⟨gm, y, none⟩ (.bool true)) (y : Int) 0 (Nat.zero_le _)).reads
          simpa using this
        have hyl : l.length + 1 ≤ 1099511627776 := by have := W1.le; omega
        have hz1 := bn.size
        have hsz : B ≤ ((w1.setCell ⟨gm, y, none⟩ (.bool true)).alloc (.cells #[.int .i64 y] 3)).heap.size := by simp; omega
        have HQ := Lib.hid q1
        have WW := Lib.hid W1
        have HOK := Lib.hid (World.ownsRow.lt W1.own gm rfl).1
        clear hb2 q1 W1
        go_wp2_with (at_builtin; refine wpList_appendI rfl (.tmp 23) (.tmp 25) rfl B _ l rfl ow (some ⟨w1.heap.size, 0, none⟩) 1 1 _ [(y : Int)] rfl rr hyl hsz ?_; intro v5 w5 o5 g5 s5; obtain ⟨S5, f5, z5, k5⟩ := WW.out.mark HBY.out o5 g5; have b5 := (((bn.setCell (p := ⟨gm, y, none⟩) HOK.out (.bool true)).alloc (by simp; omega) (.cells #[.int .i64 y] 3)).grown g5 hsz (fun k hk => (World.ownsRow.lt ow k hk).1)).setCell (p := ⟨o, 0, none⟩) S5.lo v5; obtain ⟨A5, c5, e5, _⟩ := o5.form; generalize (l ++ [(y : Int)]).length = l5 at e5; clear o5 g5 s5; subst e5)
        have Q5 := k5 q _ HQ.out
        have K5 := kn.trans k5
        have D5 := Lib.hid (Hps.Dfs.nil (cs := h.cs) (l := l ++ [(y : Int)]))
        generalize w5.setCell ⟨o, 0, none⟩ (.slice A5 l5 c5) = w6 at S5 b5 Q5 K5 ⊢
        clear f1 x0 ow rr hsz WW f5 z5 k5 kn bn HBY c1 hyl hz1
        go_loopw [8] (fun i wr => ∃ (k : Nat) (lv : Value) (outs2 : List Bool) (l2 : List Int), k ≤ q' ∧ i = .int .i64 k ∧ WalkSt wr B o gm n lv h.cs outs2 l2 ∧ Hid (Hps.Dfs h.cs (cl.r.take k) (l ++ [(y : Int)]) l2) ∧ Below B w wr ∧ BoxKept w wr ∧ Rw wr q 28 #[.slice (some ⟨g, oo, none⟩) n c, .slice R m d]) (fun i _ => q' - (intOf i).toNat)
        case atStart => exact ⟨0, _, _, _, Nat.zero_le _, rfl, S5, Lib.hid (by rw [List.take_zero]; exact D5.out), b5, K5, Q5⟩
        case round =>
          clear S5 b5 K5 Q5 D5 HQ
          obtain ⟨k, lv2, outs2, l2, hk, rfl, S, HD, b2, k2, Q⟩ := hrel
          have z0 : wr.cell? ⟨q, 0, none⟩ = some (.slice (some ⟨g, oo, none⟩) n c) := Q.cell 0
          have z1 : wr.cell? ⟨q, 1, none⟩ = some (.slice R m d) := Q.cell 1
          have e3 := ((bb.trans b2).cell (p := ⟨g, oo + y * 3 + 2, none⟩) hg).trans d3
          by_cases hlt : k < q'
          · obtain ⟨gr, or, x, e2, hgr, hx, d0⟩ := hi.at_ hlt
            subst e2
            have e0 := ((bb.trans b2).cell (p := ⟨gr, or + k, none⟩) hgr).trans d0
            have hlt' : (k : Int) < q' := by omega
            have HT := Lib.hid (take_snocI hx)
            have HXO := Lib.hid (Hps.okRefs_at HCK.out hx)
            have hfu : n ≤ fuel + l2.length := by
              have := HD.out.pre.length_le
              rw [List.length_append, List.length_singleton] at this
              omega
            clear hx
            go_wp2
            go_still_tail 12, (by kernel_rfl)
            change wpList _ _ _ _ _ wr.drew
            have S3 := S.up (Below.refl _ wr).drew
            have b3 := b2.drew
            have k3 := k2.trans (BoxKept.drew wr)
            have Q3 := Q.keep (Below.refl _ wr).drew Q.lt
            have HC := Lib.hid (ih x wr.drew lv2 outs2 l2 hfu HXO.out S3 (bb.trans b3))
            clear S3 S z0 z1 e3 e0 Q b2 k2
            generalize wr.drew = w3 at b3 k3 Q3 HC ⊢
            go_wp2_with fail
            refine HC.out.mono ?_
            rintro e w4 ⟨rfl, lv4, outs4, l4, S4, D4, b4, k4⟩
            have HN := Lib.hid (HD.out.append D4)
            rw [← HT.out] at HN
            have b5 := b3.trans b4
            have k5 := k3.trans k4
            have Q5 := k4 q _ Q3
            clear HC b4 k4 b3 k3 Q3 D4
            go_wp2
            go_roundw
            case rel => exact ⟨k + 1, _, _, _, by omega, by go_num, S4, HN, b5, k5, Q5⟩
            case measure => simp [intOf]; omega
          · obtain rfl : k = q' := by omega
            rw [List.take_of_length_le (by rw [HRL.out]; omega)] at HD
            have HF := Lib.hid (Hps.Dfs.go (cs := h.cs) (n := (y : Int)) (p := []) (l := l) (r := l2) (by omega) HYN.out (by rw [HRA.out, List.append_nil]; exact HD.out))
            go_wp2
            exact bodyPost_end (results_none rfl _ _ _) rfl ⟨rfl, _, _, _, S, HF.out, b2, k2⟩
      · have HS1 := Lib.hid (Hps.Dfs.skip (cs := h.cs) (r := l) (.inr ((W1.mem y).1 hby)) (.nil (l := l)))
        clear hby hx
        go_enter Try.func88, Try.ntmps88
        go_wp2_with fail
        exact bodyPost_ret (results_none rfl _ _ _) rfl ⟨rfl, _, _, _, W1, HS1.out, bn, kn⟩
    · have HS1 := Lib.hid (Hps.Dfs.skip (cs := h.cs) (n := x) (l := l) (r := l) (.inl (by omega)) .nil)
      have hx1 : x < 0 := by omega
      clear hx hx0
      go_enter Try.func88, Try.ntmps88
      go_wp2_with fail
      exact bodyPost_ret (results_none rfl _ _ _) rfl ⟨rfl, _, _, _, W1, HS1.out, bn, kn⟩
set_option maxHeartbeats 2000000 in
theorem mMarkDepth_any (A R : Option Addr) (n c m d : Nat) (h : Hp) (w : World) (hs : HS w w.heap.size A n R m h) (hn : n ≤ 1099511627776) (hm : m ≤ 1099511627776) :
    Calls Try.prog 36 #[heapV A n c R m d] w (GaveI w (Hps.depthH h)) := by
  have hlc := hs.cells.1
  have hlr := hs.roots.1
  have b3 : Below w.heap.size w (((w.alloc (.cells #[.slice A n c, .slice R m d] 28)).alloc (.cells #[] 3)).alloc (.cells #[.slice (some ⟨w.heap.size + 1, 0, none⟩) 0 0] 26)) := (((Below.refl _ _).alloc (Nat.le_refl _) _).alloc (by simp) _).alloc (by simp; omega) _
  have q1 := ((Rw.new w 28 #[.slice A n c, .slice R m d]).alloc (.cells #[] 3)).alloc (.cells #[.slice (some ⟨w.heap.size + 1, 0, none⟩) 0 0] 26)
  have q2 := Rw.new ((w.alloc (.cells #[.slice A n c, .slice R m d] 28)).alloc (.cells #[] 3)) 26 #[.slice (some ⟨w.heap.size + 1, 0, none⟩) 0 0]
  have o1 : OwnI (((w.alloc (.cells #[.slice A n c, .slice R m d] 28)).alloc (.cells #[] 3)).alloc (.cells #[.slice (some ⟨w.heap.size + 1, 0, none⟩) 0 0] 26)) (w.heap.size + 1) (.slice (some ⟨w.heap.size + 1, 0, none⟩) 0 0) [] := by
    have := own_noneI (w.alloc (.cells #[.slice A n c, .slice R m d] 28)) (w.heap.size + 1) (by simp)
    rw [World.size_alloc] at this
    exact World.ownsRow.alloc this _
  have z3 : (((w.alloc (.cells #[.slice A n c, .slice R m d] 28)).alloc (.cells #[] 3)).alloc (.cells #[.slice (some ⟨w.heap.size + 1, 0, none⟩) 0 0] 26)).heap.size = w.heap.size + 1 + 1 + 1 := by simp
  rw [World.size_alloc, World.size_alloc] at q2
  have hs3 := hs.up b3
  have hsB := (hs.below b3).more (B' := w.heap.size + 1) (by omega)
  go_enter Try.func36, Try.ntmps36
  go_upto_region 2 with fail
  generalize ((w.alloc (.cells #[.slice A n c, .slice R m d] 28)).alloc (.cells #[] 3)).alloc (.cells #[.slice (some ⟨w.heap.size + 1, 0, none⟩) 0 0] 26) = w3 at b3 q1 q2 o1 z3 hs3 hsB ⊢
  obtain ⟨q, hq⟩ : ∃ q, w.heap.size = q := ⟨_, rfl⟩
  have HQ := Lib.hid hq
  rw [hq] at q1 q2 o1 z3 hsB b3 ⊢
  have HZ3 := Lib.hid z3
  clear z3 hq
  have x0 : w3.cell? ⟨q, 0, none⟩ = some (.slice A n c) := q1.cell 0
  have x1 : w3.cell? ⟨q, 1, none⟩ = some (.slice R m d) := q1.cell 1
  have HHV := Lib.hid (mHeapValid_any A R n c m d h w3 hs3 hn hm)
  clear hs3
  go_wp2_with fail
  refine HHV.out.mono ?_
  cases hv : Hps.validH h
  · have HD := Lib.hid (Hps.depth_not hv)
    clear hv
    rintro e w4 ⟨rfl, b4⟩
    have y0 : w4.cell? ⟨q + 1 + 1, 0, none⟩ = some (.slice (some ⟨q + 1, 0, none⟩) 0 0) := (q2.keep b4 q2.lt).cell 0
    go_wp2_with fail
    go_ret
    refine ⟨_, rfl, ?_, ?_⟩
    · rw [HD.out, HQ.out]
      exact (o1.below b4 (Nat.le_refl _)).base (by omega)
    · rw [HQ.out]
      exact b3.trans (b4.mono (by have := HZ3.out; omega))
  · have HD := Lib.hid (fun (r : List Int) (hr : Hps.Dfs h.cs h.rt [] r) => Hps.depth_eq hv hr)
    obtain ⟨s1, s2, s3⟩ := Hps.valid_small hv
    have HRF := Lib.hid (Hps.valid_refs hv)
    have HRO := Lib.hid (Hps.valid_iff.1 hv).2.2.2
    have HS3 := Lib.hid s3
    rw [hlc] at s1
    clear hv s3 s2
    rintro e w4 ⟨rfl, b4⟩
    have q3 := q1.keep b4 q1.lt
    have y0 : w4.cell? ⟨q, 0, none⟩ = some (.slice A n c) := q3.cell 0
    have y1 : w4.cell? ⟨q, 1, none⟩ = some (.slice R m d) := q3.cell 1
    have hmk := makeO w4 n (by omega)
    have b5 := (Below.refl w4.heap.size w4).alloc (Nat.le_refl _) (.cells (Array.replicate n (.bool false)) 4)
    have o5 := own_madeO w4 n (by omega)
    have z4 := b4.size
    have HB := Lib.hid ((b3.trans (b4.mono (by have := HZ3.out; omega))).trans (b5.mono (by have := HZ3.out; omega)))
    have S5 : WalkSt (w4.alloc (.cells (Array.replicate n (.bool false)) 4)) (q + 1) (q + 1 + 1) w4.heap.size n (.slice (some ⟨q + 1, 0, none⟩) 0 0) h.cs (List.replicate n false) [] := by
      refine ⟨(q2.keep b4 q2.lt).alloc _, World.ownsRow.alloc (o1.below b4 (Nat.le_refl _)) _, o5.base (by have := HZ3.out; omega), by omega, by simp, fun k => by simp [List.getElem?_replicate], by simp, fun x hx => by simp at hx, hlc⟩
    have Q5 := q3.alloc (.cells (Array.replicate n (.bool false)) 4)
    have hs5 := (hsB.below (b4.mono (by have := HZ3.out; omega))).below (b5.mono (by have := HZ3.out; omega))
    have h5 : q + 1 ≤ (w4.alloc (.cells (Array.replicate n (.bool false)) 4)).heap.size := by have := HZ3.out; simp; omega
    obtain ⟨w5, hw5⟩ : ∃ w5, w4.alloc (.cells (Array.replicate n (.bool false)) 4) = w5 := ⟨_, rfl⟩
    rw [hw5] at S5 Q5 hs5 HB hmk h5
    clear hw5 b5 o5 q3 o1 q2 q1 x0 x1 HHV hsB b3 b4 z4
    go_wp2_with fail
    clear hmk y0 y1
    generalize w4.heap.size = gm at S5 ⊢
    go_loopw [5] (fun i wr => ∃ (k : Nat) (lv : Value) (outs : List Bool) (l : List Int), k ≤ m ∧ i = .int .i64 k ∧ WalkSt wr (q + 1) (q + 1 + 1) gm n lv h.cs outs l ∧ Hid (Hps.Dfs h.cs (h.rt.take k) [] l) ∧ Below (q + 1) w5 wr) (fun i _ => m - (intOf i).toNat)
    case atStart => exact ⟨0, _, _, _, Nat.zero_le _, rfl, S5, Lib.hid (by rw [List.take_zero]; exact .nil), Below.refl _ _⟩
    case round =>
      clear S5
      obtain ⟨k, lv, outs, l, hk, rfl, S, HDF, bb⟩ := hrel
      have Q := Q5.keep bb (by omega)
      have y0 : wr.cell? ⟨q, 0, none⟩ = some (.slice A n c) := Q.cell 0
      have y1 : wr.cell? ⟨q, 1, none⟩ = some (.slice R m d) := Q.cell 1
      by_cases hlt : k < m
      · obtain ⟨gr, or, x, e2, hgr, hx, d0⟩ := hs5.roots.at_ hlt
        subst e2
        have e0 := (bb.cell (p := ⟨gr, or + k, none⟩) hgr).trans d0
        have hlt' : (k : Int) < m := by omega
        have HT := Lib.hid (take_snocI hx)
        have hok := Hps.okRefs_at HRO.out hx
        have HC := Lib.hid (l12Walk_any (q + 1) (q + 1 + 1) gm n c m d A _ h w5 hs5 HRF.out HS3.out s1 h5 n x wr.drew lv outs l (by omega) hok (S.up (Below.refl _ wr).drew) bb.drew)
        clear hx hok
        go_wp2
        go_still_tail 7, (by kernel_rfl)
        change wpList _ _ _ _ _ wr.drew
        have b3 := bb.drew
        clear y0 y1 e0 S Q bb
        generalize wr.drew = w6 at b3 HC ⊢
        go_wp2_with fail
        refine HC.out.mono ?_
        rintro e w7 ⟨rfl, lv4, outs4, l4, S4, D4, b7, k4⟩
        have HN := Lib.hid (HDF.out.append D4)
        rw [← HT.out] at HN
        have b8 := b3.trans b7
        clear HC b7 k4 b3 D4
        go_wp2
        go_roundw
        case rel => exact ⟨k + 1, _, _, _, by omega, by go_num, S4, HN, b8⟩
        case measure => simp [intOf]; omega
      · obtain rfl : k = m := by omega
        rw [List.take_of_length_le (by omega)] at HDF
        have y3 : wr.cell? ⟨q + 1 + 1, 0, none⟩ = some lv := S.out.cell 0
        have HE := Lib.hid (HD.out l HDF.out)
        go_wp2
        go_ret
        refine ⟨_, rfl, ?_, ?_⟩
        · rw [HE.out, HQ.out]
          exact S.lst.base (by omega)
        · rw [HQ.out]
          exact HB.out.trans (bb.mono (by omega))
end Go.Proofs.Ytmjejcfifkbkoaa
