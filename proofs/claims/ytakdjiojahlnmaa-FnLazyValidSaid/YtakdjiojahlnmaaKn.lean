/- What l20Heap draws: a heap of the call's own, valid if nothing may be invalid. No conditions. -/
import Derived.Test.YtakdjiojahlnmaaKl
import Derived.Test.YtakdjiojahlnmaaGf
import Derived.Deep.DeepMust
namespace Go.Proofs.Ytakdjiojahlnmaa
open Go.RowKit
set_option maxRecDepth 100000

/-- a heap whose blocks from lo on may be read in every later world that has left them alone -/
def HF (w : World) (lo : Nat) (A : Option Addr) (n : Nat) (R : Option Addr) (m : Nat) (h : Hp) : Prop :=
  ∀ w', w.heap.size ≤ w'.heap.size → (∀ j, lo ≤ j → j < w.heap.size → w'.heap[j]? = w.heap[j]?) → HS w' w'.heap.size A n R m h
theorem row_same {w w' : World} {base lo n : Nat} {e : TypeId} {s : Nat} {v : Value} {xs : List Value} (h : w.ownsRow base e s v n xs) (hl : lo ≤ base) (hb : ∀ j, lo ≤ j → j < w.heap.size → w'.heap[j]? = w.heap[j]?) : w'.ownsRow base e s v n xs := by
  refine ⟨h.1, ?_⟩
  rcases h.2 with h0 | ⟨g, cap, cur, e, hb', hh, hr⟩
  · exact .inl h0
  · exact .inr ⟨g, cap, cur, e, hb', (hb g (by omega) (Array.getElem?_eq_some_iff.1 hh).1).trans hh, hr⟩
theorem OwnHx.same {w w' : World} {base lo : Nat} {vc vr : Value} {rvs : List Value} {h : Hp} (o : OwnHx w base vc vr rvs h) (hl : lo ≤ base) (hb : ∀ j, lo ≤ j → j < w.heap.size → w'.heap[j]? = w.heap[j]?) : OwnHx w' base vc vr rvs h :=
  ⟨o.len, row_same o.row hl hb, fun k c v hc hv => row_same (o.refs k c v hc hv) hl hb, row_same o.roots hl hb, o.sep⟩
theorem OwnHx.hf {w : World} {base lo n c m d : Nat} {A R : Option Addr} {rvs : List Value} {h : Hp} (o : OwnHx w base (.slice A n c) (.slice R m d) rvs h) (hl : lo ≤ base) : HF w lo A n R m h := fun _ _ hb => (o.same hl hb).reads
theorem OwnHx.caps {w : World} {base n c m d : Nat} {A R : Option Addr} {rvs : List Value} {h : Hp} (o : OwnHx w base (.slice A n c) (.slice R m d) rvs h) : n = h.cs.length ∧ m = h.rt.length ∧ n ≤ c ∧ m ≤ d := by
  obtain ⟨A', c', R', d', e1, e2, h1, h2, _⟩ := o.form
  injection e1 with e1 e3 e4
  injection e2 with e5 e6 e7
  subst e3 e4 e6 e7
  exact ⟨rfl, rfl, h1, h2⟩
theorem OwnHx.rootAddr {w : World} {base m d : Nat} {vc : Value} {R : Option Addr} {rvs : List Value} {h : Hp} (o : OwnHx w base vc (.slice R m d) rvs h) (hm : 0 < m) : ∃ g, R = some ⟨g, 0, none⟩ ∧ base ≤ g ∧ g < w.heap.size := by
  obtain ⟨A', c', R', d', e1, e2, h1, h2, _, fR⟩ := o.form
  injection e2 with e5 e6 e7
  subst e5 e6 e7
  exact fR hm
theorem IS.drop1 {w : World} {B m : Nat} {g : Nat} {xs : List Int} (h : IS w B (some ⟨g, 0, none⟩) (m + 1) xs) : IS w B (some ⟨g, 1, none⟩) m (xs.drop 1) := by
  refine ⟨by rw [List.length_drop, h.1]; omega, fun h0 => ?_⟩
  obtain ⟨g', o', e, hb, hc⟩ := h.2 (by omega)
  injection e with e
  injection e with e1 e2
  subst e1 e2
  refine ⟨g, 1, rfl, hb, fun k x hx => ?_⟩
  rw [List.getElem?_drop] at hx
  have := hc (1 + k) x hx
  rwa [Nat.zero_add] at this
theorem HF.more {w : World} {lo lo' n m : Nat} {A R : Option Addr} {h : Hp} (H : HF w lo A n R m h) (hl : lo' ≤ lo) : HF w lo' A n R m h := fun w' hs hb => H w' hs fun j hj hk => hb j (by omega) hk
theorem HF.reads {w : World} {lo n m : Nat} {A R : Option Addr} {h : Hp} (H : HF w lo A n R m h) : HS w w.heap.size A n R m h := H w (Nat.le_refl _) fun _ _ _ => rfl
theorem HF.below {w w' : World} {lo n m B : Nat} {A R : Option Addr} {h : Hp} (H : HF w lo A n R m h) (hb : Below B w w') (hB : w.heap.size ≤ B) : HF w' lo A n R m h := fun w'' hs hh =>
  H w'' (Nat.le_trans hb.size hs) fun j hj hk => (hh j hj (Nat.lt_of_lt_of_le hk hb.size)).trans (hb.block j (by omega))
theorem HF.far {w w' : World} {lo n m gr : Nat} {A R : Option Addr} {h : Hp} (H : HF w lo A n R m h) (hg : w.grownBy w' (some gr)) (hl : gr < lo) : HF w' lo A n R m h := fun w'' hs hh =>
  H w'' (Nat.le_trans hg.size hs) fun j hj hk => (hh j hj (Nat.lt_of_lt_of_le hk hg.size)).trans (hg.block j hk (fun e => by injection e with e; omega))

/-- a heap that is drawn is small -/
def SmallH (h : Hp) : Prop := h.cs.length ≤ 41 ∧ h.rt.length ≤ 4 ∧ (∀ c ∈ h.cs, c.r.length ≤ 3 ∧ (-1 ≤ c.d ∧ c.d ≤ 100) ∧ ∀ x ∈ c.r, -2 ≤ x ∧ x ≤ 100) ∧ ∀ x ∈ h.rt, -2 ≤ x ∧ x ≤ 100
theorem small_valid {h : Hp} (hv : Hps.validH h = true) : SmallH h := by
  obtain ⟨h1, h2, h3, h4⟩ := Hps.valid_iff.1 hv
  refine ⟨by omega, by omega, fun c hc => ?_, fun x hx => ?_⟩
  · have ok := Hps.okCell_iff.1 (h1 c hc)
    refine ⟨ok.2.2.1, ⟨by omega, by omega⟩, fun x hx => ?_⟩
    have := Hps.okRef_lo (Hps.okRefs_iff.1 ok.2.2.2 x hx)
    omega
  · have := Hps.okRef_lo (Hps.okRefs_iff.1 h4 x hx)
    omega
theorem SmallH.snoc {h : Hp} {cl : Cl} (hs : SmallH h) (hn : h.cs.length ≤ 40) (h1 : cl.r.length ≤ 3) (h2 : -1 ≤ cl.d ∧ cl.d ≤ 100) (h3 : ∀ x ∈ cl.r, -2 ≤ x ∧ x ≤ 100) : SmallH ⟨h.cs ++ [cl], h.rt⟩ := by
  obtain ⟨_, s2, s3, s4⟩ := hs
  refine ⟨by simp; omega, s2, fun c hc => ?_, s4⟩
  rcases List.mem_append.1 hc with hc | hc
  · exact s3 c hc
  · rw [List.mem_singleton] at hc
    subst hc
    exact ⟨h1, h2, h3⟩
theorem SmallH.setRoot {h : Hp} {i : Nat} {x : Int} (hs : SmallH h) (hx : -2 ≤ x ∧ x ≤ 100) : SmallH ⟨h.cs, h.rt.set i x⟩ := by
  obtain ⟨s1, s2, s3, s4⟩ := hs
  refine ⟨s1, by simpa using s2, s3, fun y hy => ?_⟩
  rcases List.mem_or_eq_of_mem_set hy with hy | rfl
  · exact s4 y hy
  · exact hx
theorem SmallH.drop1 {h : Hp} (hs : SmallH h) : SmallH ⟨h.cs, h.rt.drop 1⟩ := by
  obtain ⟨s1, s2, s3, s4⟩ := hs
  exact ⟨s1, by simp; omega, s3, fun y hy => s4 y (List.mem_of_mem_drop hy)⟩
theorem Hps.mutate_valid {h : Hp} (hv : Hps.validH h = true) {k j t : Nat} {c c' : Cl} (hc : h.cs[k]? = some c) (hu : c.u = true) (hc' : h.cs[t]? = some c') (hu' : c'.u = true) : Hps.validH ⟨h.cs.set k ⟨c.u, c.d, c.r.set j (t : Int)⟩, h.rt⟩ = true := by
  have ok := Hps.okCell_iff.1 (Hps.valid_cell hv hc)
  have hm := Hps.used_set (c' := ⟨c.u, c.d, c.r.set j (t : Int)⟩) hc (fun h => h)
  refine Hps.set_cell_valid hv hc (fun h => h) (Hps.okCell_iff.2 ⟨.inl hu, ok.2.1, by simpa using ok.2.2.1, Hps.okRefs_mono hm (Hps.okRefs_set ok.2.2.2 ?_)⟩)
  exact Hps.okRef_iff.2 (.inr ⟨by omega, Hps.usedAt_iff.2 ⟨c', by simpa using hc', hu'⟩⟩)
/-- a heap has been drawn -/
def DrewH (w : World) (gr N : Nat) (n : Int) (e : Ending) (w' : World) : Prop :=
  ∃ (A : Option Addr) (nn c : Nat) (R : Option Addr) (m d : Nat) (h : Hp), e = .returned (heapV A nn c R m d) ∧ nn ≤ c ∧ m ≤ d ∧ HF w' w.heap.size A nn R m h ∧ (n = 0 → Hps.validH h = true) ∧ SmallH h ∧ Rd w' gr (N + 700) ∧ w.grownBy w' (some gr)

/-- while a heap is drawn: the heap in the box b, the reader in gr -/
structure HpSt (w wr : World) (gr N b : Nat) (vc vr : Value) (rvs : List Value) (h : Hp) : Prop where
  own : OwnHx wr (w.heap.size + 1) vc vr rvs h
  apart : Apart (some b) (vc :: vr :: rvs)
  box : Rw wr b 26 #[vc, vr]
  res : Rw wr w.heap.size 26 #[.slice none 0 0, .slice none 0 0]
  rd : Rd wr gr N
  grown : w.grownBy wr (some gr)
  lo : w.heap.size + 1 ≤ b
  old : gr < w.heap.size
section
variable {w wr w1 : World} {gr N b g c d i k : Nat} {vc vr : Value} {rvs : List Value} {h : Hp} {cl : Cl}
theorem HpSt.pick {N' : Nat} (S : HpSt w wr gr N b vc vr rvs h) (hr : Rd w1 gr N') (hg : wr.grownBy w1 (some gr)) : HpSt w w1 gr N' b vc vr rvs h := by
  have h1 := S.lo
  have h2 := S.old
  exact ⟨S.own.far hg (S.own.apart_below (by omega)), S.apart, S.box.far hg (fun e => by injection e with e; omega), S.res.far hg (fun e => by injection e with e; omega), hr, World.grownBy.trans S.grown hg, h1, h2⟩
theorem HpSt.more {N' : Nat} (S : HpSt w wr gr N b vc vr rvs h) (hN : N ≤ N') : HpSt w wr gr N' b vc vr rvs h := ⟨S.own, S.apart, S.box, S.res, S.rd.more hN, S.grown, S.lo, S.old⟩
theorem HpSt.up (S : HpSt w wr gr N b vc vr rvs h) (hw : Below wr.heap.size wr w1) : HpSt w w1 gr N b vc vr rvs h :=
  ⟨S.own.below hw (Nat.le_refl _), S.apart, S.box.keep hw S.box.lt, S.res.keep hw S.res.lt, S.rd.below hw S.rd.lt, grown_below S.grown (hw.mono S.grown.size), S.lo, S.old⟩
theorem HpSt.alloc (S : HpSt w wr gr N b vc vr rvs h) (o : Obj) : HpSt w (wr.alloc o) gr N b vc vr rvs h := S.up ((Below.refl _ _).alloc (Nat.le_refl _) _)
theorem HpSt.into (S : HpSt w wr gr N b vc vr rvs h) {v : Value} (hv : v ∈ vc :: vr :: rvs) (hg : v.ownBlock = some g) {rvs' : List Value} {h' : Hp} (u : Value)
    (ho : OwnHx (wr.setCell ⟨g, i, none⟩ u) (w.heap.size + 1) vc vr rvs' h') (ha : ∀ v ∈ rvs', v.ownBlock = none ∨ v.ownBlock ≠ some b) : HpSt w (wr.setCell ⟨g, i, none⟩ u) gr N b vc vr rvs' h' := by
  have h1 := S.own.blocks hv hg
  have h3 := S.old
  have h2 : b ≠ g := by
    rcases S.apart v hv with e | e
    · rw [hg] at e; cases e
    · intro e'; rw [hg] at e; exact e (by rw [e'])
  have hb : Below g wr (wr.setCell ⟨g, i, none⟩ u) := (Below.refl g wr).setCell (p := ⟨g, i, none⟩) (Nat.le_refl _) u
  refine ⟨ho, ?_, S.box.other h2 u, S.res.other (by omega) u, S.rd.below hb (by omega), grown_below S.grown (hb.mono (by omega)), S.lo, h3⟩
  intro x hx
  simp only [List.mem_cons] at hx
  rcases hx with rfl | rfl | hx
  · exact S.apart x (by simp)
  · exact S.apart x (by simp)
  · exact ha x hx
theorem HpSt.root {m : Nat} (S : HpSt w wr gr N b vc (.slice (some ⟨g, 0, none⟩) m d) rvs h) (hm : h.rt.length = m) (x : Int) : HpSt w (wr.setCell ⟨g, i, none⟩ (.int .i64 x)) gr N b vc (.slice (some ⟨g, 0, none⟩) m d) rvs ⟨h.cs, h.rt.set i x⟩ := by
  subst hm
  exact S.into (v := .slice (some ⟨g, 0, none⟩) h.rt.length d) (by simp) rfl _ (S.own.root x) fun v hv => S.apart v (by simp [hv])
theorem HpSt.ref1 {m : Nat} (S : HpSt w wr gr N b vc vr rvs h) (hc : h.cs[k]? = some cl) (hv : rvs[k]? = some (.slice (some ⟨g, 0, none⟩) m d)) (hm : cl.r.length = m) (x : Int) : HpSt w (wr.setCell ⟨g, i, none⟩ (.int .i64 x)) gr N b vc vr rvs ⟨h.cs.set k ⟨cl.u, cl.d, cl.r.set i x⟩, h.rt⟩ := by
  subst hm
  exact S.into (v := .slice (some ⟨g, 0, none⟩) cl.r.length d) (by simp [List.mem_of_getElem? hv]) rfl _ (S.own.ref1 hc hv x) fun v hv => S.apart v (by simp [hv])
theorem HpSt.snoc {v9 v8 : Value} (S : HpSt w wr gr N b vc vr rvs h) (hG : wr.grownBy w1 vc.ownBlock)
    (o9 : w1.ownsRow (w.heap.size + 1) 45 3 v9 (h.cs.length + 1) (flatC h.cs rvs ++ [.bool cl.u, .int .i64 cl.d, v8])) (q : v9.ownBlock = vc.ownBlock ∨ v9.ownBlock = some wr.heap.size)
    (o8 : OwnI wr (w.heap.size + 1) v8 cl.r) (hap : ∀ v ∈ vc :: vr :: rvs, v8.ownBlock = none ∨ v8.ownBlock ≠ v.ownBlock) (h8b : v8.ownBlock ≠ some b) :
    HpSt w (w1.setCell ⟨b, 0, none⟩ v9) gr N b v9 vr (rvs ++ [v8]) ⟨h.cs ++ [cl], h.rt⟩ := by
  have hn := S.own.snoc hG o9 q o8 hap
  have hlo := S.lo
  have hbl := S.box.lt
  have hold := S.old
  have hvcb : some b ≠ vc.ownBlock := by
    rcases S.apart vc (by simp) with e | e
    · rw [e]; simp
    · exact fun h => e h.symm
  have ap : Apart (some b) (v9 :: vr :: (rvs ++ [v8])) := by
    intro v hv
    simp only [List.mem_cons, List.mem_append, List.not_mem_nil, or_false] at hv
    rcases hv with rfl | rfl | hv | rfl
    · right
      rcases q with e | e
      · rw [e]; exact fun h => hvcb h.symm
      · rw [e]; intro e'; injection e' with e'; omega
    · exact S.apart v (by simp)
    · exact S.apart v (by simp [hv])
    · exact .inr h8b
  have hB1 : Below (w.heap.size + 1) wr w1 := (Below.refl _ _).grown hG (by omega) (fun kk hk => (S.own.blocks (v := vc) (by simp) hk).1)
  have hB : Below (w.heap.size + 1) wr (w1.setCell ⟨b, 0, none⟩ v9) := hB1.setCell (p := ⟨b, 0, none⟩) hlo v9
  exact ⟨hn.far (put_any w1 b 0 v9) ap, ap, (Rw.far S.box hG hvcb).put 0 v9, S.res.keep hB (by omega), S.rd.below hB (by omega), grown_below S.grown (hB.mono (by omega)), hlo, hold⟩
/-- the end: the result's box is written -/
theorem HpSt.fin {n m : Nat} {A R : Option Addr} (S : HpSt w wr gr N b (.slice A n c) (.slice R m d) rvs h) (u u' : Value) :
    HF ((wr.setCell ⟨w.heap.size, 0, none⟩ u).setCell ⟨w.heap.size, 1, none⟩ u') w.heap.size A n R m h ∧ Rd ((wr.setCell ⟨w.heap.size, 0, none⟩ u).setCell ⟨w.heap.size, 1, none⟩ u') gr N ∧ w.grownBy ((wr.setCell ⟨w.heap.size, 0, none⟩ u).setCell ⟨w.heap.size, 1, none⟩ u') (some gr) := by
  have ap : Apart (some w.heap.size) (.slice A n c :: .slice R m d :: rvs) := S.own.apart_below (by omega)
  have hB : Below w.heap.size wr ((wr.setCell ⟨w.heap.size, 0, none⟩ u).setCell ⟨w.heap.size, 1, none⟩ u') := ((Below.refl w.heap.size wr).setCell (p := ⟨w.heap.size, 0, none⟩) (Nat.le_refl _) u).setCell (p := ⟨w.heap.size, 1, none⟩) (Nat.le_refl _) u'
  exact ⟨((S.own.far (put_any wr _ 0 u) ap).far (put_any _ _ 1 u') ap).hf (by omega), S.rd.below hB S.old, grown_below S.grown hB⟩
theorem HpSt.boxed (S : HpSt w wr gr N b vc vr rvs h) (u : Value) : OwnHx (wr.setCell ⟨b, 1, none⟩ u) (w.heap.size + 1) vc vr rvs h ∧ Rw (wr.setCell ⟨b, 1, none⟩ u) b 26 #[vc, u] ∧ Rw (wr.setCell ⟨b, 1, none⟩ u) w.heap.size 26 #[.slice none 0 0, .slice none 0 0] ∧ Rd (wr.setCell ⟨b, 1, none⟩ u) gr N ∧ w.grownBy (wr.setCell ⟨b, 1, none⟩ u) (some gr) := by
  have h1 := S.lo
  have h2 := S.old
  have hB : Below b wr (wr.setCell ⟨b, 1, none⟩ u) := (Below.refl b wr).setCell (p := ⟨b, 1, none⟩) (Nat.le_refl _) u
  exact ⟨S.own.far (put_any wr b 1 u) S.apart, S.box.put 1 u, S.res.keep hB (by omega), S.rd.below hB (by omega), grown_below S.grown (hB.mono (by omega))⟩
theorem fin_cut {n m : Nat} {A : Option Addr} (hold : gr < w.heap.size) (o : OwnHx wr (w.heap.size + 1) (.slice A n c) (.slice (some ⟨g, 0, none⟩) (m + 1) d) rvs h) (rd : Rd wr gr N) (gb : w.grownBy wr (some gr)) (u u' : Value) :
    HF ((wr.setCell ⟨w.heap.size, 0, none⟩ u).setCell ⟨w.heap.size, 1, none⟩ u') w.heap.size A n (some ⟨g, 1, none⟩) m ⟨h.cs, h.rt.drop 1⟩ ∧ Rd ((wr.setCell ⟨w.heap.size, 0, none⟩ u).setCell ⟨w.heap.size, 1, none⟩ u') gr N ∧ w.grownBy ((wr.setCell ⟨w.heap.size, 0, none⟩ u).setCell ⟨w.heap.size, 1, none⟩ u') (some gr) := by
  have ap : Apart (some w.heap.size) (.slice A n c :: .slice (some ⟨g, 0, none⟩) (m + 1) d :: rvs) := o.apart_below (by omega)
  have hB : Below w.heap.size wr ((wr.setCell ⟨w.heap.size, 0, none⟩ u).setCell ⟨w.heap.size, 1, none⟩ u') := ((Below.refl w.heap.size wr).setCell (p := ⟨w.heap.size, 0, none⟩) (Nat.le_refl _) u).setCell (p := ⟨w.heap.size, 1, none⟩) (Nat.le_refl _) u'
  have H := ((o.far (put_any wr _ 0 u) ap).far (put_any _ _ 1 u') ap).hf (lo := w.heap.size) (by omega)
  exact ⟨fun w' hs hb => ⟨(H w' hs hb).cells, (H w' hs hb).roots.drop1⟩, rd.below hB hold, grown_below gb hB⟩
/-- a new heap in the box -/
theorem HpSt.next {w5 : World} {vc' vr' : Value} {h' : Hp} (S : HpSt w wr gr N b vc vr rvs h) (B : Below wr.heap.size wr w5) (o : OwnH w5 wr.heap.size vc' vr' h') :
    ∃ rvs', HpSt w ((w5.setCell ⟨b, 0, none⟩ vc').setCell ⟨b, 1, none⟩ vr') gr N b vc' vr' rvs' h' := by
  have hb := S.box.lt
  have hlo := S.lo
  have hold := S.old
  obtain ⟨rvs', own⟩ := o
  have ap : Apart (some b) (vc' :: vr' :: rvs') := own.apart_below hb
  have hB0 : Below b w5 ((w5.setCell ⟨b, 0, none⟩ vc').setCell ⟨b, 1, none⟩ vr') := ((Below.refl b w5).setCell (p := ⟨b, 0, none⟩) (Nat.le_refl _) vc').setCell (p := ⟨b, 1, none⟩) (Nat.le_refl _) vr'
  have hB : Below b wr ((w5.setCell ⟨b, 0, none⟩ vc').setCell ⟨b, 1, none⟩ vr') := (B.mono (by omega)).trans hB0
  exact ⟨rvs', ((own.far (put_any w5 b 0 vc') ap).far (put_any _ b 1 vr') ap).base (by have := S.grown.size; omega), ap, ((S.box.keep B hb).put 0 vc').put 1 vr', S.res.keep hB (by omega), S.rd.below hB (by omega), grown_below S.grown (hB.mono (by omega)), hlo, hold⟩
end

set_option maxRecDepth 100000 in
set_option maxHeartbeats 16000000 in
theorem l20Heap_any (gr N : Nat) (n : Int) (w : World) (h : Rd w gr N) (hN : N ≤ 10000) (hn0 : 0 ≤ n) (hn : n ≤ 1000) :
    Calls Try.prog 37 #[.pointer (some ⟨gr, 0, none⟩), .int .i64 n] w (DrewH w gr N n) := by
  have hgl := h.lt
  have h0 : Rd (w.alloc (.cells #[.slice none 0 0, .slice none 0 0] 26)) gr N := h.below ((Below.refl w.heap.size w).alloc (Nat.le_refl _) _) hgl
  have r0 := Rw.new w 26 #[.slice none 0 0, .slice none 0 0]
  have g0 : w.grownBy (w.alloc (.cells #[.slice none 0 0, .slice none 0 0] 26)) (some gr) := World.grownBy_alloc _ _ _
  have z0 : w.heap.size + 1 = (w.alloc (.cells #[.slice none 0 0, .slice none 0 0] 26)).heap.size := by simp
  go_enter Try.func37, Try.ntmps37
  go_upto_region 1 with fail
  generalize w.alloc (.cells #[.slice none 0 0, .slice none 0 0] 26) = w0 at h0 r0 g0 z0 ⊢
  have HZ := Lib.hid z0
  clear z0
  go_wp2_with fail
  refine (l20Program_zero gr N _ h0 (by omega)).mono ?_
  rintro e w1 ⟨v, l, rfl, om, hok, hr1, g1⟩
  obtain ⟨A0, c0, rfl, -⟩ := om.form
  have hll := (Hps.okCms_iff.1 hok).2
  have rm := om.reads
  have hvl := Hps.runH_valid hok
  clear om hok h
  go_wp2_with fail
  refine (mRunHeap_any A0 l.length c0 l _ rm (by omega)).mono ?_
  rintro e w2 ⟨vc, vr, rfl, ⟨rvs, own⟩, b2⟩
  have s1 : w.heap.size + 1 ≤ w1.heap.size := by have := HZ.out; have := g1.size; omega
  have hq := Rw.new w2 26 #[vc, vr]
  have r1 := (r0.far g1 (fun e => by injection e with e; omega)).keep b2 (by omega)
  have bA : Below w2.heap.size w2 (w2.alloc (.cells #[vc, vr] 26)) := (Below.refl _ _).alloc (Nat.le_refl _) _
  have S : HpSt w (w2.alloc (.cells #[vc, vr] 26)) gr (N + 600) w2.heap.size vc vr rvs (Hps.runH l) :=
    ⟨(OwnHx.base (base' := w.heap.size + 1) own s1).below bA (Nat.le_refl _), own.apart_new (Nat.le_refl _), hq, r1.alloc _, (hr1.below b2 hr1.lt).below bA (by have := b2.size; omega), grown_below (World.grownBy.trans g0 g1) ((b2.mono (by omega)).trans (bA.mono (by have := b2.size; omega))), by have := b2.size; omega, hgl⟩
  obtain ⟨Ac, cc, Rc, dc, rfl, rfl, -⟩ := own.form
  obtain ⟨hh, ehh⟩ : ∃ hh, Hps.runH l = hh := ⟨_, rfl⟩
  rw [ehh] at S hvl ⊢
  have hvs := Hps.valid_iff.1 hvl
  obtain ⟨nn, hnn⟩ : ∃ nn, hh.cs.length = nn := ⟨_, rfl⟩
  have hn40 : nn ≤ 40 := by rw [← hnn]; exact hvs.2.1
  have hm4 := hvs.2.2.1
  rw [hnn, hm4] at S ⊢
  have HN := Lib.hid hnn
  have HM := Lib.hid hm4
  have HV := Lib.hid hvl
  clear hvs hnn hm4 hvl
  clear own ehh hq r1 bA s1 h0 r0 g0 HZ hr1 g1 rm hll hgl b2
  go_upto_region 2 with fail
  generalize w2.alloc (.cells #[.slice Ac nn cc, .slice Rc 4 dc] 26) = w3 at S ⊢
  generalize w2.heap.size = b at S ⊢
  go_wp2_with fail
  refine (pick_any _ _ _ _ S.rd (by omega) (by omega)).mono ?_
  rintro e w4 ⟨r, rfl, ar, cr, hr4, g4⟩
  replace S := S.pick hr4 g4
  clear hr4 g4 w3 w2 w1 w0
  go_upto_if 14 with fail
  go_cut [] from 9 (fun wc => ∃ (A1 : Option Addr) (n1 c1 : Nat) (R1 : Option Addr) (d1 : Nat) (rvs1 : List Value) (h1 : Hp), n1 ≤ 40 ∧ Hid (h1.cs.length = n1) ∧ Hid (h1.rt.length = 4) ∧ Hid (Hps.validH h1 = true) ∧ HpSt w wc gr (N + 601) b (.slice A1 n1 c1) (.slice R1 4 d1) rvs1 h1)
  case first =>
    by_cases hr0 : r = 0
    · have hs := S.own.reads
      have x0 : w4.cell? ⟨b, 0, none⟩ = some (.slice Ac nn cc) := S.box.cell 0
      have x1 : w4.cell? ⟨b, 1, none⟩ = some (.slice Rc 4 dc) := S.box.cell 1
      have HV2 := Lib.hid (Hps.collectH_valid HV.out)
      have SS := Lib.hid S
      subst hr0
      clear S ar cr
      go_wp2_with fail
      refine (mCollectSweep_any _ _ _ _ _ _ hh _ hs (by omega) (by omega)).mono ?_
      rintro e w5 ⟨vc, vr, rfl, oh, b5⟩
      obtain ⟨rvs', SN⟩ := SS.out.next b5 oh
      have bx := SS.out.box.keep b5 SS.out.box.lt
      obtain ⟨h2, eh2⟩ : ∃ h2, (Hps.collectH hh).1 = h2 := ⟨_, rfl⟩
      rw [eh2] at SN oh HV2
      have hvs := Hps.valid_iff.1 HV2.out
      obtain ⟨A2, c2, R2, d2, rfl, rfl, -⟩ := oh.form
      obtain ⟨n2, hn2⟩ : ∃ n2, h2.cs.length = n2 := ⟨_, rfl⟩
      have hn40' : n2 ≤ 40 := by rw [← hn2]; exact hvs.2.1
      have hm4' := hvs.2.2.1
      rw [hn2, hm4'] at SN ⊢
      have HN2 := Lib.hid hn2
      have HM2 := Lib.hid hm4'
      have y0 : w5.cell? ⟨b, 0, none⟩ = some (.slice Ac nn cc) := bx.cell 0
      have y1 : w5.cell? ⟨b, 1, none⟩ = some (.slice Rc 4 dc) := bx.cell 1
      have y2 : w5.frozen? ⟨b, 0, none⟩ = false := bx.frozen 0
      have y3 : w5.frozen? ⟨b, 1, none⟩ = false := bx.frozen 1
      have SH := Lib.hid SN
      clear oh eh2 bx hs x0 x1 b5 hvs hn2 hm4' SN
      go_wp2_with fail
      go_meet
      case rel => exact ⟨A2, n2, c2, R2, d2, rvs', h2, hn40', HN2, HM2, HV2, SH.out⟩
    · go_wp2_with fail
      go_meet
      case rel => exact ⟨Ac, nn, cc, Rc, dc, rvs, hh, hn40, HN, HM, HV, S⟩
  case rest =>
    clear S HV HN HM hn40 ar cr
    obtain ⟨A1, n1, c1, R1, d1, rvs1, h1, hn1, HN1, HM1, HV1, S⟩ := hcut
    clear hh rvs Ac cc Rc dc nn
    go_wp2_with fail
    refine (pick_any _ _ _ _ S.rd (by omega) (by omega)).mono ?_
    rintro e w5 ⟨r5, rfl, ar, cr, hr5, g5⟩
    replace S := S.pick hr5 g5
    have cr' : r5 < 6 := by omega
    obtain ⟨q, rfl⟩ := Int.eq_ofNat_of_zero_le ar
    clear hr5 g5 wc ar cr w4
    replace S := S.more (N' := N + 602 + 3 * (5 - q)) (by omega)
    go_upto_block 0 with fail
    go_cut [] from 9 (fun wc => ∃ (A1 : Option Addr) (nn c1 : Nat) (R1 : Option Addr) (d1 : Nat) (rvs1 : List Value) (h1 : Hp), nn ≤ 40 ∧ Hid (h1.cs.length = nn) ∧ Hid (h1.rt.length = 4) ∧ Hid (Hps.validH h1 = true) ∧ HpSt w wc gr (N + 617) b (.slice A1 nn c1) (.slice R1 4 d1) rvs1 h1)
    case first =>
      go_wp2_with fail
      go_loopw [6, 7, 8] (fun u6 u7 u8 wr => ∃ (k : Nat) (A1 : Option Addr) (nn c1 : Nat) (R1 : Option Addr) (d1 : Nat) (rvs1 : List Value) (h1 : Hp), k ≤ 5 ∧ u6 = .int .i64 k ∧ nn ≤ 40 ∧ Hid (h1.cs.length = nn) ∧ Hid (h1.rt.length = 4) ∧ Hid (Hps.validH h1 = true) ∧ HpSt w wr gr (N + 602 + 3 * (5 - k)) b (.slice A1 nn c1) (.slice R1 4 d1) rvs1 h1) (fun u6 _ _ _ => (intOf u6).toNat)
      case atStart => exact ⟨q, A1, n1, c1, R1, d1, rvs1, h1, by omega, rfl, hn1, HN1, HM1, HV1, S⟩
      case round =>
        clear S HN1 HM1 HV1 hn1 h1 rvs1 A1 c1 R1 d1 n1
        obtain ⟨k, A1, nn, c1, R1, d1, rvs1, h1, hk, rfl, hn40, HN, HM, HV, S⟩ := hrel
        have x0 : wr.cell? ⟨b, 0, none⟩ = some (.slice A1 nn c1) := S.box.cell 0
        have x1 : wr.cell? ⟨b, 1, none⟩ = some (.slice R1 4 d1) := S.box.cell 1
        by_cases hk0 : 0 < k
        · have hk0' : (0 : Int) < k := by omega
          by_cases hne : 0 < nn
          · have hne' : (0 : Int) < nn := by omega
            go_wp2_with fail
            refine (pick_any _ _ _ _ S.rd (by omega) (by omega)).mono ?_
            rintro e w5 ⟨i1, rfl, a1, cr1, hr1, g1⟩
            replace S := S.pick hr1 g1
            obtain ⟨ka, rfl⟩ := Int.eq_ofNat_of_zero_le a1
            have hka : ka < nn := by omega
            have x0' : w5.cell? ⟨b, 0, none⟩ = some (.slice A1 nn c1) := S.box.cell 0
            have x1' : w5.cell? ⟨b, 1, none⟩ = some (.slice R1 4 d1) := S.box.cell 1
            clear hr1 g1 a1 cr1 x0 x1
            go_wp2_with fail
            refine (pick_any _ _ _ _ S.rd (by omega) (by omega)).mono ?_
            rintro e w6 ⟨i2, rfl, a2, cr2, hr2, g2⟩
            replace S := S.pick hr2 g2
            obtain ⟨kt, rfl⟩ := Int.eq_ofNat_of_zero_le a2
            have hkt : kt < nn := by omega
            have x0 : w6.cell? ⟨b, 0, none⟩ = some (.slice A1 nn c1) := S.box.cell 0
            have x1 : w6.cell? ⟨b, 1, none⟩ = some (.slice R1 4 d1) := S.box.cell 1
            clear hr2 g2 a2 cr2 x0' x1'
            obtain ⟨ca, hca⟩ : ∃ ca, h1.cs[ka]? = some ca := ⟨_, List.getElem?_eq_getElem (by rw [HN.out]; exact hka)⟩
            obtain ⟨ct, hct⟩ : ∃ ct, h1.cs[kt]? = some ct := ⟨_, List.getElem?_eq_getElem (by rw [HN.out]; exact hkt)⟩
            obtain ⟨gc, va, e1, hgc1, hgc2, hra, hoa, d0, d1', d2, fzc⟩ := S.own.cell_at hca
            obtain ⟨gc', vt, e2, -, -, -, -, d0', -, -, -⟩ := S.own.cell_at hct
            subst e1
            injection e2 with e2
            injection e2 with e2
            subst e2
            obtain ⟨Av, cv, rfl, fv⟩ := hoa.form
            obtain ⟨mr, hmr⟩ : ∃ mr, ca.r.length = mr := ⟨_, rfl⟩
            have hmr3 : mr ≤ 3 := by rw [← hmr]; exact (Hps.okCell_iff.1 (Hps.valid_cell HV.out hca)).2.2.1
            rw [hmr] at d2 hra hoa fv
            have HA := Lib.hid hca
            have HT := Lib.hid hct
            have HR := Lib.hid hra
            have HL := Lib.hid hmr
            have hka' : (ka : Int) < nn := by omega
            have hkt' : (kt : Int) < nn := by omega
            clear hca hct hra hmr d1' hgc2 fzc hoa
            have SS := Lib.hid (S.more (N' := N + 602 + 3 * (5 - (k - 1))) (by omega))
            have SR := Lib.hid S
            clear S
            cases hua : ca.u
            · rw [hua] at d0
              go_wp2_with fail
              go_roundw
              case rel => exact ⟨k - 1, _, nn, c1, R1, d1, rvs1, h1, by omega, int_eq (by omega), hn40, HN, HM, HV, SS.out⟩
              case measure => simp [intOf]; omega
            rw [hua] at d0
            cases hut : ct.u
            · rw [hut] at d0'
              go_wp2_with fail
              go_roundw
              case rel => exact ⟨k - 1, _, nn, c1, R1, d1, rvs1, h1, by omega, int_eq (by omega), hn40, HN, HM, HV, SS.out⟩
              case measure => simp [intOf]; omega
            rw [hut] at d0'
            by_cases hmz : 0 < mr
            case neg =>
              obtain rfl : mr = 0 := by omega
              go_wp2_with fail
              go_roundw
              case rel => exact ⟨k - 1, _, nn, c1, R1, d1, rvs1, h1, by omega, int_eq (by omega), hn40, HN, HM, HV, SS.out⟩
              case measure => simp [intOf]; omega
            obtain ⟨gv, rfl, hgv1, hgv2⟩ := fv hmz
            have hmz' : (0 : Int) < mr := by omega
            have HUA := Lib.hid hua
            have HUT := Lib.hid hut
            have hlo := SR.out.lo
            have hold := SR.out.old
            clear hua hut fv SS
            go_wp2_with fail
            refine wp_region_inv (by kernel_rfl) (by kernel_rfl) (fun L ac ww => ∃ t66 t67 t68 t69 t70 t71 t72 t73 t74 t75 t76 t77 t78 t79 t80 t81 t82 : Value, ac = { tmps := #[Value.pointer (some { block := gr, off := 0 }), Value.int IntKind.i64 n, undef, undef, Value.pointer (some { block := w.heap.size, off := 0 }), Value.pointer (some { block := b, off := 0 }), Value.int IntKind.i64 ↑k, Value.int IntKind.i64 ↑ka, Value.int IntKind.i64 ↑kt, u9, u10, u11, u12, u13, u14, u15, u16, u17, u18, u19, Value.pointer (some { block := gr, off := 0 }), Value.int IntKind.i64 ↑q, Value.int IntKind.i64 ↑k, Value.bool true, Value.bool true, Value.pointer (some { block := b, off := 0 }), Value.slice (some { block := gc, off := 0 }) nn c1, Value.int IntKind.i64 ↑nn, Value.bool true, Value.bool true, u30, u31, Value.pointer (some { block := gr, off := 0 }), Value.pointer (some { block := b, off := 0 }), Value.slice (some { block := gc, off := 0 }) nn c1, Value.int IntKind.i64 ↑nn, Value.int IntKind.i64 ↑ka, Value.pointer (some { block := gr, off := 0 }), Value.pointer (some { block := b, off := 0 }), Value.slice (some { block := gc, off := 0 }) nn c1, Value.int IntKind.i64 ↑nn, Value.int IntKind.i64 ↑kt, Value.pointer (some { block := b, off := 0 }), Value.slice (some { block := gc, off := 0 }) nn c1, Value.int IntKind.i64 ↑ka, Value.pointer (some { block := gc, off := ka * 3 }), Value.pointer (some { block := gc, off := ka * 3 }), Value.bool true, Value.bool true, Value.pointer (some { block := b, off := 0 }), Value.slice (some { block := gc, off := 0 }) nn c1, Value.int IntKind.i64 ↑kt, Value.pointer (some { block := gc, off := kt * 3 }), Value.pointer (some { block := gc, off := kt * 3 }), Value.bool true, Value.bool true, Value.bool true, Value.pointer (some { block := b, off := 0 }), Value.slice (some { block := gc, off := 0 }) nn c1, Value.int IntKind.i64 ↑ka, Value.pointer (some { block := gc, off := ka * 3 }), Value.pointer (some { block := gc, off := ka * 3 + 2 }), Value.slice (some { block := gv, off := 0 }) mr cv, Value.int IntKind.i64 ↑mr, Value.bool true, Value.bool true, t66, t67, t68, t69, t70, t71, t72, t73, t74, t75, t76, t77, t78, t79, t80, t81, t82, u83, u84, u85, u86, u87, u88, u89, u90, u91, u92, u93, u94, u95, u96, u97, u98, u99, u100, u101, u102, u103, u104, u105, u106, u107, u108, u109, u110, u111, u112, u113, u114, u115, u116, u117, u118, u119, u120, u121, u122, u123, u124, u125, u126, u127, u128, u129, u130, u131, u132, u133, u134, u135, u136, u137, u138, u139, u140, u141], defers := [] } ∧ (L 17 = false → Rd ww gr (N + 602 + 3 * (5 - k) + 1 + 1 + (L 14).toNat) ∧ w6.grownBy ww (some gr)) ∧ (L 17 = true → ∀ q, q < 17 → L q = true) ∧ (L 0 = true → t66 = (.pointer (some ⟨b, 0, none⟩))) ∧ (L 1 = true → t67 = (.slice (some ⟨gc, 0, none⟩) nn c1)) ∧ (L 2 = true → t68 = .int .i64 ka) ∧ (L 3 = true → t69 = (.pointer (some ⟨gc, ka * 3, none⟩))) ∧ (L 4 = true → t70 = (.pointer (some ⟨gc, ka * 3 + 2, none⟩))) ∧ (L 5 = true → t71 = (.slice (some ⟨gv, 0, none⟩) mr cv)) ∧ (L 6 = true → t72 = (.pointer (some ⟨gr, 0, none⟩))) ∧ (L 7 = true → t73 = (.pointer (some ⟨b, 0, none⟩))) ∧ (L 8 = true → t74 = (.slice (some ⟨gc, 0, none⟩) nn c1)) ∧ (L 9 = true → t75 = .int .i64 ka) ∧ (L 10 = true → t76 = (.pointer (some ⟨gc, ka * 3, none⟩))) ∧ (L 11 = true → t77 = (.pointer (some ⟨gc, ka * 3 + 2, none⟩))) ∧ (L 12 = true → t78 = (.slice (some ⟨gv, 0, none⟩) mr cv)) ∧ (L 13 = true → t79 = .int .i64 mr) ∧ (L 14 = true → ∃ j : Nat, t80 = .int .i64 j ∧ j < mr) ∧ (L 15 = true → t81 = .int .i64 kt) ∧ (L 16 = true → ∃ j : Nat, t82 = .pointer (some ⟨gv, j, none⟩) ∧ j < mr) ∧ (L 17 = true → ∃ (j : Nat) (w1 : World), j < mr ∧ ww = w1.setCell ⟨gv, j, none⟩ (.int .i64 kt) ∧ Rd w1 gr (N + 602 + 3 * (5 - k) + 1 + 1 + 1) ∧ w6.grownBy w1 (some gr))) ?h0 ?hstep ?hdone
            case h0 => exact ⟨_, _, _, _, _, _, _, _, _, _, _, _, _, _, _, _, _, rfl, fun _ => ⟨by simpa using SR.out.rd.below (Below.refl _ _).drew SR.out.rd.lt, grown_below (World.grownBy.refl _ _) (Below.refl _ _).drew⟩, fun h => absurd h Bool.false_ne_true, (fun h => absurd h Bool.false_ne_true), (fun h => absurd h Bool.false_ne_true), (fun h => absurd h Bool.false_ne_true), (fun h => absurd h Bool.false_ne_true), (fun h => absurd h Bool.false_ne_true), (fun h => absurd h Bool.false_ne_true), (fun h => absurd h Bool.false_ne_true), (fun h => absurd h Bool.false_ne_true), (fun h => absurd h Bool.false_ne_true), (fun h => absurd h Bool.false_ne_true), (fun h => absurd h Bool.false_ne_true), (fun h => absurd h Bool.false_ne_true), (fun h => absurd h Bool.false_ne_true), (fun h => absurd h Bool.false_ne_true), (fun h => absurd h Bool.false_ne_true), (fun h => absurd h Bool.false_ne_true), (fun h => absurd h Bool.false_ne_true), (fun h => absurd h Bool.false_ne_true)⟩
            case hstep =>
              rintro L ac ww i o ho hL hd ⟨t66, t67, t68, t69, t70, t71, t72, t73, t74, t75, t76, t77, t78, t79, t80, t81, t82, rfl, I0, I1, f0, f1, f2, f3, f4, f5, f6, f7, f8, f9, f10, f11, f12, f13, f14, f15, f16, f17⟩
              have hi : i < 18 := (Array.getElem?_eq_some_iff.1 ho).1
              obtain rfl | rfl | rfl | rfl | rfl | rfl | rfl | rfl | rfl | rfl | rfl | rfl | rfl | rfl | rfl | rfl | rfl | rfl : i = 0 ∨ i = 1 ∨ i = 2 ∨ i = 3 ∨ i = 4 ∨ i = 5 ∨ i = 6 ∨ i = 7 ∨ i = 8 ∨ i = 9 ∨ i = 10 ∨ i = 11 ∨ i = 12 ∨ i = 13 ∨ i = 14 ∨ i = 15 ∨ i = 16 ∨ i = 17 := by omega
              · obtain rfl := Option.some.inj ho
                have h17 : L 17 = false := by
                  cases e : L 17
                  · rfl
                  · exact absurd (I1 e 0 (by decide)) (by rw [hL]; simp)
                obtain ⟨rd, gb⟩ := I0 h17
                refine wpOp_step rfl (fun K' hK => ?_)
                go_simp
                refine hK _ _ ?_
                exact ⟨_, _, _, _, _, _, _, _, _, _, _, _, _, _, _, _, _, rfl, (fun _ => ⟨by rw [upd_other (by decide)]; exact rd, gb⟩), (upd_all I1 (by decide)), (fun _ => by first | rfl | simp), (kp f1), (kp f2), (kp f3), (kp f4), (kp f5), (kp f6), (kp f7), (kp f8), (kp f9), (kp f10), (kp f11), (kp f12), (kp f13), (kp f14), (kp f15), (kp f16), (fun h => absurd (upd_ne h (by decide)) (by rw [h17]; simp))⟩
              · obtain rfl := Option.some.inj ho
                have g0 := f0 (hd ⟨0, .data⟩ (by simp) rfl)
                subst g0
                have h17 : L 17 = false := by
                  cases e : L 17
                  · rfl
                  · exact absurd (I1 e 1 (by decide)) (by rw [hL]; simp)
                obtain ⟨rd, gb⟩ := I0 h17
                have y0 : ww.cell? ⟨b, 0, none⟩ = some (.slice (some ⟨gc, 0, none⟩) nn c1) := gb.cell x0 (fun e => by injection e with e; simp only at e; omega)
                refine wpOp_step rfl (fun K' hK => ?_)
                go_simp
                refine hK _ _ ?_
                exact ⟨_, _, _, _, _, _, _, _, _, _, _, _, _, _, _, _, _, rfl, (fun _ => ⟨by rw [upd_other (by decide)]; exact rd, gb⟩), (upd_all I1 (by decide)), (kp f0), (fun _ => by first | rfl | simp), (kp f2), (kp f3), (kp f4), (kp f5), (kp f6), (kp f7), (kp f8), (kp f9), (kp f10), (kp f11), (kp f12), (kp f13), (kp f14), (kp f15), (kp f16), (fun h => absurd (upd_ne h (by decide)) (by rw [h17]; simp))⟩
              · obtain rfl := Option.some.inj ho
                have h17 : L 17 = false := by
                  cases e : L 17
                  · rfl
                  · exact absurd (I1 e 2 (by decide)) (by rw [hL]; simp)
                obtain ⟨rd, gb⟩ := I0 h17
                refine wpOp_step rfl (fun K' hK => ?_)
                go_simp
                refine hK _ _ ?_
                exact ⟨_, _, _, _, _, _, _, _, _, _, _, _, _, _, _, _, _, rfl, (fun _ => ⟨by rw [upd_other (by decide)]; exact rd, gb⟩), (upd_all I1 (by decide)), (kp f0), (kp f1), (fun _ => by first | rfl | simp), (kp f3), (kp f4), (kp f5), (kp f6), (kp f7), (kp f8), (kp f9), (kp f10), (kp f11), (kp f12), (kp f13), (kp f14), (kp f15), (kp f16), (fun h => absurd (upd_ne h (by decide)) (by rw [h17]; simp))⟩
              · obtain rfl := Option.some.inj ho
                have g1 := f1 (hd ⟨1, .data⟩ (by simp) rfl)
                have g2 := f2 (hd ⟨2, .data⟩ (by simp) rfl)
                subst g1
                subst g2
                have h17 : L 17 = false := by
                  cases e : L 17
                  · rfl
                  · exact absurd (I1 e 3 (by decide)) (by rw [hL]; simp)
                obtain ⟨rd, gb⟩ := I0 h17
                refine wpOp_step rfl (fun K' hK => ?_)
                go_simp
                refine hK _ _ ?_
                exact ⟨_, _, _, _, _, _, _, _, _, _, _, _, _, _, _, _, _, rfl, (fun _ => ⟨by rw [upd_other (by decide)]; exact rd, gb⟩), (upd_all I1 (by decide)), (kp f0), (kp f1), (kp f2), (fun _ => by first | rfl | simp), (kp f4), (kp f5), (kp f6), (kp f7), (kp f8), (kp f9), (kp f10), (kp f11), (kp f12), (kp f13), (kp f14), (kp f15), (kp f16), (fun h => absurd (upd_ne h (by decide)) (by rw [h17]; simp))⟩
              · obtain rfl := Option.some.inj ho
                have g3 := f3 (hd ⟨3, .data⟩ (by simp) rfl)
                subst g3
                have h17 : L 17 = false := by
                  cases e : L 17
                  · rfl
                  · exact absurd (I1 e 4 (by decide)) (by rw [hL]; simp)
                obtain ⟨rd, gb⟩ := I0 h17
                refine wpOp_step rfl (fun K' hK => ?_)
                go_simp
                refine hK _ _ ?_
                exact ⟨_, _, _, _, _, _, _, _, _, _, _, _, _, _, _, _, _, rfl, (fun _ => ⟨by rw [upd_other (by decide)]; exact rd, gb⟩), (upd_all I1 (by decide)), (kp f0), (kp f1), (kp f2), (kp f3), (fun _ => by first | rfl | simp), (kp f5), (kp f6), (kp f7), (kp f8), (kp f9), (kp f10), (kp f11), (kp f12), (kp f13), (kp f14), (kp f15), (kp f16), (fun h => absurd (upd_ne h (by decide)) (by rw [h17]; simp))⟩
              · obtain rfl := Option.some.inj ho
                have g4 := f4 (hd ⟨4, .data⟩ (by simp) rfl)
                subst g4
                have h17 : L 17 = false := by
                  cases e : L 17
                  · rfl
                  · exact absurd (I1 e 5 (by decide)) (by rw [hL]; simp)
                obtain ⟨rd, gb⟩ := I0 h17
                have y0 : ww.cell? ⟨gc, ka * 3 + 2, none⟩ = some (.slice (some ⟨gv, 0, none⟩) mr cv) := gb.cell d2 (fun e => by injection e with e; simp only at e; omega)
                refine wpOp_step rfl (fun K' hK => ?_)
                go_simp
                refine hK _ _ ?_
                exact ⟨_, _, _, _, _, _, _, _, _, _, _, _, _, _, _, _, _, rfl, (fun _ => ⟨by rw [upd_other (by decide)]; exact rd, gb⟩), (upd_all I1 (by decide)), (kp f0), (kp f1), (kp f2), (kp f3), (kp f4), (fun _ => by first | rfl | simp), (kp f6), (kp f7), (kp f8), (kp f9), (kp f10), (kp f11), (kp f12), (kp f13), (kp f14), (kp f15), (kp f16), (fun h => absurd (upd_ne h (by decide)) (by rw [h17]; simp))⟩
              · obtain rfl := Option.some.inj ho
                have h17 : L 17 = false := by
                  cases e : L 17
                  · rfl
                  · exact absurd (I1 e 6 (by decide)) (by rw [hL]; simp)
                obtain ⟨rd, gb⟩ := I0 h17
                refine wpOp_step rfl (fun K' hK => ?_)
                go_simp
                refine hK _ _ ?_
                exact ⟨_, _, _, _, _, _, _, _, _, _, _, _, _, _, _, _, _, rfl, (fun _ => ⟨by rw [upd_other (by decide)]; exact rd, gb⟩), (upd_all I1 (by decide)), (kp f0), (kp f1), (kp f2), (kp f3), (kp f4), (kp f5), (fun _ => by first | rfl | simp), (kp f7), (kp f8), (kp f9), (kp f10), (kp f11), (kp f12), (kp f13), (kp f14), (kp f15), (kp f16), (fun h => absurd (upd_ne h (by decide)) (by rw [h17]; simp))⟩
              · obtain rfl := Option.some.inj ho
                have h17 : L 17 = false := by
                  cases e : L 17
                  · rfl
                  · exact absurd (I1 e 7 (by decide)) (by rw [hL]; simp)
                obtain ⟨rd, gb⟩ := I0 h17
                refine wpOp_step rfl (fun K' hK => ?_)
                go_simp
                refine hK _ _ ?_
                exact ⟨_, _, _, _, _, _, _, _, _, _, _, _, _, _, _, _, _, rfl, (fun _ => ⟨by rw [upd_other (by decide)]; exact rd, gb⟩), (upd_all I1 (by decide)), (kp f0), (kp f1), (kp f2), (kp f3), (kp f4), (kp f5), (kp f6), (fun _ => by first | rfl | simp), (kp f8), (kp f9), (kp f10), (kp f11), (kp f12), (kp f13), (kp f14), (kp f15), (kp f16), (fun h => absurd (upd_ne h (by decide)) (by rw [h17]; simp))⟩
              · obtain rfl := Option.some.inj ho
                have g7 := f7 (hd ⟨7, .data⟩ (by simp) rfl)
                subst g7
                have h17 : L 17 = false := by
                  cases e : L 17
                  · rfl
                  · exact absurd (I1 e 8 (by decide)) (by rw [hL]; simp)
                obtain ⟨rd, gb⟩ := I0 h17
                have y0 : ww.cell? ⟨b, 0, none⟩ = some (.slice (some ⟨gc, 0, none⟩) nn c1) := gb.cell x0 (fun e => by injection e with e; simp only at e; omega)
                refine wpOp_step rfl (fun K' hK => ?_)
                go_simp
                refine hK _ _ ?_
                exact ⟨_, _, _, _, _, _, _, _, _, _, _, _, _, _, _, _, _, rfl, (fun _ => ⟨by rw [upd_other (by decide)]; exact rd, gb⟩), (upd_all I1 (by decide)), (kp f0), (kp f1), (kp f2), (kp f3), (kp f4), (kp f5), (kp f6), (kp f7), (fun _ => by first | rfl | simp), (kp f9), (kp f10), (kp f11), (kp f12), (kp f13), (kp f14), (kp f15), (kp f16), (fun h => absurd (upd_ne h (by decide)) (by rw [h17]; simp))⟩
              · obtain rfl := Option.some.inj ho
                have h17 : L 17 = false := by
                  cases e : L 17
                  · rfl
                  · exact absurd (I1 e 9 (by decide)) (by rw [hL]; simp)
                obtain ⟨rd, gb⟩ := I0 h17
                refine wpOp_step rfl (fun K' hK => ?_)
                go_simp
                refine hK _ _ ?_
                exact ⟨_, _, _, _, _, _, _, _, _, _, _, _, _, _, _, _, _, rfl, (fun _ => ⟨by rw [upd_other (by decide)]; exact rd, gb⟩), (upd_all I1 (by decide)), (kp f0), (kp f1), (kp f2), (kp f3), (kp f4), (kp f5), (kp f6), (kp f7), (kp f8), (fun _ => by first | rfl | simp), (kp f10), (kp f11), (kp f12), (kp f13), (kp f14), (kp f15), (kp f16), (fun h => absurd (upd_ne h (by decide)) (by rw [h17]; simp))⟩
              · obtain rfl := Option.some.inj ho
                have g8 := f8 (hd ⟨8, .data⟩ (by simp) rfl)
                have g9 := f9 (hd ⟨9, .data⟩ (by simp) rfl)
                subst g8
                subst g9
                have h17 : L 17 = false := by
                  cases e : L 17
                  · rfl
                  · exact absurd (I1 e 10 (by decide)) (by rw [hL]; simp)
                obtain ⟨rd, gb⟩ := I0 h17
                refine wpOp_step rfl (fun K' hK => ?_)
                go_simp
                refine hK _ _ ?_
                exact ⟨_, _, _, _, _, _, _, _, _, _, _, _, _, _, _, _, _, rfl, (fun _ => ⟨by rw [upd_other (by decide)]; exact rd, gb⟩), (upd_all I1 (by decide)), (kp f0), (kp f1), (kp f2), (kp f3), (kp f4), (kp f5), (kp f6), (kp f7), (kp f8), (kp f9), (fun _ => by first | rfl | simp), (kp f11), (kp f12), (kp f13), (kp f14), (kp f15), (kp f16), (fun h => absurd (upd_ne h (by decide)) (by rw [h17]; simp))⟩
              · obtain rfl := Option.some.inj ho
                have g10 := f10 (hd ⟨10, .data⟩ (by simp) rfl)
                subst g10
                have h17 : L 17 = false := by
                  cases e : L 17
                  · rfl
                  · exact absurd (I1 e 11 (by decide)) (by rw [hL]; simp)
                obtain ⟨rd, gb⟩ := I0 h17
                refine wpOp_step rfl (fun K' hK => ?_)
                go_simp
                refine hK _ _ ?_
                exact ⟨_, _, _, _, _, _, _, _, _, _, _, _, _, _, _, _, _, rfl, (fun _ => ⟨by rw [upd_other (by decide)]; exact rd, gb⟩), (upd_all I1 (by decide)), (kp f0), (kp f1), (kp f2), (kp f3), (kp f4), (kp f5), (kp f6), (kp f7), (kp f8), (kp f9), (kp f10), (fun _ => by first | rfl | simp), (kp f12), (kp f13), (kp f14), (kp f15), (kp f16), (fun h => absurd (upd_ne h (by decide)) (by rw [h17]; simp))⟩
              · obtain rfl := Option.some.inj ho
                have g11 := f11 (hd ⟨11, .data⟩ (by simp) rfl)
                subst g11
                have h17 : L 17 = false := by
                  cases e : L 17
                  · rfl
                  · exact absurd (I1 e 12 (by decide)) (by rw [hL]; simp)
                obtain ⟨rd, gb⟩ := I0 h17
                have y0 : ww.cell? ⟨gc, ka * 3 + 2, none⟩ = some (.slice (some ⟨gv, 0, none⟩) mr cv) := gb.cell d2 (fun e => by injection e with e; simp only at e; omega)
                refine wpOp_step rfl (fun K' hK => ?_)
                go_simp
                refine hK _ _ ?_
                exact ⟨_, _, _, _, _, _, _, _, _, _, _, _, _, _, _, _, _, rfl, (fun _ => ⟨by rw [upd_other (by decide)]; exact rd, gb⟩), (upd_all I1 (by decide)), (kp f0), (kp f1), (kp f2), (kp f3), (kp f4), (kp f5), (kp f6), (kp f7), (kp f8), (kp f9), (kp f10), (kp f11), (fun _ => by first | rfl | simp), (kp f13), (kp f14), (kp f15), (kp f16), (fun h => absurd (upd_ne h (by decide)) (by rw [h17]; simp))⟩
              · obtain rfl := Option.some.inj ho
                have g12 := f12 (hd ⟨12, .data⟩ (by simp) rfl)
                subst g12
                have h17 : L 17 = false := by
                  cases e : L 17
                  · rfl
                  · exact absurd (I1 e 13 (by decide)) (by rw [hL]; simp)
                obtain ⟨rd, gb⟩ := I0 h17
                refine wpOp_step rfl (fun K' hK => ?_)
                go_simp
                refine hK _ _ ?_
                exact ⟨_, _, _, _, _, _, _, _, _, _, _, _, _, _, _, _, _, rfl, (fun _ => ⟨by rw [upd_other (by decide)]; exact rd, gb⟩), (upd_all I1 (by decide)), (kp f0), (kp f1), (kp f2), (kp f3), (kp f4), (kp f5), (kp f6), (kp f7), (kp f8), (kp f9), (kp f10), (kp f11), (kp f12), (fun _ => by first | rfl | simp), (kp f14), (kp f15), (kp f16), (fun h => absurd (upd_ne h (by decide)) (by rw [h17]; simp))⟩
              · obtain rfl := Option.some.inj ho
                have g6 := f6 (hd ⟨6, .data⟩ (by simp) rfl)
                have g13 := f13 (hd ⟨13, .data⟩ (by simp) rfl)
                subst g6
                subst g13
                have h17 : L 17 = false := by
                  cases e : L 17
                  · rfl
                  · exact absurd (I1 e 14 (by decide)) (by rw [hL]; simp)
                obtain ⟨rd, gb⟩ := I0 h17
                refine wpOp_step rfl (fun K' hK => ?_)
                go_simp
                refine (pick_any gr _ mr ww rd (by have := Bool.toNat_le (L 14); omega) (by omega)).mono ?_
                rintro e w' ⟨r, rfl, r0', r1', hr, G⟩
                obtain ⟨j, rfl⟩ := Int.eq_ofNat_of_zero_le r0'
                refine hK _ _ ?_
                exact ⟨_, _, _, _, _, _, _, _, _, _, _, _, _, _, _, _, _, rfl, (fun _ => ⟨by rw [upd_self]; rw [hL] at hr; exact hr.more (by simp), World.grownBy.trans gb G⟩), (upd_all I1 (by decide)), (kp f0), (kp f1), (kp f2), (kp f3), (kp f4), (kp f5), (kp f6), (kp f7), (kp f8), (kp f9), (kp f10), (kp f11), (kp f12), (kp f13), (fun _ => ⟨j, rfl, by omega⟩), (kp f15), (kp f16), (fun h => absurd (upd_ne h (by decide)) (by rw [h17]; simp))⟩
              · obtain rfl := Option.some.inj ho
                have h17 : L 17 = false := by
                  cases e : L 17
                  · rfl
                  · exact absurd (I1 e 15 (by decide)) (by rw [hL]; simp)
                obtain ⟨rd, gb⟩ := I0 h17
                refine wpOp_step rfl (fun K' hK => ?_)
                go_simp
                refine hK _ _ ?_
                exact ⟨_, _, _, _, _, _, _, _, _, _, _, _, _, _, _, _, _, rfl, (fun _ => ⟨by rw [upd_other (by decide)]; exact rd, gb⟩), (upd_all I1 (by decide)), (kp f0), (kp f1), (kp f2), (kp f3), (kp f4), (kp f5), (kp f6), (kp f7), (kp f8), (kp f9), (kp f10), (kp f11), (kp f12), (kp f13), (kp f14), (fun _ => by first | rfl | simp), (kp f16), (fun h => absurd (upd_ne h (by decide)) (by rw [h17]; simp))⟩
              · obtain rfl := Option.some.inj ho
                have g5 := f5 (hd ⟨5, .data⟩ (by simp) rfl)
                have g14 := f14 (hd ⟨14, .data⟩ (by simp) rfl)
                subst g5
                have h17 : L 17 = false := by
                  cases e : L 17
                  · rfl
                  · exact absurd (I1 e 16 (by decide)) (by rw [hL]; simp)
                obtain ⟨rd, gb⟩ := I0 h17
                obtain ⟨j, rfl, hj⟩ := g14
                have hj' : (j : Int) < mr := by omega
                refine wpOp_step rfl (fun K' hK => ?_)
                go_simp
                refine hK _ _ ?_
                exact ⟨_, _, _, _, _, _, _, _, _, _, _, _, _, _, _, _, _, rfl, (fun _ => ⟨by rw [upd_other (by decide)]; exact rd, gb⟩), (upd_all I1 (by decide)), (kp f0), (kp f1), (kp f2), (kp f3), (kp f4), (kp f5), (kp f6), (kp f7), (kp f8), (kp f9), (kp f10), (kp f11), (kp f12), (kp f13), (fun _ => ⟨j, rfl, hj⟩), (kp f15), (fun _ => ⟨j, by simp, hj⟩), (fun h => absurd (upd_ne h (by decide)) (by rw [h17]; simp))⟩
              · obtain rfl := Option.some.inj ho
                have g15 := f15 (hd ⟨15, .data⟩ (by simp) rfl)
                have g16 := f16 (hd ⟨16, .data⟩ (by simp) rfl)
                subst g15
                have h17 := hL
                obtain ⟨rd, gb⟩ := I0 h17
                obtain ⟨j, rfl, hj⟩ := g16
                have h14 := hd ⟨14, .chain⟩ (by simp) rfl
                have SP := SR.out.pick rd gb
                have hov := SP.own.refs ka ca _ HA.out HR.out
                obtain ⟨xo, hxo, cr⟩ := hov.cell_at (j := j) hj
                have fz : ww.frozen? ⟨gv, j, none⟩ = false := hov.frozen HL.out j
                clear SP hov hxo
                refine wpOp_step rfl (fun K' hK => ?_)
                go_simp
                refine hK _ _ ?_
                exact ⟨_, _, _, _, _, _, _, _, _, _, _, _, _, _, _, _, _, rfl, (fun h => absurd h (by rw [upd_self]; simp)), (fun _ q hq => upd_mono (by
                  have hq17 : q = 0 ∨ q = 1 ∨ q = 2 ∨ q = 3 ∨ q = 4 ∨ q = 5 ∨ q = 6 ∨ q = 7 ∨ q = 8 ∨ q = 9 ∨ q = 10 ∨ q = 11 ∨ q = 12 ∨ q = 13 ∨ q = 14 ∨ q = 15 ∨ q = 16 := by omega
                  rcases hq17 with rfl | rfl | rfl | rfl | rfl | rfl | rfl | rfl | rfl | rfl | rfl | rfl | rfl | rfl | rfl | rfl | rfl
                  · exact hd ⟨0, .phase⟩ (by simp) rfl
                  · exact hd ⟨1, .phase⟩ (by simp) rfl
                  · exact hd ⟨2, .phase⟩ (by simp) rfl
                  · exact hd ⟨3, .phase⟩ (by simp) rfl
                  · exact hd ⟨4, .phase⟩ (by simp) rfl
                  · exact hd ⟨5, .phase⟩ (by simp) rfl
                  · exact hd ⟨6, .phase⟩ (by simp) rfl
                  · exact hd ⟨7, .phase⟩ (by simp) rfl
                  · exact hd ⟨8, .phase⟩ (by simp) rfl
                  · exact hd ⟨9, .phase⟩ (by simp) rfl
                  · exact hd ⟨10, .phase⟩ (by simp) rfl
                  · exact hd ⟨11, .phase⟩ (by simp) rfl
                  · exact hd ⟨12, .phase⟩ (by simp) rfl
                  · exact hd ⟨13, .phase⟩ (by simp) rfl
                  · exact hd ⟨14, .phase⟩ (by simp) rfl
                  · exact hd ⟨15, .data⟩ (by simp) rfl
                  · exact hd ⟨16, .data⟩ (by simp) rfl)), (kp f0), (kp f1), (kp f2), (kp f3), (kp f4), (kp f5), (kp f6), (kp f7), (kp f8), (kp f9), (kp f10), (kp f11), (kp f12), (kp f13), (kp f14), (kp f15), (fun _ => ⟨j, rfl, hj⟩), (fun _ => ⟨j, ww, hj, rfl, rd.more (by rw [h14]; simp), gb⟩)⟩
            case hdone =>
              rintro L ac ww hall ⟨t66, t67, t68, t69, t70, t71, t72, t73, t74, t75, t76, t77, t78, t79, t80, t81, t82, rfl, I0, I1, f0, f1, f2, f3, f4, f5, f6, f7, f8, f9, f10, f11, f12, f13, f14, f15, f16, f17⟩
              have e0 := f0 (hall 0 (by decide))
              have e1 := f1 (hall 1 (by decide))
              have e2 := f2 (hall 2 (by decide))
              have e3 := f3 (hall 3 (by decide))
              have e4 := f4 (hall 4 (by decide))
              have e5 := f5 (hall 5 (by decide))
              have e6 := f6 (hall 6 (by decide))
              have e7 := f7 (hall 7 (by decide))
              have e8 := f8 (hall 8 (by decide))
              have e9 := f9 (hall 9 (by decide))
              have e10 := f10 (hall 10 (by decide))
              have e11 := f11 (hall 11 (by decide))
              have e12 := f12 (hall 12 (by decide))
              have e13 := f13 (hall 13 (by decide))
              have e14 := f14 (hall 14 (by decide))
              have e15 := f15 (hall 15 (by decide))
              have e16 := f16 (hall 16 (by decide))
              have e17 := f17 (hall 17 (by decide))
              clear f0 f1 f2 f3 f4 f5 f6 f7 f8 f9 f10 f11 f12 f13 f14 f15 f16 f17
              obtain ⟨j, w1, hj, rfl, rd1, gb1⟩ := e17
              have S7 := SR.out.pick rd1 gb1
              have S8 := (S7.ref1 (i := j) HA.out HR.out HL.out (kt : Int)).more (N' := N + 602 + 3 * (5 - (k - 1))) (by omega)
              have HV8 := Lib.hid (Hps.mutate_valid (j := j) HV.out HA.out HUA.out HT.out HUT.out)
              have HN8 := Lib.hid (show (h1.cs.set ka ⟨ca.u, ca.d, ca.r.set j (kt : Int)⟩).length = nn by rw [List.length_set]; exact HN.out)
              have SH := Lib.hid S8
              clear e0 e1 e2 e3 e4 e5 e6 e7 e8 e9 e10 e11 e12 e13 e14 e15 e16 I0 I1 S7 S8 rd1 gb1 SR x0 x1 d0 d0' d2
              go_wp2_with fail
              go_roundw
              case rel => exact ⟨k - 1, _, nn, c1, R1, d1, rvs1, ⟨h1.cs.set ka ⟨ca.u, ca.d, ca.r.set j (kt : Int)⟩, h1.rt⟩, by omega, int_eq (by omega), hn40, HN8, HM, HV8, SH.out⟩
              case measure => simp [intOf]; omega
          · obtain rfl : nn = 0 := by omega
            have hk1 : decide ((0 : Int) < k) = true := decide_eq_true hk0'
            have SE := S.more (N' := N + 617) (by omega)
            clear S
            go_wp2_with fail
            go_meet
            case rel => exact ⟨A1, _, c1, R1, d1, rvs1, h1, hn40, HN, HM, HV, SE⟩
        · obtain rfl : k = 0 := by omega
          have SE := S.more (N' := N + 617) (by omega)
          clear S
          go_wp2_with fail
          go_meet
          case rel => exact ⟨A1, _, c1, R1, d1, rvs1, h1, hn40, HN, HM, HV, SE⟩
    case rest =>
      clear S HN1 HM1 HV1 hn1 cr' q h1 rvs1 A1 c1 R1 d1 n1
      obtain ⟨A1, nn, c1, R1, d1, rvs1, h1, hn40, HN, HM, HV, S⟩ := hcut
      have hlo := S.lo
      have hold := S.old
      have SM := Lib.hid (small_valid HV.out)
      by_cases hn1 : n = 0
      · subst hn1
        have RD := Lib.hid S.rd
        have r0 : (wc).cell? ⟨b, 0, none⟩ = some (.slice A1 nn c1) := S.box.cell 0
        have r1 : (wc).cell? ⟨b, 1, none⟩ = some (.slice R1 4 d1) := S.box.cell 1
        have r2 : (wc).frozen? ⟨w.heap.size, 0, none⟩ = false := S.res.frozen 0
        have r3 : (wc).frozen? ⟨w.heap.size, 1, none⟩ = false := S.res.frozen 1
        have r4 : (wc).cell? ⟨w.heap.size, 0, none⟩ = some (.slice none 0 0) := S.res.cell 0
        have r5 : (wc).cell? ⟨w.heap.size, 1, none⟩ = some (.slice none 0 0) := S.res.cell 1
        have r6 : (((wc).setCell ⟨w.heap.size, 0, none⟩ (.slice A1 nn c1)).setCell ⟨w.heap.size, 1, none⟩ (.slice R1 4 d1)).cell? ⟨w.heap.size, 0, none⟩ = some (.slice A1 nn c1) := ((S.res.put 0 (.slice A1 nn c1)).put 1 (.slice R1 4 d1)).cell 0
        have r7 : (((wc).setCell ⟨w.heap.size, 0, none⟩ (.slice A1 nn c1)).setCell ⟨w.heap.size, 1, none⟩ (.slice R1 4 d1)).cell? ⟨w.heap.size, 1, none⟩ = some (.slice R1 4 d1) := ((S.res.put 0 (.slice A1 nn c1)).put 1 (.slice R1 4 d1)).cell 1
        have FI := Lib.hid (S.fin (.slice A1 nn c1) (.slice R1 4 d1))
        have CAP := Lib.hid S.own.caps.2.2
        clear S 
        go_wp2_with fail
        refine (odd_zero' _ _ _ RD.out).mono ?_
        rintro e w' ⟨rfl, rfl⟩
        go_wp2_with fail
        exact bodyPost_ret (v := .agg #[.slice A1 nn c1, .slice R1 4 d1]) (by simp [results, Try.results37, go_sem, *]) rfl ⟨A1, nn, c1, R1, 4, d1, h1, rfl, CAP.out.1, CAP.out.2, FI.out.1, fun _ => HV.out, SM.out, FI.out.2.1.more (by omega), FI.out.2.2⟩
      have hn2 : 1 ≤ n := by omega
      go_wp2_with fail
      refine (odd_any _ _ _ _ S.rd (by omega) hn2 (by omega)).mono ?_
      rintro e w5 ⟨bb, rfl, hr5, g5⟩
      replace S := S.pick hr5 g5
      clear hr5 g5 wc
      cases bb
      · have r0 : (w5).cell? ⟨b, 0, none⟩ = some (.slice A1 nn c1) := S.box.cell 0
        have r1 : (w5).cell? ⟨b, 1, none⟩ = some (.slice R1 4 d1) := S.box.cell 1
        have r2 : (w5).frozen? ⟨w.heap.size, 0, none⟩ = false := S.res.frozen 0
        have r3 : (w5).frozen? ⟨w.heap.size, 1, none⟩ = false := S.res.frozen 1
        have r4 : (w5).cell? ⟨w.heap.size, 0, none⟩ = some (.slice none 0 0) := S.res.cell 0
        have r5 : (w5).cell? ⟨w.heap.size, 1, none⟩ = some (.slice none 0 0) := S.res.cell 1
        have r6 : (((w5).setCell ⟨w.heap.size, 0, none⟩ (.slice A1 nn c1)).setCell ⟨w.heap.size, 1, none⟩ (.slice R1 4 d1)).cell? ⟨w.heap.size, 0, none⟩ = some (.slice A1 nn c1) := ((S.res.put 0 (.slice A1 nn c1)).put 1 (.slice R1 4 d1)).cell 0
        have r7 : (((w5).setCell ⟨w.heap.size, 0, none⟩ (.slice A1 nn c1)).setCell ⟨w.heap.size, 1, none⟩ (.slice R1 4 d1)).cell? ⟨w.heap.size, 1, none⟩ = some (.slice R1 4 d1) := ((S.res.put 0 (.slice A1 nn c1)).put 1 (.slice R1 4 d1)).cell 1
        have FI := Lib.hid (S.fin (.slice A1 nn c1) (.slice R1 4 d1))
        have CAP := Lib.hid S.own.caps.2.2
        clear S 
        go_wp2_with fail
        exact bodyPost_ret (v := .agg #[.slice A1 nn c1, .slice R1 4 d1]) (by simp [results, Try.results37, go_sem, *]) rfl ⟨A1, nn, c1, R1, 4, d1, h1, rfl, CAP.out.1, CAP.out.2, FI.out.1, fun h => absurd h hn1, SM.out, FI.out.2.1.more (by omega), FI.out.2.2⟩
      go_wp2_with fail
      refine (pick_any _ _ _ _ S.rd (by omega) (by omega)).mono ?_
      rintro e w6 ⟨r6, rfl, a6, c6, hr6, g6⟩
      replace S := S.pick hr6 g6
      clear hr6 g6 w5
      obtain ⟨gR, rfl, hgR1, hgR2⟩ := S.own.rootAddr (by omega)
      have hcases : r6 = 0 ∨ r6 = 1 ∨ r6 = 2 ∨ r6 = 3 ∨ r6 = 4 := by omega
      clear a6 c6
      have x0 : w6.cell? ⟨b, 0, none⟩ = some (.slice A1 nn c1) := S.box.cell 0
      have x1 : w6.cell? ⟨b, 1, none⟩ = some (.slice (some ⟨gR, 0, none⟩) 4 d1) := S.box.cell 1
      have fb0 : w6.frozen? ⟨b, 0, none⟩ = false := S.box.frozen 0
      have fb1 : w6.frozen? ⟨b, 1, none⟩ = false := S.box.frozen 1
      have cap4 := S.own.caps.2.2.2
      rcases hcases with rfl | rfl | rfl | rfl | rfl
      · obtain ⟨own', box', res', rd', gb'⟩ := S.boxed (.slice (some ⟨gR, 1, none⟩) 3 (d1 - 1))
        have r0 : (w6.setCell ⟨b, 1, none⟩ (.slice (some ⟨gR, 1, none⟩) 3 (d1 - 1))).cell? ⟨b, 0, none⟩ = some (.slice A1 nn c1) := box'.cell 0
        have r1 : (w6.setCell ⟨b, 1, none⟩ (.slice (some ⟨gR, 1, none⟩) 3 (d1 - 1))).cell? ⟨b, 1, none⟩ = some (.slice (some ⟨gR, 1, none⟩) 3 (d1 - 1)) := box'.cell 1
        have r2 : (w6.setCell ⟨b, 1, none⟩ (.slice (some ⟨gR, 1, none⟩) 3 (d1 - 1))).frozen? ⟨w.heap.size, 0, none⟩ = false := res'.frozen 0
        have r3 : (w6.setCell ⟨b, 1, none⟩ (.slice (some ⟨gR, 1, none⟩) 3 (d1 - 1))).frozen? ⟨w.heap.size, 1, none⟩ = false := res'.frozen 1
        have r4 : (w6.setCell ⟨b, 1, none⟩ (.slice (some ⟨gR, 1, none⟩) 3 (d1 - 1))).cell? ⟨w.heap.size, 0, none⟩ = some (.slice none 0 0) := res'.cell 0
        have r5 : (w6.setCell ⟨b, 1, none⟩ (.slice (some ⟨gR, 1, none⟩) 3 (d1 - 1))).cell? ⟨w.heap.size, 1, none⟩ = some (.slice none 0 0) := res'.cell 1
        have r6 : (((w6.setCell ⟨b, 1, none⟩ (.slice (some ⟨gR, 1, none⟩) 3 (d1 - 1))).setCell ⟨w.heap.size, 0, none⟩ (.slice A1 nn c1)).setCell ⟨w.heap.size, 1, none⟩ (.slice (some ⟨gR, 1, none⟩) 3 (d1 - 1))).cell? ⟨w.heap.size, 0, none⟩ = some (.slice A1 nn c1) := ((res'.put 0 (.slice A1 nn c1)).put 1 (.slice (some ⟨gR, 1, none⟩) 3 (d1 - 1))).cell 0
        have r7 : (((w6.setCell ⟨b, 1, none⟩ (.slice (some ⟨gR, 1, none⟩) 3 (d1 - 1))).setCell ⟨w.heap.size, 0, none⟩ (.slice A1 nn c1)).setCell ⟨w.heap.size, 1, none⟩ (.slice (some ⟨gR, 1, none⟩) 3 (d1 - 1))).cell? ⟨w.heap.size, 1, none⟩ = some (.slice (some ⟨gR, 1, none⟩) 3 (d1 - 1)) := ((res'.put 0 (.slice A1 nn c1)).put 1 (.slice (some ⟨gR, 1, none⟩) 3 (d1 - 1))).cell 1
        have FI := Lib.hid (fin_cut (m := 3) hold own' rd' gb' (.slice A1 nn c1) (.slice (some ⟨gR, 1, none⟩) 3 (d1 - 1)))
        have CAP := Lib.hid (show nn ≤ c1 ∧ 3 ≤ d1 - 1 from ⟨own'.caps.2.2.1, by omega⟩)
        have SM3 := Lib.hid (SmallH.drop1 SM.out)
        have cap4' : (4 : Int) ≤ d1 := by omega
        have hd1 : ((d1 : Int) - 1).toNat = d1 - 1 := by omega
        clear S own' box' res' rd' gb'
        go_wp2_with fail
        exact bodyPost_ret (v := .agg #[.slice A1 nn c1, .slice (some ⟨gR, 1, none⟩) 3 (d1 - 1)]) (by simp [results, Try.results37, go_sem, *]) rfl ⟨A1, nn, c1, some ⟨gR, 1, none⟩, 3, d1 - 1, ⟨h1.cs, h1.rt.drop 1⟩, rfl, CAP.out.1, CAP.out.2, FI.out.1, fun h => absurd h hn1, SM3.out, FI.out.2.1.more (by omega), FI.out.2.2⟩
      · have SR := Lib.hid S
        clear S
        go_wp2_with fail
        refine wp_region_inv (by kernel_rfl) (by kernel_rfl) (fun L ac ww => ∃ t107 t108 t109 t110 t111 t112 t113 t114 t115 t116 t117 t118 t119 : Value, ac = { tmps := #[Value.pointer (some { block := gr, off := 0 }), Value.int IntKind.i64 n, undef, undef, Value.pointer (some { block := w.heap.size, off := 0 }), Value.pointer (some { block := b, off := 0 }), u6, u7, u8, u9, u10, u11, u12, u13, u14, u15, u16, u17, u18, u19, u20, u21, u22, u23, u24, u25, u26, u27, u28, u29, u30, u31, u32, u33, u34, u35, u36, u37, u38, u39, u40, u41, u42, u43, u44, u45, u46, u47, u48, u49, u50, u51, u52, u53, u54, u55, u56, u57, u58, u59, u60, u61, u62, u63, u64, u65, u66, u67, u68, u69, u70, u71, u72, u73, u74, u75, u76, u77, u78, u79, u80, u81, u82, Value.pointer (some { block := gr, off := 0 }), Value.int IntKind.i64 n, Value.bool true, Value.pointer (some { block := gr, off := 0 }), Value.int IntKind.i64 1, u88, u89, u90, u91, u92, u93, u94, u95, u96, u97, u98, Value.bool false, Value.bool false, u101, u102, u103, u104, Value.bool true, Value.bool true, t107, t108, t109, t110, t111, t112, t113, t114, t115, t116, t117, t118, t119, u120, u121, u122, u123, u124, u125, u126, u127, u128, u129, u130, u131, u132, u133, u134, u135, u136, u137, u138, u139, u140, u141], defers := [] } ∧ (L 13 = false → Rd ww gr (N + 617 + 1 + 1 + (L 3).toNat + (L 9).toNat) ∧ w6.grownBy ww (some gr)) ∧ (L 13 = true → ∀ q, q < 13 → L q = true) ∧ (L 0 = true → t107 = (.pointer (some ⟨b, 1, none⟩))) ∧ (L 1 = true → t108 = (.slice (some ⟨gR, 0, none⟩) 4 d1)) ∧ (L 2 = true → t109 = (.pointer (some ⟨gr, 0, none⟩))) ∧ (L 3 = true → ∃ j : Nat, t110 = .int .i64 j ∧ j < 4) ∧ (L 4 = true → t111 = (.pointer (some ⟨b, 0, none⟩))) ∧ (L 5 = true → t112 = (.slice A1 nn c1)) ∧ (L 6 = true → t113 = .int .i64 nn) ∧ (L 7 = true → L 13 = true ∨ TblOf ww gr 2 (-2) 40 t114) ∧ (L 8 = true → t115 = (.pointer (some ⟨gr, 0, none⟩))) ∧ (L 9 = true → IntIn 0 1 t116) ∧ (L 10 = true → L 13 = true ∨ PtrOf ww gr 2 (-2) 40 t117) ∧ (L 11 = true → IntIn (-2) 40 t118) ∧ (L 12 = true → ∃ j : Nat, t119 = .pointer (some ⟨gR, j, none⟩) ∧ j < 4) ∧ (L 13 = true → ∃ (j : Nat) (q : Int) (w1 : World), j < 4 ∧ -2 ≤ q ∧ q ≤ 40 ∧ ww = w1.setCell ⟨gR, j, none⟩ (.int .i64 q) ∧ Rd w1 gr (N + 617 + 1 + 1 + 2) ∧ w6.grownBy w1 (some gr))) ?h0 ?hstep ?hdone
        case h0 => exact ⟨_, _, _, _, _, _, _, _, _, _, _, _, _, rfl, fun _ => ⟨by simpa using SR.out.rd.below (Below.refl _ _).drew SR.out.rd.lt, grown_below (World.grownBy.refl _ _) (Below.refl _ _).drew⟩, fun h => absurd h Bool.false_ne_true, (fun h => absurd h Bool.false_ne_true), (fun h => absurd h Bool.false_ne_true), (fun h => absurd h Bool.false_ne_true), (fun h => absurd h Bool.false_ne_true), (fun h => absurd h Bool.false_ne_true), (fun h => absurd h Bool.false_ne_true), (fun h => absurd h Bool.false_ne_true), (fun h => absurd h Bool.false_ne_true), (fun h => absurd h Bool.false_ne_true), (fun h => absurd h Bool.false_ne_true), (fun h => absurd h Bool.false_ne_true), (fun h => absurd h Bool.false_ne_true), (fun h => absurd h Bool.false_ne_true), (fun h => absurd h Bool.false_ne_true)⟩
        case hstep =>
          rintro L ac ww i o ho hL hd ⟨t107, t108, t109, t110, t111, t112, t113, t114, t115, t116, t117, t118, t119, rfl, I0, I1, f0, f1, f2, f3, f4, f5, f6, f7, f8, f9, f10, f11, f12, f13⟩
          have hi : i < 14 := (Array.getElem?_eq_some_iff.1 ho).1
          obtain rfl | rfl | rfl | rfl | rfl | rfl | rfl | rfl | rfl | rfl | rfl | rfl | rfl | rfl : i = 0 ∨ i = 1 ∨ i = 2 ∨ i = 3 ∨ i = 4 ∨ i = 5 ∨ i = 6 ∨ i = 7 ∨ i = 8 ∨ i = 9 ∨ i = 10 ∨ i = 11 ∨ i = 12 ∨ i = 13 := by omega
          · obtain rfl := Option.some.inj ho
            have h17 : L 13 = false := by
              cases e : L 13
              · rfl
              · exact absurd (I1 e 0 (by decide)) (by rw [hL]; simp)
            obtain ⟨rd, gb⟩ := I0 h17
            refine wpOp_step rfl (fun K' hK => ?_)
            go_simp
            refine hK _ _ ?_
            exact ⟨_, _, _, _, _, _, _, _, _, _, _, _, _, rfl, (fun _ => ⟨by rw [upd_other (by decide), upd_other (by decide)]; exact rd, gb⟩), (upd_all I1 (by decide)), (fun _ => by first | rfl | simp), (kp f1), (kp f2), (kp f3), (kp f4), (kp f5), (kp f6), (fun h => (f7 (upd_ne h (by decide))).imp (fun e => upd_mono e) id), (kp f8), (kp f9), (fun h => (f10 (upd_ne h (by decide))).imp (fun e => upd_mono e) id), (kp f11), (kp f12), (fun h => absurd (upd_ne h (by decide)) (by rw [h17]; simp))⟩
          · obtain rfl := Option.some.inj ho
            have g0 := f0 (hd ⟨0, .data⟩ (by simp) rfl)
            subst g0
            have h17 : L 13 = false := by
              cases e : L 13
              · rfl
              · exact absurd (I1 e 1 (by decide)) (by rw [hL]; simp)
            obtain ⟨rd, gb⟩ := I0 h17
            have y0 : ww.cell? ⟨b, 1, none⟩ = some (.slice (some ⟨gR, 0, none⟩) 4 d1) := gb.cell x1 (fun e => by injection e with e; simp only at e; omega)
            refine wpOp_step rfl (fun K' hK => ?_)
            go_simp
            refine hK _ _ ?_
            exact ⟨_, _, _, _, _, _, _, _, _, _, _, _, _, rfl, (fun _ => ⟨by rw [upd_other (by decide), upd_other (by decide)]; exact rd, gb⟩), (upd_all I1 (by decide)), (kp f0), (fun _ => by first | rfl | simp), (kp f2), (kp f3), (kp f4), (kp f5), (kp f6), (fun h => (f7 (upd_ne h (by decide))).imp (fun e => upd_mono e) id), (kp f8), (kp f9), (fun h => (f10 (upd_ne h (by decide))).imp (fun e => upd_mono e) id), (kp f11), (kp f12), (fun h => absurd (upd_ne h (by decide)) (by rw [h17]; simp))⟩
          · obtain rfl := Option.some.inj ho
            have h17 : L 13 = false := by
              cases e : L 13
              · rfl
              · exact absurd (I1 e 2 (by decide)) (by rw [hL]; simp)
            obtain ⟨rd, gb⟩ := I0 h17
            refine wpOp_step rfl (fun K' hK => ?_)
            go_simp
            refine hK _ _ ?_
            exact ⟨_, _, _, _, _, _, _, _, _, _, _, _, _, rfl, (fun _ => ⟨by rw [upd_other (by decide), upd_other (by decide)]; exact rd, gb⟩), (upd_all I1 (by decide)), (kp f0), (kp f1), (fun _ => by first | rfl | simp), (kp f3), (kp f4), (kp f5), (kp f6), (fun h => (f7 (upd_ne h (by decide))).imp (fun e => upd_mono e) id), (kp f8), (kp f9), (fun h => (f10 (upd_ne h (by decide))).imp (fun e => upd_mono e) id), (kp f11), (kp f12), (fun h => absurd (upd_ne h (by decide)) (by rw [h17]; simp))⟩
          · obtain rfl := Option.some.inj ho
            have g2 := f2 (hd ⟨2, .data⟩ (by simp) rfl)
            subst g2
            have h17 : L 13 = false := by
              cases e : L 13
              · rfl
              · exact absurd (I1 e 3 (by decide)) (by rw [hL]; simp)
            obtain ⟨rd, gb⟩ := I0 h17
            refine wpOp_step rfl (fun K' hK => ?_)
            go_simp
            refine (pick_any gr _ 4 ww rd (by have := Bool.toNat_le (L 3); have := Bool.toNat_le (L 9); omega) (by omega)).mono ?_
            rintro e w' ⟨r, rfl, r0', r1', hr, G⟩
            refine hK _ _ ?_
            exact ⟨_, _, _, _, _, _, _, _, _, _, _, _, _, rfl, (fun _ => ⟨by rw [upd_self, upd_other (by decide)]; rw [hL] at hr; exact hr.more (by simp; omega), World.grownBy.trans gb G⟩), (upd_all I1 (by decide)), (kp f0), (kp f1), (kp f2), (fun _ => ⟨r.toNat, by rw [Int.toNat_of_nonneg r0'], by omega⟩), (kp f4), (kp f5), (kp f6), (fun h => (f7 (upd_ne h (by decide))).imp (fun e => upd_mono e) (fun T => T.pick G)), (kp f8), (kp f9), (fun h => (f10 (upd_ne h (by decide))).imp (fun e => upd_mono e) (fun T => T.pick G)), (kp f11), (kp f12), (fun h => absurd (upd_ne h (by decide)) (by rw [h17]; simp))⟩
          · obtain rfl := Option.some.inj ho
            have h17 : L 13 = false := by
              cases e : L 13
              · rfl
              · exact absurd (I1 e 4 (by decide)) (by rw [hL]; simp)
            obtain ⟨rd, gb⟩ := I0 h17
            refine wpOp_step rfl (fun K' hK => ?_)
            go_simp
            refine hK _ _ ?_
            exact ⟨_, _, _, _, _, _, _, _, _, _, _, _, _, rfl, (fun _ => ⟨by rw [upd_other (by decide), upd_other (by decide)]; exact rd, gb⟩), (upd_all I1 (by decide)), (kp f0), (kp f1), (kp f2), (kp f3), (fun _ => by first | rfl | simp), (kp f5), (kp f6), (fun h => (f7 (upd_ne h (by decide))).imp (fun e => upd_mono e) id), (kp f8), (kp f9), (fun h => (f10 (upd_ne h (by decide))).imp (fun e => upd_mono e) id), (kp f11), (kp f12), (fun h => absurd (upd_ne h (by decide)) (by rw [h17]; simp))⟩
          · obtain rfl := Option.some.inj ho
            have g4 := f4 (hd ⟨4, .data⟩ (by simp) rfl)
            subst g4
            have h17 : L 13 = false := by
              cases e : L 13
              · rfl
              · exact absurd (I1 e 5 (by decide)) (by rw [hL]; simp)
            obtain ⟨rd, gb⟩ := I0 h17
            have y0 : ww.cell? ⟨b, 0, none⟩ = some (.slice A1 nn c1) := gb.cell x0 (fun e => by injection e with e; simp only at e; omega)
            refine wpOp_step rfl (fun K' hK => ?_)
            go_simp
            refine hK _ _ ?_
            exact ⟨_, _, _, _, _, _, _, _, _, _, _, _, _, rfl, (fun _ => ⟨by rw [upd_other (by decide), upd_other (by decide)]; exact rd, gb⟩), (upd_all I1 (by decide)), (kp f0), (kp f1), (kp f2), (kp f3), (kp f4), (fun _ => by first | rfl | simp), (kp f6), (fun h => (f7 (upd_ne h (by decide))).imp (fun e => upd_mono e) id), (kp f8), (kp f9), (fun h => (f10 (upd_ne h (by decide))).imp (fun e => upd_mono e) id), (kp f11), (kp f12), (fun h => absurd (upd_ne h (by decide)) (by rw [h17]; simp))⟩
          · obtain rfl := Option.some.inj ho
            have g5 := f5 (hd ⟨5, .data⟩ (by simp) rfl)
            subst g5
            have h17 : L 13 = false := by
              cases e : L 13
              · rfl
              · exact absurd (I1 e 6 (by decide)) (by rw [hL]; simp)
            obtain ⟨rd, gb⟩ := I0 h17
            refine wpOp_step rfl (fun K' hK => ?_)
            go_simp
            refine hK _ _ ?_
            exact ⟨_, _, _, _, _, _, _, _, _, _, _, _, _, rfl, (fun _ => ⟨by rw [upd_other (by decide), upd_other (by decide)]; exact rd, gb⟩), (upd_all I1 (by decide)), (kp f0), (kp f1), (kp f2), (kp f3), (kp f4), (kp f5), (fun _ => by first | rfl | simp), (fun h => (f7 (upd_ne h (by decide))).imp (fun e => upd_mono e) id), (kp f8), (kp f9), (fun h => (f10 (upd_ne h (by decide))).imp (fun e => upd_mono e) id), (kp f11), (kp f12), (fun h => absurd (upd_ne h (by decide)) (by rw [h17]; simp))⟩
          · obtain rfl := Option.some.inj ho
            have g6 := f6 (hd ⟨6, .data⟩ (by simp) rfl)
            subst g6
            have h17 : L 13 = false := by
              cases e : L 13
              · rfl
              · exact absurd (I1 e 7 (by decide)) (by rw [hL]; simp)
            obtain ⟨rd, gb⟩ := I0 h17
            refine wpOp_step rfl (fun K' hK => ?_)
            go_simp
            refine hK _ _ ?_
            exact ⟨_, _, _, _, _, _, _, _, _, _, _, _, _, rfl, (fun _ => ⟨by rw [upd_other (by decide), upd_other (by decide)]; exact rd.below ((Below.refl ww.heap.size ww).alloc (Nat.le_refl _) _) rd.lt, World.grownBy.trans gb (World.grownBy_alloc _ _ _)⟩), (upd_all I1 (by decide)), (kp f0), (kp f1), (kp f2), (kp f3), (kp f4), (kp f5), (kp f6), (fun _ => .inr ⟨_, rfl, Tbl.new ww gr _ [-2, (nn : Int)] (-2) 40 rd.lt (by intro q hq; simp at hq; omega) _ rfl⟩), (kp f8), (kp f9), (fun h => (f10 (upd_ne h (by decide))).imp (fun e => upd_mono e) (fun T => T.alloc _)), (kp f11), (kp f12), (fun h => absurd (upd_ne h (by decide)) (by rw [h17]; simp))⟩
          · obtain rfl := Option.some.inj ho
            have h17 : L 13 = false := by
              cases e : L 13
              · rfl
              · exact absurd (I1 e 8 (by decide)) (by rw [hL]; simp)
            obtain ⟨rd, gb⟩ := I0 h17
            refine wpOp_step rfl (fun K' hK => ?_)
            go_simp
            refine hK _ _ ?_
            exact ⟨_, _, _, _, _, _, _, _, _, _, _, _, _, rfl, (fun _ => ⟨by rw [upd_other (by decide), upd_other (by decide)]; exact rd, gb⟩), (upd_all I1 (by decide)), (kp f0), (kp f1), (kp f2), (kp f3), (kp f4), (kp f5), (kp f6), (fun h => (f7 (upd_ne h (by decide))).imp (fun e => upd_mono e) id), (fun _ => by first | rfl | simp), (kp f9), (fun h => (f10 (upd_ne h (by decide))).imp (fun e => upd_mono e) id), (kp f11), (kp f12), (fun h => absurd (upd_ne h (by decide)) (by rw [h17]; simp))⟩
          · obtain rfl := Option.some.inj ho
            have g8 := f8 (hd ⟨8, .data⟩ (by simp) rfl)
            subst g8
            have h17 : L 13 = false := by
              cases e : L 13
              · rfl
              · exact absurd (I1 e 9 (by decide)) (by rw [hL]; simp)
            obtain ⟨rd, gb⟩ := I0 h17
            refine wpOp_step rfl (fun K' hK => ?_)
            go_simp
            refine (pick_any gr _ 2 ww rd (by have := Bool.toNat_le (L 3); have := Bool.toNat_le (L 9); omega) (by omega)).mono ?_
            rintro e w' ⟨r, rfl, r0', r1', hr, G⟩
            refine hK _ _ ?_
            exact ⟨_, _, _, _, _, _, _, _, _, _, _, _, _, rfl, (fun _ => ⟨by rw [upd_self, upd_other (by decide)]; rw [hL] at hr; exact hr.more (by simp), World.grownBy.trans gb G⟩), (upd_all I1 (by decide)), (kp f0), (kp f1), (kp f2), (kp f3), (kp f4), (kp f5), (kp f6), (fun h => (f7 (upd_ne h (by decide))).imp (fun e => upd_mono e) (fun T => T.pick G)), (kp f8), (fun _ => ⟨r, rfl, r0', by omega⟩), (fun h => (f10 (upd_ne h (by decide))).imp (fun e => upd_mono e) (fun T => T.pick G)), (kp f11), (kp f12), (fun h => absurd (upd_ne h (by decide)) (by rw [h17]; simp))⟩
          · obtain rfl := Option.some.inj ho
            have g7 := f7 (hd ⟨7, .data⟩ (by simp) rfl)
            have g9 := f9 (hd ⟨9, .data⟩ (by simp) rfl)
            have h17 : L 13 = false := by
              cases e : L 13
              · rfl
              · exact absurd (I1 e 10 (by decide)) (by rw [hL]; simp)
            obtain ⟨rd, gb⟩ := I0 h17
            obtain ⟨gt, rfl, T7⟩ := g7.resolve_left (by rw [h17]; simp)
            obtain ⟨q8, rfl, q81, q82⟩ := g9
            obtain ⟨n8, rfl⟩ := Int.eq_ofNat_of_zero_le (show 0 ≤ q8 by omega)
            have l8 : n8 < 2 := by omega
            have l8' : (n8 : Int) < 2 := by omega
            refine wpOp_step rfl (fun K' hK => ?_)
            go_simp
            refine hK _ _ ?_
            exact ⟨_, _, _, _, _, _, _, _, _, _, _, _, _, rfl, (fun _ => ⟨by rw [upd_other (by decide), upd_other (by decide)]; exact rd, gb⟩), (upd_all I1 (by decide)), (kp f0), (kp f1), (kp f2), (kp f3), (kp f4), (kp f5), (kp f6), (fun _ => .inr ⟨gt, rfl, T7⟩), (kp f8), (fun _ => ⟨(n8 : Int), rfl, by omega, by omega⟩), (fun _ => .inr ⟨gt, n8, by simp, l8, T7⟩), (kp f11), (kp f12), (fun h => absurd (upd_ne h (by decide)) (by rw [h17]; simp))⟩
          · obtain rfl := Option.some.inj ho
            have g10 := f10 (hd ⟨10, .data⟩ (by simp) rfl)
            have h17 : L 13 = false := by
              cases e : L 13
              · rfl
              · exact absurd (I1 e 11 (by decide)) (by rw [hL]; simp)
            obtain ⟨rd, gb⟩ := I0 h17
            obtain ⟨gt, n9, rfl, l9, T9⟩ := g10.resolve_left (by rw [h17]; simp)
            obtain ⟨q9, hq9, q91, q92⟩ := T9.2.2 n9 l9
            refine wpOp_step rfl (fun K' hK => ?_)
            go_simp
            refine hK _ _ ?_
            exact ⟨_, _, _, _, _, _, _, _, _, _, _, _, _, rfl, (fun _ => ⟨by rw [upd_other (by decide), upd_other (by decide)]; exact rd, gb⟩), (upd_all I1 (by decide)), (kp f0), (kp f1), (kp f2), (kp f3), (kp f4), (kp f5), (kp f6), (fun h => (f7 (upd_ne h (by decide))).imp (fun e => upd_mono e) id), (kp f8), (kp f9), (fun _ => .inr ⟨gt, n9, rfl, l9, T9⟩), (fun _ => ⟨q9, rfl, q91, q92⟩), (kp f12), (fun h => absurd (upd_ne h (by decide)) (by rw [h17]; simp))⟩
          · obtain rfl := Option.some.inj ho
            have g1 := f1 (hd ⟨1, .data⟩ (by simp) rfl)
            have g3 := f3 (hd ⟨3, .data⟩ (by simp) rfl)
            subst g1
            have h17 : L 13 = false := by
              cases e : L 13
              · rfl
              · exact absurd (I1 e 12 (by decide)) (by rw [hL]; simp)
            obtain ⟨rd, gb⟩ := I0 h17
            obtain ⟨j, rfl, hj⟩ := g3
            have hj' : (j : Int) < 4 := by omega
            refine wpOp_step rfl (fun K' hK => ?_)
            go_simp
            refine hK _ _ ?_
            exact ⟨_, _, _, _, _, _, _, _, _, _, _, _, _, rfl, (fun _ => ⟨by rw [upd_other (by decide), upd_other (by decide)]; exact rd, gb⟩), (upd_all I1 (by decide)), (kp f0), (kp f1), (kp f2), (fun _ => ⟨j, rfl, hj⟩), (kp f4), (kp f5), (kp f6), (fun h => (f7 (upd_ne h (by decide))).imp (fun e => upd_mono e) id), (kp f8), (kp f9), (fun h => (f10 (upd_ne h (by decide))).imp (fun e => upd_mono e) id), (kp f11), (fun _ => ⟨j, by simp, hj⟩), (fun h => absurd (upd_ne h (by decide)) (by rw [h17]; simp))⟩
          · obtain rfl := Option.some.inj ho
            have g11 := f11 (hd ⟨11, .data⟩ (by simp) rfl)
            have g12 := f12 (hd ⟨12, .data⟩ (by simp) rfl)
            obtain ⟨rd, gb⟩ := I0 hL
            obtain ⟨j, rfl, hj⟩ := g12
            obtain ⟨q, rfl, q1, q2⟩ := g11
            have h3 := hd ⟨3, .phase⟩ (by simp) rfl
            have h9 := hd ⟨9, .chain⟩ (by simp) rfl
            have SP := SR.out.pick rd gb
            obtain ⟨xo, hxo, cr⟩ := SP.own.roots.cell_at (j := j) hj
            have fz : ww.frozen? ⟨gR, j, none⟩ = false := SP.own.roots.frozen HM.out j
            clear SP hxo
            refine wpOp_step rfl (fun K' hK => ?_)
            go_simp
            refine hK _ _ ?_
            exact ⟨_, _, _, _, _, _, _, _, _, _, _, _, _, rfl, (fun h => absurd h (by rw [upd_self]; simp)), (fun _ q hq => upd_mono (by
              have hq17 : q = 0 ∨ q = 1 ∨ q = 2 ∨ q = 3 ∨ q = 4 ∨ q = 5 ∨ q = 6 ∨ q = 7 ∨ q = 8 ∨ q = 9 ∨ q = 10 ∨ q = 11 ∨ q = 12 := by omega
              rcases hq17 with rfl | rfl | rfl | rfl | rfl | rfl | rfl | rfl | rfl | rfl | rfl | rfl | rfl
              · exact hd ⟨0, .phase⟩ (by simp) rfl
              · exact hd ⟨1, .phase⟩ (by simp) rfl
              · exact hd ⟨2, .phase⟩ (by simp) rfl
              · exact hd ⟨3, .phase⟩ (by simp) rfl
              · exact hd ⟨4, .phase⟩ (by simp) rfl
              · exact hd ⟨5, .phase⟩ (by simp) rfl
              · exact hd ⟨6, .phase⟩ (by simp) rfl
              · exact hd ⟨7, .phase⟩ (by simp) rfl
              · exact hd ⟨8, .phase⟩ (by simp) rfl
              · exact hd ⟨9, .phase⟩ (by simp) rfl
              · exact hd ⟨10, .phase⟩ (by simp) rfl
              · exact hd ⟨11, .data⟩ (by simp) rfl
              · exact hd ⟨12, .data⟩ (by simp) rfl)), (kp f0), (kp f1), (kp f2), (kp f3), (kp f4), (kp f5), (kp f6), (fun _ => .inl upd_self), (kp f8), (kp f9), (fun _ => .inl upd_self), (fun _ => ⟨q, rfl, q1, q2⟩), (fun _ => ⟨j, rfl, hj⟩), (fun _ => ⟨j, q, ww, hj, q1, q2, rfl, rd.more (by rw [h3, h9]; simp), gb⟩)⟩
        case hdone =>
          rintro L ac ww hall ⟨t107, t108, t109, t110, t111, t112, t113, t114, t115, t116, t117, t118, t119, rfl, I0, I1, f0, f1, f2, f3, f4, f5, f6, f7, f8, f9, f10, f11, f12, f13⟩
          have e0 := f0 (hall 0 (by decide))
          have e1 := f1 (hall 1 (by decide))
          have e2 := f2 (hall 2 (by decide))
          have e3 := f3 (hall 3 (by decide))
          have e4 := f4 (hall 4 (by decide))
          have e5 := f5 (hall 5 (by decide))
          have e6 := f6 (hall 6 (by decide))
          have e7 := f7 (hall 7 (by decide))
          have e8 := f8 (hall 8 (by decide))
          have e9 := f9 (hall 9 (by decide))
          have e10 := f10 (hall 10 (by decide))
          have e11 := f11 (hall 11 (by decide))
          have e12 := f12 (hall 12 (by decide))
          have e13 := f13 (hall 13 (by decide))
          clear f0 f1 f2 f3 f4 f5 f6 f7 f8 f9 f10 f11 f12 f13
          obtain ⟨j, q, w1, hj, q1, q2, rfl, rd1, gb1⟩ := e13
          have S := (SR.out.pick rd1 gb1).root (i := j) HM.out q
          have SM3 := Lib.hid (SM.out.setRoot (i := j) (x := q) (by omega))
          have r0 : (w1.setCell ⟨gR, j, none⟩ (.int .i64 q)).cell? ⟨b, 0, none⟩ = some (.slice A1 nn c1) := S.box.cell 0
          have r1 : (w1.setCell ⟨gR, j, none⟩ (.int .i64 q)).cell? ⟨b, 1, none⟩ = some (.slice (some ⟨gR, 0, none⟩) 4 d1) := S.box.cell 1
          have r2 : (w1.setCell ⟨gR, j, none⟩ (.int .i64 q)).frozen? ⟨w.heap.size, 0, none⟩ = false := S.res.frozen 0
          have r3 : (w1.setCell ⟨gR, j, none⟩ (.int .i64 q)).frozen? ⟨w.heap.size, 1, none⟩ = false := S.res.frozen 1
          have r4 : (w1.setCell ⟨gR, j, none⟩ (.int .i64 q)).cell? ⟨w.heap.size, 0, none⟩ = some (.slice none 0 0) := S.res.cell 0
          have r5 : (w1.setCell ⟨gR, j, none⟩ (.int .i64 q)).cell? ⟨w.heap.size, 1, none⟩ = some (.slice none 0 0) := S.res.cell 1
          have r6 : (((w1.setCell ⟨gR, j, none⟩ (.int .i64 q)).setCell ⟨w.heap.size, 0, none⟩ (.slice A1 nn c1)).setCell ⟨w.heap.size, 1, none⟩ (.slice (some ⟨gR, 0, none⟩) 4 d1)).cell? ⟨w.heap.size, 0, none⟩ = some (.slice A1 nn c1) := ((S.res.put 0 (.slice A1 nn c1)).put 1 (.slice (some ⟨gR, 0, none⟩) 4 d1)).cell 0
          have r7 : (((w1.setCell ⟨gR, j, none⟩ (.int .i64 q)).setCell ⟨w.heap.size, 0, none⟩ (.slice A1 nn c1)).setCell ⟨w.heap.size, 1, none⟩ (.slice (some ⟨gR, 0, none⟩) 4 d1)).cell? ⟨w.heap.size, 1, none⟩ = some (.slice (some ⟨gR, 0, none⟩) 4 d1) := ((S.res.put 0 (.slice A1 nn c1)).put 1 (.slice (some ⟨gR, 0, none⟩) 4 d1)).cell 1
          have FI := Lib.hid (S.fin (.slice A1 nn c1) (.slice (some ⟨gR, 0, none⟩) 4 d1))
          have CAP := Lib.hid S.own.caps.2.2
          clear S SR e0 e1 e2 e3 e4 e5 e6 e7 e8 e9 e10 e11 e12 I0 I1 x0 x1 fb0 fb1
          go_wp2_with fail
          exact bodyPost_ret (v := .agg #[.slice A1 nn c1, .slice (some ⟨gR, 0, none⟩) 4 d1]) (by simp [results, Try.results37, go_sem, *]) rfl ⟨A1, nn, c1, some ⟨gR, 0, none⟩, 4, d1, ⟨h1.cs, h1.rt.set j q⟩, rfl, CAP.out.1, CAP.out.2, FI.out.1, fun h => absurd h hn1, SM3.out, FI.out.2.1.more (by omega), FI.out.2.2⟩
      · have own' := World.ownsRow.alloc S.own.row (.cells #[.bool false, .int .i64 5, .slice none 0 0] 45)
        rw [HN.out] at own'
        have rr := Rw.new w6 45 #[.bool false, .int .i64 5, .slice none 0 0]
        have SB := S.alloc (.cells #[.bool false, .int .i64 5, .slice none 0 0] 45)
        have hsz1 : w.heap.size + 1 ≤ w6.heap.size := by have := S.box.lt; omega
        have GO := Lib.hid (fun v9 w9 (g9 : (w6.alloc (.cells #[.bool false, .int .i64 5, .slice none 0 0] 45)).grownBy w9 (Value.slice A1 nn c1).ownBlock) o9 s9 => SB.snoc (cl := ⟨false, 5, []⟩) (v9 := v9) (v8 := .slice none 0 0) (w1 := w9) g9 (by rw [HN.out]; exact o9) s9 (World.ownsRow_nil _ _ _ _))
        have FB := Lib.hid (fun w9 (g9 : (w6.alloc (.cells #[.bool false, .int .i64 5, .slice none 0 0] 45)).grownBy w9 (Value.slice A1 nn c1).ownBlock) => Rw.far SB.box g9 (fun e => by
          rcases SB.apart _ (List.mem_cons_self) with e' | e'
          · rw [e'] at e; cases e
          · exact e' e.symm))
        clear S SB
        go_upto_region 22 with (at_builtin; go_must (refine wpList_appendC rfl (.tmp 123) (.tmp 125) rfl (w.heap.size + 1) _ nn (flatC h1.cs rvs1) rfl own' (w6.heap.size) false 5 none 0 0 rfl rr (by omega) (by simp; omega) ?_; intro v9 w9 A9 c9 e9 o9 g9 s9; subst e9; have SN := GO.out _ w9 g9 o9 s9 (fun _ _ => .inl rfl) (by simp [Value.ownBlock]); have z9 := (FB.out w9 g9).cell 0; have f9 := (FB.out w9 g9).frozen 0; clear o9 g9 s9))
        generalize w9.setCell ⟨b, 0, none⟩ (.slice A9 (nn + 1) c9) = w10 at SN ⊢
        clear z9 f9 GO FB own' rr x0 x1 fb0 fb1
        have hdv : SmallH ⟨h1.cs ++ [⟨false, 5, []⟩], h1.rt⟩ := SM.out.snoc (by rw [HN.out]; exact hn40) (by simp) (by show -1 ≤ (5 : Int) ∧ (5 : Int) ≤ 100; omega) (fun x hx => by simp at hx)
        have r0 : (w10).cell? ⟨b, 0, none⟩ = some (.slice A9 (nn + 1) c9) := SN.box.cell 0
        have r1 : (w10).cell? ⟨b, 1, none⟩ = some (.slice (some ⟨gR, 0, none⟩) 4 d1) := SN.box.cell 1
        have r2 : (w10).frozen? ⟨w.heap.size, 0, none⟩ = false := SN.res.frozen 0
        have r3 : (w10).frozen? ⟨w.heap.size, 1, none⟩ = false := SN.res.frozen 1
        have r4 : (w10).cell? ⟨w.heap.size, 0, none⟩ = some (.slice none 0 0) := SN.res.cell 0
        have r5 : (w10).cell? ⟨w.heap.size, 1, none⟩ = some (.slice none 0 0) := SN.res.cell 1
        have r6 : (((w10).setCell ⟨w.heap.size, 0, none⟩ (.slice A9 (nn + 1) c9)).setCell ⟨w.heap.size, 1, none⟩ (.slice (some ⟨gR, 0, none⟩) 4 d1)).cell? ⟨w.heap.size, 0, none⟩ = some (.slice A9 (nn + 1) c9) := ((SN.res.put 0 (.slice A9 (nn + 1) c9)).put 1 (.slice (some ⟨gR, 0, none⟩) 4 d1)).cell 0
        have r7 : (((w10).setCell ⟨w.heap.size, 0, none⟩ (.slice A9 (nn + 1) c9)).setCell ⟨w.heap.size, 1, none⟩ (.slice (some ⟨gR, 0, none⟩) 4 d1)).cell? ⟨w.heap.size, 1, none⟩ = some (.slice (some ⟨gR, 0, none⟩) 4 d1) := ((SN.res.put 0 (.slice A9 (nn + 1) c9)).put 1 (.slice (some ⟨gR, 0, none⟩) 4 d1)).cell 1
        have FI := Lib.hid (SN.fin (.slice A9 (nn + 1) c9) (.slice (some ⟨gR, 0, none⟩) 4 d1))
        have CAP := Lib.hid SN.own.caps.2.2
        have SM2 := Lib.hid hdv
        clear SN hdv
        go_wp2_with fail
        exact bodyPost_ret (v := .agg #[.slice A9 (nn + 1) c9, .slice (some ⟨gR, 0, none⟩) 4 d1]) (by simp [results, Try.results37, go_sem, *]) rfl ⟨A9, nn + 1, c9, some ⟨gR, 0, none⟩, 4, d1, ⟨h1.cs ++ [⟨false, 5, []⟩], h1.rt⟩, rfl, CAP.out.1, CAP.out.2, FI.out.1, fun h => absurd h hn1, SM2.out, FI.out.2.1.more (by omega), FI.out.2.2⟩
      · have hbl := S.box.lt
        have hsz0 : w.heap.size + 1 ≤ w6.heap.size := by omega
        have HAP := Lib.hid (show ∀ v ∈ (Value.slice A1 nn c1) :: (Value.slice (some ⟨gR, 0, none⟩) 4 d1) :: rvs1, (.slice (some ⟨w6.heap.size, 0, none⟩) 1 1 : Value).ownBlock = none ∨ (.slice (some ⟨w6.heap.size, 0, none⟩) 1 1 : Value).ownBlock ≠ v.ownBlock from fun v hv => .inr (fun e => by
          have := (S.own.blocks (k := w6.heap.size) hv e.symm).2
          omega))
        have H8B := Lib.hid (show (.slice (some ⟨w6.heap.size, 0, none⟩) 1 1 : Value).ownBlock ≠ some b from fun e => by
          have : w6.heap.size = b := Option.some.inj e
          omega)
        have O8 := Lib.hid (own_oneI w6 ((nn : Int) + 1) (w.heap.size + 1) hsz0)
        replace S := S.alloc (.cells #[.int .i64 ((nn : Int) + 1)] 3)
        have hw : IntKind.i64.wrap ((nn : Int) + 1) = (nn : Int) + 1 := IntWalk.i64_in _ (by omega)
        have own' := World.ownsRow.alloc S.own.row (.cells #[.bool true, .int .i64 0, .slice (some ⟨w6.heap.size, 0, none⟩) 1 1] 45)
        rw [HN.out] at own'
        have rr := Rw.new (w6.alloc (.cells #[.int .i64 ((nn : Int) + 1)] 3)) 45 #[.bool true, .int .i64 0, .slice (some ⟨w6.heap.size, 0, none⟩) 1 1]
        have SB := S.alloc (.cells #[.bool true, .int .i64 0, .slice (some ⟨w6.heap.size, 0, none⟩) 1 1] 45)
        have hsz1 : w.heap.size + 1 ≤ (w6.alloc (.cells #[.int .i64 ((nn : Int) + 1)] 3)).heap.size := by have := S.box.lt; omega
        have GO := Lib.hid (fun v9 w9 (g9 : ((w6.alloc (.cells #[.int .i64 ((nn : Int) + 1)] 3)).alloc (.cells #[.bool true, .int .i64 0, .slice (some ⟨w6.heap.size, 0, none⟩) 1 1] 45)).grownBy w9 (Value.slice A1 nn c1).ownBlock) o9 s9 => SB.snoc (cl := ⟨true, 0, [(nn : Int) + 1]⟩) (v9 := v9) (v8 := .slice (some ⟨w6.heap.size, 0, none⟩) 1 1) (w1 := w9) g9 (by rw [HN.out]; exact o9) s9 (World.ownsRow.alloc O8.out _))
        have FB := Lib.hid (fun w9 (g9 : ((w6.alloc (.cells #[.int .i64 ((nn : Int) + 1)] 3)).alloc (.cells #[.bool true, .int .i64 0, .slice (some ⟨w6.heap.size, 0, none⟩) 1 1] 45)).grownBy w9 (Value.slice A1 nn c1).ownBlock) => Rw.far SB.box g9 (fun e => by
          rcases SB.apart _ (List.mem_cons_self) with e' | e'
          · rw [e'] at e; cases e
          · exact e' e.symm))
        rw [World.size_alloc] at rr
        clear S SB
        go_upto_region 22 with (at_builtin; go_must (refine wpList_appendC rfl (.tmp 131) (.tmp 138) rfl (w.heap.size + 1) _ nn (flatC h1.cs rvs1) rfl own' (w6.heap.size + 1) true 0 (some ⟨w6.heap.size, 0, none⟩) 1 1 rfl rr (by omega) (by simp; omega) ?_; intro v9 w9 A9 c9 e9 o9 g9 s9; subst e9; have SN := GO.out _ w9 g9 o9 s9 HAP.out H8B.out; have z9 := (FB.out w9 g9).cell 0; have f9 := (FB.out w9 g9).frozen 0; clear o9 g9 s9))
        generalize w9.setCell ⟨b, 0, none⟩ (.slice A9 (nn + 1) c9) = w10 at SN ⊢
        clear z9 f9 GO FB own' rr x0 x1 fb0 fb1
        have hdv : SmallH ⟨h1.cs ++ [⟨true, 0, [(nn : Int) + 1]⟩], h1.rt⟩ := SM.out.snoc (by rw [HN.out]; exact hn40) (by simp) (by show -1 ≤ (0 : Int) ∧ (0 : Int) ≤ 100; omega) (fun x hx => by simp at hx; omega)
        have r0 : (w10).cell? ⟨b, 0, none⟩ = some (.slice A9 (nn + 1) c9) := SN.box.cell 0
        have r1 : (w10).cell? ⟨b, 1, none⟩ = some (.slice (some ⟨gR, 0, none⟩) 4 d1) := SN.box.cell 1
        have r2 : (w10).frozen? ⟨w.heap.size, 0, none⟩ = false := SN.res.frozen 0
        have r3 : (w10).frozen? ⟨w.heap.size, 1, none⟩ = false := SN.res.frozen 1
        have r4 : (w10).cell? ⟨w.heap.size, 0, none⟩ = some (.slice none 0 0) := SN.res.cell 0
        have r5 : (w10).cell? ⟨w.heap.size, 1, none⟩ = some (.slice none 0 0) := SN.res.cell 1
        have r6 : (((w10).setCell ⟨w.heap.size, 0, none⟩ (.slice A9 (nn + 1) c9)).setCell ⟨w.heap.size, 1, none⟩ (.slice (some ⟨gR, 0, none⟩) 4 d1)).cell? ⟨w.heap.size, 0, none⟩ = some (.slice A9 (nn + 1) c9) := ((SN.res.put 0 (.slice A9 (nn + 1) c9)).put 1 (.slice (some ⟨gR, 0, none⟩) 4 d1)).cell 0
        have r7 : (((w10).setCell ⟨w.heap.size, 0, none⟩ (.slice A9 (nn + 1) c9)).setCell ⟨w.heap.size, 1, none⟩ (.slice (some ⟨gR, 0, none⟩) 4 d1)).cell? ⟨w.heap.size, 1, none⟩ = some (.slice (some ⟨gR, 0, none⟩) 4 d1) := ((SN.res.put 0 (.slice A9 (nn + 1) c9)).put 1 (.slice (some ⟨gR, 0, none⟩) 4 d1)).cell 1
        have FI := Lib.hid (SN.fin (.slice A9 (nn + 1) c9) (.slice (some ⟨gR, 0, none⟩) 4 d1))
        have CAP := Lib.hid SN.own.caps.2.2
        have SM2 := Lib.hid hdv
        clear SN hdv
        go_wp2_with fail
        exact bodyPost_ret (v := .agg #[.slice A9 (nn + 1) c9, .slice (some ⟨gR, 0, none⟩) 4 d1]) (by simp [results, Try.results37, go_sem, *]) rfl ⟨A9, nn + 1, c9, some ⟨gR, 0, none⟩, 4, d1, ⟨h1.cs ++ [⟨true, 0, [(nn : Int) + 1]⟩], h1.rt⟩, rfl, CAP.out.1, CAP.out.2, FI.out.1, fun h => absurd h hn1, SM2.out, FI.out.2.1.more (by omega), FI.out.2.2⟩
      · have SR := Lib.hid S
        clear S
        go_wp2_with fail
        refine wp_region_inv (by kernel_rfl) (by kernel_rfl) (fun L ac ww => ∃ t88 t89 t90 t91 t92 t93 t94 t95 t96 t97 t98 : Value, ac = { tmps := #[Value.pointer (some { block := gr, off := 0 }), Value.int IntKind.i64 n, undef, undef, Value.pointer (some { block := w.heap.size, off := 0 }), Value.pointer (some { block := b, off := 0 }), u6, u7, u8, u9, u10, u11, u12, u13, u14, u15, u16, u17, u18, u19, u20, u21, u22, u23, u24, u25, u26, u27, u28, u29, u30, u31, u32, u33, u34, u35, u36, u37, u38, u39, u40, u41, u42, u43, u44, u45, u46, u47, u48, u49, u50, u51, u52, u53, u54, u55, u56, u57, u58, u59, u60, u61, u62, u63, u64, u65, u66, u67, u68, u69, u70, u71, u72, u73, u74, u75, u76, u77, u78, u79, u80, u81, u82, Value.pointer (some { block := gr, off := 0 }), Value.int IntKind.i64 n, Value.bool true, Value.pointer (some { block := gr, off := 0 }), Value.int IntKind.i64 4, t88, t89, t90, t91, t92, t93, t94, t95, t96, t97, t98, Value.bool false, Value.bool false, u101, u102, u103, u104, Value.bool false, Value.bool false, u107, u108, u109, u110, u111, u112, u113, u114, u115, u116, u117, u118, u119, Value.bool false, Value.bool false, u122, u123, u124, u125, u126, u127, Value.bool false, Value.bool false, u130, u131, u132, u133, u134, u135, u136, u137, u138, u139, u140, u141], defers := [] } ∧ (L 9 = false → Rd ww gr (N + 617 + 1 + 1 + (L 4).toNat) ∧ w6.grownBy ww (some gr)) ∧ (L 9 = true → ∀ q, q < 9 → L q = true) ∧ (L 11 = true → L 9 = true ∧ L 10 = true) ∧ (L 1 = true → L 0 = true) ∧ (L 4 = true → L 3 = true) ∧ (L 5 = true → L 2 = true ∧ L 4 = true ∧ L 3 = true) ∧ (L 6 = true → L 5 = true ∧ L 2 = true ∧ L 4 = true ∧ L 3 = true) ∧ (L 7 = true → L 6 = true ∧ L 5 = true ∧ L 2 = true ∧ L 4 = true ∧ L 3 = true) ∧ (L 8 = true → L 7 = true ∧ L 6 = true ∧ L 5 = true ∧ L 2 = true ∧ L 4 = true ∧ L 3 = true) ∧ (L 0 = true → t88 = (.pointer (some ⟨b, 0, none⟩))) ∧ (L 1 = true → t89 = (.slice A1 nn c1)) ∧ (L 2 = true → L 9 = true ∨ TblOf ww gr 2 (-1) 100 t90) ∧ (L 3 = true → t91 = (.pointer (some ⟨gr, 0, none⟩))) ∧ (L 4 = true → IntIn 0 1 t92) ∧ (L 5 = true → L 9 = true ∨ PtrOf ww gr 2 (-1) 100 t93) ∧ (L 6 = true → IntIn (-1) 100 t94) ∧ (L 7 = true → ∃ q : Int, t95 = .agg #[.bool true, .int .i64 q, .slice none 0 0] ∧ -1 ≤ q ∧ q ≤ 100) ∧ (L 8 = true → L 9 = true ∨ ∃ (gs : Nat) (q : Int), t96 = .slice (some ⟨gs, 0, none⟩) 1 1 ∧ -1 ≤ q ∧ q ≤ 100 ∧ Rw ww gs 45 #[.bool true, .int .i64 q, .slice none 0 0]) ∧ (L 9 = true → L 11 = true ∨ ∃ (wa : World) (A9 : Option Addr) (c9 : Nat) (q : Int), t97 = .slice A9 (nn + 1) c9 ∧ -1 ≤ q ∧ q ≤ 100 ∧ Rd wa gr (N + 617 + 1 + 1 + 1) ∧ w6.grownBy wa (some gr) ∧ wa.grownBy ww (Value.slice A1 nn c1).ownBlock ∧ ww.ownsRow (w.heap.size + 1) 45 3 (.slice A9 (nn + 1) c9) (nn + 1) (flatC h1.cs rvs1 ++ [.bool true, .int .i64 q, .slice none 0 0]) ∧ ((Value.slice A9 (nn + 1) c9).ownBlock = (Value.slice A1 nn c1).ownBlock ∨ (Value.slice A9 (nn + 1) c9).ownBlock = some wa.heap.size)) ∧ (L 10 = true → t98 = (.pointer (some ⟨b, 0, none⟩))) ∧ (L 11 = true → ∃ (wa wb : World) (A9 : Option Addr) (c9 : Nat) (q : Int), ww = wb.setCell ⟨b, 0, none⟩ (.slice A9 (nn + 1) c9) ∧ -1 ≤ q ∧ q ≤ 100 ∧ Rd wa gr (N + 617 + 1 + 1 + 1) ∧ w6.grownBy wa (some gr) ∧ wa.grownBy wb (Value.slice A1 nn c1).ownBlock ∧ wb.ownsRow (w.heap.size + 1) 45 3 (.slice A9 (nn + 1) c9) (nn + 1) (flatC h1.cs rvs1 ++ [.bool true, .int .i64 q, .slice none 0 0]) ∧ ((Value.slice A9 (nn + 1) c9).ownBlock = (Value.slice A1 nn c1).ownBlock ∨ (Value.slice A9 (nn + 1) c9).ownBlock = some wa.heap.size))) ?h0 ?hstep ?hdone
        case h0 => exact ⟨_, _, _, _, _, _, _, _, _, _, _, rfl, fun _ => ⟨by simpa using SR.out.rd.below (Below.refl _ _).drew SR.out.rd.lt, grown_below (World.grownBy.refl _ _) (Below.refl _ _).drew⟩, fun h => absurd h Bool.false_ne_true, fun h => absurd h Bool.false_ne_true, fun h => absurd h Bool.false_ne_true, fun h => absurd h Bool.false_ne_true, fun h => absurd h Bool.false_ne_true, fun h => absurd h Bool.false_ne_true, fun h => absurd h Bool.false_ne_true, fun h => absurd h Bool.false_ne_true, (fun h => absurd h Bool.false_ne_true), (fun h => absurd h Bool.false_ne_true), (fun h => absurd h Bool.false_ne_true), (fun h => absurd h Bool.false_ne_true), (fun h => absurd h Bool.false_ne_true), (fun h => absurd h Bool.false_ne_true), (fun h => absurd h Bool.false_ne_true), (fun h => absurd h Bool.false_ne_true), (fun h => absurd h Bool.false_ne_true), (fun h => absurd h Bool.false_ne_true), (fun h => absurd h Bool.false_ne_true), (fun h => absurd h Bool.false_ne_true)⟩
        case hstep =>
          rintro L ac ww i o ho hL hd ⟨t88, t89, t90, t91, t92, t93, t94, t95, t96, t97, t98, rfl, I0, I1, I2, I3, I4, I5, I6, I7, I8, f0, f1, f2, f3, f4, f5, f6, f7, f8, f9, f10, f11⟩
          have hi : i < 12 := (Array.getElem?_eq_some_iff.1 ho).1
          obtain rfl | rfl | rfl | rfl | rfl | rfl | rfl | rfl | rfl | rfl | rfl | rfl : i = 0 ∨ i = 1 ∨ i = 2 ∨ i = 3 ∨ i = 4 ∨ i = 5 ∨ i = 6 ∨ i = 7 ∨ i = 8 ∨ i = 9 ∨ i = 10 ∨ i = 11 := by omega
          · obtain rfl := Option.some.inj ho
            have h17 : L 9 = false := by
              cases e : L 9
              · rfl
              · exact absurd (I1 e 0 (by decide)) (by rw [hL]; simp)
            have h18 : L 11 = false := by
              cases e : L 11
              · rfl
              · exact absurd (I2 e).1 (by rw [h17]; simp)
            obtain ⟨rd, gb⟩ := I0 h17
            refine wpOp_step rfl (fun K' hK => ?_)
            go_simp
            refine hK _ _ ?_
            exact ⟨_, _, _, _, _, _, _, _, _, _, _, rfl, (fun _ => ⟨by rw [upd_other (by decide)]; exact rd, gb⟩), (upd_all I1 (by decide)), (fun h => ⟨upd_mono (I2 (upd_ne h (by decide))).1, upd_mono (I2 (upd_ne h (by decide))).2⟩), (fun h => upd_mono (I3 (upd_ne h (by decide)))), (fun h => upd_mono (I4 (upd_ne h (by decide)))), (fun h => let p := I5 (upd_ne h (by decide)); ⟨upd_mono p.1, upd_mono p.2.1, upd_mono p.2.2⟩), (fun h => let p := I6 (upd_ne h (by decide)); ⟨upd_mono p.1, upd_mono p.2.1, upd_mono p.2.2.1, upd_mono p.2.2.2⟩), (fun h => let p := I7 (upd_ne h (by decide)); ⟨upd_mono p.1, upd_mono p.2.1, upd_mono p.2.2.1, upd_mono p.2.2.2.1, upd_mono p.2.2.2.2⟩), (fun h => let p := I8 (upd_ne h (by decide)); ⟨upd_mono p.1, upd_mono p.2.1, upd_mono p.2.2.1, upd_mono p.2.2.2.1, upd_mono p.2.2.2.2.1, upd_mono p.2.2.2.2.2⟩), (fun _ => by first | rfl | simp), (kp f1), (fun h => (f2 (upd_ne h (by decide))).imp (fun e => upd_mono e) id), (kp f3), (kp f4), (fun h => (f5 (upd_ne h (by decide))).imp (fun e => upd_mono e) id), (kp f6), (kp f7), (fun h => (f8 (upd_ne h (by decide))).imp (fun e => upd_mono e) id), (fun h => absurd (upd_ne h (by decide)) (by rw [h17]; simp)), (kp f10), (fun h => absurd (upd_ne h (by decide)) (by rw [h18]; simp))⟩
          · obtain rfl := Option.some.inj ho
            have g0 := f0 (hd ⟨0, .data⟩ (by simp) rfl)
            subst g0
            have h17 : L 9 = false := by
              cases e : L 9
              · rfl
              · exact absurd (I1 e 1 (by decide)) (by rw [hL]; simp)
            have h18 : L 11 = false := by
              cases e : L 11
              · rfl
              · exact absurd (I2 e).1 (by rw [h17]; simp)
            obtain ⟨rd, gb⟩ := I0 h17
            have y0 : ww.cell? ⟨b, 0, none⟩ = some (.slice A1 nn c1) := gb.cell x0 (fun e => by injection e with e; simp only at e; omega)
            have c0 := Lib.hid (hd ⟨0, .data⟩ (by simp) rfl)
            refine wpOp_step rfl (fun K' hK => ?_)
            go_simp
            refine hK _ _ ?_
            exact ⟨_, _, _, _, _, _, _, _, _, _, _, rfl, (fun _ => ⟨by rw [upd_other (by decide)]; exact rd, gb⟩), (upd_all I1 (by decide)), (fun h => ⟨upd_mono (I2 (upd_ne h (by decide))).1, upd_mono (I2 (upd_ne h (by decide))).2⟩), (fun _ => upd_mono c0.out), (fun h => upd_mono (I4 (upd_ne h (by decide)))), (fun h => let p := I5 (upd_ne h (by decide)); ⟨upd_mono p.1, upd_mono p.2.1, upd_mono p.2.2⟩), (fun h => let p := I6 (upd_ne h (by decide)); ⟨upd_mono p.1, upd_mono p.2.1, upd_mono p.2.2.1, upd_mono p.2.2.2⟩), (fun h => let p := I7 (upd_ne h (by decide)); ⟨upd_mono p.1, upd_mono p.2.1, upd_mono p.2.2.1, upd_mono p.2.2.2.1, upd_mono p.2.2.2.2⟩), (fun h => let p := I8 (upd_ne h (by decide)); ⟨upd_mono p.1, upd_mono p.2.1, upd_mono p.2.2.1, upd_mono p.2.2.2.1, upd_mono p.2.2.2.2.1, upd_mono p.2.2.2.2.2⟩), (kp f0), (fun _ => by first | rfl | simp), (fun h => (f2 (upd_ne h (by decide))).imp (fun e => upd_mono e) id), (kp f3), (kp f4), (fun h => (f5 (upd_ne h (by decide))).imp (fun e => upd_mono e) id), (kp f6), (kp f7), (fun h => (f8 (upd_ne h (by decide))).imp (fun e => upd_mono e) id), (fun h => absurd (upd_ne h (by decide)) (by rw [h17]; simp)), (kp f10), (fun h => absurd (upd_ne h (by decide)) (by rw [h18]; simp))⟩
          · obtain rfl := Option.some.inj ho
            have h17 : L 9 = false := by
              cases e : L 9
              · rfl
              · exact absurd (I1 e 2 (by decide)) (by rw [hL]; simp)
            have h18 : L 11 = false := by
              cases e : L 11
              · rfl
              · exact absurd (I2 e).1 (by rw [h17]; simp)
            obtain ⟨rd, gb⟩ := I0 h17
            refine wpOp_step rfl (fun K' hK => ?_)
            go_simp
            refine hK _ _ ?_
            exact ⟨_, _, _, _, _, _, _, _, _, _, _, rfl, (fun _ => ⟨by rw [upd_other (by decide)]; exact rd.below ((Below.refl ww.heap.size ww).alloc (Nat.le_refl _) _) rd.lt, World.grownBy.trans gb (World.grownBy_alloc _ _ _)⟩), (upd_all I1 (by decide)), (fun h => ⟨upd_mono (I2 (upd_ne h (by decide))).1, upd_mono (I2 (upd_ne h (by decide))).2⟩), (fun h => upd_mono (I3 (upd_ne h (by decide)))), (fun h => upd_mono (I4 (upd_ne h (by decide)))), (fun h => let p := I5 (upd_ne h (by decide)); ⟨upd_mono p.1, upd_mono p.2.1, upd_mono p.2.2⟩), (fun h => let p := I6 (upd_ne h (by decide)); ⟨upd_mono p.1, upd_mono p.2.1, upd_mono p.2.2.1, upd_mono p.2.2.2⟩), (fun h => let p := I7 (upd_ne h (by decide)); ⟨upd_mono p.1, upd_mono p.2.1, upd_mono p.2.2.1, upd_mono p.2.2.2.1, upd_mono p.2.2.2.2⟩), (fun h => let p := I8 (upd_ne h (by decide)); ⟨upd_mono p.1, upd_mono p.2.1, upd_mono p.2.2.1, upd_mono p.2.2.2.1, upd_mono p.2.2.2.2.1, upd_mono p.2.2.2.2.2⟩), (kp f0), (kp f1), (fun _ => .inr ⟨_, rfl, Tbl.new ww gr _ [-1, 100] (-1) 100 rd.lt (by intro q hq; simp at hq; omega) _ rfl⟩), (kp f3), (kp f4), (fun h => (f5 (upd_ne h (by decide))).imp (fun e => upd_mono e) (fun T => T.alloc _)), (kp f6), (kp f7), (fun h => (f8 (upd_ne h (by decide))).imp (fun e => upd_mono e) (fun ⟨gs, q, e, q1, q2, r⟩ => ⟨gs, q, e, q1, q2, r.alloc _⟩)), (fun h => absurd (upd_ne h (by decide)) (by rw [h17]; simp)), (kp f10), (fun h => absurd (upd_ne h (by decide)) (by rw [h18]; simp))⟩
          · obtain rfl := Option.some.inj ho
            have h17 : L 9 = false := by
              cases e : L 9
              · rfl
              · exact absurd (I1 e 3 (by decide)) (by rw [hL]; simp)
            have h18 : L 11 = false := by
              cases e : L 11
              · rfl
              · exact absurd (I2 e).1 (by rw [h17]; simp)
            obtain ⟨rd, gb⟩ := I0 h17
            refine wpOp_step rfl (fun K' hK => ?_)
            go_simp
            refine hK _ _ ?_
            exact ⟨_, _, _, _, _, _, _, _, _, _, _, rfl, (fun _ => ⟨by rw [upd_other (by decide)]; exact rd, gb⟩), (upd_all I1 (by decide)), (fun h => ⟨upd_mono (I2 (upd_ne h (by decide))).1, upd_mono (I2 (upd_ne h (by decide))).2⟩), (fun h => upd_mono (I3 (upd_ne h (by decide)))), (fun h => upd_mono (I4 (upd_ne h (by decide)))), (fun h => let p := I5 (upd_ne h (by decide)); ⟨upd_mono p.1, upd_mono p.2.1, upd_mono p.2.2⟩), (fun h => let p := I6 (upd_ne h (by decide)); ⟨upd_mono p.1, upd_mono p.2.1, upd_mono p.2.2.1, upd_mono p.2.2.2⟩), (fun h => let p := I7 (upd_ne h (by decide)); ⟨upd_mono p.1, upd_mono p.2.1, upd_mono p.2.2.1, upd_mono p.2.2.2.1, upd_mono p.2.2.2.2⟩), (fun h => let p := I8 (upd_ne h (by decide)); ⟨upd_mono p.1, upd_mono p.2.1, upd_mono p.2.2.1, upd_mono p.2.2.2.1, upd_mono p.2.2.2.2.1, upd_mono p.2.2.2.2.2⟩), (kp f0), (kp f1), (fun h => (f2 (upd_ne h (by decide))).imp (fun e => upd_mono e) id), (fun _ => by first | rfl | simp), (kp f4), (fun h => (f5 (upd_ne h (by decide))).imp (fun e => upd_mono e) id), (kp f6), (kp f7), (fun h => (f8 (upd_ne h (by decide))).imp (fun e => upd_mono e) id), (fun h => absurd (upd_ne h (by decide)) (by rw [h17]; simp)), (kp f10), (fun h => absurd (upd_ne h (by decide)) (by rw [h18]; simp))⟩
          · obtain rfl := Option.some.inj ho
            have g3 := f3 (hd ⟨3, .data⟩ (by simp) rfl)
            subst g3
            have h17 : L 9 = false := by
              cases e : L 9
              · rfl
              · exact absurd (I1 e 4 (by decide)) (by rw [hL]; simp)
            have h18 : L 11 = false := by
              cases e : L 11
              · rfl
              · exact absurd (I2 e).1 (by rw [h17]; simp)
            obtain ⟨rd, gb⟩ := I0 h17
            have c3 := Lib.hid (hd ⟨3, .data⟩ (by simp) rfl)
            refine wpOp_step rfl (fun K' hK => ?_)
            go_simp
            refine (pick_any gr _ 2 ww rd (by have := Bool.toNat_le (L 4); have := Bool.toNat_le (L 4); omega) (by omega)).mono ?_
            rintro e w' ⟨r, rfl, r0', r1', hr, G⟩
            refine hK _ _ ?_
            exact ⟨_, _, _, _, _, _, _, _, _, _, _, rfl, (fun _ => ⟨by rw [upd_self]; rw [hL] at hr; exact hr.more (by simp), World.grownBy.trans gb G⟩), (upd_all I1 (by decide)), (fun h => ⟨upd_mono (I2 (upd_ne h (by decide))).1, upd_mono (I2 (upd_ne h (by decide))).2⟩), (fun h => upd_mono (I3 (upd_ne h (by decide)))), (fun _ => upd_mono c3.out), (fun h => let p := I5 (upd_ne h (by decide)); ⟨upd_mono p.1, upd_mono p.2.1, upd_mono p.2.2⟩), (fun h => let p := I6 (upd_ne h (by decide)); ⟨upd_mono p.1, upd_mono p.2.1, upd_mono p.2.2.1, upd_mono p.2.2.2⟩), (fun h => let p := I7 (upd_ne h (by decide)); ⟨upd_mono p.1, upd_mono p.2.1, upd_mono p.2.2.1, upd_mono p.2.2.2.1, upd_mono p.2.2.2.2⟩), (fun h => let p := I8 (upd_ne h (by decide)); ⟨upd_mono p.1, upd_mono p.2.1, upd_mono p.2.2.1, upd_mono p.2.2.2.1, upd_mono p.2.2.2.2.1, upd_mono p.2.2.2.2.2⟩), (kp f0), (kp f1), (fun h => (f2 (upd_ne h (by decide))).imp (fun e => upd_mono e) (fun T => T.pick G)), (kp f3), (fun _ => ⟨r, rfl, r0', by omega⟩), (fun h => (f5 (upd_ne h (by decide))).imp (fun e => upd_mono e) (fun T => T.pick G)), (kp f6), (kp f7), (fun h => absurd (I8 (upd_ne h (by decide))).2.2.2.2.1 (by rw [hL]; simp)), (fun h => absurd (upd_ne h (by decide)) (by rw [h17]; simp)), (kp f10), (fun h => absurd (upd_ne h (by decide)) (by rw [h18]; simp))⟩
          · obtain rfl := Option.some.inj ho
            have g2 := f2 (hd ⟨2, .data⟩ (by simp) rfl)
            have g4 := f4 (hd ⟨4, .data⟩ (by simp) rfl)
            have h17 : L 9 = false := by
              cases e : L 9
              · rfl
              · exact absurd (I1 e 5 (by decide)) (by rw [hL]; simp)
            have h18 : L 11 = false := by
              cases e : L 11
              · rfl
              · exact absurd (I2 e).1 (by rw [h17]; simp)
            obtain ⟨rd, gb⟩ := I0 h17
            obtain ⟨gt, rfl, T7⟩ := g2.resolve_left (by rw [h17]; simp)
            obtain ⟨q8, rfl, q81, q82⟩ := g4
            obtain ⟨n8, rfl⟩ := Int.eq_ofNat_of_zero_le (show 0 ≤ q8 by omega)
            have l8 : n8 < 2 := by omega
            have l8' : (n8 : Int) < 2 := by omega
            have c2 := Lib.hid (hd ⟨2, .data⟩ (by simp) rfl)
            have c4 := Lib.hid (hd ⟨4, .data⟩ (by simp) rfl)
            have c3 := Lib.hid (I4 c4.out)
            refine wpOp_step rfl (fun K' hK => ?_)
            go_simp
            refine hK _ _ ?_
            exact ⟨_, _, _, _, _, _, _, _, _, _, _, rfl, (fun _ => ⟨by rw [upd_other (by decide)]; exact rd, gb⟩), (upd_all I1 (by decide)), (fun h => ⟨upd_mono (I2 (upd_ne h (by decide))).1, upd_mono (I2 (upd_ne h (by decide))).2⟩), (fun h => upd_mono (I3 (upd_ne h (by decide)))), (fun h => upd_mono (I4 (upd_ne h (by decide)))), (fun _ => ⟨upd_mono c2.out, upd_mono c4.out, upd_mono c3.out⟩), (fun h => let p := I6 (upd_ne h (by decide)); ⟨upd_mono p.1, upd_mono p.2.1, upd_mono p.2.2.1, upd_mono p.2.2.2⟩), (fun h => let p := I7 (upd_ne h (by decide)); ⟨upd_mono p.1, upd_mono p.2.1, upd_mono p.2.2.1, upd_mono p.2.2.2.1, upd_mono p.2.2.2.2⟩), (fun h => let p := I8 (upd_ne h (by decide)); ⟨upd_mono p.1, upd_mono p.2.1, upd_mono p.2.2.1, upd_mono p.2.2.2.1, upd_mono p.2.2.2.2.1, upd_mono p.2.2.2.2.2⟩), (kp f0), (kp f1), (fun _ => .inr ⟨gt, rfl, T7⟩), (kp f3), (fun _ => ⟨(n8 : Int), rfl, by omega, by omega⟩), (fun _ => .inr ⟨gt, n8, by simp, l8, T7⟩), (kp f6), (kp f7), (fun h => (f8 (upd_ne h (by decide))).imp (fun e => upd_mono e) id), (fun h => absurd (upd_ne h (by decide)) (by rw [h17]; simp)), (kp f10), (fun h => absurd (upd_ne h (by decide)) (by rw [h18]; simp))⟩
          · obtain rfl := Option.some.inj ho
            have g5 := f5 (hd ⟨5, .data⟩ (by simp) rfl)
            have h17 : L 9 = false := by
              cases e : L 9
              · rfl
              · exact absurd (I1 e 6 (by decide)) (by rw [hL]; simp)
            have h18 : L 11 = false := by
              cases e : L 11
              · rfl
              · exact absurd (I2 e).1 (by rw [h17]; simp)
            obtain ⟨rd, gb⟩ := I0 h17
            obtain ⟨gt, n9, rfl, l9, T9⟩ := g5.resolve_left (by rw [h17]; simp)
            obtain ⟨q9, hq9, q91, q92⟩ := T9.2.2 n9 l9
            have c5 := Lib.hid (hd ⟨5, .data⟩ (by simp) rfl)
            have cp := I5 c5.out
            have c2 := Lib.hid cp.1
            have c4 := Lib.hid cp.2.1
            have c3 := Lib.hid cp.2.2
            clear cp
            refine wpOp_step rfl (fun K' hK => ?_)
            go_simp
            refine hK _ _ ?_
            exact ⟨_, _, _, _, _, _, _, _, _, _, _, rfl, (fun _ => ⟨by rw [upd_other (by decide)]; exact rd, gb⟩), (upd_all I1 (by decide)), (fun h => ⟨upd_mono (I2 (upd_ne h (by decide))).1, upd_mono (I2 (upd_ne h (by decide))).2⟩), (fun h => upd_mono (I3 (upd_ne h (by decide)))), (fun h => upd_mono (I4 (upd_ne h (by decide)))), (fun h => let p := I5 (upd_ne h (by decide)); ⟨upd_mono p.1, upd_mono p.2.1, upd_mono p.2.2⟩), (fun _ => ⟨upd_mono c5.out, upd_mono c2.out, upd_mono c4.out, upd_mono c3.out⟩), (fun h => let p := I7 (upd_ne h (by decide)); ⟨upd_mono p.1, upd_mono p.2.1, upd_mono p.2.2.1, upd_mono p.2.2.2.1, upd_mono p.2.2.2.2⟩), (fun h => let p := I8 (upd_ne h (by decide)); ⟨upd_mono p.1, upd_mono p.2.1, upd_mono p.2.2.1, upd_mono p.2.2.2.1, upd_mono p.2.2.2.2.1, upd_mono p.2.2.2.2.2⟩), (kp f0), (kp f1), (fun h => (f2 (upd_ne h (by decide))).imp (fun e => upd_mono e) id), (kp f3), (kp f4), (fun _ => .inr ⟨gt, n9, rfl, l9, T9⟩), (fun _ => ⟨q9, rfl, q91, q92⟩), (kp f7), (fun h => (f8 (upd_ne h (by decide))).imp (fun e => upd_mono e) id), (fun h => absurd (upd_ne h (by decide)) (by rw [h17]; simp)), (kp f10), (fun h => absurd (upd_ne h (by decide)) (by rw [h18]; simp))⟩
          · obtain rfl := Option.some.inj ho
            have g6 := f6 (hd ⟨6, .data⟩ (by simp) rfl)
            have h17 : L 9 = false := by
              cases e : L 9
              · rfl
              · exact absurd (I1 e 7 (by decide)) (by rw [hL]; simp)
            have h18 : L 11 = false := by
              cases e : L 11
              · rfl
              · exact absurd (I2 e).1 (by rw [h17]; simp)
            obtain ⟨rd, gb⟩ := I0 h17
            obtain ⟨q, rfl, q1, q2⟩ := g6
            have c6 := Lib.hid (hd ⟨6, .data⟩ (by simp) rfl)
            have cp := I6 c6.out
            have c5 := Lib.hid cp.1
            have c2 := Lib.hid cp.2.1
            have c4 := Lib.hid cp.2.2.1
            have c3 := Lib.hid cp.2.2.2
            clear cp
            refine wpOp_step rfl (fun K' hK => ?_)
            go_simp
            refine hK _ _ ?_
            exact ⟨_, _, _, _, _, _, _, _, _, _, _, rfl, (fun _ => ⟨by rw [upd_other (by decide)]; exact rd, gb⟩), (upd_all I1 (by decide)), (fun h => ⟨upd_mono (I2 (upd_ne h (by decide))).1, upd_mono (I2 (upd_ne h (by decide))).2⟩), (fun h => upd_mono (I3 (upd_ne h (by decide)))), (fun h => upd_mono (I4 (upd_ne h (by decide)))), (fun h => let p := I5 (upd_ne h (by decide)); ⟨upd_mono p.1, upd_mono p.2.1, upd_mono p.2.2⟩), (fun h => let p := I6 (upd_ne h (by decide)); ⟨upd_mono p.1, upd_mono p.2.1, upd_mono p.2.2.1, upd_mono p.2.2.2⟩), (fun _ => ⟨upd_mono c6.out, upd_mono c5.out, upd_mono c2.out, upd_mono c4.out, upd_mono c3.out⟩), (fun h => let p := I8 (upd_ne h (by decide)); ⟨upd_mono p.1, upd_mono p.2.1, upd_mono p.2.2.1, upd_mono p.2.2.2.1, upd_mono p.2.2.2.2.1, upd_mono p.2.2.2.2.2⟩), (kp f0), (kp f1), (fun h => (f2 (upd_ne h (by decide))).imp (fun e => upd_mono e) id), (kp f3), (kp f4), (fun h => (f5 (upd_ne h (by decide))).imp (fun e => upd_mono e) id), (fun _ => ⟨q, rfl, q1, q2⟩), (fun _ => ⟨q, rfl, q1, q2⟩), (fun h => (f8 (upd_ne h (by decide))).imp (fun e => upd_mono e) id), (fun h => absurd (upd_ne h (by decide)) (by rw [h17]; simp)), (kp f10), (fun h => absurd (upd_ne h (by decide)) (by rw [h18]; simp))⟩
          · obtain rfl := Option.some.inj ho
            have g7 := f7 (hd ⟨7, .data⟩ (by simp) rfl)
            have h17 : L 9 = false := by
              cases e : L 9
              · rfl
              · exact absurd (I1 e 8 (by decide)) (by rw [hL]; simp)
            have h18 : L 11 = false := by
              cases e : L 11
              · rfl
              · exact absurd (I2 e).1 (by rw [h17]; simp)
            obtain ⟨rd, gb⟩ := I0 h17
            obtain ⟨q, rfl, q1, q2⟩ := g7
            have c7 := Lib.hid (hd ⟨7, .data⟩ (by simp) rfl)
            have cp := I7 c7.out
            have c6 := Lib.hid cp.1
            have c5 := Lib.hid cp.2.1
            have c2 := Lib.hid cp.2.2.1
            have c4 := Lib.hid cp.2.2.2.1
            have c3 := Lib.hid cp.2.2.2.2
            clear cp
            refine wpOp_step rfl (fun K' hK => ?_)
            go_simp
            refine hK _ _ ?_
            exact ⟨_, _, _, _, _, _, _, _, _, _, _, rfl, (fun _ => ⟨by rw [upd_other (by decide)]; exact rd.below ((Below.refl ww.heap.size ww).alloc (Nat.le_refl _) _) rd.lt, World.grownBy.trans gb (World.grownBy_alloc _ _ _)⟩), (upd_all I1 (by decide)), (fun h => ⟨upd_mono (I2 (upd_ne h (by decide))).1, upd_mono (I2 (upd_ne h (by decide))).2⟩), (fun h => upd_mono (I3 (upd_ne h (by decide)))), (fun h => upd_mono (I4 (upd_ne h (by decide)))), (fun h => let p := I5 (upd_ne h (by decide)); ⟨upd_mono p.1, upd_mono p.2.1, upd_mono p.2.2⟩), (fun h => let p := I6 (upd_ne h (by decide)); ⟨upd_mono p.1, upd_mono p.2.1, upd_mono p.2.2.1, upd_mono p.2.2.2⟩), (fun h => let p := I7 (upd_ne h (by decide)); ⟨upd_mono p.1, upd_mono p.2.1, upd_mono p.2.2.1, upd_mono p.2.2.2.1, upd_mono p.2.2.2.2⟩), (fun _ => ⟨upd_mono c7.out, upd_mono c6.out, upd_mono c5.out, upd_mono c2.out, upd_mono c4.out, upd_mono c3.out⟩), (kp f0), (kp f1), (fun h => (f2 (upd_ne h (by decide))).imp (fun e => upd_mono e) (fun T => T.alloc _)), (kp f3), (kp f4), (fun h => (f5 (upd_ne h (by decide))).imp (fun e => upd_mono e) (fun T => T.alloc _)), (kp f6), (fun _ => ⟨q, rfl, q1, q2⟩), (fun _ => .inr ⟨_, q, rfl, q1, q2, Rw.new _ _ _⟩), (fun h => absurd (upd_ne h (by decide)) (by rw [h17]; simp)), (kp f10), (fun h => absurd (upd_ne h (by decide)) (by rw [h18]; simp))⟩
          · obtain rfl := Option.some.inj ho
            have g1 := f1 (hd ⟨1, .data⟩ (by simp) rfl)
            have g8 := f8 (hd ⟨8, .data⟩ (by simp) rfl)
            subst g1
            obtain ⟨rd, gb⟩ := I0 hL
            have h18 : L 11 = false := by
              cases e : L 11
              · rfl
              · exact absurd (I2 e).1 (by rw [hL]; simp)
            have h4 := hd ⟨4, .chain⟩ (by simp) rfl
            obtain ⟨gs, q, rfl, q1, q2, hz⟩ := g8.resolve_left (by rw [hL]; simp)
            have SP := SR.out.pick rd gb
            have own9 := SP.own.row
            rw [HN.out] at own9
            have hb9 : w.heap.size + 1 ≤ ww.heap.size := by have := SP.box.lt; omega
            have c1 := Lib.hid (hd ⟨1, .data⟩ (by simp) rfl)
            have c8 := Lib.hid (hd ⟨8, .data⟩ (by simp) rfl)
            have c0 := Lib.hid (I3 c1.out)
            have cp := I8 c8.out
            have c7 := Lib.hid cp.1
            have c6 := Lib.hid cp.2.1
            have c5 := Lib.hid cp.2.2.1
            have c2 := Lib.hid cp.2.2.2.1
            have c4 := Lib.hid cp.2.2.2.2.1
            have c3 := Lib.hid cp.2.2.2.2.2
            clear cp
            refine wpOp_step rfl (fun K' hK => ?_)
            refine app_stepC rfl (.tmp 89) (.tmp 96) rfl (w.heap.size + 1) _ nn (flatC h1.cs rvs1) rfl own9 gs true q none 0 0 rfl hz (by omega) hb9 ?_
            intro v' w' A9 c9 e9 o9 G9 s9
            subst e9
            refine hK _ _ ?_
            exact ⟨_, _, _, _, _, _, _, _, _, _, _, rfl, (fun h => absurd h (by rw [upd_self]; simp)), (fun _ q hq => upd_mono (by
              have hq17 : q = 0 ∨ q = 1 ∨ q = 2 ∨ q = 3 ∨ q = 4 ∨ q = 5 ∨ q = 6 ∨ q = 7 ∨ q = 8 := by omega
              rcases hq17 with rfl | rfl | rfl | rfl | rfl | rfl | rfl | rfl | rfl
              · exact c0.out
              · exact c1.out
              · exact c2.out
              · exact c3.out
              · exact c4.out
              · exact c5.out
              · exact c6.out
              · exact c7.out
              · exact c8.out)), (fun h => ⟨upd_mono (I2 (upd_ne h (by decide))).1, upd_mono (I2 (upd_ne h (by decide))).2⟩), (fun h => upd_mono (I3 (upd_ne h (by decide)))), (fun h => upd_mono (I4 (upd_ne h (by decide)))), (fun h => let p := I5 (upd_ne h (by decide)); ⟨upd_mono p.1, upd_mono p.2.1, upd_mono p.2.2⟩), (fun h => let p := I6 (upd_ne h (by decide)); ⟨upd_mono p.1, upd_mono p.2.1, upd_mono p.2.2.1, upd_mono p.2.2.2⟩), (fun h => let p := I7 (upd_ne h (by decide)); ⟨upd_mono p.1, upd_mono p.2.1, upd_mono p.2.2.1, upd_mono p.2.2.2.1, upd_mono p.2.2.2.2⟩), (fun h => let p := I8 (upd_ne h (by decide)); ⟨upd_mono p.1, upd_mono p.2.1, upd_mono p.2.2.1, upd_mono p.2.2.2.1, upd_mono p.2.2.2.2.1, upd_mono p.2.2.2.2.2⟩), (kp f0), (kp f1), (fun _ => .inl upd_self), (kp f3), (kp f4), (fun _ => .inl upd_self), (kp f6), (kp f7), (fun _ => .inl upd_self), (fun _ => .inr ⟨ww, A9, c9, q, rfl, q1, q2, rd.more (by rw [h4]; simp), gb, G9, o9, s9⟩), (kp f10), (fun h => absurd (upd_ne h (by decide)) (by rw [h18]; simp))⟩
          · obtain rfl := Option.some.inj ho
            refine wpOp_step rfl (fun K' hK => ?_)
            go_simp
            refine hK _ _ ?_
            exact ⟨_, _, _, _, _, _, _, _, _, _, _, rfl, (fun h => ⟨by rw [upd_other (by decide)]; exact (I0 (by rw [upd_other (by decide)] at h; exact h)).1, (I0 (by rw [upd_other (by decide)] at h; exact h)).2⟩), (upd_all I1 (by decide)), (fun h => ⟨upd_mono (I2 (upd_ne h (by decide))).1, upd_mono (I2 (upd_ne h (by decide))).2⟩), (fun h => upd_mono (I3 (upd_ne h (by decide)))), (fun h => upd_mono (I4 (upd_ne h (by decide)))), (fun h => let p := I5 (upd_ne h (by decide)); ⟨upd_mono p.1, upd_mono p.2.1, upd_mono p.2.2⟩), (fun h => let p := I6 (upd_ne h (by decide)); ⟨upd_mono p.1, upd_mono p.2.1, upd_mono p.2.2.1, upd_mono p.2.2.2⟩), (fun h => let p := I7 (upd_ne h (by decide)); ⟨upd_mono p.1, upd_mono p.2.1, upd_mono p.2.2.1, upd_mono p.2.2.2.1, upd_mono p.2.2.2.2⟩), (fun h => let p := I8 (upd_ne h (by decide)); ⟨upd_mono p.1, upd_mono p.2.1, upd_mono p.2.2.1, upd_mono p.2.2.2.1, upd_mono p.2.2.2.2.1, upd_mono p.2.2.2.2.2⟩), (kp f0), (kp f1), (fun h => (f2 (upd_ne h (by decide))).imp (fun e => upd_mono e) id), (kp f3), (kp f4), (fun h => (f5 (upd_ne h (by decide))).imp (fun e => upd_mono e) id), (kp f6), (kp f7), (fun h => (f8 (upd_ne h (by decide))).imp (fun e => upd_mono e) id), (fun h => (f9 (upd_ne h (by decide))).imp (fun e => upd_mono e) id), (fun _ => by first | rfl | simp), (kp f11)⟩
          · obtain rfl := Option.some.inj ho
            have g9 := f9 (hd ⟨9, .data⟩ (by simp) rfl)
            have g10 := f10 (hd ⟨10, .data⟩ (by simp) rfl)
            subst g10
            obtain ⟨wa, A9, c9, q, rfl, q1, q2, rd, gb, G9, o9, s9⟩ := g9.resolve_left (by rw [hL]; simp)
            have SP := SR.out.pick rd gb
            have bx := Rw.far SP.box G9 (fun e => by
              rcases SP.apart _ (List.mem_cons_self) with e' | e'
              · rw [e'] at e; cases e
              · exact e' e.symm)
            have u0 := bx.cell 0
            have u1 := bx.frozen 0
            simp at u0
            clear bx SP
            refine wpOp_step rfl (fun K' hK => ?_)
            go_simp
            refine hK _ _ ?_
            exact ⟨_, _, _, _, _, _, _, _, _, _, _, rfl, (fun h => absurd (upd_mono (hd ⟨9, .data⟩ (by simp) rfl)) (by rw [h]; simp)), (upd_all I1 (by decide)), (fun _ => ⟨upd_mono (hd ⟨9, .data⟩ (by simp) rfl), upd_mono (hd ⟨10, .data⟩ (by simp) rfl)⟩), (fun h => upd_mono (I3 (upd_ne h (by decide)))), (fun h => upd_mono (I4 (upd_ne h (by decide)))), (fun h => let p := I5 (upd_ne h (by decide)); ⟨upd_mono p.1, upd_mono p.2.1, upd_mono p.2.2⟩), (fun h => let p := I6 (upd_ne h (by decide)); ⟨upd_mono p.1, upd_mono p.2.1, upd_mono p.2.2.1, upd_mono p.2.2.2⟩), (fun h => let p := I7 (upd_ne h (by decide)); ⟨upd_mono p.1, upd_mono p.2.1, upd_mono p.2.2.1, upd_mono p.2.2.2.1, upd_mono p.2.2.2.2⟩), (fun h => let p := I8 (upd_ne h (by decide)); ⟨upd_mono p.1, upd_mono p.2.1, upd_mono p.2.2.1, upd_mono p.2.2.2.1, upd_mono p.2.2.2.2.1, upd_mono p.2.2.2.2.2⟩), (kp f0), (kp f1), (fun _ => .inl (upd_mono (hd ⟨9, .data⟩ (by simp) rfl))), (kp f3), (kp f4), (fun _ => .inl (upd_mono (hd ⟨9, .data⟩ (by simp) rfl))), (kp f6), (kp f7), (fun _ => .inl (upd_mono (hd ⟨9, .data⟩ (by simp) rfl))), (fun _ => .inl upd_self), (kp f10), (fun _ => ⟨wa, ww, A9, c9, q, rfl, q1, q2, rd, gb, G9, o9, s9⟩)⟩
        case hdone =>
          rintro L ac ww hall ⟨t88, t89, t90, t91, t92, t93, t94, t95, t96, t97, t98, rfl, I0, I1, I2, I3, I4, I5, I6, I7, I8, f0, f1, f2, f3, f4, f5, f6, f7, f8, f9, f10, f11⟩
          have e0 := f0 (hall 0 (by decide))
          have e1 := f1 (hall 1 (by decide))
          have e2 := f2 (hall 2 (by decide))
          have e3 := f3 (hall 3 (by decide))
          have e4 := f4 (hall 4 (by decide))
          have e5 := f5 (hall 5 (by decide))
          have e6 := f6 (hall 6 (by decide))
          have e7 := f7 (hall 7 (by decide))
          have e8 := f8 (hall 8 (by decide))
          have e9 := f9 (hall 9 (by decide))
          have e10 := f10 (hall 10 (by decide))
          have e11 := f11 (hall 11 (by decide))
          clear f0 f1 f2 f3 f4 f5 f6 f7 f8 f9 f10 f11
          obtain ⟨wa, wb, A9, c9, q, rfl, q1, q2, rd1, gb1, G9, o9, s9⟩ := e11
          have SN := (SR.out.pick rd1 gb1).snoc (cl := ⟨true, q, []⟩) (v9 := .slice A9 (nn + 1) c9) (v8 := .slice none 0 0) (w1 := wb) G9 (by rw [HN.out]; exact o9) s9 (World.ownsRow_nil _ _ _ _) (fun _ _ => .inl rfl) (by simp [Value.ownBlock])
          have hdv : SmallH ⟨h1.cs ++ [⟨true, q, []⟩], h1.rt⟩ := SM.out.snoc (by rw [HN.out]; exact hn40) (by simp) ⟨q1, q2⟩ (fun x hx => by simp at hx)
          generalize wb.setCell ⟨b, 0, none⟩ (.slice A9 (nn + 1) c9) = w10 at SN ⊢
          have r0 : (w10).cell? ⟨b, 0, none⟩ = some (.slice A9 (nn + 1) c9) := SN.box.cell 0
          have r1 : (w10).cell? ⟨b, 1, none⟩ = some (.slice (some ⟨gR, 0, none⟩) 4 d1) := SN.box.cell 1
          have r2 : (w10).frozen? ⟨w.heap.size, 0, none⟩ = false := SN.res.frozen 0
          have r3 : (w10).frozen? ⟨w.heap.size, 1, none⟩ = false := SN.res.frozen 1
          have r4 : (w10).cell? ⟨w.heap.size, 0, none⟩ = some (.slice none 0 0) := SN.res.cell 0
          have r5 : (w10).cell? ⟨w.heap.size, 1, none⟩ = some (.slice none 0 0) := SN.res.cell 1
          have r6 : (((w10).setCell ⟨w.heap.size, 0, none⟩ (.slice A9 (nn + 1) c9)).setCell ⟨w.heap.size, 1, none⟩ (.slice (some ⟨gR, 0, none⟩) 4 d1)).cell? ⟨w.heap.size, 0, none⟩ = some (.slice A9 (nn + 1) c9) := ((SN.res.put 0 (.slice A9 (nn + 1) c9)).put 1 (.slice (some ⟨gR, 0, none⟩) 4 d1)).cell 0
          have r7 : (((w10).setCell ⟨w.heap.size, 0, none⟩ (.slice A9 (nn + 1) c9)).setCell ⟨w.heap.size, 1, none⟩ (.slice (some ⟨gR, 0, none⟩) 4 d1)).cell? ⟨w.heap.size, 1, none⟩ = some (.slice (some ⟨gR, 0, none⟩) 4 d1) := ((SN.res.put 0 (.slice A9 (nn + 1) c9)).put 1 (.slice (some ⟨gR, 0, none⟩) 4 d1)).cell 1
          have FI := Lib.hid (SN.fin (.slice A9 (nn + 1) c9) (.slice (some ⟨gR, 0, none⟩) 4 d1))
          have CAP := Lib.hid SN.own.caps.2.2
          have SM2 := Lib.hid hdv
          clear SN hdv SR o9 G9 s9 gb1 rd1 e0 e1 e2 e3 e4 e5 e6 e7 e8 e9 e10 I0 I1 I2 I3 I4 I5 I6 I7 I8 x0 x1 fb0 fb1
          go_wp2_with fail
          exact bodyPost_ret (v := .agg #[.slice A9 (nn + 1) c9, .slice (some ⟨gR, 0, none⟩) 4 d1]) (by simp [results, Try.results37, go_sem, *]) rfl ⟨A9, nn + 1, c9, some ⟨gR, 0, none⟩, 4, d1, ⟨h1.cs ++ [⟨true, q, []⟩], h1.rt⟩, rfl, CAP.out.1, CAP.out.2, FI.out.1, fun h => absurd h hn1, SM2.out, FI.out.2.1.more (by omega), FI.out.2.2⟩
end Go.Proofs.Ytakdjiojahlnmaa
